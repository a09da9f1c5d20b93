import PyProof.Rows.All
import Wide.All
import OpenK.AllK
import Wide.FinOn
import HandS.ForMost
import HandS.IsInst
import HandS.Evl
import HandS.Walk
import HandS.Zip
import HandS.Style
import HandS.TupMul
import HandS.TupAny
import HandS.Wide
import HandS.MakeKwOnly
import KE.GoesEnum
import HandS.Conv
import PySem.Challenge.RW_seekways_k01_forms
set_option Elab.async false
set_option linter.all false
set_option maxRecDepth 100000
set_option maxHeartbeats 8000000
namespace Sk
open PySem PySem.Spec PyProof.Rows L2
open Evl (Ex)
/-! what an expression, a test, arguments, statements are worth, said by the run itself -/
section
variable {X : Cx} {e : Expr} {σ : L2.St} {H : Hp}
structure WE (X : Cx) (e : Expr) (σ : L2.St) (H : Hp) (Q : VK) : Prop where
  run : ∀ (pins : List (Addr × Obj)) (s : Shared), Inv X pins σ H s →
    wpAny (model X.prog X.w) X.A (eval e X.env) (EP X pins σ Q) X.xe s
theorem WE.pe : PE X e (WE X e) := ⟨fun pins s _ _ _ I h => h.run pins s I⟩
theorem WE.of {t : TE} {Q : VK} (p : PE X e t) (h : t σ H Q) : WE X e σ H Q :=
  ⟨fun pins s I => p.run pins s σ H Q I h⟩
structure WT (X : Cx) (e : Expr) (σ : L2.St) (H : Hp) (Q : Bool → Hp → Prop) : Prop where
  run : ∀ (pins : List (Addr × Obj)) (s : Shared), Inv X pins σ H s →
    wpAny (model X.prog X.w) X.A (isTrue e X.env (eval e X.env)) (TP X pins σ Q) X.xe s
theorem WT.pt : PT X e (WT X e) := ⟨fun pins s _ _ _ I h => h.run pins s I⟩
theorem WT.of {t : TT} {Q : Bool → Hp → Prop} (p : PT X e t) (h : t σ H Q) : WT X e σ H Q :=
  ⟨fun pins s I => p.run pins s σ H Q I h⟩
structure WA (X : Cx) (es : List Expr) (σ : L2.St) (H : Hp) (Q : List V → Hp → Prop) : Prop where
  run : ∀ (pos : Pos) (pins : List (Addr × Obj)) (s : Shared), Inv X pins σ H s →
    wpAny (model X.prog X.w) X.A (spliced (backTo pos (starEach es X.env))) (AP X pins σ Q) X.xe s
theorem WA.pa {es : List Expr} : PA X es (WA X es) := ⟨fun pos pins s _ _ _ I h => h.run pos pins s I⟩
theorem WA.of {es : List Expr} {t : TA} {Q : List V → Hp → Prop} (p : PA X es t) (h : t σ H Q) : WA X es σ H Q :=
  ⟨fun pos pins s I => p.run pos pins s σ H Q I h⟩
structure WS (X : Cx) (b : List Stmt) (D : Ends) (σ : L2.St) (H : Hp) : Prop where
  run : ∀ (pins : List (Addr × Obj)) (s : Shared), Inv X pins σ H s →
    wpAny (model X.prog X.w) X.A (execs b X.env) (SP X pins D) X.xe s
theorem WS.ps {b : List Stmt} : PSs X b (WS X b) := ⟨fun pins s _ _ _ I h => h.run pins s I⟩
theorem WS.of {b : List Stmt} {t : TS} {D : Ends} (p : PSs X b t) (h : t D σ H) : WS X b D σ H :=
  ⟨fun pins s I => p.run pins s σ H D I h⟩
end
/-! data at any depth; of a dict nothing but that it is one -/
mutual
inductive Dn (K : PySem.W.Frag) (H : Hp) : V → PyData → Prop
  | non : Dn K H .non .none
  | bl (b : Bool) : Dn K H (.bl b) (.bool b)
  | int (i : Int) : Dn K H (.int i) (.int i)
  | str (x : Str) : Dn K H (.str x) (.str x)
  | lst {a : Addr} {xs : List V} {ds : List PyData} (h : SqL K H a xs) (r : DnAll K H xs ds) : Dn K H (.ref a) (.list ds)
  | tup {a : Addr} {xs : List V} {ds : List PyData} (h : SqT K H a xs) (r : DnAll K H xs ds) : Dn K H (.ref a) (.tuple ds)
  | dct {a : Addr} {kvs : List (Key × V)} (h : H a = some (.dK kvs)) : Dn K H (.ref a) (.dict [])
inductive DnAll (K : PySem.W.Frag) (H : Hp) : List V → List PyData → Prop
  | nil : DnAll K H [] []
  | cons {v : V} {vs : List V} {d : PyData} {ds : List PyData} (h : Dn K H v d) (r : DnAll K H vs ds) : DnAll K H (v :: vs) (d :: ds)
end
section
variable {K : PySem.W.Frag} {H H' : Hp}
mutual
theorem Dn.ex (e : Ex H H') : ∀ {v : V} {d : PyData}, Dn K H v d → Dn K H' v d
  | _, _, .non => .non
  | _, _, .bl b => .bl b
  | _, _, .int i => .int i
  | _, _, .str x => .str x
  | _, _, .lst h r => .lst (Evl.ex_l e h) (DnAll.ex e r)
  | _, _, .tup h r => .tup (Evl.ex_t e h) (DnAll.ex e r)
  | _, _, .dct h => .dct (e _ _ h)
theorem DnAll.ex (e : Ex H H') : ∀ {vs : List V} {ds : List PyData}, DnAll K H vs ds → DnAll K H' vs ds
  | _, _, .nil => .nil
  | _, _, .cons h r => .cons (Dn.ex e h) (DnAll.ex e r)
end
theorem DnAll.length : ∀ {vs : List V} {ds : List PyData}, DnAll K H vs ds → vs.length = ds.length
  | _, _, .nil => rfl
  | _, _, .cons _ r => by
    rw [List.length_cons, List.length_cons, DnAll.length r]
theorem DnAll.get : ∀ {vs : List V} {ds : List PyData} {i : Nat} {v : V}, DnAll K H vs ds → vs[i]? = some v → ∃ d, ds[i]? = some d ∧ Dn K H v d
  | _, _, _, _, .nil, h => by cases h
  | _, _, 0, _, .cons h r, e => by
    cases e
    exact ⟨_, rfl, h⟩
  | _, _, i + 1, _, .cons _ r, e => DnAll.get (i := i) r e
theorem DnAll.at : ∀ {vs : List V} {ds : List PyData} {i : Nat} {d : PyData}, DnAll K H vs ds → ds[i]? = some d → ∃ v, vs[i]? = some v ∧ Dn K H v d
  | _, _, _, _, .nil, h => by cases h
  | _, _, 0, _, .cons h r, e => by
    cases e
    exact ⟨_, rfl, h⟩
  | _, _, i + 1, _, .cons _ r, e => DnAll.at (i := i) r e
theorem DnAll.snoc : ∀ {vs : List V} {ds : List PyData} {v : V} {d : PyData}, DnAll K H vs ds → Dn K H v d → DnAll K H (vs ++ [v]) (ds ++ [d])
  | _, _, _, _, .nil, h => .cons h .nil
  | _, _, _, _, .cons h r, z => .cons h (DnAll.snoc r z)
theorem DnAll.ints : ∀ {vs : List V} {ns : List Int}, DnAll K H vs (ns.map .int) → vs = ns.map V.int
  | _, [], .nil => rfl
  | _, n :: ns, .cons h r => by
    cases h
    rw [DnAll.ints r]
    rfl
theorem DnAll.bools : ∀ {vs : List V} {bs : List Bool}, DnAll K H vs (bs.map .bool) → vs = bs.map V.bl
  | _, [], .nil => rfl
  | _, n :: ns, .cons h r => by
    cases h
    rw [DnAll.bools r]
    rfl
theorem DnAll.ofInts : ∀ (ns : List Int), DnAll K H (ns.map V.int) (ns.map PyData.int)
  | [] => .nil
  | n :: ns => .cons (.int n) (DnAll.ofInts ns)
end
/-! the name of a datum's type -/
def tyN : PyData → String
  | .none => "NoneType"
  | .bool _ => "bool"
  | .int _ => "int"
  | .str _ => "str"
  | .list _ => "list"
  | .tuple _ => "tuple"
  | .dict _ => "dict"
theorem Dn.ty {K : PySem.W.Frag} {H : Hp} {v : V} {d : PyData} (h : Dn K H v d) : TyX K H v (.type (tyN d)) := by
  cases h with
  | non => exact .base .non
  | bl b => exact .base (.bl b)
  | int i => exact .base (.int i)
  | str x => exact .base (.str x)
  | lst h r =>
    rcases h with (h | ⟨o, h⟩) | ⟨o, its, n, hk, hc, _⟩
    · exact .base (.lst h)
    · exact .base (.frz h)
    · exact .kList hk hc
  | tup h r =>
    rcases h with (h | ⟨o, h⟩) | ⟨o, its, n, hk, hc, _⟩
    · exact .base (.tup h)
    · exact .fTuple h
    · exact .kTuple hk hc
  | dct h => exact .base (.dK h)
def isW : PyData → Bool
  | .int _ => true
  | _ => false
def isT : PyData → Bool
  | .tuple _ => true
  | _ => false
def isB : PyData → Bool
  | .bool _ => true
  | _ => false
def isI : PyData → Bool
  | .int _ => true
  | .bool _ => true
  | _ => false
theorem kit_int (d : PyData) : kitB (tyN d) "int" = some (isI d) := by
  cases d with
  | none => exact (by decide +kernel : kitB "NoneType" "int" = some false)
  | bool => exact (by decide +kernel : kitB "bool" "int" = some true)
  | int => exact (by decide +kernel : kitB "int" "int" = some true)
  | str => exact (by decide +kernel : kitB "str" "int" = some false)
  | list => exact (by decide +kernel : kitB "list" "int" = some false)
  | tuple => exact (by decide +kernel : kitB "tuple" "int" = some false)
  | dict => exact (by decide +kernel : kitB "dict" "int" = some false)
theorem kit_bool (d : PyData) : kitB (tyN d) "bool" = some (isB d) := by
  cases d with
  | none => exact (by decide +kernel : kitB "NoneType" "bool" = some false)
  | bool => exact (by decide +kernel : kitB "bool" "bool" = some true)
  | int => exact (by decide +kernel : kitB "int" "bool" = some false)
  | str => exact (by decide +kernel : kitB "str" "bool" = some false)
  | list => exact (by decide +kernel : kitB "list" "bool" = some false)
  | tuple => exact (by decide +kernel : kitB "tuple" "bool" = some false)
  | dict => exact (by decide +kernel : kitB "dict" "bool" = some false)
theorem kit_tuple (d : PyData) : kitB (tyN d) "tuple" = some (isT d) := by
  cases d with
  | none => exact (by decide +kernel : kitB "NoneType" "tuple" = some false)
  | bool => exact (by decide +kernel : kitB "bool" "tuple" = some false)
  | int => exact (by decide +kernel : kitB "int" "tuple" = some false)
  | str => exact (by decide +kernel : kitB "str" "tuple" = some false)
  | list => exact (by decide +kernel : kitB "list" "tuple" = some false)
  | tuple => exact (by decide +kernel : kitB "tuple" "tuple" = some true)
  | dict => exact (by decide +kernel : kitB "dict" "tuple" = some false)
/-! heaps: what is known within what stands, and what is new -/
structure Rs (h H g H' : Hp) : Prop where
  a : Ex H H'
  b : Ex h g
  c : Ex g H'
  s : ∀ q o, g q = some o → h q = some o ∨ H q = none
theorem Rs.refl {h H : Hp} (x : Ex h H) : Rs h H h H := ⟨Evl.Ex.refl H, Evl.Ex.refl h, x, fun _ _ z => .inl z⟩
theorem Rs.trans {h H g H1 g2 H2 : Hp} (x : Rs h H g H1) (y : Rs g H1 g2 H2) : Rs h H g2 H2 :=
  ⟨x.a.trans y.a, x.b.trans y.b, y.c, fun q o z => by
    rcases y.s q o z with z | z
    · exact x.s q o z
    · exact .inr (Evl.fresh_back x.a z)⟩
theorem Rs.new {h H : Hp} (x : Ex h H) {p : Addr} {o : HO} (n : H p = none) : Rs h H (upd h p o) (upd H p o) :=
  ⟨Evl.Ex.new n, Evl.Ex.new (Evl.fresh_back x n), fun q u z => by
    by_cases e : q = p
    · subst e
      rw [upd_same] at z ⊢
      exact z
    · rw [upd_ne e] at z ⊢
      exact x q u z, fun q u z => by
    by_cases e : q = p
    · subst e
      exact .inr n
    · rw [upd_ne e] at z
      exact .inl z⟩
def un (g1 g2 : Hp) : Hp := fun q => match g1 q with
  | some o => some o
  | none => g2 q
theorem un_l {g1 g2 : Hp} : Ex g1 (un g1 g2) := fun q o z => by
  unfold un
  rw [z]
theorem un_r {g1 g2 H : Hp} (x : Ex g1 H) (y : Ex g2 H) : Ex g2 (un g1 g2) := fun q o z => by
  unfold un
  cases e : g1 q with
  | none => exact z
  | some u =>
    have e1 := x q u e
    have e2 := y q o z
    rw [e1] at e2
    exact e2
theorem un_in {g1 g2 H : Hp} (x : Ex g1 H) (y : Ex g2 H) : Ex (un g1 g2) H := fun q o z => by
  unfold un at z
  cases e : g1 q with
  | none =>
    rw [e] at z
    exact y q o z
  | some w =>
    rw [e] at z
    cases z
    exact x q _ e
/-- a result over the smaller heap is one over the greater -/
theorem Rs.up {h h1 H g H' : Hp} (x : Ex h h1) (y : Ex h1 H) (r : Rs h H g H') : Rs h1 H (un h1 g) H' :=
  ⟨r.a, un_l, un_in (y.trans r.a) r.c, fun q o z => by
    unfold un at z
    cases e : h1 q with
    | none =>
      rw [e] at z
      rcases r.s q o z with w | w
      · rw [x q o w] at e
        cases e
      · exact .inr w
    | some u =>
      rw [e] at z
      exact .inl z⟩
theorem Rs.upIn {h h1 H g H' : Hp} (y : Ex h1 H) (r : Rs h H g H') : Ex g (un h1 g) := un_r (y.trans r.a) r.c
/-! an expression's datum, leaving what stood; a test's answer; arguments' data -/
def Ev (X : Cx) (e : Expr) (σ : L2.St) (h : Hp) (d : PyData) : Prop :=
  ∀ H, Ex h H → ∀ Q : VK, (∀ v g H', Rs h H g H' → Dn X.K g v d → Q v H') → WE X e σ H Q
def EvT (X : Cx) (e : Expr) (σ : L2.St) (h : Hp) (b : Bool) : Prop :=
  ∀ H, Ex h H → ∀ Q : Bool → Hp → Prop, (∀ H', Ex H H' → Q b H') → WT X e σ H Q
def EvA (X : Cx) (es : List Expr) (σ : L2.St) (h : Hp) (ds : List PyData) : Prop :=
  ∀ H, Ex h H → ∀ Q : List V → Hp → Prop, (∀ vs g H', Rs h H g H' → DnAll X.K g vs ds → Q vs H') → WA X es σ H Q
section
variable {X : Cx} {a b c e : Expr} {es : List Expr} {σ : L2.St} {h h' : Hp} {d : PyData} {pos p : Pos} {i j k : Int}
theorem Ev.up (z : Ev X e σ h d) (x : Ex h h') : Ev X e σ h' d := fun H y Q q =>
  z H (x.trans y) Q fun v g H' r w => q v _ H' (r.up x y) (w.ex (r.upIn y))
theorem EvA.up {ds : List PyData} (z : EvA X es σ h ds) (x : Ex h h') : EvA X es σ h' ds := fun H y Q q =>
  z H (x.trans y) Q fun v g H' r w => q v _ H' (r.up x y) (w.ex (r.upIn y))
theorem EvT.up {b : Bool} (z : EvT X e σ h b) (x : Ex h h') : EvT X e σ h' b := fun H y => z H (x.trans y)
theorem ev_is {d' : PyData} (z : Ev X e σ h d) (x : d = d') : Ev X e σ h d' := x ▸ z
theorem ev_var {n : Nat} {x : Str} {v : V} (hN : X.N[n]? = some x) (hv : Vis X.env.scope x) (hs : σ[n]? = some (some v)) (z : Dn X.K h v d)
    (hd : (x == ("__debug__" : Str)) = false := by decide) (hcd : (x == ("__classdict__" : Str)) = false := by decide) : Ev X (.Name x pos) σ h d :=
  fun H y Q q => .of (pe_var hN hv hd hcd) ⟨v, hs, q v h H (.refl y) z⟩
theorem ev_int {m : Nat} : Ev X (.Constant (.int i) m pos) σ h (.int i) := fun H y Q q => .of pe_int (q _ h H (.refl y) (.int i))
theorem ev_bl {m : Nat} {t : Bool} : Ev X (.Constant (.bool t) m pos) σ h (.bool t) := fun H y Q q => .of pe_bl (q _ h H (.refl y) (.bl t))
theorem ev_non {m : Nat} : Ev X (.Constant .none m pos) σ h .none := fun H y Q q => .of pe_non (q _ h H (.refl y) .non)
theorem ev_str {m : Nat} {x : Str} : Ev X (.Constant (.str x) m pos) σ h (.str x) := fun H y Q q => .of pe_str (q _ h H (.refl y) (.str x))
theorem ev_glob {x : Str} {v : V} {u : Value} (hg : Gl X x) (hm : X.mg x = some u) (r : RelV v u) (z : Dn X.K h v d) (hd : (x == ("__debug__" : Str)) = false := by decide) :
    Ev X (.Name x pos) σ h d := fun H y Q q => .of (pe_glob hg hm r hd) (q v h H (.refl y) z)
/-- a rule of two values at data -/
def R2D (K : PySem.W.Frag) (r : R2) (d1 d2 d : PyData) : Prop :=
  ∀ x y h H, Ex h H → Dn K h x d1 → Dn K h y d2 → ∀ Q : VK, (∀ v g H', Rs h H g H' → Dn K g v d → Q v H') → r x y H Q
theorem ev_op2 {op : Operator} {r : R2} {d1 d2 : PyData} (ho : OpR X (binaryOp op) r) (za : Ev X a σ h d1) (zb : Ev X b σ h d2) (hr : R2D X.K r d1 d2 d) : Ev X (.BinOp a op b pos) σ h d :=
  fun H y Q q => .of (pe_op ho WE.pe WE.pe) (za H y _ fun v g1 H1 r1 z1 => zb.up r1.b H1 r1.c _ fun w g2 H2 r2 z2 =>
    hr v w g2 H2 r2.c (z1.ex r2.b) z2 Q fun u g3 H3 r3 z3 => q u g3 H3 ((r1.trans r2).trans r3) z3)
theorem ev_cmp2 {op : CmpOp} {r : R2} {d1 d2 : PyData} (ho : OpR X (compareOp op) r) (hm : behindInMarks op b = false) (za : Ev X a σ h d1) (zb : Ev X b σ h d2) (hr : R2D X.K r d1 d2 d) : Ev X (.Compare a [op] [b] pos) σ h d :=
  fun H y Q q => .of (pe_cmpR ho WE.pe WE.pe hm) (za H y _ fun v g1 H1 r1 z1 => zb.up r1.b H1 r1.c _ fun w g2 H2 r2 z2 =>
    hr v w g2 H2 r2.c (z1.ex r2.b) z2 Q fun u g3 H3 r3 z3 => q u g3 H3 ((r1.trans r2).trans r3) z3)
theorem r_ii {K : PySem.W.Frag} {g : Int → Int → V} (hd : ∀ h, Dn K h (g i j) d) : R2D K (rI0 g) (.int i) (.int j) d := fun x y h H e hx hy Q q => by
  cases hx
  cases hy
  exact ⟨i, j, rfl, rfl, q _ h H (.refl e) (hd h)⟩
theorem r_iiC {K : PySem.W.Frag} {C : Int → Int → Prop} {g : Int → Int → V} (hc : C i j) (hd : ∀ h, Dn K h (g i j) d) : R2D K (rI C g) (.int i) (.int j) d := fun x y h H e hx hy Q q => by
  cases hx
  cases hy
  exact ⟨i, j, rfl, rfl, hc, q _ h H (.refl e) (hd h)⟩
theorem ev_add (za : Ev X a σ h (.int i)) (zb : Ev X b σ h (.int j)) : Ev X (.BinOp a .Add b pos) σ h (.int (i + j)) := ev_op2 op_add za zb (r_ii fun _ => .int _)
theorem ev_sub (za : Ev X a σ h (.int i)) (zb : Ev X b σ h (.int j)) : Ev X (.BinOp a .Sub b pos) σ h (.int (i - j)) := ev_op2 op_sub za zb (r_ii fun _ => .int _)
theorem ev_mul (hc : CMul i j) (za : Ev X a σ h (.int i)) (zb : Ev X b σ h (.int j)) : Ev X (.BinOp a .Mult b pos) σ h (.int (i * j)) := ev_op2 op_mul za zb (r_iiC hc fun _ => .int _)
theorem ev_mod (hc : 0 < j) (za : Ev X a σ h (.int i)) (zb : Ev X b σ h (.int j)) : Ev X (.BinOp a .Mod b pos) σ h (.int (i % j)) := ev_op2 op_mod za zb (r_iiC (C := fun _ j => 0 < j) hc fun _ => .int _)
theorem ev_fdiv (hc : CDiv i j) (za : Ev X a σ h (.int i)) (zb : Ev X b σ h (.int j)) : Ev X (.BinOp a .FloorDiv b pos) σ h (.int (i / j)) := ev_op2 op_fdiv za zb (r_iiC hc fun _ => .int _)
theorem ev_lt (za : Ev X a σ h (.int i)) (zb : Ev X b σ h (.int j)) : Ev X (.Compare a [.Lt] [b] pos) σ h (.bool (decide (i < j))) := ev_cmp2 op_lt (nomark _) za zb (r_ii fun _ => .bl _)
theorem ev_le (za : Ev X a σ h (.int i)) (zb : Ev X b σ h (.int j)) : Ev X (.Compare a [.LtE] [b] pos) σ h (.bool (decide (i ≤ j))) := ev_cmp2 op_le (nomark _) za zb (r_ii fun _ => .bl _)
theorem ev_gt (za : Ev X a σ h (.int i)) (zb : Ev X b σ h (.int j)) : Ev X (.Compare a [.Gt] [b] pos) σ h (.bool (decide (j < i))) := ev_cmp2 op_gt (nomark _) za zb (r_ii fun _ => .bl _)
theorem ev_ge (za : Ev X a σ h (.int i)) (zb : Ev X b σ h (.int j)) : Ev X (.Compare a [.GtE] [b] pos) σ h (.bool (decide (j ≤ i))) := ev_cmp2 op_ge (nomark _) za zb (r_ii fun _ => .bl _)
theorem ev_eqI (za : Ev X a σ h (.int i)) (zb : Ev X b σ h (.int j)) : Ev X (.Compare a [.Eq] [b] pos) σ h (.bool (decide (i = j))) :=
  ev_cmp2 op_eq (nomark _) za zb fun x y h H e hx hy Q q => by
    cases hx
    cases hy
    refine ⟨rfl, q _ h H (.refl e) ?_⟩
    rw [show decide (V.int i = V.int j) = decide (i = j) from by simp]
    exact .bl _
theorem ev_neI (za : Ev X a σ h (.int i)) (zb : Ev X b σ h (.int j)) : Ev X (.Compare a [.NotEq] [b] pos) σ h (.bool (!decide (i = j))) :=
  ev_cmp2 op_ne (nomark _) za zb fun x y h H e hx hy Q q => by
    cases hx
    cases hy
    refine ⟨rfl, q _ h H (.refl e) ?_⟩
    rw [show decide (V.int i = V.int j) = decide (i = j) from by simp]
    exact .bl _
def isNo : PyData → Bool
  | .none => true
  | _ => false
theorem ev_isN (za : Ev X a σ h d) {m : Nat} {p' : Pos} : Ev X (.Compare a [.Is] [.Constant .none m p'] pos) σ h (.bool (isNo d)) :=
  ev_cmp2 op_isN (nomark _) za ev_non fun x y h H e hx hy Q q => by
    cases hy
    refine ⟨rfl, q _ h H (.refl e) ?_⟩
    cases hx <;> exact .bl _
theorem ev_notN (za : Ev X a σ h d) {m : Nat} {p' : Pos} : Ev X (.Compare a [.IsNot] [.Constant .none m p'] pos) σ h (.bool (!isNo d)) :=
  ev_cmp2 op_notN (nomark _) za ev_non fun x y h H e hx hy Q q => by
    cases hy
    refine ⟨rfl, q _ h H (.refl e) ?_⟩
    cases hx <;> exact .bl _
/-- a <= b <= c and its like -/
theorem ev_chain {op op' : CmpOp} {f g : Int → Int → Bool} (ho : OpR X (compareOp op) (rI0 fun i j => .bl (f i j))) (ho' : OpR X (compareOp op') (rI0 fun i j => .bl (g i j)))
    (za : Ev X a σ h (.int i)) (zb : Ev X b σ h (.int j)) (zc : Ev X c σ h (.int k)) (hm : lastMarks [op, op'] [b, c] = false) : Ev X (.Compare a [op, op'] [b, c] pos) σ h (.bool (f i j && g j k)) :=
  fun H y Q q => .of (pe_chain ho ho' WE.pe WE.pe WE.pe hm) (za H y _ fun v g1 H1 r1 z1 => zb.up r1.b H1 r1.c _ fun w g2 H2 r2 z2 => by
    cases z1
    cases z2
    refine ⟨i, j, rfl, rfl, _, rfl, ?_⟩
    cases hf : f i j with
    | true =>
      rw [if_pos rfl]
      refine zc.up (r1.trans r2).b H2 r2.c _ fun u g3 H3 r3 z3 => ?_
      cases z3
      refine ⟨j, k, rfl, rfl, q _ g3 H3 ((r1.trans r2).trans r3) ?_⟩
      rw [hf]
      exact .bl _
    | false =>
      rw [if_neg Bool.false_ne_true]
      refine q _ g2 H2 (r1.trans r2) ?_
      rw [hf]
      exact .bl _)
theorem ev_lele (za : Ev X a σ h (.int i)) (zb : Ev X b σ h (.int j)) (zc : Ev X c σ h (.int k)) (hm : lastMarks [.LtE, .LtE] [b, c] = false := by with_unfolding_all rfl) : Ev X (.Compare a [.LtE, .LtE] [b, c] pos) σ h (.bool (decide (i ≤ j) && decide (j ≤ k))) :=
  ev_chain (f := fun i j => decide (i ≤ j)) (g := fun i j => decide (i ≤ j)) op_le op_le za zb zc hm
theorem ev_one {op : BoolOp} (za : Ev X a σ h d) : Ev X (.BoolOp op [a] pos) σ h d := fun H y Q q => .of (pe_one WE.pe) (za H y Q q)
theorem ev_and {rest : List Expr} {t : Bool} (za : Ev X a σ h (.bool t)) (hf : t = false → d = .bool false) (zb : t = true → Ev X (.BoolOp .And (b :: rest) pos) σ h d) :
    Ev X (.BoolOp .And (a :: b :: rest) pos) σ h d := fun H y Q q => .of (pe_and WE.pe WE.pe) (za H y _ fun v g1 H1 r1 z1 => by
  cases z1
  refine ⟨t, rfl, ?_⟩
  cases t with
  | true => exact (zb rfl).up r1.b H1 r1.c Q fun u g2 H2 r2 z2 => q u g2 H2 (r1.trans r2) z2
  | false =>
    refine q _ g1 H1 r1 ?_
    rw [hf rfl]
    exact .bl _)
theorem ev_or {rest : List Expr} {t : Bool} (za : Ev X a σ h (.bool t)) (hf : t = true → d = .bool true) (zb : t = false → Ev X (.BoolOp .Or (b :: rest) pos) σ h d) :
    Ev X (.BoolOp .Or (a :: b :: rest) pos) σ h d := fun H y Q q => .of (pe_or WE.pe WE.pe) (za H y _ fun v g1 H1 r1 z1 => by
  cases z1
  refine ⟨t, rfl, ?_⟩
  cases t with
  | false => exact (zb rfl).up r1.b H1 r1.c Q fun u g2 H2 r2 z2 => q u g2 H2 (r1.trans r2) z2
  | true =>
    refine q _ g1 H1 r1 ?_
    rw [hf rfl]
    exact .bl _)
/-- x and y, both truths -/
theorem ev_and2 {t u : Bool} (za : Ev X a σ h (.bool t)) (zb : t = true → Ev X b σ h (.bool u)) : Ev X (.BoolOp .And [a, b] pos) σ h (.bool (t && u)) := by
  cases t with
  | true => exact ev_and za (fun z => nomatch z) fun _ => ev_one (zb rfl)
  | false => exact ev_and za (fun _ => rfl) fun z => nomatch z
theorem ev_and3 {t u w : Bool} (za : Ev X a σ h (.bool t)) (zb : t = true → Ev X b σ h (.bool u)) (zc : t = true → u = true → Ev X c σ h (.bool w)) : Ev X (.BoolOp .And [a, b, c] pos) σ h (.bool (t && (u && w))) := by
  cases t with
  | true => exact ev_and za (fun z => nomatch z) fun _ => ev_and2 (t := u) (u := w) (zb rfl) fun z => zc rfl z
  | false => exact ev_and za (fun _ => rfl) fun z => nomatch z
theorem ev_or2 {t u : Bool} (za : Ev X a σ h (.bool t)) (zb : t = false → Ev X b σ h (.bool u)) : Ev X (.BoolOp .Or [a, b] pos) σ h (.bool (t || u)) := by
  cases t with
  | false => exact ev_or za (fun z => nomatch z) fun _ => ev_one (zb rfl)
  | true => exact ev_or za (fun _ => rfl) fun z => nomatch z
theorem ev_not {t : Bool} (za : Ev X a σ h (.bool t)) : Ev X (.UnaryOp .Not a pos) σ h (.bool (!t)) := fun H y Q q => .of (pe_not WE.pe) (za H y _ fun v g1 H1 r1 z1 => by
  cases z1
  exact ⟨t, rfl, q _ g1 H1 r1 (.bl _)⟩)
theorem ev_neg (za : Ev X a σ h (.int i)) : Ev X (.UnaryOp .USub a pos) σ h (.int (-i)) := fun H y Q q => .of (pe_un un_neg WE.pe) (za H y _ fun v g1 H1 r1 z1 => by
  cases z1
  exact ⟨i, rfl, q _ g1 H1 r1 (.int _)⟩)
theorem ev_ite {t : Bool} {c : Expr} (zc : EvT X c σ h t) (za : t = true → Ev X a σ h d) (zb : t = false → Ev X b σ h d) : Ev X (.IfExp c a b pos) σ h d :=
  fun H y Q q => .of (pe_ifExp WT.pt WE.pe WE.pe) (zc H y _ fun H1 e1 => by
    cases t with
    | true =>
      rw [if_pos rfl]
      exact za rfl H1 (y.trans e1) Q fun v g H2 r z => q v g H2 ⟨e1.trans r.a, r.b, r.c, fun q o w => (r.s q o w).imp id (Evl.fresh_back e1)⟩ z
    | false =>
      rw [if_neg Bool.false_ne_true]
      exact zb rfl H1 (y.trans e1) Q fun v g H2 r z => q v g H2 ⟨e1.trans r.a, r.b, r.c, fun q o w => (r.s q o w).imp id (Evl.fresh_back e1)⟩ z)
/-! tests -/
theorem et_val {t : Bool} (za : Ev X a σ h (.bool t)) (he : ∀ whole, isTrue a X.env whole = (do let v ← whole; standAt a.pos; holding [v] (truthy v)) := by intro _; rfl) : EvT X a σ h t :=
  fun H y Q q => .of (pt_val WE.pe he) (za H y _ fun v g1 H1 r1 z1 => by
    cases z1
    exact ⟨t, rfl, q H1 r1.a⟩)
theorem et_cmp2 {op : CmpOp} {r : R2} {d1 d2 : PyData} {t : Bool} (ho : OpR X (compareOp op) r) (hm : behindInMarks op b = false) (za : Ev X a σ h d1) (zb : Ev X b σ h d2) (hr : R2D X.K r d1 d2 (.bool t)) : EvT X (.Compare a [op] [b] pos) σ h t :=
  fun H y Q q => .of (pt_cmpR ho WE.pe WE.pe hm) (za H y _ fun v g1 H1 r1 z1 => zb.up r1.b H1 r1.c _ fun w g2 H2 r2 z2 =>
    hr v w g2 H2 r2.c (z1.ex r2.b) z2 _ fun u g3 H3 r3 z3 => by
      cases z3
      exact ⟨t, rfl, q H3 ((r1.trans r2).trans r3).a⟩)
theorem et_lt (za : Ev X a σ h (.int i)) (zb : Ev X b σ h (.int j)) : EvT X (.Compare a [.Lt] [b] pos) σ h (decide (i < j)) := et_cmp2 op_lt (nomark _) za zb (r_ii fun _ => .bl _)
theorem et_le (za : Ev X a σ h (.int i)) (zb : Ev X b σ h (.int j)) : EvT X (.Compare a [.LtE] [b] pos) σ h (decide (i ≤ j)) := et_cmp2 op_le (nomark _) za zb (r_ii fun _ => .bl _)
theorem et_gt (za : Ev X a σ h (.int i)) (zb : Ev X b σ h (.int j)) : EvT X (.Compare a [.Gt] [b] pos) σ h (decide (j < i)) := et_cmp2 op_gt (nomark _) za zb (r_ii fun _ => .bl _)
theorem et_ge (za : Ev X a σ h (.int i)) (zb : Ev X b σ h (.int j)) : EvT X (.Compare a [.GtE] [b] pos) σ h (decide (j ≤ i)) := et_cmp2 op_ge (nomark _) za zb (r_ii fun _ => .bl _)
theorem r_eqI {K : PySem.W.Frag} : R2D K rEq (.int i) (.int j) (.bool (decide (i = j))) := fun x y h H e hx hy Q q => by
  cases hx
  cases hy
  refine ⟨rfl, q _ h H (.refl e) ?_⟩
  rw [show decide (V.int i = V.int j) = decide (i = j) from by simp]
  exact .bl _
theorem r_neI {K : PySem.W.Frag} : R2D K rNe (.int i) (.int j) (.bool (!decide (i = j))) := fun x y h H e hx hy Q q => by
  cases hx
  cases hy
  refine ⟨rfl, q _ h H (.refl e) ?_⟩
  rw [show decide (V.int i = V.int j) = decide (i = j) from by simp]
  exact .bl _
theorem et_eqI (za : Ev X a σ h (.int i)) (zb : Ev X b σ h (.int j)) : EvT X (.Compare a [.Eq] [b] pos) σ h (decide (i = j)) := et_cmp2 op_eq (nomark _) za zb r_eqI
theorem et_neI (za : Ev X a σ h (.int i)) (zb : Ev X b σ h (.int j)) : EvT X (.Compare a [.NotEq] [b] pos) σ h (!decide (i = j)) := et_cmp2 op_ne (nomark _) za zb r_neI
theorem et_isN (za : Ev X a σ h d) {m : Nat} {p' : Pos} : EvT X (.Compare a [.Is] [.Constant .none m p'] pos) σ h (isNo d) :=
  et_cmp2 op_isN (nomark _) za ev_non fun x y h H e hx hy Q q => by
    cases hy
    refine ⟨rfl, q _ h H (.refl e) ?_⟩
    cases hx <;> exact .bl _
theorem et_notN (za : Ev X a σ h d) {m : Nat} {p' : Pos} : EvT X (.Compare a [.IsNot] [.Constant .none m p'] pos) σ h (!isNo d) :=
  et_cmp2 op_notN (nomark _) za ev_non fun x y h H e hx hy Q q => by
    cases hy
    refine ⟨rfl, q _ h H (.refl e) ?_⟩
    cases hx <;> exact .bl _
theorem et_lele (za : Ev X a σ h (.int i)) (zb : Ev X b σ h (.int j)) (zc : Ev X c σ h (.int k)) (hm : lastMarks [.LtE, .LtE] [b, c] = false := by with_unfolding_all rfl) : EvT X (.Compare a [.LtE, .LtE] [b, c] pos) σ h (decide (i ≤ j) && decide (j ≤ k)) :=
  fun H y Q q => .of (pt_chain op_le op_le WE.pe WE.pe WE.pe hm) (za H y _ fun v g1 H1 r1 z1 => zb.up r1.b H1 r1.c _ fun w g2 H2 r2 z2 => by
    cases z1
    cases z2
    refine ⟨i, j, rfl, rfl, _, rfl, ?_⟩
    cases hf : decide (i ≤ j) with
    | true =>
      rw [if_pos rfl]
      refine zc.up (r1.trans r2).b H2 r2.c _ fun u g3 H3 r3 z3 => ?_
      cases z3
      refine ⟨j, k, rfl, rfl, _, rfl, ?_⟩
      rw [hf] at q
      exact q H3 ((r1.trans r2).trans r3).a
    | false =>
      rw [if_neg Bool.false_ne_true]
      rw [hf] at q
      exact ⟨_, rfl, q H2 (r1.trans r2).a⟩)
theorem et_not {t : Bool} (za : EvT X a σ h t) : EvT X (.UnaryOp .Not a pos) σ h (!t) := fun H y Q q => .of (pt_not WT.pt) (za H y _ fun H1 e1 => q H1 e1)
theorem et_or2 {t u : Bool} (za : EvT X a σ h t) (zb : t = false → EvT X b σ h u) : EvT X (.BoolOp .Or [a, b] pos) σ h (t || u) :=
  fun H y Q q => .of (PW.pt (pw_or WT.pt (pw_or1 WT.pt))) (za H y _ fun H1 e1 => by
    cases t with
    | true => exact iteT (q H1 e1)
    | false => exact iteF (zb rfl H1 (y.trans e1) Q fun H2 e2 => q H2 (e1.trans e2)))
theorem et_and2 {t u : Bool} (za : EvT X a σ h t) (zb : t = true → EvT X b σ h u) : EvT X (.BoolOp .And [a, b] pos) σ h (t && u) :=
  fun H y Q q => .of (PW.pt (pw_and WT.pt (pw_and1 WT.pt))) (za H y _ fun H1 e1 => by
    cases t with
    | false => exact iteF (q H1 e1)
    | true => exact iteT (zb rfl H1 (y.trans e1) Q fun H2 e2 => q H2 (e1.trans e2)))
/-! arguments -/
theorem ea_nil : EvA X [] σ h [] := fun H y Q q => .of pa_nil (q [] h H (.refl y) .nil)
theorem ea_cons {ds : List PyData} (za : Ev X e σ h d) (zr : EvA X es σ h ds) (hs : starEach (e :: es) X.env = (false, eval e X.env) :: starEach es X.env := by rfl) : EvA X (e :: es) σ h (d :: ds) :=
  fun H y Q q => .of (pa_cons WE.pe WA.pa hs) (za H y _ fun v g1 H1 r1 z1 => zr.up r1.b H1 r1.c _ fun vs g2 H2 r2 z2 => q _ g2 H2 (r1.trans r2) (.cons (z1.ex r2.b) z2))
theorem ev_tup {m : Nat} {ds : List PyData} (z : EvA X es σ h ds) (hl : ds.length ≤ 100000) : Ev X (.Tuple es m pos) σ h (.tuple ds) :=
  fun H y Q q => .of (pe_tup WA.pa) (z H y _ fun vs g H1 r1 z1 => ⟨Evl.sz_of (by rw [z1.length]; exact hl), fun p np =>
    q _ _ _ (r1.trans (.new r1.c np)) (.tup (Evl.st_of upd_same) (z1.ex (Evl.Ex.new (Evl.fresh_back r1.c np))))⟩)
theorem ev_lst {ds : List PyData} (z : EvA X es σ h ds) (hl : ds.length ≤ 100000) : Ev X (.List es pos) σ h (.list ds) :=
  fun H y Q q => .of (pe_lst WA.pa) (z H y _ fun vs g H1 r1 z1 => ⟨Evl.sz_of (by rw [z1.length]; exact hl), fun p np =>
    q _ _ _ (r1.trans (.new r1.c np)) (.lst (Evl.sq_of upd_same) (z1.ex (Evl.Ex.new (Evl.fresh_back r1.c np))))⟩)
end
end Sk

namespace Sk
open PySem PySem.Spec PyProof.Rows L2
open Evl (Ex)
/-! a def that gives a datum of data and leaves what stood -/
def spD (K : PySem.W.Frag) (F : List PyData → PyData → Prop) : Sp := fun vs H Q _ =>
  ∃ h ds d, Ex h H ∧ DnAll K h vs ds ∧ F ds d ∧ ∀ v g H', Rs h H g H' → Dn K g v d → Q v H'
/-- where a def of the text stands -/
structure At (K : PySem.W.Frag) (mg : Str → Option Value) (x : Str) (st : Stmt) : Prop where
  ex : ∃ f fd, Fun K x x st f fd ∧ mg x = some (.ref f)
structure FnD (P : Program) (w : World) (K : PySem.W.Frag) (mg : Str → Option Value) (base : Heap) (k : Nat) (x : Str) (F : List PyData → PyData → Prop) : Prop where
  ex : ∃ f fd ps, FnOk P w K mg base CX0 k f fd ps (spD K F) ∧ mg x = some (.ref f) ∧ PySem.W.keepIn K (.ref f) = true ∧ Binds K fd ps []
section
variable {X : Cx} {a b c e : Expr} {es : List Expr} {σ : L2.St} {h h' : Hp} {d : PyData} {pos p p' : Pos} {i j k : Int}
theorem ev_call {n : Nat} {x : Str} {F : List PyData → PyData → Prop} {ds : List PyData} (G : FnD X.prog X.w X.K X.mg X.base n x F) (hr : Room n X.A) (hg : Gl X x) (z : EvA X (e :: es) σ h ds) (hF : F ds d)
    (hdb : (x == ("__debug__" : Str)) = false := by decide) (he : starEach (e :: es) X.env = (false, eval e X.env) :: starEach es X.env := by rfl) (hpl : (backTo pos (starEach es X.env)).any (·.1) = false := by rfl) :
    Ev X (.Call (.Name x p) (e :: es) [] pos) σ h d := fun H y Q q => by
  obtain ⟨f, fd, ps, G, hm, hk, hb⟩ := G.ex
  refine .of (pe_call G hr hg hm hk hb .nil pass0 WA.pa hdb he hpl) (z H y _ fun vs g H1 r1 z1 => ?_)
  rw [List.append_nil]
  exact ⟨g, ds, d, r1.c, z1, hF, fun v g2 H2 r2 z2 => q v g2 H2 (r1.trans r2) z2⟩
/-- a built-in by a rule of values -/
theorem ev_cb {id : String} {x : Str} {r : List V → Hp → VK → Prop} {ds : List PyData} (hc : CallR X (.builtin id) r) (hg : Gl X x) (hm : X.mg x = none) (hv : bootBuiltins x = some (.builtin id)) (z : EvA X (e :: es) σ h ds)
    (hr : ∀ vs h H, Ex h H → DnAll X.K h vs ds → ∀ Q : VK, (∀ v g H', Rs h H g H' → Dn X.K g v d → Q v H') → r vs H Q) (hn : x ≠ "__name__" := by decide) (hdb : (x == ("__debug__" : Str)) = false := by decide)
    (he : starEach (e :: es) X.env = (false, eval e X.env) :: starEach es X.env := by rfl) (hpl : (backTo pos (starEach es X.env)).any (·.1) = false := by rfl) :
    Ev X (.Call (.Name x p) (e :: es) [] pos) σ h d := fun H y Q q =>
  .of (pe_callB hc hg hm hv WA.pa hn hdb he hpl) (z H y _ fun vs g H1 r1 z1 => hr vs g H1 r1.c z1 Q fun v g2 H2 r2 z2 => q v g2 H2 (r1.trans r2) z2)
theorem ev_cty {T : String} {x : Str} {r : List V → Hp → VK → Prop} {ds : List PyData} (hc : CallR X (.type T) r) (hg : Gl X x) (hm : X.mg x = none) (hv : bootBuiltins x = some (.type T)) (z : EvA X (e :: es) σ h ds)
    (hr : ∀ vs h H, Ex h H → DnAll X.K h vs ds → ∀ Q : VK, (∀ v g H', Rs h H g H' → Dn X.K g v d → Q v H') → r vs H Q) (hn : x ≠ "__name__" := by decide) (hdb : (x == ("__debug__" : Str)) = false := by decide)
    (he : starEach (e :: es) X.env = (false, eval e X.env) :: starEach es X.env := by rfl) (hpl : (backTo pos (starEach es X.env)).any (·.1) = false := by rfl) :
    Ev X (.Call (.Name x p) (e :: es) [] pos) σ h d := fun H y Q q =>
  .of (pe_callTy hc hg hm hv WA.pa hn hdb he hpl) (z H y _ fun vs g H1 r1 z1 => hr vs g H1 r1.c z1 Q fun v g2 H2 r2 z2 => q v g2 H2 (r1.trans r2) z2)
/-- isinstance(x, T), T a built-in type -/
theorem ev_isi {T : String} {t : Bool} {x : Str} (mi : X.mg "isinstance" = none) (mT : X.mg x = none) (hi : Gl X "isinstance") (hT : Gl X x) (hv : bootBuiltins x = some (.type T)) (hx : x ≠ "__name__") (hxd : (x == ("__debug__" : Str)) = false)
    (za : Ev X a σ h d) (hk : kitB (tyN d) T = some t)
    (he : starEach [a, .Name x p'] X.env = (false, eval a X.env) :: starEach [.Name x p'] X.env := by rfl) (he2 : starEach [.Name x p'] X.env = (false, eval (.Name x p') X.env) :: starEach [] X.env := by rfl) (hpl : (backTo pos (starEach [.Name x p'] X.env)).any (·.1) = false := by rfl) :
    Ev X (.Call (.Name "isinstance" p) [a, .Name x p'] [] pos) σ h (.bool t) := fun H y Q q =>
  .of (pe_callB call_isi hi mi boot_isinstance (pa_cons WE.pe (pa_cons (pe_bltn (v := .ty T) hT mT hv rfl hx hxd) pa_nil he2) he) (by decide) (by decide) he hpl)
    (za H y _ fun v g H1 r1 z1 => ⟨v, .ty T, _, _, t, rfl, .ty T, (z1.ex r1.c).ty, kit_ty hk, q _ g H1 r1 (.bl t)⟩)
end
end Sk

namespace Sk
open PySem PySem.Spec PyProof.Rows L2
open Evl (Ex)
section
variable {X : Cx} {a b c e : Expr} {es : List Expr} {σ : L2.St} {h h' : Hp} {d : PyData} {pos p p' : Pos} {i j k : Int}
theorem ev_lenT {ds : List PyData} (hg : Gl X "len") (hm : X.mg "len" = none) (z : Ev X a σ h (.tuple ds)) (hs : starEach [a] X.env = (false, eval a X.env) :: starEach [] X.env := by rfl) (hpl : (backTo pos (starEach [] X.env)).any (·.1) = false := by rfl) :
    Ev X (.Call (.Name "len" p) [a] [] pos) σ h (.int ds.length) :=
  ev_cb call_len_seq hg hm PySem.boot_len (ea_cons z ea_nil hs) (fun vs h H e r Q q => by
    cases r with
    | cons r1 r2 =>
      cases r2
      cases r1 with
      | tup s t => exact ⟨_, _, rfl, .inr (Evl.ex_t e s), by rw [t.length]; exact q _ h H (.refl e) (.int _)⟩) (by decide) (by decide) hs hpl
theorem ev_lenL {ds : List PyData} (hg : Gl X "len") (hm : X.mg "len" = none) (z : Ev X a σ h (.list ds)) (hs : starEach [a] X.env = (false, eval a X.env) :: starEach [] X.env := by rfl) (hpl : (backTo pos (starEach [] X.env)).any (·.1) = false := by rfl) :
    Ev X (.Call (.Name "len" p) [a] [] pos) σ h (.int ds.length) :=
  ev_cb call_len_seq hg hm PySem.boot_len (ea_cons z ea_nil hs) (fun vs h H e r Q q => by
    cases r with
    | cons r1 r2 =>
      cases r2
      cases r1 with
      | lst s t => exact ⟨_, _, rfl, .inl (Evl.ex_l e s), by rw [t.length]; exact q _ h H (.refl e) (.int _)⟩) (by decide) (by decide) hs hpl
theorem ev_all {bs : List Bool} (hc : X.calm = true) (hg : Gl X "all") (hm : X.mg "all" = none) (z : Ev X a σ h (.list (bs.map .bool))) (hs : starEach [a] X.env = (false, eval a X.env) :: starEach [] X.env := by rfl) (hpl : (backTo pos (starEach [] X.env)).any (·.1) = false := by rfl) :
    Ev X (.Call (.Name "all" p) [a] [] pos) σ h (.bool (bs.all id)) :=
  ev_cb (cr_all hc) hg hm boot_all (ea_cons z ea_nil hs) (fun vs h H e r Q q => by
    cases r with
    | cons r1 r2 =>
      cases r2
      cases r1 with
      | lst s t =>
        rw [t.bools] at s
        exact ⟨_, bs, rfl, Evl.ex_l e s, q _ h H (.refl e) (.bl _)⟩) (by decide) (by decide) hs hpl
theorem ev_tupleL {ds : List PyData} (hg : Gl X "tuple") (hm : X.mg "tuple" = none) (z : Ev X a σ h (.list ds)) (hs : starEach [a] X.env = (false, eval a X.env) :: starEach [] X.env := by rfl) (hpl : (backTo pos (starEach [] X.env)).any (·.1) = false := by rfl) :
    Ev X (.Call (.Name "tuple" p) [a] [] pos) σ h (.tuple ds) :=
  ev_cty call_tuple_of hg hm PyProof.Rows.boot_tuple (ea_cons z ea_nil hs) (fun vs h H e r Q q => by
    cases r with
    | cons r1 r2 =>
      cases r2
      cases r1 with
      | lst s t => exact ⟨_, _, rfl, .inl ⟨Evl.ex_l e s, fun l nl => q _ _ _ (.new e nl) (.tup (Evl.st_of upd_same) (t.ex (Evl.Ex.new (Evl.fresh_back e nl))))⟩⟩) (by decide) (by decide) hs hpl
theorem ev_ixT {ds : List PyData} {n : Nat} (za : Ev X a σ h (.tuple ds)) (zb : Ev X b σ h (.int (n : Nat))) (hd : ds[n]? = some d) (hs : PlainIx b) : Ev X (.Subscript a b pos) σ h d :=
  fun H y Q q => .of (pe_ix ix_tup WE.pe WE.pe hs) (za H y _ fun v g1 H1 r1 z1 => zb.up r1.b H1 r1.c _ fun w g2 H2 r2 z2 => by
    cases z2
    cases z1 with
    | tup s t =>
      obtain ⟨u, hu, z3⟩ := t.at hd
      exact ⟨_, _, _, u, rfl, rfl, Evl.ex_t (r2.b.trans r2.c) s, atI_nat hu, q u g2 H2 (r1.trans r2) (z3.ex r2.b)⟩)
theorem ev_ixL {ds : List PyData} {n : Nat} (za : Ev X a σ h (.list ds)) (zb : Ev X b σ h (.int (n : Nat))) (hd : ds[n]? = some d) (hs : PlainIx b) : Ev X (.Subscript a b pos) σ h d :=
  fun H y Q q => .of (pe_ix ix_list WE.pe WE.pe hs) (za H y _ fun v g1 H1 r1 z1 => zb.up r1.b H1 r1.c _ fun w g2 H2 r2 z2 => by
    cases z2
    cases z1 with
    | lst s t =>
      obtain ⟨u, hu, z3⟩ := t.at hd
      exact ⟨_, _, _, u, rfl, rfl, Evl.ex_l (r2.b.trans r2.c) s, atI_nat hu, q u g2 H2 (r1.trans r2) (z3.ex r2.b)⟩)
end
/-! what is walked -/
structure WI (X : Cx) (tg iter : Expr) (σ : L2.St) (H : Hp) (R : It → Hp → Prop) : Prop where
  run : ∀ (pins : List (Addr × Obj)) (s : Shared), Inv X pins σ H s →
    wpAny (model X.prog X.w) X.A (eval iter X.env) (fun v s1 => wpAny (model X.prog X.w) X.A (pyIter v) (PIE X pins σ tg R) X.xe s1) X.xe s
theorem WI.pi {X : Cx} {tg iter : Expr} : PI X tg iter (WI X tg iter) := ⟨fun pins s _ _ _ I h => h.run pins s I⟩
theorem WI.of {X : Cx} {tg iter : Expr} {t : TI} {σ : L2.St} {H : Hp} {R : It → Hp → Prop} (p : PI X tg iter t) (h : t σ H R) : WI X tg iter σ H R := ⟨fun pins s I => p.run pins s σ H R I h⟩
/-- what is given at turn i: the i-th datum, anything new beside -/
def Yd (K : PySem.W.Frag) (g : Hp) (ds : List PyData) : Nat → Hp → V → Hp → Prop := fun i H v H' =>
  ∃ d g', ds[i]? = some d ∧ Rs g H g' H' ∧ Dn K g' v d
def EvI (X : Cx) (tg iter : Expr) (σ : L2.St) (h : Hp) (ds : List PyData) : Prop :=
  ∀ H, Ex h H → ∀ R : It → Hp → Prop, (∀ J g H1, Rs h H g H1 → Walk J ds.length (fun H' => Ex g H') (Yd X.K g ds) → R J H1) → WI X tg iter σ H R
section
variable {X : Cx} {tg a b c e iter elt : Expr} {es : List Expr} {σ : L2.St} {h h' : Hp} {d : PyData} {pos p p' : Pos} {i j k : Int} {ds : List PyData}
theorem ei_tup (z : Ev X a σ h (.tuple ds)) : EvI X tg a σ h ds := fun H y R q => .of (pi_tup WE.pe) (z H y _ fun v g H1 r1 z1 => by
  cases z1 with
  | tup s t =>
    rename_i ad xs
    refine ⟨ad, rfl, ⟨xs, Evl.ex_t r1.c s⟩, q _ g H1 r1 ?_⟩
    rw [← t.length]
    refine (walk_tup (K := X.K) (a := ad) (xs := xs)).mono (fun H' e => Evl.ex_t e s) fun i H' v H2 _ e yy => ?_
    obtain ⟨rfl, hx⟩ := yy
    obtain ⟨d, hd, hz⟩ := t.get hx
    exact ⟨d, g, hd, .refl e, hz⟩)
theorem ei_list (z : Ev X a σ h (.list ds)) : EvI X tg a σ h ds := fun H y R q => .of (pi_list WE.pe) (z H y _ fun v g H1 r1 z1 => by
  cases z1 with
  | lst s t =>
    rename_i ad xs
    refine ⟨ad, rfl, ⟨xs, Evl.ex_l r1.c s⟩, q _ g H1 r1 ?_⟩
    rw [← t.length]
    refine (walk_list (K := X.K) (a := ad) (xs := xs)).mono (fun H' e => Evl.ex_l e s) fun i H' v H2 _ e yy => ?_
    obtain ⟨rfl, hx⟩ := yy
    obtain ⟨d, hd, hz⟩ := t.get hx
    exact ⟨d, g, hd, .refl e, hz⟩)
theorem ei_range {n : Nat} (hg : Gl X "range") (hm : X.mg "range" = none) (z : Ev X a σ h (.int (n : Nat))) (hn : n < 2 ^ 62) (hs : starEach [a] X.env = (false, eval a X.env) :: starEach [] X.env := by rfl) (hs2 : starEach [a] X.env = [(false, eval a X.env)] := by rfl) :
    EvI X tg (.Call (.Name "range" p) [a] [] pos) σ h ((List.range n).map fun i => .int (i : Nat)) := fun H y R q => .of (pi_range1 hg hm WA.pa hs2) ((ea_cons z ea_nil hs) H y _ fun vs g H1 r1 z1 => by
  cases z1 with
  | cons z1 z2 =>
    cases z2
    cases z1
    refine ⟨n, rfl, by omega, by omega, q _ g H1 r1 ?_⟩
    rw [List.length_map, List.length_range, Int.toNat_natCast]
    refine (walk_range (lo := 0) (n := n)).mono (fun _ _ => trivial) fun i H' v H2 hi e yy => ?_
    obtain ⟨rfl, rfl⟩ := yy
    refine ⟨.int (i : Nat), g, ?_, .refl e, ?_⟩
    · rw [List.getElem?_map, List.getElem?_range hi]
      rfl
    · show Dn X.K g (V.int (0 + (i : Nat))) (PyData.int (i : Nat))
      rw [Int.zero_add]
      exact .int _)
/-! comprehensions -/
structure WTs (X : Cx) (ifs : List Expr) (σ : L2.St) (H : Hp) (Q : Bool → Hp → Prop) : Prop where
  run : ∀ (pins : List (Addr × Obj)) (s : Shared), Inv X pins σ H s →
    wpAny (model X.prog X.w) X.A (forIn ifs true fun c r => if r = true then do let ok ← isTrue c X.env (eval c X.env); pure (ForInStep.yield ok) else pure (ForInStep.yield r)) (TP X pins σ Q) X.xe s
theorem WTs.of {ifs : List Expr} {t : TT} {H : Hp} {Q : Bool → Hp → Prop} (p : PTs X ifs t) (h : t σ H Q) : WTs X ifs σ H Q := ⟨fun pins s I => p.run pins s σ H Q I h⟩
def EvTs (X : Cx) (ifs : List Expr) (σ : L2.St) (h : Hp) (t : Bool) : Prop :=
  ∀ H, Ex h H → ∀ Q : Bool → Hp → Prop, (∀ H', Ex H H' → Q t H') → WTs X ifs σ H Q
theorem es_nil : EvTs X [] σ h true := fun H _ Q q => .of pts_nil (q H (Evl.Ex.refl H))
theorem es_one {t : Bool} (z : EvT X c σ h t) : EvTs X [c] σ h t := fun H y Q q => .of (pts_one WT.pt) (z H y Q q)
abbrev Bk (X : Cx) (scope : Scope) (s : Shared) (H : Hp) (C : Addr) (cl : List (Str × Addr)) (fp : List Addr) : Cx := X.blk s H scope (compEnvC scope cl C X.env) fp
def BE (X : Cx) (scope : Scope) (e : Expr) : TE := fun σ H Q => ∀ (s : Shared) (H0 : Hp) (C : Addr) (cl : List (Str × Addr)) (fp : List Addr), WE (Bk X scope s H0 C cl fp) e σ H Q
def BTs (X : Cx) (scope : Scope) (es : List Expr) : TT := fun σ H Q => ∀ (s : Shared) (H0 : Hp) (C : Addr) (cl : List (Str × Addr)) (fp : List Addr), WTs (Bk X scope s H0 C cl fp) es σ H Q
/-- the list so far -/
theorem take_step {α β : Type} {f : α → Bool} {m : α → β} {ds : List α} {i : Nat} {d : α} (hd : ds[i]? = some d) :
    ((ds.take (i + 1)).filter f).map m = ((ds.take i).filter f).map m ++ (if f d = true then [m d] else []) := by
  rw [List.take_add_one, hd, List.filter_append, List.map_append]
  congr 1
  show List.map m (List.filter f [d]) = _
  cases hf : f d with
  | true => rw [List.filter_cons_of_pos hf]; rfl
  | false => rw [List.filter_cons_of_neg (by rw [hf]; exact Bool.false_ne_true)]; rfl
/-- the walk of a comprehension: tgt tells what the target makes of the slots -/
theorem lc_data {J : It} {g H1 : Hp} {K : PySem.W.Frag} {tgg : TG} {tt : TT} {te : TE} {vs : List Nat} {D : Addr} {Qd : Hp → Prop} (w : Walk J ds.length (fun H' => Ex g H') (Yd K g ds)) (nD : H1 D = none) (x1 : Ex g H1) (hl : ds.length ≤ 100000)
    (f : PyData → Bool) (m : PyData → PyData)
    (turn : ∀ d ∈ ds, ∀ v g2 H2 (C : L2.St → Hp → Prop), Ex g g2 → Ex g2 H2 → Dn K g2 v d →
      (∀ σ2, wipe σ2 vs = wipe σ vs → (∀ H3, Ex g2 H3 → ∀ Q : Bool → Hp → Prop, (∀ H4, Ex H3 H4 → Q (f d) H4) → tt σ2 H3 Q) → (f d = true → ∀ H3, Ex g2 H3 → ∀ Q : VK, (∀ u g4 H4, Rs g2 H3 g4 H4 → Dn K g4 u (m d) → Q u H4) → te σ2 H3 Q) → C σ2 H2) →
      tgg v (wipe σ vs) H2 C)
    (hd : ∀ g2 H2 acc, Rs g H1 g2 H2 → g2 D = none → H2 D = some (.lst acc) → DnAll K g2 acc ((ds.filter f).map m) → Qd H2) :
    ∃ W : Nat → Nat → Hp → Prop, (∃ m, W 0 m (upd H1 D (.lst []))) ∧ ∀ i m H, W i m H →
      (J.stop i H ∧ Qd H) ∨ (J.go i H ∧ ∃ Nx : Hp → Prop, (∀ H', Nx H' → ∃ m', m' < m ∧ W (i + 1) m' H') ∧ ∀ x H', J.yld i H x H' → tgg x (wipe σ vs) H' fun σ2 H2 => wipe σ2 vs = wipe σ vs ∧ tt σ2 H2 fun b H3 =>
        if b = true then te σ2 H3 fun y H4 => ∃ acc, H4 D = some (.lst acc) ∧ acc.length < sizeLine ∧ Nx (upd H4 D (.lst (acc ++ [y]))) else Nx H3) := by
  refine lc_it w (fun i H' => ∃ g2 acc, Rs g H1 g2 H' ∧ g2 D = none ∧ H' D = some (.lst acc) ∧ DnAll K g2 acc (((ds.take i).filter f).map m)) ⟨g, [], ⟨Evl.Ex.new nD, Evl.Ex.refl g, x1.trans (Evl.Ex.new nD), fun _ _ z => .inl z⟩, Evl.fresh_back x1 nD, upd_same, .nil⟩ (fun i H' _ ⟨g2, acc, r, _⟩ => r.b.trans r.c) (fun i v H' H2 hi ⟨g2, acc, r, n2, hD, hA⟩ yy => ?_) (fun H' ⟨g2, acc, r, n2, hD, hA⟩ => ?_)
  · obtain ⟨d, g3, hdi, r3, z3⟩ := yy
    have hmem : d ∈ ds := List.mem_of_getElem? hdi
    have r4 : Rs g2 H' (un g2 g3) H2 := r3.up r.b r.c
    have z4 : Dn K (un g2 g3) v d := z3.ex (r3.upIn r.c)
    have r5 : Rs g H1 (un g2 g3) H2 := r.trans r4
    have n5 : (un g2 g3) D = none := by
      cases q : (un g2 g3) D with
      | none => rfl
      | some o =>
        rcases r4.s D o q with z | z
        · rw [n2] at z
          cases z
        · rw [hD] at z
          cases z
    have hD2 : H2 D = some (.lst acc) := r3.a D _ hD
    refine turn d hmem v (un g2 g3) H2 _ r5.b r4.c z4 fun σ2 hw ht he => ⟨hw, ht H2 r4.c _ fun H3 e3 => ?_⟩
    cases hf : f d with
    | false =>
      rw [if_neg Bool.false_ne_true]
      refine ⟨un g2 g3, acc, ⟨r5.a.trans e3, r5.b, r5.c.trans e3, r5.s⟩, n5, e3 D _ hD2, ?_⟩
      rw [take_step hdi, hf, if_neg Bool.false_ne_true, List.append_nil]
      exact hA.ex r4.b
    | true =>
      rw [if_pos rfl]
      refine he hf H3 (r4.c.trans e3) _ fun u g4 H4 r6 z6 => ?_
      have hD4 : H4 D = some (.lst acc) := (e3.trans r6.a) D _ hD2
      have n6 : g4 D = none := by
        cases q : g4 D with
        | none => rfl
        | some o =>
          rcases r6.s D o q with z | z
          · rw [n5] at z
            cases z
          · rw [e3 D _ hD2] at z
            cases z
      have la : acc.length ≤ ds.length := by
        rw [hA.length, List.length_map]
        exact Nat.le_trans (List.length_filter_le ..) (by rw [List.length_take]; exact Nat.min_le_right _ _)
      refine ⟨acc, hD4, Nat.lt_of_le_of_lt (Nat.le_trans la hl) (by rw [sizeLine_eq]; decide), g4, acc ++ [u], ⟨?_, r5.b.trans r6.b, Evl.Ex.mut r6.c n6, fun q o z => ?_⟩, n6, upd_same, ?_⟩
      · exact Evl.Ex.mut ((r5.a.trans e3).trans r6.a) nD
      · rcases r6.s q o z with z | z
        · exact r5.s q o z
        · exact .inr (Evl.fresh_back (r5.a.trans e3) z)
      · rw [take_step hdi, if_pos hf]
        exact (hA.ex (r4.b.trans r6.b)).snoc z6
  · rw [List.take_length] at hA
    exact hd g2 H' acc r n2 hD hA
theorem lc_end {H g H1 g2 H2 : Hp} {K : PySem.W.Frag} {D : Addr} {acc : List V} {Q : VK} (r1 : Rs h H g H1) (nD : H1 D = none) (r2 : Rs g H1 g2 H2) (n2 : g2 D = none) (hD : H2 D = some (.lst acc)) (hA : DnAll K g2 acc ds)
    (q : ∀ v g H', Rs h H g H' → Dn K g v (.list ds) → Q v H') : Q (.ref D) H2 := by
  have r := r1.trans r2
  refine q _ (upd g2 D (.lst acc)) H2 ⟨r.a, r.b.trans (Evl.Ex.new n2), fun x o z => ?_, fun x o z => ?_⟩ (.lst (Evl.sq_of upd_same) (hA.ex (Evl.Ex.new n2)))
  · by_cases e : x = D
    · subst e
      rw [upd_same] at z
      cases z
      exact hD
    · rw [upd_ne e] at z
      exact r.c x o z
  · by_cases e : x = D
    · subst e
      exact .inr (Evl.fresh_back r1.a nD)
    · rw [upd_ne e] at z
      exact r.s x o z
/-- [elt for x in iter if ..], x in slot n -/
theorem ev_lc {x : Str} {n : Nat} {px : Pos} {scope : Scope} {ifs : List Expr} (hc : X.calm = true) (hN : X.N.Nodup) (ok : BlkOk X.N X.env.scope scope [(x, n)])
    (hg : ∀ (s : Shared) (H : Hp) (C : Addr) (cl : List (Str × Addr)) (fp : List Addr), PG (Bk X scope s H C cl fp) (.Name x px) (gName n)) (zi : EvI X (.Name x px) iter σ h ds) (hl : ds.length ≤ 100000) (f : PyData → Bool) (m : PyData → PyData)
    (zt : ∀ d ∈ ds, ∀ v h', Ex h h' → Dn X.K h' v d → ∀ (s : Shared) (H : Hp) (C : Addr) (cl : List (Str × Addr)) (fp : List Addr), EvTs (Bk X scope s H C cl fp) ifs ((σ.set n none).set n (some v)) h' (f d))
    (ze : ∀ d ∈ ds, f d = true → ∀ v h', Ex h h' → Dn X.K h' v d → ∀ (s : Shared) (H : Hp) (C : Addr) (cl : List (Str × Addr)) (fp : List Addr), Ev (Bk X scope s H C cl fp) elt ((σ.set n none).set n (some v)) h' (m d))
    (hs : ∀ x, foldedSetIterable iter X.env x = pure x := by intro _; rfl) :
    Ev X (.ListComp elt [⟨.Name x px, iter, ifs, 0⟩] scope pos) σ h (.list ((ds.filter f).map m)) := fun H y Q q =>
  .of (pe_lc (own := [(x, n)]) (g := gName n) (tt := BTs X scope ifs) (te := BE X scope elt) hc hN WI.pi ok hg (fun s H C cl fp => ⟨fun pins s' σ H' Q I h => (h s H C cl fp).run pins s' I⟩) (fun s H C cl fp => ⟨fun pins s' σ H' Q I h => (h s H C cl fp).run pins s' I⟩) hs)
    (zi H y _ fun J g H1 r1 w D nD => lc_data (vs := [n]) w nD r1.c hl f m (fun d hd v g2 H2 C e1 e2 z k => k _ (by
        show (((σ.set n none).set n (some v)).set n none) = σ.set n none
        rw [List.set_set, List.set_set]) (fun H3 e3 Q q s H0 C cl fp => zt d hd v g2 (r1.b.trans e1) z s H0 C cl fp H3 e3 Q q) fun hf H3 e3 Q q s H0 C cl fp => ze d hd hf v g2 (r1.b.trans e1) z s H0 C cl fp H3 e3 Q q)
      fun g2 H2 acc r2 n2 hD hA => lc_end r1 nD r2 n2 hD hA q)
/-- [elt for x, y in iter if ..], x in slot n, y in slot n2 -/
theorem ev_lc2 {x x2 : Str} {n n2 kk : Nat} {px px2 pt : Pos} {scope : Scope} {ifs : List Expr} (hc : X.calm = true) (hN : X.N.Nodup) (ok : BlkOk X.N X.env.scope scope [(x, n), (x2, n2)]) (hne : n ≠ n2)
    (hg : ∀ (s : Shared) (H : Hp) (C : Addr) (cl : List (Str × Addr)) (fp : List Addr), PG (Bk X scope s H C cl fp) (.Tuple [.Name x px, .Name x2 px2] kk pt) (gTup X.K 2 (gCons (gName n) (gCons (gName n2) gNil))))
    (zi : EvI X (.Tuple [.Name x px, .Name x2 px2] kk pt) iter σ h ds) (hl : ds.length ≤ 100000) (f : PyData → Bool) (m : PyData → PyData) (hp : ∀ d ∈ ds, ∃ d1 d2, d = .tuple [d1, d2])
    (zt : ∀ d1 d2, .tuple [d1, d2] ∈ ds → ∀ v1 v2 h', Ex h h' → Dn X.K h' v1 d1 → Dn X.K h' v2 d2 → ∀ (s : Shared) (H : Hp) (C : Addr) (cl : List (Str × Addr)) (fp : List Addr), EvTs (Bk X scope s H C cl fp) ifs ((((σ.set n2 none).set n none).set n (some v1)).set n2 (some v2)) h' (f (.tuple [d1, d2])))
    (ze : ∀ d1 d2, .tuple [d1, d2] ∈ ds → f (.tuple [d1, d2]) = true → ∀ v1 v2 h', Ex h h' → Dn X.K h' v1 d1 → Dn X.K h' v2 d2 → ∀ (s : Shared) (H : Hp) (C : Addr) (cl : List (Str × Addr)) (fp : List Addr), Ev (Bk X scope s H C cl fp) elt ((((σ.set n2 none).set n none).set n (some v1)).set n2 (some v2)) h' (m (.tuple [d1, d2])))
    (hs : ∀ x, foldedSetIterable iter X.env x = pure x := by intro _; rfl) :
    Ev X (.ListComp elt [⟨.Tuple [.Name x px, .Name x2 px2] kk pt, iter, ifs, 0⟩] scope pos) σ h (.list ((ds.filter f).map m)) := fun H y Q q =>
  .of (pe_lc (own := [(x, n), (x2, n2)]) (g := gTup X.K 2 (gCons (gName n) (gCons (gName n2) gNil))) (tt := BTs X scope ifs) (te := BE X scope elt) hc hN WI.pi ok hg (fun s H C cl fp => ⟨fun pins s' σ H' Q I h => (h s H C cl fp).run pins s' I⟩) (fun s H C cl fp => ⟨fun pins s' σ H' Q I h => (h s H C cl fp).run pins s' I⟩) hs)
    (zi H y _ fun J g H1 r1 w D nD => lc_data (vs := [n, n2]) w nD r1.c hl f m (fun d hd v g2 H2 C e1 e2 z k => by
        obtain ⟨d1, d2, rfl⟩ := hp d hd
        cases z with
        | tup s t =>
          cases t with
          | cons z1 t =>
            cases t with
            | cons z2 t =>
              cases t
              rename_i ad v1 v2
              refine ⟨ad, [v1, v2], rfl, Evl.ex_t e2 s, rfl, v1, [v2], rfl, v2, [], rfl, rfl, k _ ?_ (fun H3 e3 Q q s H0 C cl fp => zt d1 d2 hd v1 v2 g2 (r1.b.trans e1) z1 z2 s H0 C cl fp H3 e3 Q q) fun hf H3 e3 Q q s H0 C cl fp => ze d1 d2 hd hf v1 v2 g2 (r1.b.trans e1) z1 z2 s H0 C cl fp H3 e3 Q q⟩
              show ((((((σ.set n2 none).set n none).set n (some v1)).set n2 (some v2)).set n2 none).set n none) = (σ.set n2 none).set n none
              rw [List.set_set, List.set_set, List.set_comm _ _ hne, List.set_set, List.set_set])
      fun g2 H2 acc r2 n2 hD hA => lc_end r1 nD r2 n2 hD hA q)
end
end Sk

namespace Sk
open PySem PySem.Spec PyProof.Rows L2
open Evl (Ex)
theorem Rs.back {h H H1 g H' : Hp} (e : Ex H H1) (r : Rs h H1 g H') : Rs h H g H' := ⟨e.trans r.a, r.b, r.c, fun q o w => (r.s q o w).imp id (Evl.fresh_back e)⟩
/-- a block that hands back a datum, leaving what stood -/
def Rt (X : Cx) (b : List Stmt) (σ : L2.St) (h : Hp) (d : PyData) : Prop :=
  ∀ H, Ex h H → ∀ D : Ends, (∀ v g H', Rs h H g H' → Dn X.K g v d → D.rt v H') → WS X b D σ H
/-- a block that runs through with the slots as they were -/
def Ps (X : Cx) (b : List Stmt) (σ : L2.St) (h : Hp) : Prop :=
  ∀ H, Ex h H → ∀ D : Ends, (∀ H', Ex H H' → D.nx σ H') → WS X b D σ H
theorem set_self {α : Type} : ∀ {l : List α} {n : Nat} {w : α}, l[n]? = some w → l.set n w = l
  | [], _, _, h => by cases h
  | x :: l, 0, w, h => by
    cases h
    rfl
  | x :: l, n + 1, w, h => by
    show x :: l.set n w = x :: l
    rw [set_self (l := l) (n := n) h]
section
variable {X : Cx} {tg a b c e iter elt : Expr} {es : List Expr} {σ : L2.St} {h h' : Hp} {d d1 : PyData} {pos p p' : Pos} {i j k : Int} {ds : List PyData} {rest sa sb : List Stmt}
theorem Rt.up (z : Rt X rest σ h d) (x : Ex h h') : Rt X rest σ h' d := fun H y D q => z H (x.trans y) D fun v g H' r w => q v _ H' (r.up x y) (w.ex (r.upIn y))
theorem rt_ret (z : Ev X e σ h d) : Rt X (.Return (some e) pos :: rest) σ h d := fun H y D q => .of (pss_cons (ps_ret WE.pe) pss_never) (z H y _ q)
theorem rt_if {t : Bool} (zc : EvT X c σ h t) (za : t = true → Rt X sa σ h d) (zb : t = false → Rt X rest σ h d) : Rt X (.If c sa [] pos :: rest) σ h d :=
  fun H y D q => .of (pss_cons (ps_if WT.pt WS.ps pss_nil) WS.ps) (zc H y _ fun H1 e1 => by
    cases t with
    | true => exact iteT (za rfl H1 (y.trans e1) _ fun v g H' r w => q v g H' (r.back e1) w)
    | false => exact iteF (zb rfl H1 (y.trans e1) _ fun v g H' r w => q v g H' (r.back e1) w))
theorem rt_asg {n : Nat} {x : Str} (hN : X.N.Nodup) (hi : X.N[n]? = some x) (hx : Loc X.env.scope x) (hs : swapsWith e (some (.Name x p)) pos.line X.env = pure false) (hf : X.fn x = true ∨ X.env.scope.names.lookup x = some .local)
    (z : Ev X e σ h d1) (k : ∀ v g, Ex h g → Dn X.K g v d1 → Rt X rest (σ.set n (some v)) g d) : Rt X (.Assign [.Name x p] e pos :: rest) σ h d :=
  fun H y D q => .of (pss_cons (ps_set hN hi hx WE.pe hs hf) WS.ps) (z H y _ fun v g H1 r1 z1 => k v g r1.b z1 H1 r1.c _ fun u g2 H2 r2 z2 => q u g2 H2 (r1.trans r2) z2)
/-- targets, one after another, of a tuple -/
theorem rt_unp {tgs : List Expr} {m n : Nat} {t : TGs} (hc : X.calm = true) (hg : PGs X tgs t) (hn : (assignEach tgs X.env).length = n) (hst : (assignEach tgs X.env).findIdx? (·.1) = none) (hs : swapsWithSole [.Tuple tgs m p] e pos.line X.env = pure false) (hw : swappedStores [.Tuple tgs m p] e X.env = pure none)
    (z : Ev X e σ h (.tuple ds)) (hl : ds.length = n) (k : ∀ vs g, Ex h g → DnAll X.K g vs ds → ∃ σ', (∀ H (Q : L2.St → Hp → Prop), Q σ' H → t vs σ H Q) ∧ Rt X rest σ' g d)
    (h1 : (assignEach [.Tuple tgs m p] X.env).map (·.2) = [assign (.Tuple tgs m p) X.env] := by rfl) : Rt X (.Assign [.Tuple tgs m p] e pos :: rest) σ h d :=
  fun H y D q => .of (pss_cons (ps_asg WE.pe (pg_tup hc hg hn hst) hs hw h1) WS.ps) (z H y _ fun v g H1 r1 z1 => by
    cases z1 with
    | tup s w =>
      obtain ⟨σ', h1, h2⟩ := k _ g r1.b w
      refine ⟨_, _, rfl, Evl.ex_t r1.c s, by rw [w.length]; exact hl, h1 H1 _ ?_⟩
      exact h2 H1 r1.c _ fun u g2 H2 r2 z2 => q u g2 H2 (r1.trans r2) z2)
theorem ps_nil : Ps X [] σ h := fun H y D q => .of pss_nil (q H (Evl.Ex.refl H))
theorem ps_ifN {t : Bool} (zc : EvT X c σ h t) (ht : t = false) (zb : Ps X rest σ h) : Ps X (.If c sa [] pos :: rest) σ h :=
  fun H y D q => .of (pss_cons (ps_if WT.pt pss_never pss_nil) WS.ps) (zc H y _ fun H1 e1 => by
    subst ht
    exact iteF (zb H1 (y.trans e1) _ fun H2 e2 => q H2 (e1.trans e2)))
/-- for x, y in iter: a body that runs through -/
theorem rt_forP {x x2 : Str} {n n2 kk : Nat} {px px2 pt : Pos} (hp : PassesOwn (model X.prog X.w) X.A X.env X.xe) (hc : X.calm = true) (hg : PG X (.Tuple [.Name x px, .Name x2 px2] kk pt) (gTup X.K 2 (gCons (gName n) (gCons (gName n2) gNil)))) (hne : n ≠ n2)
    (zi : EvI X (.Tuple [.Name x px, .Name x2 px2] kk pt) iter σ h ds) (hd : ∀ d ∈ ds, ∃ d1 d2, d = .tuple [d1, d2])
    (zb : ∀ d1 d2, .tuple [d1, d2] ∈ ds → ∀ v1 v2 h', Ex h h' → Dn X.K h' v1 d1 → Dn X.K h' v2 d2 → Ps X sa ((σ.set n (some v1)).set n2 (some v2)) h')
    (zr : ∀ w1 w2, Rt X rest ((σ.set n w1).set n2 w2) h d) (hn1 : ∃ w, σ[n]? = some w) (hn2 : ∃ w, σ[n2]? = some w)
    (hs : ∀ x, foldedSetIterable iter X.env x = pure x := by intro _; rfl) : Rt X (.For (.Tuple [.Name x px, .Name x2 px2] kk pt) iter sa [] pos :: rest) σ h d := fun H y D q => by
  refine .of (pss_cons (ps_for hp hc WI.pi hg WS.ps hs) WS.ps) (zi H y _ fun J g H1 r1 w => ?_)
  refine for_it w (fun i σ' H' => Ex H1 H' ∧ ∃ w1 w2, σ' = (σ.set n w1).set n2 w2) ⟨Evl.Ex.refl H1, ?_⟩ (fun i σ' H' _ p => r1.c.trans p.1) (fun i v σ' H' H2 hi p yy => ?_) fun σ' H' p => ?_
  · obtain ⟨w1, e1⟩ := hn1
    obtain ⟨w2, e2⟩ := hn2
    refine ⟨w1, w2, ?_⟩
    rw [set_self e1, set_self e2]
  · obtain ⟨e, w1, w2, rfl⟩ := p
    obtain ⟨d, g3, hdi, r3, z3⟩ := yy
    have hm := List.mem_of_getElem? hdi
    obtain ⟨d1, d2, rfl⟩ := hd d hm
    cases z3 with
    | tup s t =>
      cases t with
      | cons z1 t =>
        cases t with
        | cons z2 t =>
          cases t
          rename_i ad v1 v2
          refine ⟨ad, [v1, v2], rfl, Evl.ex_t r3.c s, rfl, v1, [v2], rfl, v2, [], rfl, rfl, ?_⟩
          have hset : ((((σ.set n w1).set n2 w2).set n (some v1)).set n2 (some v2)) = (σ.set n (some v1)).set n2 (some v2) := by
            rw [List.set_comm _ _ hne.symm, List.set_set, List.set_set]
          rw [hset]
          exact zb d1 d2 hm v1 v2 g3 (r1.b.trans r3.b) z1 z2 H2 r3.c _ fun H4 e4 => ⟨e.trans (r3.a.trans e4), _, _, rfl⟩
  · obtain ⟨e, w1, w2, rfl⟩ := p
    exact zr w1 w2 H' ((y.trans r1.a).trans e) _ fun v g2 H2 r2 z2 => q v g2 H2 (r2.back (r1.a.trans e)) z2
end
theorem dn1 {K : PySem.W.Frag} {h : Hp} {vs : List V} {d1 : PyData} (z : DnAll K h vs [d1]) : ∃ v1, vs = [v1] ∧ Dn K h v1 d1 := by
  cases z with
  | cons z1 z =>
    cases z
    exact ⟨_, rfl, z1⟩
theorem dn2 {K : PySem.W.Frag} {h : Hp} {vs : List V} {d1 d2 : PyData} (z : DnAll K h vs [d1, d2]) : ∃ v1 v2, vs = [v1, v2] ∧ Dn K h v1 d1 ∧ Dn K h v2 d2 := by
  cases z with
  | cons z1 z =>
    cases z with
    | cons z2 z =>
      cases z
      exact ⟨_, _, rfl, z1, z2⟩
theorem dn3 {K : PySem.W.Frag} {h : Hp} {vs : List V} {d1 d2 d3 : PyData} (z : DnAll K h vs [d1, d2, d3]) : ∃ v1 v2 v3, vs = [v1, v2, v3] ∧ Dn K h v1 d1 ∧ Dn K h v2 d2 ∧ Dn K h v3 d3 := by
  cases z with
  | cons z1 z =>
    cases z with
    | cons z2 z =>
      cases z with
      | cons z3 z =>
        cases z
        exact ⟨_, _, _, rfl, z1, z2, z3⟩
theorem dn4 {K : PySem.W.Frag} {h : Hp} {vs : List V} {d1 d2 d3 d4 : PyData} (z : DnAll K h vs [d1, d2, d3, d4]) : ∃ v1 v2 v3 v4, vs = [v1, v2, v3, v4] ∧ Dn K h v1 d1 ∧ Dn K h v2 d2 ∧ Dn K h v3 d3 ∧ Dn K h v4 d4 := by
  cases z with
  | cons z1 z =>
    cases z with
    | cons z2 z =>
      cases z with
      | cons z3 z =>
        cases z with
        | cons z4 z =>
          cases z
          exact ⟨_, _, _, _, rfl, z1, z2, z3, z4⟩
theorem dn5 {K : PySem.W.Frag} {h : Hp} {vs : List V} {d1 d2 d3 d4 d5 : PyData} (z : DnAll K h vs [d1, d2, d3, d4, d5]) : ∃ v1 v2 v3 v4 v5, vs = [v1, v2, v3, v4, v5] ∧ Dn K h v1 d1 ∧ Dn K h v2 d2 ∧ Dn K h v3 d3 ∧ Dn K h v4 d4 ∧ Dn K h v5 d5 := by
  cases z with
  | cons z1 z =>
    cases z with
    | cons z2 z =>
      cases z with
      | cons z3 z =>
        cases z with
        | cons z4 z =>
          cases z with
          | cons z5 z =>
            cases z
            exact ⟨_, _, _, _, _, rfl, z1, z2, z3, z4, z5⟩
theorem dn6 {K : PySem.W.Frag} {h : Hp} {vs : List V} {d1 d2 d3 d4 d5 d6 : PyData} (z : DnAll K h vs [d1, d2, d3, d4, d5, d6]) : ∃ v1 v2 v3 v4 v5 v6, vs = [v1, v2, v3, v4, v5, v6] ∧ Dn K h v1 d1 ∧ Dn K h v2 d2 ∧ Dn K h v3 d3 ∧ Dn K h v4 d4 ∧ Dn K h v5 d5 ∧ Dn K h v6 d6 := by
  cases z with
  | cons z1 z =>
    cases z with
    | cons z2 z =>
      cases z with
      | cons z3 z =>
        cases z with
        | cons z4 z =>
          cases z with
          | cons z5 z =>
            cases z with
            | cons z6 z =>
              cases z
              exact ⟨_, _, _, _, _, _, rfl, z1, z2, z3, z4, z5, z6⟩
/-! a def -/
section
variable {P : Program} {w : World} {K : PySem.W.Frag} {mg : Str → Option Value} {base : Heap}
abbrev Cf (P : Program) (w : World) (K : PySem.W.Frag) (mg : Str → Option Value) (base : Heap) (N : List Str) (x : Str) (st : Stmt) (f : Addr) (cdv : Value) (A : Around) (outer : List Env) (s : Shared) (H : Hp) (E : XK) : Cx :=
  (cxOf CX0 P w K mg base N x (defScope st) f cdv A outer s H E).nox
theorem FnD.mk' {x : Str} {st : Stmt} {N ps : List Str} {k : Nat} {F : List PyData → PyData → Prop} (a : At K mg x st) (S : FnScope N ps (defScope st))
    (hb : ∀ (kV doc pm : Value) (an : Option Addr) (cdv ct : Value) (us : List Value), us.length = ps.length → bindArgs (PySem.W.fnOf x x (defArgs st) (defBody st) (defScope st) .none kV doc pm an cdv ct) ⟨us, []⟩ = pure (ps.zip us))
    (len : ∀ ds d, F ds d → ds.length = ps.length)
    (body : ∀ (f : Addr) (cdv : Value) (A : Around) (outer : List Env) (s : Shared) (H : Hp) (E : XK) (h : Hp) (vs : List V) (ds : List PyData) (d : PyData), Room k (A.deeper (envOfC x (defScope st) s.heap.objs.size f cdv)) → DnAll K h vs ds → F ds d →
      Rt (Cf P w K mg base N x st f cdv A outer s H E) (defBody st) (start N vs) h d) : FnD P w K mg base (k + 1) x F := by
  obtain ⟨f, fd, Fu, hm⟩ := a.ex
  refine ⟨f, fd, ps, Fu.ok S (fun vs H Q E hh => ?_) (fun cdv A outer s H vs Q E hr hh => ?_), hm, Fu.kp, Fu.binds hb⟩
  · obtain ⟨h, ds, d, _, z, hF, _⟩ := hh
    rw [z.length]
    exact len ds d hF
  · obtain ⟨h, ds, d, e, z, hF, q⟩ := hh
    exact ⟨_, WS.ps, body f cdv A outer s H E h vs ds d hr z hF H e _ q⟩
theorem FnD.mono {j k : Nat} {x : Str} {F : List PyData → PyData → Prop} (G : FnD P w K mg base j x F) (h : j ≤ k) : FnD P w K mg base k x F := by
  obtain ⟨f, fd, ps, G, r⟩ := G.ex
  exact ⟨f, fd, ps, G.mono h, r⟩
end
end Sk

namespace Sk
open PySem PySem.Spec PyProof.Rows L2
open Evl (Ex)
/-! enumerate of anything that begins an iterator, from 0 -/
theorem enum_new1 {v : Value} {ob : Obj} {Hs : Heap → Prop} (B : Begins v ob Hs) :
    Meets (Builtin.«enumerate.__new__» ⟨[.type "enumerate", v], []⟩) (fun _ R s => Hs s.heap ∧
      R (.ok (.ret (.ref (s.heap.push ob).objs.size)))
        { s with heap := (s.heap.push ob).push { cls := .type "enumerate", data := .fields #[.none, .bool false, .ref s.heap.objs.size, rawInt 0, .none, .none] } }) :=
  Meets.of_wp fun prog w A R s hh => by
    obtain ⟨hp, gs, dr, tks, osx⟩ := s
    obtain ⟨hb, goal⟩ := hh
    have hsub := sub_enumerate
    have it1 : ∀ {A' : Around} {E' : Value → Shared → Prop} {Q' : Value → Shared → Prop},
        Q' (.ref hp.objs.size) ⟨hp.push ob, gs, dr, tks, osx⟩ → wpAny (model prog w) A' (pyIter v) Q' E' ⟨hp, gs, dr, tks, osx⟩ :=
      fun z => B.iter prog w _ _ ⟨hp, gs, dr, tks, osx⟩ _ hb z
    wp_walk using it1
    refine wpAny_stack_any fun _ => wpAny_pure ?_
    split
    · rename_i cc _ _ _ _ _
      cases (cc == Value.type "enumerate") <;> (wp_walk using it1; exact ⟨_, rfl, goal⟩)
    · wp_walk using it1
      exact ⟨_, rfl, goal⟩
theorem enum_call1 {prog : Program} {w : World} {A : Around} {E : Value → Shared → Prop} {s : Shared} {v : Value} {ob : Obj} {Hs : Heap → Prop} {Q : Value → Shared → Prop} (B : Begins v ob Hs) (hb : Hs s.heap)
    (k : ∀ h2, IsEnum h2 (s.heap.objs.size + 1) s.heap.objs.size 0 .none → h2.get? s.heap.objs.size = some ob →
      (∀ q u, s.heap.get? q = some u → h2.get? q = some u) → Q (.ref (s.heap.objs.size + 1)) { s with heap := h2 }) :
    wpAny (model prog w) A (call (.type "enumerate") [v]) Q E s := by
  refine callType_new F.called_enumerate (by decide) (F.typeCall_enumerate_1 _) (F.newCall_enumerate_1 _) (fun z => F.args_object_init_2 z _) F.entry_enumerate_new (enum_new1 B) ⟨hb, ?_⟩
  have sz : (s.heap.push ob).objs.size = s.heap.objs.size + 1 := Heap.size_push ..
  show _ ∧ _
  rw [sz]
  have en : IsEnum ((s.heap.push ob).push { cls := .type "enumerate", data := .fields #[.none, .bool false, .ref s.heap.objs.size, rawInt 0, .none, .none] }) (s.heap.objs.size + 1) s.heap.objs.size 0 .none := by
    have z := Heap.get?_push_size (s.heap.push ob) (o := { cls := .type "enumerate", data := .fields #[.none, .bool false, .ref s.heap.objs.size, rawInt 0, .none, .none] }) rfl
    rw [sz] at z
    exact z
  exact ⟨⟨_, en, rfl⟩, k _ en (Heap.get?_push_of_some _ (Heap.get?_push_size _ B.free)) fun q u z => Heap.get?_push_of_some _ (Heap.get?_push_of_some _ z)⟩
/-- the tuple at a, each item in a new pair with its number -/
def ItE (K : PySem.W.Frag) (a : Addr) : It where
  go := fun i H => ∃ (xs : List V) (x : V), SqT K H a xs ∧ xs[i]? = some x
  yld := fun i H v H' => ∃ T x, v = .ref T ∧ H T = none ∧ H' = upd H T (.tup [.int (i : Nat), x]) ∧ ∀ xs, SqT K H a xs → xs[i]? = some x
  stop := fun i H => ∃ xs : List V, SqT K H a xs ∧ xs.length = i
theorem turnE {P : Program} {w : World} {K : PySem.W.Frag} {elts : List Expr} {kk : Nat} {tpos : Pos} (a e it : Addr) :
    Turn P w K (.Tuple elts kk tpos) (ItE K a) [e, it] e (fun i h => (∃ old, IsEnum h e it ((i : Nat) : Int) old) ∧ h.IsTupleIter it a i ∧ e ≠ it ∧ a ≠ it ∧ e ≠ a) where
  mem := by simp
  obj := fun i h st b hb => by
    obtain ⟨⟨old, he⟩, ⟨o, ho, hc, hd⟩, _⟩ := st
    have cs : b = e ∨ b = it := by simpa using hb
    rcases cs with z | z
    · subst z
      exact ⟨_, he, fun v q => nomatch q⟩
    · subst z
      exact ⟨o, ho, fun v q => by
        rw [hd] at q
        cases q⟩
  keep := fun i h h' st k => by
    obtain ⟨⟨old, he⟩, hi, n1, n2, n3⟩ := st
    exact ⟨⟨old, k e (by simp) _ he⟩, hi.at fun o q => k it (by simp) o q, n1, n2, n3⟩
  item := by
    intro X hP hw hK hc i pins s σ H E I hf st hg
    subst hP hw hK
    obtain ⟨⟨old, he⟩, hit, n1, n2, n3⟩ := st
    obtain ⟨xs, x, hq, hx⟩ := hg
    obtain ⟨its, rv, p, _⟩ := I.tuple hq
    obtain ⟨u, hu, ru⟩ := rv.get hx
    have lt1 : e < s.heap.objs.size := Heap.lt_size he
    have lt2 : it < s.heap.objs.size := by
      obtain ⟨_, q, _⟩ := hit
      exact Heap.lt_size q
    have Dr := Draws.tuple (prog := X.prog) (w := X.w) (A := X.A.in1) (I.ok.hd hc) it a n2 its.toArray
    have li : i < its.toArray.size := by
      have z := (List.getElem?_eq_some_iff.mp hu).1
      simpa using z
    refine wpAny_pyNext_enum_itemC Dr he ⟨hit, p⟩ li n1 (by simp [n1, n3]) fun x' h' tk hP ho st' hT _ hk => ?_
    have ex : x' = u := by
      have z : its[i]? = some x' := by simpa using hP
      rw [hu] at z
      exact (Option.some.inj z).symm
    subst ex
    refine ⟨_, rfl, wpAny_letOwnedTupleGo_enum (s := { s with heap := h', toks := tk + 1 }) ho fun h2 he2 sb => ?_⟩
    have hT2 : h2.get? s.heap.objs.size = some { cls := .type "tuple", data := .seq #[.int i tk, x'] } := (sb.2 _ (Nat.ne_of_gt lt1)).trans hT
    have new : ObjOk X.prog X.w (upd H s.heap.objs.size (.tup [.int (i : Nat), x])) h2 s.heap.objs.size (.tup [.int (i : Nat), x]) :=
      ⟨by show 2 ≤ sizeLine; decide, [.int i tk, x'], .cons ⟨_, rfl⟩ (.cons ru .nil), ⟨_, hT2, rfl, _, rfl⟩⟩
    have I1 : Inv X pins σ (upd H s.heap.objs.size (.tup [.int (i : Nat), x])) { s with heap := h2, toks := tk + 1 } :=
      I.turnedNew (ch := [e, it]) (fun b ob hb q => (sb.2 b (fun z => hb (by simp [z]))).trans (hk b ob (fun z => hb (by simp [z])) (fun z => hb (by simp [z])) q)) hf (Nat.le_refl _) new
    refine ⟨.ref s.heap.objs.size, _, I1, rfl, ⟨_, x, rfl, I.hok.fresh (Nat.le_refl _), rfl, fun ys hy => ?_⟩, ⟨⟨x', ?_⟩, st'.1.at fun o q => (sb.2 it (Ne.symm n1)).trans q, n1, n2, n3⟩, fun b hb => ?_⟩
    · rw [I.tuple_inj hy hq]
      exact hx
    · have e1 : ((i + 1 : Nat) : Int) = (i : Int) + 1 := by omega
      rw [e1]
      exact he2
    · have cs : b = e ∨ b = it := by simpa using hb
      have lb : b < s.heap.objs.size := by
        rcases cs with z | z
        · rw [z]
          exact lt1
        · rw [z]
          exact lt2
      rw [upd_ne (Nat.ne_of_lt lb)]
      exact (hf b hb).1
  done := by
    intro X hP hw hK hc i pins s σ H E I hf st hg
    subst hP hw hK
    obtain ⟨⟨old, he⟩, hit, n1, n2, n3⟩ := st
    obtain ⟨xs, hq, hx⟩ := hg
    obtain ⟨its, rv, p, _⟩ := I.tuple hq
    obtain ⟨f0, f1, f2, f3, f4, f5⟩ := hf it (by simp)
    have hl := rv.length
    have Dr := Draws.tuple (prog := X.prog) (w := X.w) (A := X.A.in1) (I.ok.hd hc) it a n2 its.toArray
    have hi : i = its.toArray.size := by
      simp only [List.size_toArray]
      omega
    rw [hi] at hit
    exact wpAny_pyNext_enum_endD Dr he ⟨hit, p⟩ fun h' eb => ⟨rfl, I.turned (t' := s.toks) (fun b o hb q => eb b o hb q) f0 f1 f3 f4 f5⟩
  self := fun A i s Q E st h => by
    obtain ⟨⟨_, he⟩, _⟩ := st
    exact wpAny_pyIter_enum he h
theorem pi_enumT {X : Cx} {e : Expr} {ta : TA} {p pos tpos : Pos} {elts : List Expr} {kk : Nat} (hg : Gl X "enumerate") (hm : X.mg "enumerate" = none) (ha : PA X [e] ta) (hs : starEach [e] X.env = [(false, eval e X.env)] := by rfl) :
    PI X (.Tuple elts kk tpos) (.Call (.Name "enumerate" p) [e] [] pos) (fun σ H R => ta σ H fun vs H1 => ∃ a xs, vs = [.ref a] ∧ SqT X.K H1 a xs ∧ R (ItE X.K a) H1) := by
  refine ⟨fun pins s σ H R I h => ?_⟩
  refine Call_ (ld_blt I hg hm boot_enumerate (PyProof.Rows.callWith_type1 (thn (ha.run pos pins s σ H _ I h) fun us s1 ⟨vs, H1, I1, r1, q1⟩ => ?_) hs rfl))
  obtain ⟨a, xs, rfl, hq, q⟩ := q1
  cases r1 with
  | cons r rr =>
    cases rr
    cases r
    obtain ⟨its, rv, tp, _⟩ := I1.tuple hq
    have la : a < s1.heap.objs.size := tp.lt
    refine enum_call1 (begins_tuple a its.toArray) tp fun h2 he ho hk => wpAny_pyIter_enum he ?_
    have I2 : Inv X pins σ H1 { s1 with heap := h2 } := I1.kept (t' := s1.toks) hk
    refine ⟨s1.heap.objs.size + 1, [s1.heap.objs.size + 1, s1.heap.objs.size], _, _, H1, rfl, I2, turnE a (s1.heap.objs.size + 1) s1.heap.objs.size, ⟨⟨.none, he⟩, ⟨_, ho, rfl, rfl⟩, Nat.succ_ne_self _, Nat.ne_of_lt la, Nat.ne_of_gt (Nat.lt_succ_of_lt la)⟩, fun b hb => ?_, q⟩
    have cs : b = s1.heap.objs.size + 1 ∨ b = s1.heap.objs.size := by simpa using hb
    have le : s1.heap.objs.size ≤ b := by
      rcases cs with z | z
      · rw [z]
        exact Nat.le_succ _
      · rw [z]
        exact Nat.le_refl _
    exact I1.fpOk le (I1.hok.fresh le)
section
variable {X : Cx} {a b : Expr} {σ : L2.St} {h : Hp} {pos p tpos : Pos} {ds es : List PyData} {elts : List Expr} {kk : Nat}
def numbered (ds : List PyData) : List PyData := ds.zipIdx.map fun q => .tuple [.int (q.2 : Nat), q.1]
theorem numbered_get {ds : List PyData} {i : Nat} {d : PyData} (hd : ds[i]? = some d) : (numbered ds)[i]? = some (.tuple [.int (i : Nat), d]) := by
  unfold numbered
  rw [List.getElem?_map, List.getElem?_zipIdx, hd]
  simp
theorem numbered_mem {ds : List PyData} {d1 d2 : PyData} (hd : .tuple [d1, d2] ∈ numbered ds) : d2 ∈ ds := by
  unfold numbered at hd
  obtain ⟨q, hq, e⟩ := List.mem_map.mp hd
  injection e with e
  injection e with _ e
  injection e with e _
  rw [← e]
  exact (List.mem_zipIdx_iff_getElem?.mp hq) |> List.mem_of_getElem?
theorem ei_enum (hg : Gl X "enumerate") (hm : X.mg "enumerate" = none) (z : Ev X a σ h (.tuple ds)) (hs : starEach [a] X.env = (false, eval a X.env) :: starEach [] X.env := by rfl) (hs2 : starEach [a] X.env = [(false, eval a X.env)] := by rfl) :
    EvI X (.Tuple elts kk tpos) (.Call (.Name "enumerate" p) [a] [] pos) σ h (numbered ds) := fun H y R q => .of (pi_enumT hg hm WA.pa hs2) ((ea_cons z ea_nil hs) H y _ fun vs g H1 r1 z1 => by
  cases z1 with
  | cons z1 z2 =>
    cases z2
    cases z1 with
    | tup s t =>
      rename_i ad xs
      refine ⟨ad, xs, rfl, Evl.ex_t r1.c s, q _ g H1 r1 ?_⟩
      have ln : (numbered ds).length = xs.length := by
        unfold numbered
        rw [List.length_map, List.length_zipIdx, t.length]
      rw [ln]
      refine ⟨fun i H' hi e => ⟨xs, xs[i], Evl.ex_t e s, by simp [hi]⟩, fun H' e => ⟨xs, Evl.ex_t e s, rfl⟩, fun i H' v H2 hi e yy => ?_⟩
      obtain ⟨T, x, rfl, nT, rfl, hx⟩ := yy
      obtain ⟨d, hd, hz⟩ := t.get (hx xs (Evl.ex_t e s))
      refine ⟨_, upd g T (.tup [.int (i : Nat), x]), numbered_get hd, .new e nT, .tup (Evl.st_of upd_same) (.cons (.int _) (.cons (hz.ex (Evl.Ex.new (Evl.fresh_back e nT))) .nil))⟩)
theorem ei_zip (hg : Gl X "zip") (hm : X.mg "zip" = none) (z : Ev X a σ h (.tuple ds)) (z2 : Ev X b σ h (.tuple es)) (hs : starEach [a, b] X.env = (false, eval a X.env) :: starEach [b] X.env := by rfl) (hs2 : starEach [b] X.env = (false, eval b X.env) :: starEach [] X.env := by rfl) (hpl : (backTo pos (starEach [b] X.env)).any (·.1) = false := by rfl) :
    EvI X (.Tuple elts kk tpos) (.Call (.Name "zip" p) [a, b] [] pos) σ h (List.zipWith (fun x y => .tuple [x, y]) ds es) := fun H y R q => .of (RZ.pi_zipA hg hm WA.pa hs hpl) ((ea_cons z (ea_cons z2 ea_nil hs2) hs) H y _ fun vs g H1 r1 z1 => by
  cases z1 with
  | cons z1 z3 =>
    cases z3 with
    | cons z3 z4 =>
      cases z4
      cases z1 with
      | tup s t =>
        cases z3 with
        | tup s2 t2 =>
          rename_i ad xs ad2 xs2
          refine ⟨ad, ad2, xs, xs2, rfl, .inr ⟨Evl.ex_t r1.c s, Evl.ex_t r1.c s2, q _ g H1 r1 ?_⟩⟩
          rw [List.length_zipWith, ← t.length, ← t2.length]
          refine ⟨fun i H' hi e => ⟨xs, xs2, xs[i]'(by omega), xs2[i]'(by omega), Evl.ex_t e s, Evl.ex_t e s2, by simp [show i < xs.length by omega], by simp [show i < xs2.length by omega]⟩, fun H' e => ⟨xs, xs2, Evl.ex_t e s, Evl.ex_t e s2, by omega⟩, fun i H' v H2 hi e yy => ?_⟩
          obtain ⟨T, x, x2, rfl, nT, rfl, hx, hx2⟩ := yy
          obtain ⟨d, hd, hz⟩ := t.get (hx xs (Evl.ex_t e s))
          obtain ⟨d2, hd2, hz2⟩ := t2.get (hx2 xs2 (Evl.ex_t e s2))
          refine ⟨.tuple [d, d2], upd g T (.tup [x, x2]), ?_, .new e nT, .tup (Evl.st_of upd_same) (.cons (hz.ex (Evl.Ex.new (Evl.fresh_back e nT))) (.cons (hz2.ex (Evl.Ex.new (Evl.fresh_back e nT))) .nil))⟩
          rw [List.getElem?_zipWith, hd, hd2])
end
end Sk

namespace Sk
open PySem PySem.Spec PyProof.Rows L2
open Evl (Ex)
/-! heaps with things that change: g what stays, R what may change -/
abbrev Rl := List (Addr × HO)
structure Sh (g : Hp) (R : Rl) (H : Hp) : Prop where
  ex : Ex g H
  at_ : ∀ q ∈ R, H q.1 = some q.2
  free : ∀ q ∈ R, g q.1 = none
  nd : (R.map (·.1)).Nodup
theorem Sh.rs {g g' H H' : Hp} {R : Rl} (s : Sh g R H) (r : Rs g H g' H') : Sh g' R H' := by
  refine ⟨r.c, fun q hq => r.a _ _ (s.at_ q hq), fun q hq => ?_, s.nd⟩
  cases e : g' q.1 with
  | none => rfl
  | some o =>
    rcases r.s _ _ e with z | z
    · rw [s.free q hq] at z
      cases z
    · rw [s.at_ q hq] at z
      cases z
theorem Sh.ext {g H H' : Hp} {R : Rl} (s : Sh g R H) (e : Ex H H') : Sh g R H' := ⟨s.ex.trans e, fun q hq => e _ _ (s.at_ q hq), s.free, s.nd⟩
theorem Sh.perm {g H : Hp} {R R' : Rl} (s : Sh g R H) (p : R.Perm R') : Sh g R' H :=
  ⟨s.ex, fun q hq => s.at_ q (p.mem_iff.mpr hq), fun q hq => s.free q (p.mem_iff.mpr hq), (p.map _).nodup_iff.mp s.nd⟩
theorem Sh.new {g H : Hp} {R : Rl} (s : Sh g R H) {p : Addr} {o : HO} (n : H p = none) : Sh g ((p, o) :: R) (upd H p o) :=
  ⟨s.ex.trans (Evl.Ex.new n), fun q hq => by
    rcases List.mem_cons.mp hq with rfl | hq
    · exact upd_same
    · exact Evl.Ex.new n _ _ (s.at_ q hq), fun q hq => by
    rcases List.mem_cons.mp hq with rfl | hq
    · exact Evl.fresh_back s.ex n
    · exact s.free q hq, by
    rw [List.map_cons, List.nodup_cons]
    refine ⟨fun hm => ?_, s.nd⟩
    obtain ⟨q, hq, e⟩ := List.mem_map.mp hm
    have z := s.at_ q hq
    rw [e, n] at z
    cases z⟩
/-- what may change no more becomes what stays -/
theorem Sh.keep {g H : Hp} {R : Rl} {p : Addr} {o : HO} (s : Sh g ((p, o) :: R) H) : Sh (upd g p o) R H ∧ Ex g (upd g p o) := by
  have n : g p = none := s.free _ (List.mem_cons_self ..)
  have nd := List.nodup_cons.mp s.nd
  refine ⟨⟨fun q u z => ?_, fun q hq => s.at_ q (List.mem_cons_of_mem _ hq), fun q hq => ?_, nd.2⟩, Evl.Ex.new n⟩
  · by_cases e : q = p
    · subst e
      rw [upd_same] at z
      rw [← z]
      exact s.at_ _ (List.mem_cons_self ..)
    · rw [upd_ne e] at z
      exact s.ex q u z
  · have ne : q.1 ≠ p := fun e => nd.1 (List.mem_map.mpr ⟨q, hq, e⟩)
    rw [upd_ne ne]
    exact s.free q (List.mem_cons_of_mem _ hq)
theorem mem_set_ne {α : Type} {l : List α} {k : Nat} {x y : α} (h : y ∈ l.set k x) : y = x ∨ ∃ j, j ≠ k ∧ l[j]? = some y := by
  obtain ⟨j, hj⟩ := List.getElem?_of_mem h
  by_cases e : j = k
  · subst e
    have lt : j < l.length := by
      have z := (List.getElem?_eq_some_iff.mp hj).1
      simpa using z
    rw [List.getElem?_set_self lt] at hj
    exact .inl (Option.some.inj hj).symm
  · rw [List.getElem?_set_ne (Ne.symm e)] at hj
    exact .inr ⟨j, e, hj⟩
theorem Sh.set {g H : Hp} {R : Rl} {k : Nat} {p : Addr} {o o' : HO} (s : Sh g R H) (h : R[k]? = some (p, o)) : Sh g (R.set k (p, o')) (upd H p o') := by
  have hm : (p, o) ∈ R := List.mem_of_getElem? h
  have np : g p = none := s.free _ hm
  have nd := s.nd
  have other : ∀ j q, j ≠ k → R[j]? = some q → q.1 ≠ p := fun j q hj hq e => by
    have a1 : (R.map (·.1))[j]? = some p := by
      rw [List.getElem?_map, hq]
      exact congrArg some e
    have a2 : (R.map (·.1))[k]? = some p := by
      rw [List.getElem?_map, h]
      rfl
    obtain ⟨l1, e1⟩ := List.getElem?_eq_some_iff.mp a1
    obtain ⟨l2, e2⟩ := List.getElem?_eq_some_iff.mp a2
    exact hj ((List.getElem_inj nd).mp (e1.trans e2.symm))
  refine ⟨Evl.Ex.mut s.ex np, fun q hq => ?_, fun q hq => ?_, ?_⟩
  · rcases mem_set_ne hq with rfl | ⟨j, hj, hq⟩
    · exact upd_same
    · rw [upd_ne (other j q hj hq)]
      exact s.at_ q (List.mem_of_getElem? hq)
  · rcases mem_set_ne hq with rfl | ⟨j, hj, hq⟩
    · exact np
    · exact s.free q (List.mem_of_getElem? hq)
  · rw [List.map_set]
    have : (R.map (·.1)).set k p = R.map (·.1) := set_self (by rw [List.getElem?_map, h]; rfl)
    rw [this]
    exact nd
theorem Sh.get {g H : Hp} {R : Rl} {k : Nat} {p : Addr} {o : HO} (s : Sh g R H) (h : R[k]? = some (p, o)) : H p = some o := s.at_ _ (List.mem_of_getElem? h)
/-! expressions, blocks over such heaps -/
def EH (X : Cx) (e : Expr) (σ : L2.St) (g : Hp) (R : Rl) (Kn : V → Hp → Rl → Prop) : Prop :=
  ∀ H, Sh g R H → WE X e σ H fun v H' => ∃ g' R', Sh g' R' H' ∧ Kn v g' R'
def TH (X : Cx) (e : Expr) (σ : L2.St) (g : Hp) (R : Rl) (Kn : Bool → Hp → Rl → Prop) : Prop :=
  ∀ H, Sh g R H → WT X e σ H fun v H' => ∃ g' R', Sh g' R' H' ∧ Kn v g' R'
def AH (X : Cx) (es : List Expr) (σ : L2.St) (g : Hp) (R : Rl) (Kn : List V → Hp → Rl → Prop) : Prop :=
  ∀ H, Sh g R H → WA X es σ H fun v H' => ∃ g' R', Sh g' R' H' ∧ Kn v g' R'
def BH (X : Cx) (b : List Stmt) (D : Ends) (σ : L2.St) (g : Hp) (R : Rl) : Prop := ∀ H, Sh g R H → WS X b D σ H
theorem WE.mono {X : Cx} {e : Expr} {σ : L2.St} {H : Hp} {Q Q' : VK} (h : WE X e σ H Q) (q : ∀ v H', Q v H' → Q' v H') : WE X e σ H Q' :=
  ⟨fun pins s I => thn (h.run pins s I) fun _ _ ⟨v, H', I', r, z⟩ => ⟨v, H', I', r, q v H' z⟩⟩
theorem WA.mono {X : Cx} {es : List Expr} {σ : L2.St} {H : Hp} {Q Q' : List V → Hp → Prop} (h : WA X es σ H Q) (q : ∀ v H', Q v H' → Q' v H') : WA X es σ H Q' :=
  ⟨fun pos pins s I => thn (h.run pos pins s I) fun _ _ ⟨v, H', I', r, z⟩ => ⟨v, H', I', r, q v H' z⟩⟩
theorem WT.mono {X : Cx} {e : Expr} {σ : L2.St} {H : Hp} {Q Q' : Bool → Hp → Prop} (h : WT X e σ H Q) (q : ∀ v H', Q v H' → Q' v H') : WT X e σ H Q' :=
  ⟨fun pins s I => thn (h.run pins s I) fun _ _ ⟨H', I', z⟩ => ⟨H', I', q _ H' z⟩⟩
theorem WS.mono {X : Cx} {b : List Stmt} {σ : L2.St} {H : Hp} {D D' : Ends} (h : WS X b D σ H) (n : ∀ σ H, D.nx σ H → D'.nx σ H) (r : ∀ v H, D.rt v H → D'.rt v H) (k : ∀ σ H, D.bk σ H → D'.bk σ H) (c : ∀ σ H, D.ct σ H → D'.ct σ H) : WS X b D' σ H := by
  refine ⟨fun pins s I => thn (h.run pins s I) fun f s' z => ?_⟩
  cases f with
  | next =>
    obtain ⟨σ', H', I', q⟩ := z
    exact ⟨σ', H', I', n _ _ q⟩
  | brk =>
    obtain ⟨σ', H', I', q⟩ := z
    exact ⟨σ', H', I', k _ _ q⟩
  | cont =>
    obtain ⟨σ', H', I', q⟩ := z
    exact ⟨σ', H', I', c _ _ q⟩
  | ret u =>
    obtain ⟨v, σ', H', I', w, q⟩ := z
    exact ⟨v, σ', H', I', w, r _ _ q⟩
section
variable {X : Cx} {tg a b c e iter elt : Expr} {es : List Expr} {σ : L2.St} {g : Hp} {R : Rl} {d : PyData} {pos p p' : Pos} {ds : List PyData} {rest sa sb : List Stmt} {Kn : V → Hp → Rl → Prop} {KA : List V → Hp → Rl → Prop} {KT : Bool → Hp → Rl → Prop} {D : Ends}
theorem eh_ev (z : Ev X e σ g d) (k : ∀ v g', Ex g g' → Dn X.K g' v d → Kn v g' R) : EH X e σ g R Kn := fun H s =>
  z H s.ex _ fun v g' H' r w => ⟨g', R, s.rs r, k v g' r.b w⟩
theorem eh_int {i : Int} (z : Ev X e σ g (.int i)) (k : Kn (.int i) g R) : EH X e σ g R Kn := fun H s =>
  z H s.ex _ fun v g' H' r w => by
    cases w
    exact ⟨g, R, s.ext r.a, k⟩
theorem eh_var {n : Nat} {x : Str} {v : V} (hN : X.N[n]? = some x) (hv : Vis X.env.scope x) (hs : σ[n]? = some (some v)) (k : Kn v g R) (hd : (x == ("__debug__" : Str)) = false := by decide) (hcd : (x == ("__classdict__" : Str)) = false := by decide) : EH X (.Name x pos) σ g R Kn := fun H s =>
  .of (pe_var hN hv hd hcd) ⟨v, hs, g, R, s, k⟩
theorem th_ev {t : Bool} (z : EvT X e σ g t) (k : KT t g R) : TH X e σ g R KT := fun H s =>
  z H s.ex _ fun H' r => ⟨g, R, s.ext r, k⟩
theorem eh_i2 {op : Operator} {C : Int → Int → Prop} {f : Int → Int → Int} (ho : OpR X (binaryOp op) (rI C fun i j => .int (f i j))) (h : EH X a σ g R fun x g1 R1 => ∃ i, x = .int i ∧ EH X b σ g1 R1 fun y g2 R2 => ∃ j, y = .int j ∧ C i j ∧ Kn (.int (f i j)) g2 R2) : EH X (.BinOp a op b pos) σ g R Kn := fun H s =>
  .of (pe_op ho WE.pe WE.pe) (WE.mono (h H s) fun x H1 ⟨g1, R1, s1, i, e1, k1⟩ => WE.mono (k1 H1 s1) fun y H2 ⟨g2, R2, s2, j, e2, hc, k2⟩ => ⟨i, j, e1, e2, hc, g2, R2, s2, k2⟩)
theorem eh_i0 {op : Operator} {f : Int → Int → Int} (ho : OpR X (binaryOp op) (rI0 fun i j => .int (f i j))) (h : EH X a σ g R fun x g1 R1 => ∃ i, x = .int i ∧ EH X b σ g1 R1 fun y g2 R2 => ∃ j, y = .int j ∧ Kn (.int (f i j)) g2 R2) : EH X (.BinOp a op b pos) σ g R Kn := fun H s =>
  .of (pe_op ho WE.pe WE.pe) (WE.mono (h H s) fun x H1 ⟨g1, R1, s1, i, e1, k1⟩ => WE.mono (k1 H1 s1) fun y H2 ⟨g2, R2, s2, j, e2, k2⟩ => ⟨i, j, e1, e2, g2, R2, s2, k2⟩)
theorem th_i0 {op : CmpOp} {f : Int → Int → Bool} (ho : OpR X (compareOp op) (rI0 fun i j => .bl (f i j))) (hm : behindInMarks op b = false) (h : EH X a σ g R fun x g1 R1 => ∃ i, x = .int i ∧ EH X b σ g1 R1 fun y g2 R2 => ∃ j, y = .int j ∧ KT (f i j) g2 R2) : TH X (.Compare a [op] [b] pos) σ g R KT := fun H s =>
  .of (pt_cmpR ho WE.pe WE.pe hm) (WE.mono (h H s) fun x H1 ⟨g1, R1, s1, i, e1, k1⟩ => WE.mono (k1 H1 s1) fun y H2 ⟨g2, R2, s2, j, e2, k2⟩ => ⟨i, j, e1, e2, _, rfl, g2, R2, s2, k2⟩)
theorem th_eq (h : EH X a σ g R fun x g1 R1 => ∃ i, x = .int i ∧ EH X b σ g1 R1 fun y g2 R2 => ∃ j, y = .int j ∧ KT (decide (i = j)) g2 R2) : TH X (.Compare a [.Eq] [b] pos) σ g R KT := fun H s =>
  .of (pt_cmpR op_eq WE.pe WE.pe (nomark _)) (WE.mono (h H s) fun x H1 ⟨g1, R1, s1, i, e1, k1⟩ => WE.mono (k1 H1 s1) fun y H2 ⟨g2, R2, s2, j, e2, k2⟩ => by
    subst e1 e2
    refine ⟨rfl, _, rfl, g2, R2, s2, ?_⟩
    rw [show decide (V.int i = V.int j) = decide (i = j) from by simp]
    exact k2)
theorem eh_eq (h : EH X a σ g R fun x g1 R1 => ∃ i, x = .int i ∧ EH X b σ g1 R1 fun y g2 R2 => ∃ j, y = .int j ∧ Kn (.bl (decide (i = j))) g2 R2) : EH X (.Compare a [.Eq] [b] pos) σ g R Kn := fun H s =>
  .of (pe_cmpR op_eq WE.pe WE.pe (nomark _)) (WE.mono (h H s) fun x H1 ⟨g1, R1, s1, i, e1, k1⟩ => WE.mono (k1 H1 s1) fun y H2 ⟨g2, R2, s2, j, e2, k2⟩ => by
    subst e1 e2
    refine ⟨rfl, g2, R2, s2, ?_⟩
    rw [show decide (V.int i = V.int j) = decide (i = j) from by simp]
    exact k2)
theorem ah_nil (k : KA [] g R) : AH X [] σ g R KA := fun H s => .of pa_nil ⟨g, R, s, k⟩
theorem ah_cons (h : EH X e σ g R fun v g1 R1 => AH X es σ g1 R1 fun vs g2 R2 => KA (v :: vs) g2 R2) (hs : starEach (e :: es) X.env = (false, eval e X.env) :: starEach es X.env := by rfl) : AH X (e :: es) σ g R KA := fun H s =>
  .of (pa_cons WE.pe WA.pa hs) (WE.mono (h H s) fun v H1 ⟨g1, R1, s1, k1⟩ => WA.mono (k1 H1 s1) fun vs H2 ⟨g2, R2, s2, k2⟩ => ⟨g2, R2, s2, k2⟩)
theorem ah_ev (z : EvA X es σ g ds) (k : ∀ vs g', Ex g g' → DnAll X.K g' vs ds → KA vs g' R) : AH X es σ g R KA := fun H s =>
  z H s.ex _ fun v g' H' r w => ⟨g', R, s.rs r, k v g' r.b w⟩
theorem eh_tup {m : Nat} (h : AH X es σ g R fun vs g1 R1 => vs.length ≤ 100000 ∧ ∀ p, Ex g1 (upd g1 p (.tup vs)) → Kn (.ref p) (upd g1 p (.tup vs)) R1) : EH X (.Tuple es m pos) σ g R Kn := fun H s =>
  .of (pe_tup WA.pa) (WA.mono (h H s) fun vs H1 ⟨g1, R1, s1, hl, k1⟩ => ⟨Evl.sz_of hl, fun p np => by
    have q := (Sh.new (o := .tup vs) s1 np).keep
    exact ⟨_, R1, q.1, k1 p q.2⟩⟩)
theorem eh_lst (h : AH X es σ g R fun vs g1 R1 => vs.length ≤ 100000 ∧ ∀ p, Kn (.ref p) g1 ((p, .lst vs) :: R1)) : EH X (.List es pos) σ g R Kn := fun H s =>
  .of (pe_lst WA.pa) (WA.mono (h H s) fun vs H1 ⟨g1, R1, s1, hl, k1⟩ => ⟨Evl.sz_of hl, fun p np => ⟨g1, _, s1.new np, k1 p⟩⟩)
/-- an item of a list that may change -/
theorem eh_ixR (h : EH X a σ g R fun x g1 R1 => ∃ l, x = .ref l ∧ EH X b σ g1 R1 fun y g2 R2 => ∃ (k j : Nat) (vs : List V) (v : V), y = .int (j : Nat) ∧ R2[k]? = some (l, .lst vs) ∧ vs[j]? = some v ∧ Kn v g2 R2) (hs : PlainIx b) : EH X (.Subscript a b pos) σ g R Kn := fun H s =>
  .of (pe_ix ix_list WE.pe WE.pe hs) (WE.mono (h H s) fun x H1 ⟨g1, R1, s1, l, e1, k1⟩ => WE.mono (k1 H1 s1) fun y H2 ⟨g2, R2, s2, k, j, vs, v, e2, hk, hj, k2⟩ => ⟨l, vs, (j : Nat), v, e1, e2, Evl.sq_of (s2.get hk), atI_nat hj, g2, R2, s2, k2⟩)
/-- an item of a list that stays -/
theorem eh_ixL (h : EH X a σ g R fun x g1 R1 => ∃ l, x = .ref l ∧ EH X b σ g1 R1 fun y g2 R2 => ∃ (j : Nat) (vs : List V) (v : V), y = .int (j : Nat) ∧ SqL X.K g2 l vs ∧ vs[j]? = some v ∧ Kn v g2 R2) (hs : PlainIx b) : EH X (.Subscript a b pos) σ g R Kn := fun H s =>
  .of (pe_ix ix_list WE.pe WE.pe hs) (WE.mono (h H s) fun x H1 ⟨g1, R1, s1, l, e1, k1⟩ => WE.mono (k1 H1 s1) fun y H2 ⟨g2, R2, s2, j, vs, v, e2, hk, hj, k2⟩ => ⟨l, vs, (j : Nat), v, e1, e2, Evl.ex_l s2.ex hk, atI_nat hj, g2, R2, s2, k2⟩)
/-! blocks -/
theorem bh_nil (k : ∀ H, Sh g R H → D.nx σ H) : BH X [] D σ g R := fun H s => .of pss_nil (k H s)
theorem bh_asg {n : Nat} {x : Str} (hN : X.N.Nodup) (hi : X.N[n]? = some x) (hx : Loc X.env.scope x) (hs : swapsWith e (some (.Name x p)) pos.line X.env = pure false) (hf : X.fn x = true ∨ X.env.scope.names.lookup x = some .local)
    (h : EH X e σ g R fun v g1 R1 => BH X rest D (σ.set n (some v)) g1 R1) : BH X (.Assign [.Name x p] e pos :: rest) D σ g R := fun H s =>
  .of (pss_cons (ps_set hN hi hx WE.pe hs hf) WS.ps) (WE.mono (h H s) fun v H1 ⟨g1, R1, s1, k1⟩ => k1 H1 s1)
theorem bh_ret (h : EH X e σ g R fun v g1 R1 => ∀ H, Sh g1 R1 H → D.rt v H) : BH X (.Return (some e) pos :: rest) D σ g R := fun H s =>
  .of (pss_cons (ps_ret WE.pe) pss_never) (WE.mono (h H s) fun v H1 ⟨g1, R1, s1, k1⟩ => k1 H1 s1)
theorem bh_if (h : TH X c σ g R fun t g1 R1 => (t = true → BH X sa { D with nx := WS X rest D } σ g1 R1) ∧ (t = false → BH X sb { D with nx := WS X rest D } σ g1 R1)) : BH X (.If c sa sb pos :: rest) D σ g R := fun H s =>
  .of (pss_cons (ps_if WT.pt WS.ps WS.ps) WS.ps) (WT.mono (h H s) fun t H1 ⟨g1, R1, s1, k1, k2⟩ => by
    cases t with
    | true => exact iteT (k1 rfl H1 s1)
    | false => exact iteF (k2 rfl H1 s1))
theorem bh_ifr (h : TH X c σ g R fun t g1 R1 => (t = true → BH X sa { D with nx := WS X rest D } σ g1 R1) ∧ (t = false → BH X rest D σ g1 R1)) : BH X (.If c sa [] pos :: rest) D σ g R := fun H s =>
  .of (pss_cons (ps_if WT.pt WS.ps pss_nil) WS.ps) (WT.mono (h H s) fun t H1 ⟨g1, R1, s1, k1, k2⟩ => by
    cases t with
    | true => exact iteT (k1 rfl H1 s1)
    | false => exact iteF (k2 rfl H1 s1))
/-- x.append(e), x a list that may change -/
theorem bh_app {x : Expr} {pa : Pos} (h : EH X x σ g R fun y g1 R1 => ∃ l, y = .ref l ∧ (∃ (k : Nat) (vs : List V), R1[k]? = some (l, .lst vs)) ∧ EH X e σ g1 R1 fun v g2 R2 => ∃ (k : Nat) (vs : List V), R2[k]? = some (l, .lst vs) ∧ vs.length < 100000 ∧ BH X rest D σ g2 (R2.set k (l, .lst (vs ++ [v]))))
    (hbase : attributeBase x "append" X.env (eval x X.env) = eval x X.env := by rfl)
    (hfew : ((backTo p (starEach [e] X.env)).all (fun x => !x.1) && (backToKw p (keywordEach [] X.env)).all (fun x => x.1.isSome) && decide ([e].length + ([] : List Keyword).length + (if ([] : List Keyword).isEmpty then 0 else 1) < 30)) = true := by rfl)
    (hline : (pa.endLine == p.line) = true := by rfl) (hs : starEach [e] X.env = (false, eval e X.env) :: starEach [] X.env := by rfl) (hplain : (backTo p (starEach [] X.env)).any (·.1) = false := by rfl)
    (hsw : swapsWith (.Call (.Attribute x "append" pa) [e] [] p) none pos.line X.env = pure false := by rfl) : BH X (.Expr (.Call (.Attribute x "append" pa) [e] [] p) pos :: rest) D σ g R := fun H s =>
  .of (pss_cons (ps_expr (pe_bm PySem.F.plainAttrs_list PySem.F.slot_list_append PySem.F.type_list_append mt_append WE.pe (pa_cons WE.pe pa_nil hs) hbase hfew hline hs hplain) hsw) WS.ps)
    (WE.mono (h H s) fun y H1 ⟨g1, R1, s1, l, ey, ⟨k0, vs0, hk0⟩, k1⟩ => by
      subst ey
      refine ⟨Or.inl ⟨rfl, vs0, Evl.sq_of (s1.get hk0)⟩, WE.mono (k1 H1 s1) fun v H2 ⟨g2, R2, s2, k, vs, hk, hl, kb⟩ => ?_⟩
      exact ⟨l, vs, v, rfl, rfl, s2.get hk, Evl.sz_lt hl, kb _ (s2.set hk)⟩)
/-- l[j] = e, l a list that may change -/
theorem bh_seti {x : Expr} {pa : Pos} (h : EH X e σ g R fun v g1 R1 => EH X x σ g1 R1 fun y g2 R2 => EH X b σ g2 R2 fun z g3 R3 => ∃ (l : Addr) (j k : Nat) (vs : List V), y = .ref l ∧ z = .int (j : Nat) ∧ R3[k]? = some (l, .lst vs) ∧ j < vs.length ∧ BH X rest D σ g3 (R3.set k (l, .lst (vs.set j v))))
    (ha : ∀ v, assign (.Subscript x b pa) X.env v = (do
      let ov ← holding [v] (eval x X.env)
      let iv ← holding [v, ov] (eval b X.env)
      standAt pa
      holding [v, ov, iv] (setItem ov iv v)
      release [v, ov, iv] []) := by intro _; rfl)
    (hs : swapsWithSole [.Subscript x b pa] e pos.line X.env = pure false := by rfl) (hw : swappedStores [.Subscript x b pa] e X.env = pure none := by rfl) (h1 : (assignEach [.Subscript x b pa] X.env).map (·.2) = [assign (.Subscript x b pa) X.env] := by rfl) :
    BH X (.Assign [.Subscript x b pa] e pos :: rest) D σ g R := fun H s =>
  .of (pss_cons (ps_asg WE.pe (pg_sub WE.pe WE.pe set_list ha) hs hw h1) WS.ps)
    (WE.mono (h H s) fun v H1 ⟨g1, R1, s1, k1⟩ => WE.mono (k1 H1 s1) fun y H2 ⟨g2, R2, s2, k2⟩ => WE.mono (k2 H2 s2) fun z H3 ⟨g3, R3, s3, l, j, k, vs, ey, ez, hk, hj, kb⟩ => by
      subst ey ez
      exact ⟨l, vs, (j : Nat), j, rfl, rfl, s3.get hk, Evl.ixN_nat hj, kb _ (s3.set hk)⟩)
/-! loops -/
/-- for target in iter: I by the turn, the slots, what stays and what may change; tgt makes the slots -/
theorem bh_for {tgg : TG} (hp : PassesOwn (model X.prog X.w) X.A X.env X.xe) (hc : X.calm = true) (hg : PG X tg tgg) (zi : EvI X tg iter σ g ds) (I : Nat → L2.St → Hp → Rl → Prop)
    (h0 : ∀ g', Ex g g' → I 0 σ g' R)
    (turn : ∀ i d σ' g' R', ds[i]? = some d → Ex g g' → I i σ' g' R' → ∀ v g2, Ex g' g2 → Dn X.K g2 v d → ∀ H, Sh g2 R' H → tgg v σ' H fun σ2 H2 => H2 = H ∧ BH X sa { D with nx := fun σ3 H3 => ∃ g3 R3, Ex g' g3 ∧ Sh g3 R3 H3 ∧ I (i + 1) σ3 g3 R3, ct := fun σ3 H3 => ∃ g3 R3, Ex g' g3 ∧ Sh g3 R3 H3 ∧ I (i + 1) σ3 g3 R3, bk := WS X rest D } σ2 g2 R')
    (hd : ∀ σ' g' R', Ex g g' → I ds.length σ' g' R' → BH X rest D σ' g' R')
    (hm : ∀ v σ' H (Q Q' : L2.St → Hp → Prop), tgg v σ' H Q → (∀ σ2 H2, Q σ2 H2 → Q' σ2 H2) → tgg v σ' H Q')
    (hs : ∀ x, foldedSetIterable iter X.env x = pure x := by intro _; rfl) : BH X (.For tg iter sa [] pos :: rest) D σ g R := fun H s =>
  .of (pss_cons (ps_for hp hc WI.pi hg WS.ps hs) WS.ps) (zi H s.ex _ fun J g1 H1 r1 w => by
    refine for_it w (fun i σ' H' => ∃ g' R', Ex g1 g' ∧ Sh g' R' H' ∧ I i σ' g' R') ⟨g1, R, Evl.Ex.refl g1, s.rs r1, h0 g1 r1.b⟩ (fun i σ' H' _ ⟨g', R', e, s', _⟩ => e.trans s'.ex) (fun i v σ' H' H2 hi ⟨g', R', e, s', hI⟩ yy => ?_) fun σ' H' ⟨g', R', e, s', hI⟩ => hd σ' g' R' (r1.b.trans e) hI H' s'
    obtain ⟨d, g3, hdi, r3, z3⟩ := yy
    have r4 : Rs g' H' (un g' g3) H2 := r3.up e s'.ex
    have s4 : Sh (un g' g3) R' H2 := s'.rs r4
    refine hm _ _ _ _ _ (turn i d σ' g' R' hdi (r1.b.trans e) hI v (un g' g3) r4.b (z3.ex (r3.upIn s'.ex)) H2 s4) fun σ2 H3 ⟨e3, hb⟩ => ?_
    subst e3
    exact WS.mono (hb _ s4) (fun σ3 H3 ⟨g5, R5, e5, s5, i5⟩ => ⟨g5, R5, e.trans e5, s5, i5⟩) (fun _ _ z => z) (fun _ _ z => z) (fun σ3 H3 ⟨g5, R5, e5, s5, i5⟩ => ⟨g5, R5, e.trans e5, s5, i5⟩))
theorem gName_mono {n : Nat} : ∀ v σ' H (Q Q' : L2.St → Hp → Prop), gName n v σ' H Q → (∀ σ2 H2, Q σ2 H2 → Q' σ2 H2) → gName n v σ' H Q' := fun _ _ _ _ _ h q => q _ _ h
theorem gPair_mono {K : PySem.W.Frag} {n m : Nat} : ∀ v σ' H (Q Q' : L2.St → Hp → Prop), gTup K 2 (gCons (gName n) (gCons (gName m) gNil)) v σ' H Q → (∀ σ2 H2, Q σ2 H2 → Q' σ2 H2) → gTup K 2 (gCons (gName n) (gCons (gName m) gNil)) v σ' H Q' := fun v σ' H Q Q' h q => by
  obtain ⟨a, xs, e, hs, hl, x1, r1, e1, x2, r2, e2, e3, hq⟩ := h
  exact ⟨a, xs, e, hs, hl, x1, r1, e1, x2, r2, e2, e3, q _ _ hq⟩
/-- for x in iter -/
theorem bh_for1 {n : Nat} {x : Str} {px : Pos} (hp : PassesOwn (model X.prog X.w) X.A X.env X.xe) (hc : X.calm = true) (hg : PG X (.Name x px) (gName n)) (zi : EvI X (.Name x px) iter σ g ds) (I : Nat → L2.St → Hp → Rl → Prop)
    (h0 : ∀ g', Ex g g' → I 0 σ g' R)
    (turn : ∀ i d σ' g' R', ds[i]? = some d → Ex g g' → I i σ' g' R' → ∀ v g2, Ex g' g2 → Dn X.K g2 v d → BH X sa { D with nx := fun σ3 H3 => ∃ g3 R3, Ex g' g3 ∧ Sh g3 R3 H3 ∧ I (i + 1) σ3 g3 R3, ct := fun σ3 H3 => ∃ g3 R3, Ex g' g3 ∧ Sh g3 R3 H3 ∧ I (i + 1) σ3 g3 R3, bk := WS X rest D } (σ'.set n (some v)) g2 R')
    (hd : ∀ σ' g' R', Ex g g' → I ds.length σ' g' R' → BH X rest D σ' g' R')
    (hs : ∀ x, foldedSetIterable iter X.env x = pure x := by intro _; rfl) : BH X (.For (.Name x px) iter sa [] pos :: rest) D σ g R :=
  bh_for hp hc hg zi I h0 (fun i d σ' g' R' hdi e hI v g2 e2 z H s => ⟨rfl, turn i d σ' g' R' hdi e hI v g2 e2 z⟩) hd gName_mono hs
theorem eh_mono {Kn' : V → Hp → Rl → Prop} (h : EH X e σ g R Kn) (k : ∀ v g' R', Kn v g' R' → Kn' v g' R') : EH X e σ g R Kn' := fun H s => WE.mono (h H s) fun v H' ⟨g', R', s', z⟩ => ⟨g', R', s', k v g' R' z⟩
/-- the end of a turn -/
theorem bh_end {g0 : Hp} {I : L2.St → Hp → Rl → Prop} {rt : VK} {bk ct : L2.St → Hp → Prop} (e : Ex g0 g) (h : I σ g R) : BH X [] { nx := fun σ3 H3 => ∃ g3 R3, Ex g0 g3 ∧ Sh g3 R3 H3 ∧ I σ3 g3 R3, rt := rt, bk := bk, ct := ct } σ g R := bh_nil fun H s => ⟨g, R, e, s, h⟩
end
end Sk

namespace Sk
open PySem PySem.Spec PyProof.Rows L2
open Evl (Ex)
/-! the deck: a list of a list of digits, a list of cells, a count -/
structure Dk where
  p : Addr
  q : Addr
  r : Addr
  n : Int
  digs : List Int
  cells : List Int
def Dk.R (d : Dk) : Rl := [(d.p, .lst [.ref d.q, .ref d.r, .int d.n]), (d.q, .lst (d.digs.map V.int)), (d.r, .lst (d.cells.map V.int))]
def Dm : Int := 2147483629
structure Dk.Ok (d : Dk) : Prop where
  n0 : 0 ≤ d.n
  ne : d.cells ≠ []
  few : d.cells.length ≤ 64
  cell : ∀ c ∈ d.cells, 0 ≤ c ∧ c < Dm
  dig : ∀ c ∈ d.digs, 0 ≤ c ∧ c < Dm
structure Dk.To (c : Int) (d d' : Dk) : Prop where
  ep : d'.p = d.p
  eq : d'.q = d.q
  er : d'.r = d.r
  n : d'.n ≤ d.n + c
  ok : d'.Ok
theorem Dk.To.refl {d : Dk} (h : d.Ok) {c : Int} (hc : 0 ≤ c) : Dk.To c d d := ⟨rfl, rfl, rfl, by omega, h⟩
theorem Dk.To.trans {a b c : Dk} {m n k : Int} (x : Dk.To m a b) (y : Dk.To n b c) (h : m + n ≤ k) : Dk.To k a c :=
  ⟨y.ep.trans x.ep, y.eq.trans x.eq, y.er.trans x.er, by have := x.n; have := y.n; omega, y.ok⟩
def spK (K : PySem.W.Frag) (c : Int) (A : List PyData → Prop) (F : List PyData → PyData → Prop) : Sp := fun vs H Q _ =>
  ∃ g dk Fr ws ds, Sh g (Dk.R dk ++ Fr) H ∧ Dk.Ok dk ∧ dk.n + c ≤ 1000000000 ∧ vs = .ref dk.p :: ws ∧ DnAll K g ws ds ∧ A ds ∧
    ∀ v g' dk' H' d, Ex g g' → Sh g' (Dk.R dk' ++ Fr) H' → Dk.To c dk dk' → F ds d → Dn K g' v d → Q v H'
structure FnK (P : Program) (w : World) (K : PySem.W.Frag) (mg : Str → Option Value) (base : Heap) (k : Nat) (x : Str) (c : Int) (A : List PyData → Prop) (F : List PyData → PyData → Prop) : Prop where
  ex : ∃ f fd ps, FnOk P w K mg base CX0 k f fd ps (spK K c A F) ∧ mg x = some (.ref f) ∧ PySem.W.keepIn K (.ref f) = true ∧ Binds K fd ps []
theorem shp_ints : ∀ ns : List Int, PyData.canLayAll0 (ns.map PyData.int) = true ∧ PyData.depthAll (ns.map PyData.int) ≤ 1
  | [] => ⟨by simp [PyData.canLayAll0], by simp [PyData.depthAll]⟩
  | n :: r => by
    have ih := shp_ints r
    refine ⟨?_, ?_⟩
    · simp only [List.map_cons, PyData.canLayAll0, PyData.canLay0, Bool.true_and]
      exact ih.1
    · simp only [List.map_cons, PyData.depthAll, PyData.depth]
      have := ih.2
      omega
theorem shaped_ints (ns : List Int) : SeqAt.shaped (.list (ns.map PyData.int)) = true := by
  refine Bool.and_eq_true_iff.mpr ⟨?_, decide_eq_true ?_⟩
  · rw [PyData.canLay0]
    exact (shp_ints ns).1
  · rw [PyData.depth]
    have := (shp_ints ns).2
    omega
section
variable {X : Cx} {tg a b c e iter elt : Expr} {es : List Expr} {σ : L2.St} {g : Hp} {R Fr : Rl} {d : PyData} {pos p p' : Pos} {ds : List PyData} {rest sa sb : List Stmt} {Kn : V → Hp → Rl → Prop} {KA : List V → Hp → Rl → Prop} {KT : Bool → Hp → Rl → Prop} {D : Ends}
theorem eh_callK {n m : Nat} {x y : Str} {cc : Int} {A : List PyData → Prop} {F : List PyData → PyData → Prop} {dk : Dk} (G : FnK X.prog X.w X.K X.mg X.base n x cc A F) (hr : Room n X.A) (hg : Gl X x)
    (hN : X.N[m]? = some y) (hv : Vis X.env.scope y) (hs : σ[m]? = some (some (.ref dk.p))) (za : EvA X es σ g ds) (ok : dk.Ok) (hn : dk.n + cc ≤ 1000000000) (hA : A ds)
    (k : ∀ v g' dk' d, Ex g g' → Dk.To cc dk dk' → F ds d → Dn X.K g' v d → Kn v g' (Dk.R dk' ++ Fr))
    (hd : (y == ("__debug__" : Str)) = false := by decide) (hcd : (y == ("__classdict__" : Str)) = false := by decide)
    (hdb : (x == ("__debug__" : Str)) = false := by decide) (he : starEach (.Name y p' :: es) X.env = (false, eval (.Name y p') X.env) :: starEach es X.env := by rfl) (hpl : (backTo pos (starEach es X.env)).any (·.1) = false := by rfl) :
    EH X (.Call (.Name x p) (.Name y p' :: es) [] pos) σ g (Dk.R dk ++ Fr) Kn := fun H s => by
  obtain ⟨f, fd, ps, G, hm, hk, hb⟩ := G.ex
  refine .of (pe_call G hr hg hm hk hb .nil pass0 (pa_cons (pe_var hN hv hd hcd) WA.pa he) hdb he hpl) ⟨_, hs, za H s.ex _ fun ws g1 H1 r1 z1 => ?_⟩
  show spK X.K cc A F ((V.ref dk.p :: ws) ++ []) H1 _ _
  rw [List.append_nil]
  exact ⟨g1, dk, Fr, ws, ds, s.rs r1, ok, hn, rfl, z1, hA, fun v g2 dk2 H2 d2 e2 s2 t2 f2 z2 => ⟨g2, _, s2, k v g2 dk2 d2 (r1.b.trans e2) t2 f2 z2⟩⟩
/-- x != [], x a list of ints that may change -/
theorem th_neNil {p2 : Pos} (hu : X.A.units + 64 < cLine) (h : EH X a σ g R fun y g1 R1 => ∃ (l : Addr) (k : Nat) (ns : List Int), y = .ref l ∧ R1[k]? = some (l, .lst (ns.map V.int)) ∧ KT (!ns.isEmpty) g1 R1) : TH X (.Compare a [.NotEq] [.List [] p2] pos) σ g R KT := fun H s =>
  .of (pt_cmpR (op_neD hu) WE.pe (pe_lst pa_nil) (nomark _)) (WE.mono (h H s) fun y H1 ⟨g1, R1, s1, l, k, ns, e1, hk, k1⟩ => ⟨Nat.zero_le _, fun np nn => by
    subst e1
    have s2 := s1.ext (Evl.Ex.new (o := .lst []) nn)
    have dpi : ∀ (H : Hp) (ns : List Int), DpAll X.K H (ns.map V.int) (ns.map PyData.int) := fun H ns => by
      induction ns with
      | nil => exact .nil
      | cons n r ih => exact .cons (.int n) ih
    have shp : ∀ ns : List Int, SeqAt.shaped (.list (ns.map PyData.int)) = true := fun ns => shaped_ints ns
    refine ⟨.list (ns.map .int), .list [], .lst (SqL.of (s2.get hk)) (dpi _ ns), .lst (SqL.of upd_same) .nil, shp ns, by decide, _, rfl, g1, R1, s2, ?_⟩
    cases ns with
    | nil => exact k1
    | cons n r => exact k1⟩)
/-- len of a list that may change -/
theorem eh_lenR (hg : Gl X "len") (hm : X.mg "len" = none) (h : EH X a σ g R fun y g1 R1 => ∃ (l : Addr) (k : Nat) (vs : List V), y = .ref l ∧ R1[k]? = some (l, .lst vs) ∧ Kn (.int vs.length) g1 R1) (hs : starEach [a] X.env = (false, eval a X.env) :: starEach [] X.env := by rfl) (hpl : (backTo pos (starEach [] X.env)).any (·.1) = false := by rfl) :
    EH X (.Call (.Name "len" p) [a] [] pos) σ g R Kn := fun H s =>
  .of (pe_callB call_len_seq hg hm PySem.boot_len (pa_cons WE.pe pa_nil hs) (by decide) (by decide) hs hpl) (WE.mono (h H s) fun y H1 ⟨g1, R1, s1, l, k, vs, e1, hk, k1⟩ => ⟨l, vs, by rw [e1], .inl (SqL.of (s1.get hk)), g1, R1, s1, k1⟩)
/-- x.pop(0) -/
theorem eh_pop0 {m : Nat} {pa pz : Pos} (h : EH X a σ g R fun y g1 R1 => ∃ (l : Addr) (k : Nat) (v : V) (vs : List V), y = .ref l ∧ R1[k]? = some (l, .lst (v :: vs)) ∧ Kn v g1 (R1.set k (l, .lst vs)))
    (hbase : attributeBase a "pop" X.env (eval a X.env) = eval a X.env := by rfl)
    (hfew : ((backTo p (starEach [.Constant (.int 0) m pz] X.env)).all (fun x => !x.1) && (backToKw p (keywordEach [] X.env)).all (fun x => x.1.isSome) && decide ([Expr.Constant (.int 0) m pz].length + ([] : List Keyword).length + (if ([] : List Keyword).isEmpty then 0 else 1) < 30)) = true := by rfl)
    (hline : (pa.endLine == p.line) = true := by rfl) (hs : starEach [.Constant (.int 0) m pz] X.env = (false, eval (.Constant (.int 0) m pz) X.env) :: starEach [] X.env := by rfl) (hplain : (backTo p (starEach [] X.env)).any (·.1) = false := by rfl) :
    EH X (.Call (.Attribute a "pop" pa) [.Constant (.int 0) m pz] [] p) σ g R Kn := fun H s =>
  .of (pe_bm PySem.F.plainAttrs_list PySem.F.slot_list_pop PySem.F.type_list_pop mt_popAt WE.pe (pa_cons pe_int pa_nil hs) hbase hfew hline hs hplain)
    (WE.mono (h H s) fun y H1 ⟨g1, R1, s1, l, k, v, vs, e1, hk, k1⟩ => by
      subst e1
      refine ⟨Or.inl ⟨rfl, _, Evl.sq_of (s1.get hk)⟩, l, _, 0, 0, v, rfl, rfl, s1.get hk, by decide, by decide, ?_, rfl, g1, _, s1.set hk, k1⟩
      unfold seqIndex?
      simp)
end
/-! a def that draws -/
section
variable {P : Program} {w : World} {K : PySem.W.Frag} {mg : Str → Option Value} {base : Heap}
theorem FnK.mk' {x : Str} {st : Stmt} {N ps : List Str} {k : Nat} {c : Int} {A : List PyData → Prop} {F : List PyData → PyData → Prop} (a : At K mg x st) (S : FnScope N ps (defScope st))
    (hb : ∀ (kV doc pm : Value) (an : Option Addr) (cdv ct : Value) (us : List Value), us.length = ps.length → bindArgs (PySem.W.fnOf x x (defArgs st) (defBody st) (defScope st) .none kV doc pm an cdv ct) ⟨us, []⟩ = pure (ps.zip us))
    (len : ∀ ds, A ds → ds.length + 1 = ps.length)
    (body : ∀ (f : Addr) (cdv : Value) (Ar : Around) (outer : List Env) (s : Shared) (H : Hp) (E : XK) (g : Hp) (dk : Dk) (Fr : Rl) (ws : List V) (ds : List PyData) (D : Ends), Room k (Ar.deeper (envOfC x (defScope st) s.heap.objs.size f cdv)) → dk.Ok → dk.n + c ≤ 1000000000 → DnAll K g ws ds → A ds →
      (∀ v g' dk' d, Ex g g' → Dk.To c dk dk' → F ds d → Dn K g' v d → ∀ H, Sh g' (Dk.R dk' ++ Fr) H → D.rt v H) →
      BH (Cf P w K mg base N x st f cdv Ar outer s H E) (defBody st) D (start N (.ref dk.p :: ws)) g (Dk.R dk ++ Fr)) : FnK P w K mg base (k + 1) x c A F := by
  obtain ⟨f, fd, Fu, hm⟩ := a.ex
  refine ⟨f, fd, ps, Fu.ok S (fun vs H Q E hh => ?_) (fun cdv Ar outer s H vs Q E hr hh => ?_), hm, Fu.kp, Fu.binds hb⟩
  · obtain ⟨g, dk, Fr, ws, ds, _, _, _, rfl, z, hA, _⟩ := hh
    rw [List.length_cons, z.length]
    exact len ds hA
  · obtain ⟨g, dk, Fr, ws, ds, sh, ok, hn, rfl, z, hA, q⟩ := hh
    exact ⟨_, WS.ps, body f cdv Ar outer s H E g dk Fr ws ds _ hr ok hn z hA (fun v g' dk' d e t hF zz H' s' => q v g' dk' H' d e s' t hF zz) H sh⟩
theorem FnK.mono {j k : Nat} {x : Str} {c : Int} {A : List PyData → Prop} {F : List PyData → PyData → Prop} (G : FnK P w K mg base j x c A F) (h : j ≤ k) : FnK P w K mg base k x c A F := by
  obtain ⟨f, fd, ps, G, r⟩ := G.ex
  exact ⟨f, fd, ps, G.mono h, r⟩
end
end Sk

namespace Sk
open PySem PySem.Spec PyProof.Rows L2
open Evl (Ex)
theorem Sh.down {g g' H : Hp} {R : Rl} (s : Sh g' R H) (e : Ex g g') : Sh g R H := ⟨e.trans s.ex, s.at_, fun q hq => Evl.fresh_back e (s.free q hq), s.nd⟩
def drawn (m : Int) : List PyData → PyData → Prop := fun _ d => ∃ n : Int, d = .int n ∧ 0 ≤ n ∧ n < m
def noArg : List PyData → Prop := fun ds => ds = []
section
variable {X : Cx} {tg a b c e iter elt : Expr} {es : List Expr} {σ : L2.St} {g : Hp} {R Fr : Rl} {d : PyData} {pos p p' : Pos} {ds : List PyData} {rest sa sb : List Stmt} {Kn : V → Hp → Rl → Prop} {KA : List V → Hp → Rl → Prop} {KT : Bool → Hp → Rl → Prop} {D : Ends} {dk : Dk}
/-- a drawn number -/
theorem eh_next {n m : Nat} {y : Str} (G : FnK X.prog X.w X.K X.mg X.base n "_law_next" 1 noArg (drawn Dm)) (hr : Room n X.A) (hg : Gl X "_law_next")
    (hN : X.N[m]? = some y) (hv : Vis X.env.scope y) (hs : σ[m]? = some (some (.ref dk.p))) (ok : dk.Ok) (hn : dk.n + 1 ≤ 1000000000)
    (k : ∀ (j : Nat) dk', (j : Int) < Dm → Dk.To 1 dk dk' → Kn (.int (j : Nat)) g (Dk.R dk' ++ Fr))
    (hd : (y == ("__debug__" : Str)) = false := by decide) (hcd : (y == ("__classdict__" : Str)) = false := by decide)
    (he : starEach [.Name y p'] X.env = (false, eval (.Name y p') X.env) :: starEach [] X.env := by rfl) (hpl : (backTo pos (starEach [] X.env)).any (·.1) = false := by rfl) :
    EH X (.Call (.Name "_law_next" p) [.Name y p'] [] pos) σ g (Dk.R dk ++ Fr) Kn := fun H s => by
  refine WE.mono ((eh_callK (Kn := fun v g' R' => ∃ (j : Nat) (dk' : Dk), v = .int (j : Nat) ∧ (j : Int) < Dm ∧ Dk.To 1 dk dk' ∧ R' = Dk.R dk' ++ Fr ∧ Ex g g') G hr hg hN hv hs ea_nil ok hn rfl (fun v g' dk' d e t hF z => ?_) hd hcd (by decide) he hpl) H s) fun v H' ⟨g', R', s', j, dk', e1, h1, t, e2, e3⟩ => ?_
  · obtain ⟨j, rfl, j0, j1⟩ := hF
    cases z
    obtain ⟨i, rfl⟩ := Int.eq_ofNat_of_zero_le j0
    exact ⟨i, dk', rfl, j1, t, rfl, e⟩
  · subst e1 e2
    exact ⟨g, _, s'.down e3, k j dk' h1 t⟩
/-- an item of a written list by a drawn place -/
theorem eh_ixD (za : Ev X a σ g (.list ds)) (hb : ∀ g1, Ex g g1 → EH X b σ g1 R fun y g2 R2 => ∃ (j : Nat) (d : PyData), y = .int (j : Nat) ∧ Ex g1 g2 ∧ ds[j]? = some d ∧ ∀ v, Dn X.K g2 v d → Kn v g2 R2) (hs : PlainIx b) : EH X (.Subscript a b pos) σ g R Kn := fun H s =>
  .of (pe_ix ix_list WE.pe WE.pe hs) (za H s.ex _ fun v g1 H1 r1 z1 => WE.mono (hb g1 r1.b H1 (s.rs r1)) fun y H2 ⟨g2, R2, s2, j, d, e1, e2, hd, k⟩ => by
    subst e1
    cases z1 with
    | lst sq t =>
      obtain ⟨u, hu, z3⟩ := t.at hd
      exact ⟨_, _, _, u, rfl, rfl, Evl.ex_l (e2.trans s2.ex) sq, atI_nat hu, g2, R2, s2, k u (z3.ex e2)⟩)
theorem bh_perm {R' : Rl} (p : R.Perm R') (h : BH X rest D σ g R') : BH X rest D σ g R := fun H s => h H (s.perm p)
/-- x = [] beside the deck -/
theorem bh_newK {n : Nat} {x : Str} {p2 : Pos} (hN : X.N.Nodup) (hi : X.N[n]? = some x) (hx : Loc X.env.scope x) (hs : swapsWith (.List [] p2) (some (.Name x p)) pos.line X.env = pure false) (hf : X.fn x = true ∨ X.env.scope.names.lookup x = some .local)
    (h : ∀ l, BH X rest D (σ.set n (some (.ref l))) g (Dk.R dk ++ (l, .lst []) :: Fr)) : BH X (.Assign [.Name x p] (.List [] p2) pos :: rest) D σ g (Dk.R dk ++ Fr) :=
  bh_asg hN hi hx hs hf (eh_lst (ah_nil ⟨Nat.zero_le _, fun l => bh_perm List.perm_middle.symm (h l)⟩))
theorem bh_keepK {l : Addr} {o : HO} (h : Ex g (upd g l o) → BH X rest D σ (upd g l o) (Dk.R dk ++ Fr)) : BH X rest D σ g (Dk.R dk ++ (l, o) :: Fr) := fun H s => by
  have s2 := (s.perm List.perm_middle).keep
  exact h s2.2 H s2.1
theorem bh_keep {l : Addr} {o : HO} (h : Ex g (upd g l o) → BH X rest D σ (upd g l o) R) : BH X rest D σ g ((l, o) :: R) := fun H s => h s.keep.2 H s.keep.1
/-- x.append(e) beside the deck, the list is the first behind it -/
theorem bh_appK {n : Nat} {x : Str} {pa px : Pos} {l : Addr} {vs : List V} {F1 : Rl} {m : Nat} (hm : m = F1.length + 3) (hN : X.N[n]? = some x) (hv : Vis X.env.scope x) (hsl : σ[n]? = some (some (.ref l))) (hl : vs.length < 100000)
    (h : EH X e σ g (Dk.R dk ++ (F1 ++ (l, .lst vs) :: Fr)) fun v g2 R2 => ∃ dk', R2 = Dk.R dk' ++ (F1 ++ (l, .lst vs) :: Fr) ∧ BH X rest D σ g2 (Dk.R dk' ++ (F1 ++ (l, .lst (vs ++ [v])) :: Fr)))
    (hd : (x == ("__debug__" : Str)) = false := by decide) (hcd : (x == ("__classdict__" : Str)) = false := by decide)
    (hbase : attributeBase (.Name x px) "append" X.env (eval (.Name x px) X.env) = eval (.Name x px) X.env := by rfl)
    (hfew : ((backTo p (starEach [e] X.env)).all (fun x => !x.1) && (backToKw p (keywordEach [] X.env)).all (fun x => x.1.isSome) && decide ([e].length + ([] : List Keyword).length + (if ([] : List Keyword).isEmpty then 0 else 1) < 30)) = true := by rfl)
    (hline : (pa.endLine == p.line) = true := by rfl) (hs : starEach [e] X.env = (false, eval e X.env) :: starEach [] X.env := by rfl) (hplain : (backTo p (starEach [] X.env)).any (·.1) = false := by rfl)
    (hsw : swapsWith (.Call (.Attribute (.Name x px) "append" pa) [e] [] p) none pos.line X.env = pure false := by rfl) : BH X (.Expr (.Call (.Attribute (.Name x px) "append" pa) [e] [] p) pos :: rest) D σ g (Dk.R dk ++ (F1 ++ (l, .lst vs) :: Fr)) := by
  have at_ : ∀ dk : Dk, (Dk.R dk ++ (F1 ++ (l, .lst vs) :: Fr))[m]? = some (l, .lst vs) := fun dk => by
    rw [hm]
    show (F1 ++ (l, HO.lst vs) :: Fr)[F1.length]? = _
    rw [List.getElem?_append_right (Nat.le_refl _), Nat.sub_self]
    rfl
  have st_ : ∀ (dk : Dk) (o : HO), (Dk.R dk ++ (F1 ++ (l, .lst vs) :: Fr)).set m (l, o) = Dk.R dk ++ (F1 ++ (l, o) :: Fr) := fun dk o => by
    rw [hm]
    show _ :: _ :: _ :: (F1 ++ (l, HO.lst vs) :: Fr).set F1.length (l, o) = _
    rw [List.set_append_right _ _ (Nat.le_refl _), Nat.sub_self]
    rfl
  refine bh_app (eh_var hN hv hsl ⟨l, rfl, ⟨m, vs, at_ dk⟩, eh_mono h fun v g2 R2 ⟨dk', e2, hb⟩ => ⟨m, vs, ?_, hl, ?_⟩⟩ hd hcd) hbase hfew hline hs hplain hsw
  · rw [e2]
    exact at_ dk'
  · rw [e2, st_]
    exact hb
theorem ev_int1b {t : Bool} (hg : Gl X "int") (hm : X.mg "int" = none) (z : Ev X a σ g (.bool t)) (hs : starEach [a] X.env = (false, eval a X.env) :: starEach [] X.env := by rfl) (hpl : (backTo pos (starEach [] X.env)).any (·.1) = false := by rfl) :
    Ev X (.Call (.Name "int" p) [a] [] pos) σ g (.int (if t then 1 else 0)) :=
  ev_cty call_int1 hg hm (by decide +kernel) (ea_cons z ea_nil hs) (fun vs h H e r Q q => by
    cases r with
    | cons r1 r2 =>
      cases r2
      cases r1
      exact .inr ⟨t, rfl, q _ h H (.refl e) (.int _)⟩) (by decide) (by decide) hs hpl
end
end Sk

namespace Sk
open PySem PySem.Spec PyProof.Rows L2
open Evl (Ex)
/-! a def that changes things of its own alone -/
def spM (K : PySem.W.Frag) (A : List PyData → Prop) (F : List PyData → PyData → Prop) : Sp := fun vs H Q _ =>
  ∃ g R ds, Sh g R H ∧ DnAll K g vs ds ∧ A ds ∧ ∀ v g' H' d, Ex g g' → Sh g' R H' → F ds d → Dn K g' v d → Q v H'
structure FnM (P : Program) (w : World) (K : PySem.W.Frag) (mg : Str → Option Value) (base : Heap) (k : Nat) (x : Str) (A : List PyData → Prop) (F : List PyData → PyData → Prop) : Prop where
  ex : ∃ f fd ps, FnOk P w K mg base CX0 k f fd ps (spM K A F) ∧ mg x = some (.ref f) ∧ PySem.W.keepIn K (.ref f) = true ∧ Binds K fd ps []
section
variable {P : Program} {w : World} {K : PySem.W.Frag} {mg : Str → Option Value} {base : Heap}
theorem FnM.mk' {x : Str} {st : Stmt} {N ps : List Str} {k : Nat} {A : List PyData → Prop} {F : List PyData → PyData → Prop} (a : At K mg x st) (S : FnScope N ps (defScope st))
    (hb : ∀ (kV doc pm : Value) (an : Option Addr) (cdv ct : Value) (us : List Value), us.length = ps.length → bindArgs (PySem.W.fnOf x x (defArgs st) (defBody st) (defScope st) .none kV doc pm an cdv ct) ⟨us, []⟩ = pure (ps.zip us))
    (len : ∀ ds, A ds → ds.length = ps.length)
    (body : ∀ (f : Addr) (cdv : Value) (Ar : Around) (outer : List Env) (s : Shared) (H : Hp) (E : XK) (g : Hp) (R : Rl) (vs : List V) (ds : List PyData) (D : Ends), Room k (Ar.deeper (envOfC x (defScope st) s.heap.objs.size f cdv)) → DnAll K g vs ds → A ds →
      (∀ v g' d, Ex g g' → F ds d → Dn K g' v d → ∀ H, Sh g' R H → D.rt v H) → BH (Cf P w K mg base N x st f cdv Ar outer s H E) (defBody st) D (start N vs) g R) : FnM P w K mg base (k + 1) x A F := by
  obtain ⟨f, fd, Fu, hm⟩ := a.ex
  refine ⟨f, fd, ps, Fu.ok S (fun vs H Q E hh => ?_) (fun cdv Ar outer s H vs Q E hr hh => ?_), hm, Fu.kp, Fu.binds hb⟩
  · obtain ⟨g, R, ds, _, z, hA, _⟩ := hh
    rw [z.length]
    exact len ds hA
  · obtain ⟨g, R, ds, sh, z, hA, q⟩ := hh
    exact ⟨_, WS.ps, body f cdv Ar outer s H E g R vs ds _ hr z hA (fun v g' d e hF zz H' s' => q v g' H' d e s' hF zz) H sh⟩
end
section
variable {X : Cx} {tg a b c e iter elt : Expr} {es : List Expr} {σ : L2.St} {g h : Hp} {R Fr : Rl} {d : PyData} {pos p p' : Pos} {ds : List PyData} {rest sa sb : List Stmt} {Kn : V → Hp → Rl → Prop} {KA : List V → Hp → Rl → Prop} {KT : Bool → Hp → Rl → Prop} {D : Ends} {dk : Dk}
theorem eh_callM {n : Nat} {x : Str} {A : List PyData → Prop} {F : List PyData → PyData → Prop} (G : FnM X.prog X.w X.K X.mg X.base n x A F) (hr : Room n X.A) (hg : Gl X x) (za : EvA X (e :: es) σ g ds) (hA : A ds)
    (k : ∀ v g' d, Ex g g' → F ds d → Dn X.K g' v d → Kn v g' R)
    (hdb : (x == ("__debug__" : Str)) = false := by decide) (he : starEach (e :: es) X.env = (false, eval e X.env) :: starEach es X.env := by rfl) (hpl : (backTo pos (starEach es X.env)).any (·.1) = false := by rfl) :
    EH X (.Call (.Name x p) (e :: es) [] pos) σ g R Kn := fun H s => by
  obtain ⟨f, fd, ps, G, hm, hk, hb⟩ := G.ex
  refine .of (pe_call G hr hg hm hk hb .nil pass0 WA.pa hdb he hpl) (za H s.ex _ fun ws g1 H1 r1 z1 => ?_)
  show spM X.K A F (ws ++ []) H1 _ _
  rw [List.append_nil]
  exact ⟨g1, R, ds, s.rs r1, z1, hA, fun v g2 H2 d2 e2 s2 f2 z2 => ⟨g2, R, s2, k v g2 d2 (r1.b.trans e2) f2 z2⟩⟩
/-! tests -/
theorem th_and2 (h : TH X a σ g R fun t g1 R1 => (t = true → TH X b σ g1 R1 KT) ∧ (t = false → KT false g1 R1)) : TH X (.BoolOp .And [a, b] pos) σ g R KT := fun H s =>
  .of (PW.pt (pw_and WT.pt (pw_and1 WT.pt))) (WT.mono (h H s) fun t H1 ⟨g1, R1, s1, k1, k2⟩ => by
    cases t with
    | false => exact iteF ⟨g1, R1, s1, k2 rfl⟩
    | true => exact iteT (k1 rfl H1 s1))
theorem th_or2 (h : TH X a σ g R fun t g1 R1 => (t = false → TH X b σ g1 R1 KT) ∧ (t = true → KT true g1 R1)) : TH X (.BoolOp .Or [a, b] pos) σ g R KT := fun H s =>
  .of (PW.pt (pw_or WT.pt (pw_or1 WT.pt))) (WT.mono (h H s) fun t H1 ⟨g1, R1, s1, k1, k2⟩ => by
    cases t with
    | true => exact iteT ⟨g1, R1, s1, k2 rfl⟩
    | false => exact iteF (k1 rfl H1 s1))
theorem th_not (h : TH X a σ g R fun t g1 R1 => KT (!t) g1 R1) : TH X (.UnaryOp .Not a pos) σ g R KT := fun H s =>
  .of (pt_not WT.pt) (WT.mono (h H s) fun t H1 z => z)
theorem th_isN {m : Nat} {pz : Pos} (h : EH X a σ g R fun x g1 R1 => KT (decide (x = .non)) g1 R1) : TH X (.Compare a [.Is] [.Constant .none m pz] pos) σ g R KT := fun H s =>
  .of (pt_cmpR op_isN WE.pe pe_non (nomark _)) (WE.mono (h H s) fun x H1 ⟨g1, R1, s1, k1⟩ => ⟨rfl, _, rfl, g1, R1, s1, k1⟩)
theorem th_notN {m : Nat} {pz : Pos} (h : EH X a σ g R fun x g1 R1 => KT (!decide (x = .non)) g1 R1) : TH X (.Compare a [.IsNot] [.Constant .none m pz] pos) σ g R KT := fun H s =>
  .of (pt_cmpR op_notN WE.pe pe_non (nomark _)) (WE.mono (h H s) fun x H1 ⟨g1, R1, s1, k1⟩ => ⟨rfl, _, rfl, g1, R1, s1, k1⟩)
/-! enumerate of a list -/
theorem ei_enumL {elts : List Expr} {kk : Nat} {tpos : Pos} (hg : Gl X "enumerate") (hm : X.mg "enumerate" = none) (z : Ev X a σ h (.list ds)) (hs : starEach [a] X.env = (false, eval a X.env) :: starEach [] X.env := by rfl) (hs2 : starEach [a] X.env = [(false, eval a X.env)] := by rfl) :
    EvI X (.Tuple elts kk tpos) (.Call (.Name "enumerate" p) [a] [] pos) σ h (Sk.numbered ds) := fun H y R q => .of (pi_enum hg hm WA.pa hs2) ((ea_cons z ea_nil hs) H y _ fun vs g H1 r1 z1 => by
  cases z1 with
  | cons z1 z2 =>
    cases z2
    cases z1 with
    | lst s t =>
      rename_i ad xs
      refine ⟨ad, xs, rfl, Evl.ex_l r1.c s, q _ g H1 r1 ?_⟩
      have ln : (Sk.numbered ds).length = xs.length := by
        unfold Sk.numbered
        rw [List.length_map, List.length_zipIdx, t.length]
      rw [ln]
      refine (walk_enum (K := X.K) (a := ad) (xs := xs)).mono (fun H' e => Evl.ex_l e s) fun i H' v H2 hi e yy => ?_
      obtain ⟨T, x, x2, rfl, nT, rfl, e1, hx⟩ := yy
      cases e1
      obtain ⟨d, hd, hz⟩ := t.get hx
      exact ⟨_, upd g T (.tup [.int (i : Nat), x2]), numbered_get hd, .new e nT, .tup (Evl.st_of upd_same) (.cons (.int _) (.cons (hz.ex (Evl.Ex.new (Evl.fresh_back e nT))) .nil))⟩)
/-- for x, y in iter -/
theorem bh_for2 {n n2 kk : Nat} {x x2 : Str} {px px2 pt : Pos} (hp : PassesOwn (model X.prog X.w) X.A X.env X.xe) (hc : X.calm = true) (hg : PG X (.Tuple [.Name x px, .Name x2 px2] kk pt) (gTup X.K 2 (gCons (gName n) (gCons (gName n2) gNil)))) (zi : EvI X (.Tuple [.Name x px, .Name x2 px2] kk pt) iter σ g ds) (I : Nat → L2.St → Hp → Rl → Prop)
    (h0 : ∀ g', Ex g g' → I 0 σ g' R) (hp2 : ∀ d ∈ ds, ∃ d1 d2, d = .tuple [d1, d2])
    (turn : ∀ i d1 d2 σ' g' R', ds[i]? = some (.tuple [d1, d2]) → Ex g g' → I i σ' g' R' → ∀ v1 v2 g2, Ex g' g2 → Dn X.K g2 v1 d1 → Dn X.K g2 v2 d2 → BH X sa { D with nx := fun σ3 H3 => ∃ g3 R3, Ex g' g3 ∧ Sh g3 R3 H3 ∧ I (i + 1) σ3 g3 R3, ct := fun σ3 H3 => ∃ g3 R3, Ex g' g3 ∧ Sh g3 R3 H3 ∧ I (i + 1) σ3 g3 R3, bk := WS X rest D } ((σ'.set n (some v1)).set n2 (some v2)) g2 R')
    (hd : ∀ σ' g' R', Ex g g' → I ds.length σ' g' R' → BH X rest D σ' g' R')
    (hs : ∀ x, foldedSetIterable iter X.env x = pure x := by intro _; rfl) : BH X (.For (.Tuple [.Name x px, .Name x2 px2] kk pt) iter sa [] pos :: rest) D σ g R :=
  bh_for hp hc hg zi I h0 (fun i d σ' g' R' hdi e hI v g2 e2 z H s => by
    obtain ⟨d1, d2, rfl⟩ := hp2 d (List.mem_of_getElem? hdi)
    cases z with
    | tup sq t =>
      obtain ⟨v1, v2, rfl, z1, z2⟩ := dn2 t
      exact ⟨_, [v1, v2], rfl, Evl.ex_t s.ex sq, rfl, v1, [v2], rfl, v2, [], rfl, rfl, rfl, turn i d1 d2 σ' g' R' hdi e hI v1 v2 g2 e2 z1 z2⟩) hd gPair_mono hs
/-- for x, (y, z) in iter -/
theorem gNest_mono {K : PySem.W.Frag} {n m l : Nat} : ∀ v σ' H (Q Q' : L2.St → Hp → Prop), gTup K 2 (gCons (gName n) (gCons (gTup K 2 (gCons (gName m) (gCons (gName l) gNil))) gNil)) v σ' H Q → (∀ σ2 H2, Q σ2 H2 → Q' σ2 H2) → gTup K 2 (gCons (gName n) (gCons (gTup K 2 (gCons (gName m) (gCons (gName l) gNil))) gNil)) v σ' H Q' := fun v σ' H Q Q' h q => by
  obtain ⟨a, xs, e, hs, hl, x1, r1, e1, x2, r2, e2, b, ys, f, ht, hm, y1, q1, f1, y2, q2, f2, f3, e3, hq⟩ := h
  exact ⟨a, xs, e, hs, hl, x1, r1, e1, x2, r2, e2, b, ys, f, ht, hm, y1, q1, f1, y2, q2, f2, f3, e3, q _ _ hq⟩
theorem bh_for3 {n m l k1 k2 : Nat} {x y z : Str} {px py pz pt pu : Pos} (hp : PassesOwn (model X.prog X.w) X.A X.env X.xe) (hc : X.calm = true)
    (hg : PG X (.Tuple [.Name x px, .Tuple [.Name y py, .Name z pz] k1 pt] k2 pu) (gTup X.K 2 (gCons (gName n) (gCons (gTup X.K 2 (gCons (gName m) (gCons (gName l) gNil))) gNil)))) (zi : EvI X (.Tuple [.Name x px, .Tuple [.Name y py, .Name z pz] k1 pt] k2 pu) iter σ g ds) (I : Nat → L2.St → Hp → Rl → Prop)
    (h0 : ∀ g', Ex g g' → I 0 σ g' R) (hp2 : ∀ d ∈ ds, ∃ d1 d2 d3, d = .tuple [d1, .tuple [d2, d3]])
    (turn : ∀ i d1 d2 d3 σ' g' R', ds[i]? = some (.tuple [d1, .tuple [d2, d3]]) → Ex g g' → I i σ' g' R' → ∀ v1 v2 v3 g2, Ex g' g2 → Dn X.K g2 v1 d1 → Dn X.K g2 v2 d2 → Dn X.K g2 v3 d3 → BH X sa { D with nx := fun σ3 H3 => ∃ g3 R3, Ex g' g3 ∧ Sh g3 R3 H3 ∧ I (i + 1) σ3 g3 R3, ct := fun σ3 H3 => ∃ g3 R3, Ex g' g3 ∧ Sh g3 R3 H3 ∧ I (i + 1) σ3 g3 R3, bk := WS X rest D } (((σ'.set n (some v1)).set m (some v2)).set l (some v3)) g2 R')
    (hd : ∀ σ' g' R', Ex g g' → I ds.length σ' g' R' → BH X rest D σ' g' R')
    (hs : ∀ x, foldedSetIterable iter X.env x = pure x := by intro _; rfl) : BH X (.For (.Tuple [.Name x px, .Tuple [.Name y py, .Name z pz] k1 pt] k2 pu) iter sa [] pos :: rest) D σ g R :=
  bh_for hp hc hg zi I h0 (fun i d σ' g' R' hdi e hI v g2 e2 zv H s => by
    obtain ⟨d1, d2, d3, rfl⟩ := hp2 d (List.mem_of_getElem? hdi)
    cases zv with
    | tup sq t =>
      obtain ⟨v1, v2, rfl, z1, z2⟩ := dn2 t
      cases z2 with
      | tup sq2 t2 =>
        obtain ⟨u1, u2, rfl, y1, y2⟩ := dn2 t2
        exact ⟨_, _, rfl, Evl.ex_t s.ex sq, rfl, v1, _, rfl, _, [], rfl, _, [u1, u2], rfl, Evl.ex_t s.ex sq2, rfl, u1, [u2], rfl, u2, [], rfl, rfl, rfl, rfl, turn i d1 d2 d3 σ' g' R' hdi e hI v1 u1 u2 g2 e2 z1 y1 y2⟩) hd gNest_mono hs
/-- y = [elt for x in iter if ..]: a list that may change -/
theorem bh_setLc {i n : Nat} {y x : Str} {py px spos : Pos} {scope : Scope} {ifs : List Expr} (hc : X.calm = true) (hN : X.N.Nodup) (hy : X.N[i]? = some y) (hyl : X.env.scope.names.lookup y = some .local)
    (hsw : swapsWith (.ListComp elt [⟨.Name x px, iter, ifs, 0⟩] scope pos) (some (.Name y py)) spos.line X.env = pure true) (ok : BlkOk X.N X.env.scope scope [(x, n)])
    (hg : ∀ (s : Shared) (H : Hp) (C : Addr) (cl : List (Str × Addr)) (fp : List Addr), PG (Bk X scope s H C cl fp) (.Name x px) (gName n)) (zi : EvI X (.Name x px) iter σ g ds) (hl : ds.length ≤ 100000) (f : PyData → Bool) (m : PyData → PyData)
    (zt : ∀ d ∈ ds, ∀ v h', Ex g h' → Dn X.K h' v d → ∀ (s : Shared) (H : Hp) (C : Addr) (cl : List (Str × Addr)) (fp : List Addr), EvTs (Bk X scope s H C cl fp) ifs ((σ.set n none).set n (some v)) h' (f d))
    (ze : ∀ d ∈ ds, f d = true → ∀ v h', Ex g h' → Dn X.K h' v d → ∀ (s : Shared) (H : Hp) (C : Addr) (cl : List (Str × Addr)) (fp : List Addr), Ev (Bk X scope s H C cl fp) elt ((σ.set n none).set n (some v)) h' (m d))
    (k : ∀ l vs g', Ex g g' → DnAll X.K g' vs ((ds.filter f).map m) → BH X rest D (σ.set i (some (.ref l))) g' ((l, .lst vs) :: R))
    (hs : ∀ x, foldedSetIterable iter X.env x = pure x := by intro _; rfl) :
    BH X (.Assign [.Name y py] (.ListComp elt [⟨.Name x px, iter, ifs, 0⟩] scope pos) spos :: rest) D σ g R := fun H sh =>
  .of (pss_cons (ps_setLc (own := [(x, n)]) (g := gName n) (tt := BTs X scope ifs) (te := BE X scope elt) hc hN hy hyl hsw WI.pi ok hg (fun s H C cl fp => ⟨fun pins s' σ H' Q I h => (h s H C cl fp).run pins s' I⟩) (fun s H C cl fp => ⟨fun pins s' σ H' Q I h => (h s H C cl fp).run pins s' I⟩) hs) WS.ps)
    (zi H sh.ex _ fun J g1 H1 r1 w D1 nD => lc_data (vs := [n]) w nD r1.c hl f m (fun d hd v g2 H2 C e1 e2 z k => k _ (by
        show (((σ.set n none).set n (some v)).set n none) = σ.set n none
        rw [List.set_set, List.set_set]) (fun H3 e3 Q q s H0 C cl fp => zt d hd v g2 (r1.b.trans e1) z s H0 C cl fp H3 e3 Q q) fun hf H3 e3 Q q s H0 C cl fp => ze d hd hf v g2 (r1.b.trans e1) z s H0 C cl fp H3 e3 Q q)
      fun g2 H2 acc r2 n2 hD hA => by
        have s1 := sh.rs r1
        have s2 := s1.rs r2
        refine k D1 acc g2 (r1.b.trans r2.b) hA H2 ⟨s2.ex, fun q hq => ?_, fun q hq => ?_, ?_⟩
        · rcases List.mem_cons.mp hq with rfl | hq
          · exact hD
          · exact s2.at_ q hq
        · rcases List.mem_cons.mp hq with rfl | hq
          · exact n2
          · exact s2.free q hq
        · rw [List.map_cons, List.nodup_cons]
          refine ⟨fun hm => ?_, s2.nd⟩
          obtain ⟨q, hq, e⟩ := List.mem_map.mp hm
          have z := s1.at_ q hq
          rw [e, nD] at z
          cases z)
end
end Sk

namespace Sk
open PySem PySem.Spec PyProof.Rows L2
open Evl (Ex)
theorem Sh.drop {g H : Hp} {R : Rl} {q : Addr × HO} (s : Sh g (q :: R) H) : Sh g R H :=
  ⟨s.ex, fun x hx => s.at_ x (List.mem_cons_of_mem _ hx), fun x hx => s.free x (List.mem_cons_of_mem _ hx), (List.nodup_cons.mp s.nd).2⟩
section
variable {X : Cx} {tg a b c e iter elt : Expr} {es : List Expr} {σ : L2.St} {g h : Hp} {R Fr : Rl} {d : PyData} {pos p p' : Pos} {ds : List PyData} {rest sa sb : List Stmt} {Kn : V → Hp → Rl → Prop} {KA : List V → Hp → Rl → Prop} {KT : Bool → Hp → Rl → Prop} {D : Ends} {dk : Dk}
/-- what was known of two heaps behind a comprehension: the list among what may change -/
theorem sh_lc {H g1 H1 g2 H2 : Hp} {D1 : Addr} {acc : List V} (sh : Sh g R H) (r1 : Rs g H g1 H1) (nD : H1 D1 = none) (r2 : Rs g1 H1 g2 H2) (n2 : g2 D1 = none) (hD : H2 D1 = some (.lst acc)) : Sh g2 ((D1, .lst acc) :: R) H2 := by
  have s1 := sh.rs r1
  have s2 := s1.rs r2
  refine ⟨s2.ex, fun q hq => ?_, fun q hq => ?_, ?_⟩
  · rcases List.mem_cons.mp hq with rfl | hq
    · exact hD
    · exact s2.at_ q hq
  · rcases List.mem_cons.mp hq with rfl | hq
    · exact n2
    · exact s2.free q hq
  · rw [List.map_cons, List.nodup_cons]
    refine ⟨fun hm => ?_, s2.nd⟩
    obtain ⟨q, hq, e⟩ := List.mem_map.mp hm
    have z := s1.at_ q hq
    rw [e, nD] at z
    cases z
theorem eh_lc {n : Nat} {x : Str} {px : Pos} {scope : Scope} {ifs : List Expr} (hc : X.calm = true) (hN : X.N.Nodup) (ok : BlkOk X.N X.env.scope scope [(x, n)])
    (hg : ∀ (s : Shared) (H : Hp) (C : Addr) (cl : List (Str × Addr)) (fp : List Addr), PG (Bk X scope s H C cl fp) (.Name x px) (gName n)) (zi : EvI X (.Name x px) iter σ g ds) (hl : ds.length ≤ 100000) (f : PyData → Bool) (m : PyData → PyData)
    (zt : ∀ d ∈ ds, ∀ v h', Ex g h' → Dn X.K h' v d → ∀ (s : Shared) (H : Hp) (C : Addr) (cl : List (Str × Addr)) (fp : List Addr), EvTs (Bk X scope s H C cl fp) ifs ((σ.set n none).set n (some v)) h' (f d))
    (ze : ∀ d ∈ ds, f d = true → ∀ v h', Ex g h' → Dn X.K h' v d → ∀ (s : Shared) (H : Hp) (C : Addr) (cl : List (Str × Addr)) (fp : List Addr), Ev (Bk X scope s H C cl fp) elt ((σ.set n none).set n (some v)) h' (m d))
    (k : ∀ l vs g', Ex g g' → DnAll X.K g' vs ((ds.filter f).map m) → Kn (.ref l) g' ((l, .lst vs) :: R))
    (hs : ∀ x, foldedSetIterable iter X.env x = pure x := by intro _; rfl) : EH X (.ListComp elt [⟨.Name x px, iter, ifs, 0⟩] scope pos) σ g R Kn := fun H sh =>
  .of (pe_lc (own := [(x, n)]) (g := gName n) (tt := BTs X scope ifs) (te := BE X scope elt) hc hN WI.pi ok hg (fun s H C cl fp => ⟨fun pins s' σ H' Q I h => (h s H C cl fp).run pins s' I⟩) (fun s H C cl fp => ⟨fun pins s' σ H' Q I h => (h s H C cl fp).run pins s' I⟩) hs)
    (zi H sh.ex _ fun J g1 H1 r1 w D1 nD => lc_data (vs := [n]) w nD r1.c hl f m (fun d hd v g2 H2 C e1 e2 z k => k _ (by
        show (((σ.set n none).set n (some v)).set n none) = σ.set n none
        rw [List.set_set, List.set_set]) (fun H3 e3 Q q s H0 C cl fp => zt d hd v g2 (r1.b.trans e1) z s H0 C cl fp H3 e3 Q q) fun hf H3 e3 Q q s H0 C cl fp => ze d hd hf v g2 (r1.b.trans e1) z s H0 C cl fp H3 e3 Q q)
      fun g2 H2 acc r2 n2 hD hA => ⟨g2, _, sh_lc sh r1 nD r2 n2 hD, k D1 acc g2 (r1.b.trans r2.b) hA⟩)
/-- y = [elt for x, x2 in iter if ..] -/
theorem bh_setLc2 {i n n2 kk : Nat} {y x x2 : Str} {py px px2 pt spos : Pos} {scope : Scope} {ifs : List Expr} (hc : X.calm = true) (hN : X.N.Nodup) (hy : X.N[i]? = some y) (hyl : X.env.scope.names.lookup y = some .local)
    (hsw : swapsWith (.ListComp elt [⟨.Tuple [.Name x px, .Name x2 px2] kk pt, iter, ifs, 0⟩] scope pos) (some (.Name y py)) spos.line X.env = pure true) (ok : BlkOk X.N X.env.scope scope [(x, n), (x2, n2)]) (hne : n ≠ n2)
    (hg : ∀ (s : Shared) (H : Hp) (C : Addr) (cl : List (Str × Addr)) (fp : List Addr), PG (Bk X scope s H C cl fp) (.Tuple [.Name x px, .Name x2 px2] kk pt) (gTup X.K 2 (gCons (gName n) (gCons (gName n2) gNil))))
    (zi : EvI X (.Tuple [.Name x px, .Name x2 px2] kk pt) iter σ g ds) (hl : ds.length ≤ 100000) (f : PyData → Bool) (m : PyData → PyData) (hp : ∀ d ∈ ds, ∃ d1 d2, d = .tuple [d1, d2])
    (zt : ∀ d1 d2, .tuple [d1, d2] ∈ ds → ∀ v1 v2 h', Ex g h' → Dn X.K h' v1 d1 → Dn X.K h' v2 d2 → ∀ (s : Shared) (H : Hp) (C : Addr) (cl : List (Str × Addr)) (fp : List Addr), EvTs (Bk X scope s H C cl fp) ifs ((((σ.set n2 none).set n none).set n (some v1)).set n2 (some v2)) h' (f (.tuple [d1, d2])))
    (ze : ∀ d1 d2, .tuple [d1, d2] ∈ ds → f (.tuple [d1, d2]) = true → ∀ v1 v2 h', Ex g h' → Dn X.K h' v1 d1 → Dn X.K h' v2 d2 → ∀ (s : Shared) (H : Hp) (C : Addr) (cl : List (Str × Addr)) (fp : List Addr), Ev (Bk X scope s H C cl fp) elt ((((σ.set n2 none).set n none).set n (some v1)).set n2 (some v2)) h' (m (.tuple [d1, d2])))
    (k : ∀ l vs g', Ex g g' → DnAll X.K g' vs ((ds.filter f).map m) → BH X rest D (σ.set i (some (.ref l))) g' ((l, .lst vs) :: R))
    (hs : ∀ x, foldedSetIterable iter X.env x = pure x := by intro _; rfl) :
    BH X (.Assign [.Name y py] (.ListComp elt [⟨.Tuple [.Name x px, .Name x2 px2] kk pt, iter, ifs, 0⟩] scope pos) spos :: rest) D σ g R := fun H sh =>
  .of (pss_cons (ps_setLc (own := [(x, n), (x2, n2)]) (g := gTup X.K 2 (gCons (gName n) (gCons (gName n2) gNil))) (tt := BTs X scope ifs) (te := BE X scope elt) hc hN hy hyl hsw WI.pi ok hg (fun s H C cl fp => ⟨fun pins s' σ H' Q I h => (h s H C cl fp).run pins s' I⟩) (fun s H C cl fp => ⟨fun pins s' σ H' Q I h => (h s H C cl fp).run pins s' I⟩) hs) WS.ps)
    (zi H sh.ex _ fun J g1 H1 r1 w D1 nD => lc_data (vs := [n, n2]) w nD r1.c hl f m (fun d hd v g2 H2 C e1 e2 z k => by
        obtain ⟨d1, d2, rfl⟩ := hp d hd
        cases z with
        | tup s t =>
          obtain ⟨v1, v2, rfl, z1, z2⟩ := dn2 t
          refine ⟨_, [v1, v2], rfl, Evl.ex_t e2 s, rfl, v1, [v2], rfl, v2, [], rfl, rfl, k _ ?_ (fun H3 e3 Q q s H0 C cl fp => zt d1 d2 hd v1 v2 g2 (r1.b.trans e1) z1 z2 s H0 C cl fp H3 e3 Q q) fun hf H3 e3 Q q s H0 C cl fp => ze d1 d2 hd hf v1 v2 g2 (r1.b.trans e1) z1 z2 s H0 C cl fp H3 e3 Q q⟩
          show ((((((σ.set n2 none).set n none).set n (some v1)).set n2 (some v2)).set n2 none).set n none) = (σ.set n2 none).set n none
          rw [List.set_set, List.set_set, List.set_comm _ _ hne, List.set_set, List.set_set])
      fun g2 H2 acc r2 n2 hD hA => k D1 acc g2 (r1.b.trans r2.b) hA H2 (sh_lc sh r1 nD r2 n2 hD))
/-- xs + ys, both lists that may change: a new one -/
theorem eh_cat (h : EH X a σ g R fun x g1 R1 => ∃ l, x = .ref l ∧ EH X b σ g1 R1 fun y g2 R2 => ∃ (l2 : Addr) (k k2 : Nat) (xs ys : List V), y = .ref l2 ∧ R2[k]? = some (l, .lst xs) ∧ R2[k2]? = some (l2, .lst ys) ∧ xs.length + ys.length ≤ 100000 ∧ ∀ p, Kn (.ref p) g2 ((p, .lst (xs ++ ys)) :: R2)) : EH X (.BinOp a .Add b pos) σ g R Kn := fun H s =>
  .of (pe_op op_cat WE.pe WE.pe) (WE.mono (h H s) fun x H1 ⟨g1, R1, s1, l, e1, k1⟩ => WE.mono (k1 H1 s1) fun y H2 ⟨g2, R2, s2, l2, k, k2, xs, ys, e2, h1, h2, hl, kk⟩ => ⟨l, l2, xs, ys, e1, e2, s2.get h1, s2.get h2, Evl.sz_of hl, fun p np => ⟨g2, _, s2.new np, kk p⟩⟩)
/-- max of a list of ints that may change -/
theorem eh_max (hc : X.calm = true) (hg : Gl X "max") (hm : X.mg "max" = none) (h : EH X a σ g R fun x g1 R1 => ∃ (l : Addr) (k : Nat) (ns : List Int), x = .ref l ∧ R1[k]? = some (l, .lst (ns.map V.int)) ∧ 0 < ns.length ∧ ∀ m, m ∈ ns → (∀ y, y ∈ ns → y ≤ m) → Kn (.int m) g1 R1) (hs : starEach [a] X.env = (false, eval a X.env) :: starEach [] X.env := by rfl) (hpl : (backTo pos (starEach [] X.env)).any (·.1) = false := by rfl) :
    EH X (.Call (.Name "max" p) [a] [] pos) σ g R Kn := fun H s =>
  .of (pe_callB (cr_max hc) hg hm (by decide +kernel) (pa_cons WE.pe pa_nil hs) (by decide) (by decide) hs hpl) (WE.mono (h H s) fun x H1 ⟨g1, R1, s1, l, k, ns, e1, hk, h0, kk⟩ => ⟨l, ns, by rw [e1], SqL.of (s1.get hk), h0, fun m hm1 hm2 => ⟨g1, R1, s1, kk m hm1 hm2⟩⟩)
/-- a, b = e -/
theorem bh_unp {tgs : List Expr} {m n : Nat} {t : TGs} (hc : X.calm = true) (hg : PGs X tgs t) (hn : (assignEach tgs X.env).length = n) (hst : (assignEach tgs X.env).findIdx? (·.1) = none) (hs : swapsWithSole [.Tuple tgs m p] e pos.line X.env = pure false) (hw : swappedStores [.Tuple tgs m p] e X.env = pure none)
    (h : EH X e σ g R fun x g1 R1 => ∃ (ad : Addr) (vs : List V), x = .ref ad ∧ SqT X.K g1 ad vs ∧ vs.length = n ∧ ∃ σ', (∀ H (Q : L2.St → Hp → Prop), Q σ' H → t vs σ H Q) ∧ BH X rest D σ' g1 R1)
    (h1 : (assignEach [.Tuple tgs m p] X.env).map (·.2) = [assign (.Tuple tgs m p) X.env] := by rfl) : BH X (.Assign [.Tuple tgs m p] e pos :: rest) D σ g R := fun H s =>
  .of (pss_cons (ps_asg WE.pe (pg_tup hc hg hn hst) hs hw h1) WS.ps) (WE.mono (h H s) fun x H1 ⟨g1, R1, s1, ad, vs, e1, sq, hl, σ', ht, kb⟩ => ⟨ad, vs, e1, Evl.ex_t s1.ex sq, hl, ht H1 _ (kb H1 s1)⟩)
theorem bh_drop {q : Addr × HO} (h : BH X rest D σ g R) : BH X rest D σ g (q :: R) := fun H s => h H s.drop
end
end Sk

namespace Sk
open PySem PySem.Spec PyProof.Rows L2
open Evl (Ex)
theorem Sh.sub {g H : Hp} {R R' : Rl} (s : Sh g R H) (p : R'.Sublist R) : Sh g R' H :=
  ⟨s.ex, fun x hx => s.at_ x (p.subset hx), fun x hx => s.free x (p.subset hx), (p.map _).nodup s.nd⟩
section
variable {X : Cx} {tg a b c e iter elt : Expr} {es : List Expr} {σ : L2.St} {g h : Hp} {R Fr : Rl} {d : PyData} {pos p p' : Pos} {ds : List PyData} {rest sa sb : List Stmt} {Kn : V → Hp → Rl → Prop} {KA : List V → Hp → Rl → Prop} {KT : Bool → Hp → Rl → Prop} {D : Ends} {dk : Dk}
theorem bh_sub {R' : Rl} (p : R'.Sublist R) (h : BH X rest D σ g R') : BH X rest D σ g R := fun H s => h H (s.sub p)
theorem eh_lc2 {n n2 kk : Nat} {x x2 : Str} {px px2 pt : Pos} {scope : Scope} {ifs : List Expr} (hc : X.calm = true) (hN : X.N.Nodup) (ok : BlkOk X.N X.env.scope scope [(x, n), (x2, n2)]) (hne : n ≠ n2)
    (hg : ∀ (s : Shared) (H : Hp) (C : Addr) (cl : List (Str × Addr)) (fp : List Addr), PG (Bk X scope s H C cl fp) (.Tuple [.Name x px, .Name x2 px2] kk pt) (gTup X.K 2 (gCons (gName n) (gCons (gName n2) gNil))))
    (zi : EvI X (.Tuple [.Name x px, .Name x2 px2] kk pt) iter σ g ds) (hl : ds.length ≤ 100000) (f : PyData → Bool) (m : PyData → PyData) (hp : ∀ d ∈ ds, ∃ d1 d2, d = .tuple [d1, d2])
    (zt : ∀ d1 d2, .tuple [d1, d2] ∈ ds → ∀ v1 v2 h', Ex g h' → Dn X.K h' v1 d1 → Dn X.K h' v2 d2 → ∀ (s : Shared) (H : Hp) (C : Addr) (cl : List (Str × Addr)) (fp : List Addr), EvTs (Bk X scope s H C cl fp) ifs ((((σ.set n2 none).set n none).set n (some v1)).set n2 (some v2)) h' (f (.tuple [d1, d2])))
    (ze : ∀ d1 d2, .tuple [d1, d2] ∈ ds → f (.tuple [d1, d2]) = true → ∀ v1 v2 h', Ex g h' → Dn X.K h' v1 d1 → Dn X.K h' v2 d2 → ∀ (s : Shared) (H : Hp) (C : Addr) (cl : List (Str × Addr)) (fp : List Addr), Ev (Bk X scope s H C cl fp) elt ((((σ.set n2 none).set n none).set n (some v1)).set n2 (some v2)) h' (m (.tuple [d1, d2])))
    (k : ∀ l vs g', Ex g g' → DnAll X.K g' vs ((ds.filter f).map m) → Kn (.ref l) g' ((l, .lst vs) :: R))
    (hs : ∀ x, foldedSetIterable iter X.env x = pure x := by intro _; rfl) : EH X (.ListComp elt [⟨.Tuple [.Name x px, .Name x2 px2] kk pt, iter, ifs, 0⟩] scope pos) σ g R Kn := fun H sh =>
  .of (pe_lc (own := [(x, n), (x2, n2)]) (g := gTup X.K 2 (gCons (gName n) (gCons (gName n2) gNil))) (tt := BTs X scope ifs) (te := BE X scope elt) hc hN WI.pi ok hg (fun s H C cl fp => ⟨fun pins s' σ H' Q I h => (h s H C cl fp).run pins s' I⟩) (fun s H C cl fp => ⟨fun pins s' σ H' Q I h => (h s H C cl fp).run pins s' I⟩) hs)
    (zi H sh.ex _ fun J g1 H1 r1 w D1 nD => lc_data (vs := [n, n2]) w nD r1.c hl f m (fun d hd v g2 H2 C e1 e2 z k => by
        obtain ⟨d1, d2, rfl⟩ := hp d hd
        cases z with
        | tup s t =>
          obtain ⟨v1, v2, rfl, z1, z2⟩ := dn2 t
          refine ⟨_, [v1, v2], rfl, Evl.ex_t e2 s, rfl, v1, [v2], rfl, v2, [], rfl, rfl, k _ ?_ (fun H3 e3 Q q s H0 C cl fp => zt d1 d2 hd v1 v2 g2 (r1.b.trans e1) z1 z2 s H0 C cl fp H3 e3 Q q) fun hf H3 e3 Q q s H0 C cl fp => ze d1 d2 hd hf v1 v2 g2 (r1.b.trans e1) z1 z2 s H0 C cl fp H3 e3 Q q⟩
          show ((((((σ.set n2 none).set n none).set n (some v1)).set n2 (some v2)).set n2 none).set n none) = (σ.set n2 none).set n none
          rw [List.set_set, List.set_set, List.set_comm _ _ hne, List.set_set, List.set_set])
      fun g2 H2 acc r2 n2 hD hA => ⟨g2, _, sh_lc sh r1 nD r2 n2 hD, k D1 acc g2 (r1.b.trans r2.b) hA⟩)
/-- tuple(x), x a list that may change -/
theorem eh_tupleR (hg : Gl X "tuple") (hm : X.mg "tuple" = none) (h : EH X a σ g R fun x g1 R1 => ∃ (l : Addr) (k : Nat) (vs : List V), x = .ref l ∧ R1[k]? = some (l, .lst vs) ∧ ∀ p, Ex g1 (upd g1 p (.tup vs)) → Kn (.ref p) (upd g1 p (.tup vs)) R1) (hs : starEach [a] X.env = (false, eval a X.env) :: starEach [] X.env := by rfl) (hpl : (backTo pos (starEach [] X.env)).any (·.1) = false := by rfl) :
    EH X (.Call (.Name "tuple" p) [a] [] pos) σ g R Kn := fun H s =>
  .of (pe_callTy call_tuple_of hg hm PyProof.Rows.boot_tuple (pa_cons WE.pe pa_nil hs) (by decide) (by decide) hs hpl) (WE.mono (h H s) fun x H1 ⟨g1, R1, s1, l, k, vs, e1, hk, kk⟩ => ⟨l, vs, by rw [e1], .inl ⟨SqL.of (s1.get hk), fun p np => by
    have q := (Sh.new (o := .tup vs) s1 np).keep
    exact ⟨_, R1, q.1, kk p q.2⟩⟩⟩)
end
end Sk

namespace Sk
open PySem PySem.Spec PyProof.Rows L2
open Evl (Ex)
theorem wipe_get (σ : L2.St) : ∀ (vs : List Nat) (j : Nat), (wipe σ vs)[j]? = if j ∈ vs then (σ[j]?).map (fun _ => none) else σ[j]?
  | [], j => by simp [wipe]
  | v :: vs, j => by
    show ((wipe σ vs).set v none)[j]? = _
    rw [List.getElem?_set, wipe_get σ vs j]
    by_cases e : v = j
    · subst e
      rw [if_pos rfl, if_pos (List.mem_cons_self ..), wipe_length]
      by_cases hl : v < σ.length
      · rw [if_pos hl, List.getElem?_eq_getElem hl]
        rfl
      · rw [if_neg hl, List.getElem?_eq_none (by omega)]
        rfl
    · rw [if_neg e]
      have : (j ∈ v :: vs) ↔ j ∈ vs := by
        rw [List.mem_cons]
        exact ⟨fun h => h.resolve_left fun z => e z.symm, .inr⟩
      simp only [this]
theorem wipe_set {σ : L2.St} {vs : List Nat} {i : Nat} {x : Option V} (h : i ∈ vs) : wipe (σ.set i x) vs = wipe σ vs := by
  apply List.ext_getElem?
  intro j
  rw [wipe_get, wipe_get]
  by_cases hj : j ∈ vs
  · rw [if_pos hj, if_pos hj, List.getElem?_set]
    by_cases e : i = j
    · subst e
      rw [if_pos rfl]
      by_cases hl : i < σ.length
      · rw [if_pos hl, List.getElem?_eq_getElem hl]
        rfl
      · rw [if_neg hl, List.getElem?_eq_none (by omega)]
    · rw [if_neg e]
  · rw [if_neg hj, if_neg hj, List.getElem?_set_ne]
    intro e
    exact hj (e ▸ h)
theorem wipe_wipe {σ : L2.St} {vs : List Nat} : wipe (wipe σ vs) vs = wipe σ vs := by
  apply List.ext_getElem?
  intro j
  rw [wipe_get, wipe_get]
  by_cases hj : j ∈ vs
  · rw [if_pos hj, if_pos hj]
    cases σ[j]? <;> rfl
  · rw [if_neg hj, if_neg hj]
theorem dn_drop {K : PySem.W.Frag} {g : Hp} : ∀ (n : Nat) {vs : List V} {ds : List PyData}, DnAll K g vs ds → DnAll K g (vs.drop n) (ds.drop n)
  | 0, _, _, h => h
  | _ + 1, _, _, .nil => .nil
  | n + 1, _, _, .cons _ r => dn_drop n r
theorem dn_take {K : PySem.W.Frag} {g : Hp} : ∀ (n : Nat) {vs : List V} {ds : List PyData}, DnAll K g vs ds → DnAll K g (vs.take n) (ds.take n)
  | 0, _, _, _ => .nil
  | _ + 1, _, _, .nil => .nil
  | n + 1, _, _, .cons h r => .cons h (dn_take n r)
section
variable {X : Cx} {tg a b c e iter elt : Expr} {es : List Expr} {σ : L2.St} {g h : Hp} {R Fr : Rl} {d : PyData} {pos p p' : Pos} {ds : List PyData} {rest sa sb : List Stmt} {Kn : V → Hp → Rl → Prop} {KA : List V → Hp → Rl → Prop} {KT : Bool → Hp → Rl → Prop} {D : Ends} {dk : Dk}
theorem eh_perm {R' : Rl} (p : R.Perm R') (h : EH X e σ g R' Kn) : EH X e σ g R Kn := fun H s => h H (s.perm p)
/-- y = [elt for target in iter if ..], any target -/
theorem bh_setLcG {i : Nat} {y : Str} {py spos : Pos} {scope : Scope} {ifs : List Expr} {own : List (Str × Nat)} {tgg : TG} (hc : X.calm = true) (hN : X.N.Nodup) (hy : X.N[i]? = some y) (hyl : X.env.scope.names.lookup y = some .local)
    (hsw : swapsWith (.ListComp elt [⟨tg, iter, ifs, 0⟩] scope pos) (some (.Name y py)) spos.line X.env = pure true) (ok : BlkOk X.N X.env.scope scope own)
    (hg : ∀ (s : Shared) (H : Hp) (C : Addr) (cl : List (Str × Addr)) (fp : List Addr), PG (Bk X scope s H C cl fp) tg tgg) (zi : EvI X tg iter σ g ds) (hl : ds.length ≤ 100000) (f : PyData → Bool) (m : PyData → PyData)
    (turn : ∀ d ∈ ds, ∀ v g2 H2, Ex g g2 → Ex g2 H2 → Dn X.K g2 v d → ∃ σ2, wipe σ2 (own.map (·.2)) = wipe σ (own.map (·.2)) ∧ (∀ C : L2.St → Hp → Prop, C σ2 H2 → tgg v (wipe σ (own.map (·.2))) H2 C) ∧
      (∀ (s : Shared) (H : Hp) (C : Addr) (cl : List (Str × Addr)) (fp : List Addr), EvTs (Bk X scope s H C cl fp) ifs σ2 g2 (f d)) ∧ (f d = true → ∀ (s : Shared) (H : Hp) (C : Addr) (cl : List (Str × Addr)) (fp : List Addr), Ev (Bk X scope s H C cl fp) elt σ2 g2 (m d)))
    (k : ∀ l vs g', Ex g g' → DnAll X.K g' vs ((ds.filter f).map m) → BH X rest D (σ.set i (some (.ref l))) g' ((l, .lst vs) :: R))
    (hs : ∀ x, foldedSetIterable iter X.env x = pure x := by intro _; rfl) :
    BH X (.Assign [.Name y py] (.ListComp elt [⟨tg, iter, ifs, 0⟩] scope pos) spos :: rest) D σ g R := fun H sh =>
  .of (pss_cons (ps_setLc (own := own) (g := tgg) (tt := BTs X scope ifs) (te := BE X scope elt) hc hN hy hyl hsw WI.pi ok hg (fun s H C cl fp => ⟨fun pins s' σ H' Q I h => (h s H C cl fp).run pins s' I⟩) (fun s H C cl fp => ⟨fun pins s' σ H' Q I h => (h s H C cl fp).run pins s' I⟩) hs) WS.ps)
    (zi H sh.ex _ fun J g1 H1 r1 w D1 nD => lc_data (σ := σ) (tgg := tgg) (tt := BTs X scope ifs) (te := BE X scope elt) (vs := own.map (fun q : Str × Nat => q.2)) w nD r1.c hl f m (fun d hd v g2 H2 C e1 e2 z k => by
        obtain ⟨σ2, hw, ht, hts, hel⟩ := turn d hd v g2 H2 (r1.b.trans e1) e2 z
        exact ht C (k σ2 hw (fun H3 e3 Q q s H0 C cl fp => hts s H0 C cl fp H3 e3 Q q) fun hf H3 e3 Q q s H0 C cl fp => hel hf s H0 C cl fp H3 e3 Q q))
      fun g2 H2 acc r2 n2 hD hA => k D1 acc g2 (r1.b.trans r2.b) hA H2 (sh_lc sh r1 nD r2 n2 hD))
/-- [elt for target in iter], the element may draw: I by the turn, what was made, what stays, what may change -/
theorem eh_lcK {scope : Scope} {own : List (Str × Nat)} {tgg : TG} (hc : X.calm = true) (hN : X.N.Nodup) (ok : BlkOk X.N X.env.scope scope own)
    (hg : ∀ (s : Shared) (H : Hp) (C : Addr) (cl : List (Str × Addr)) (fp : List Addr), PG (Bk X scope s H C cl fp) tg tgg) (zi : EvI X tg iter σ g ds) (hl : ds.length ≤ 100000) (I : Nat → List V → Hp → Rl → Prop)
    (h0 : ∀ g', Ex g g' → I 0 [] g' R) (hlen : ∀ i acc g' R', I i acc g' R' → acc.length = i)
    (turn : ∀ i d, ds[i]? = some d → ∀ l acc g' R', Ex g g' → I i acc g' R' → ∀ v g2 H2, Ex g' g2 → Ex g2 H2 → Dn X.K g2 v d → ∃ σ2, wipe σ2 (own.map (·.2)) = wipe σ (own.map (·.2)) ∧ (∀ C : L2.St → Hp → Prop, C σ2 H2 → tgg v (wipe σ (own.map (·.2))) H2 C) ∧
      ∀ (s : Shared) (H : Hp) (C : Addr) (cl : List (Str × Addr)) (fp : List Addr), ∃ Rin, ((l, HO.lst acc) :: R').Perm Rin ∧ EH (Bk X scope s H C cl fp) elt σ2 g2 Rin fun y g3 R3 => ∃ R4, R3.Perm ((l, .lst acc) :: R4) ∧ Ex g' g3 ∧ I (i + 1) (acc ++ [y]) g3 R4)
    (k : ∀ l acc g' R', Ex g g' → I ds.length acc g' R' → Kn (.ref l) g' ((l, .lst acc) :: R'))
    (hs : ∀ x, foldedSetIterable iter X.env x = pure x := by intro _; rfl) : EH X (.ListComp elt [⟨tg, iter, [], 0⟩] scope pos) σ g R Kn := fun H sh =>
  .of (pe_lc (own := own) (g := tgg) (tt := tYes) (te := BE X scope elt) hc hN WI.pi ok hg (fun s H C cl fp => pts_nil) (fun s H C cl fp => ⟨fun pins s' σ H' Q I h => (h s H C cl fp).run pins s' I⟩) hs)
    (zi H sh.ex _ fun J g1 H1 r1 w D1 nD => by
      refine lc_it w (fun i H' => ∃ acc g' R', Ex g1 g' ∧ Sh g' ((D1, .lst acc) :: R') H' ∧ I i acc g' R') ⟨[], g1, R, Evl.Ex.refl g1, (sh.rs r1).new nD, h0 g1 r1.b⟩ (fun i H' _ ⟨acc, g', R', e, s', _⟩ => e.trans s'.ex) (fun i v H' H2 hi ⟨acc, g', R', e, s', hI⟩ yy => ?_) fun H' ⟨acc, g', R', e, s', hI⟩ => ⟨g', _, s', k D1 acc g' R' (r1.b.trans e) hI⟩
      obtain ⟨d, g3, hdi, r3, z3⟩ := yy
      have r4 : Rs g' H' (un g' g3) H2 := r3.up e s'.ex
      have s4 : Sh (un g' g3) ((D1, .lst acc) :: R') H2 := s'.rs r4
      obtain ⟨σ2, hw, ht, hel⟩ := turn i d hdi D1 acc g' R' (r1.b.trans e) hI v (un g' g3) H2 r4.b r4.c (z3.ex (r3.upIn s'.ex))
      refine ht _ ⟨hw, ?_⟩
      dsimp only [tYes]
      rw [if_pos rfl]
      intro s H0 C cl fp
      obtain ⟨Rin, hp, he⟩ := hel s H0 C cl fp
      refine WE.mono (he H2 (s4.perm hp)) fun y H4 ⟨g5, R5, s5, R6, hp6, e6, hI6⟩ => ?_
      have s6 := s5.perm hp6
      have la := hlen i acc g' R' hI
      exact ⟨acc, s6.get (k := 0) rfl, Nat.lt_of_le_of_lt (show acc.length ≤ 100000 by omega) (by rw [sizeLine_eq]; decide), acc ++ [y], g5, R6, e.trans e6, s6.set (k := 0) rfl, hI6⟩)
/-- x[n:] and x[:n] of a list that stays: a new one -/
theorem eh_drop {n : Nat} {p2 : Pos} (za : Ev X a σ g (.list ds)) (zn : Ev X b σ g (.int (n : Nat))) (k : ∀ p vs g', Ex g g' → DnAll X.K g' vs (ds.drop n) → Kn (.ref p) g' ((p, .lst vs) :: R)) (hn : n ≤ ds.length) : EH X (.Subscript a (.Slice (some b) none none p2) pos) σ g R Kn := fun H s =>
  .of (pe_slice sl_list WE.pe (po_some WE.pe) po_none) (za H s.ex _ fun v g1 H1 r1 z1 => zn.up r1.b H1 r1.c _ fun w g2 H2 r2 z2 => by
    cases z2
    cases z1 with
    | lst sq t =>
      rename_i ad xs
      refine ⟨(n : Nat), rfl, ad, xs, rfl, Evl.ex_l (r2.b.trans r2.c) sq, fun q nq => ?_⟩
      have lx := t.length
      have cv : cutV xs (some (n : Nat)) none = xs.drop n := by
        unfold cutV
        rw [show HT.sIx xs.length 0 (some (n : Nat)) = min n xs.length from HT.sIx_nat xs.length 0 n, HT.sIx_none, Nat.min_eq_left (by omega)]
        exact List.take_of_length_le (by rw [List.length_drop]; omega)
      rw [cv]
      exact ⟨g2, _, (s.rs (r1.trans r2)).new nq, k q _ g2 (r1.trans r2).b (dn_drop n (t.ex r2.b))⟩)
theorem eh_take {n : Nat} {p2 : Pos} (za : Ev X a σ g (.list ds)) (zn : Ev X b σ g (.int (n : Nat))) (k : ∀ p vs g', Ex g g' → DnAll X.K g' vs (ds.take n) → Kn (.ref p) g' ((p, .lst vs) :: R)) (hn : n ≤ ds.length) : EH X (.Subscript a (.Slice none (some b) none p2) pos) σ g R Kn := fun H s =>
  .of (pe_slice sl_list WE.pe po_none (po_some WE.pe)) (za H s.ex _ fun v g1 H1 r1 z1 => zn.up r1.b H1 r1.c _ fun w g2 H2 r2 z2 => by
    cases z2
    cases z1 with
    | lst sq t =>
      rename_i ad xs
      refine ⟨(n : Nat), rfl, ad, xs, rfl, Evl.ex_l (r2.b.trans r2.c) sq, fun q nq => ?_⟩
      have lx := t.length
      have cv : cutV xs none (some (n : Nat)) = xs.take n := by
        unfold cutV
        rw [show HT.sIx xs.length xs.length (some (n : Nat)) = min n xs.length from HT.sIx_nat xs.length xs.length n, HT.sIx_none, Nat.min_eq_left (by omega)]
        rfl
      rw [cv]
      exact ⟨g2, _, (s.rs (r1.trans r2)).new nq, k q _ g2 (r1.trans r2).b (dn_take n (t.ex r2.b))⟩)
theorem ev_max2 {i j : Int} (hc : X.calm = true) (hg : Gl X "max") (hm : X.mg "max" = none) (za : Ev X a σ g (.int i)) (zb : Ev X b σ g (.int j)) (hs : starEach [a, b] X.env = (false, eval a X.env) :: starEach [b] X.env := by rfl) (hs2 : starEach [b] X.env = (false, eval b X.env) :: starEach [] X.env := by rfl) (hpl : (backTo pos (starEach [b] X.env)).any (·.1) = false := by rfl) :
    Ev X (.Call (.Name "max" p) [a, b] [] pos) σ g (.int (if j > i then j else i)) :=
  ev_cb (call_max2 hc) hg hm (by decide +kernel) (ea_cons za (ea_cons zb ea_nil hs2) hs) (fun vs h H e r Q q => by
    obtain ⟨v1, v2, rfl, z1, z2⟩ := dn2 r
    cases z1
    cases z2
    exact ⟨i, j, rfl, q _ h H (.refl e) (.int _)⟩) (by decide) (by decide) hs hpl
end
end Sk

namespace Sk
open PySem PySem.Spec PyProof.Rows L2
open Evl (Ex)
section
variable {X : Cx} {tg a b c e iter elt : Expr} {es : List Expr} {σ : L2.St} {g h : Hp} {R Fr : Rl} {d : PyData} {pos p p' : Pos} {ds : List PyData} {rest sa sb : List Stmt} {Kn : V → Hp → Rl → Prop} {KA : List V → Hp → Rl → Prop} {KT : Bool → Hp → Rl → Prop} {D : Ends} {dk : Dk}
/-- a list beside the empty list -/
theorem op_eqNil (hu : X.A.units < cLine) : OpR X (compareOp .Eq) (fun x y H Q => ∃ l b xs, x = .ref l ∧ y = .ref b ∧ SqL X.K H l xs ∧ SqL X.K H b [] ∧ Q (.bl xs.isEmpty) H) := by
  intro pins s σ H x y v u Q I rx ry hh
  obtain ⟨l, b, xs, rfl, rfl, h1, h2, q⟩ := hh
  cases rx
  cases ry
  obtain ⟨its, rv, p1, _⟩ := I.list h1
  obtain ⟨its2, rv2, p2, _⟩ := I.list h2
  cases rv2
  cases rv with
  | nil => exact SeqAt.eq_listAt (e := fun _ => true) p1.isList p2.isList rfl hu (fun j h1 _ => absurd h1 (Nat.not_lt_zero j)) ⟨.bl true, H, I, rfl, q⟩
  | cons r rr => exact SeqAt.eq_list_lengthsAt p1.isList p2.isList (by simp) hu ⟨.bl false, H, I, rfl, q⟩
theorem ev_eqNil {p2 : Pos} (hu : X.A.units < cLine) (z : Ev X a σ h (.list ds)) : Ev X (.Compare a [.Eq] [.List [] p2] pos) σ h (.bool ds.isEmpty) := fun H y Q q =>
  .of (pe_cmpR (op_eqNil hu) WE.pe (pe_lst pa_nil) (nomark _)) (z H y _ fun v g1 H1 r1 z1 => ⟨Nat.zero_le _, fun np nn => by
    cases z1 with
    | lst sq t =>
      refine ⟨_, np, _, rfl, rfl, Evl.ex_l (r1.c.trans (Evl.Ex.new nn)) sq, SqL.of upd_same, q _ g1 _ ⟨r1.a.trans (Evl.Ex.new nn), r1.b, r1.c.trans (Evl.Ex.new nn), r1.s⟩ ?_⟩
      cases t <;> exact .bl _⟩)
theorem et_or3 {t u w : Bool} (za : EvT X a σ h t) (zb : t = false → EvT X b σ h u) (zc : t = false → u = false → EvT X c σ h w) : EvT X (.BoolOp .Or [a, b, c] pos) σ h (t || (u || w)) :=
  fun H y Q q => .of (PW.pt (pw_or WT.pt (pw_or WT.pt (pw_or1 WT.pt)))) (za H y _ fun H1 e1 => by
    cases t with
    | true => exact iteT (q H1 e1)
    | false => exact iteF (zb rfl H1 (y.trans e1) _ fun H2 e2 => by
      cases u with
      | true => exact iteT (q H2 (e1.trans e2))
      | false => exact iteF (zc rfl rfl H2 (y.trans (e1.trans e2)) Q fun H3 e3 => q H3 (e1.trans (e2.trans e3)))))
theorem ev_dict0 : Ev X (.Dict [] [] pos) σ h (.dict []) := fun H y Q q => .of pe_dnewK (fun p np => q _ _ _ (.new y np) (.dct upd_same))
theorem ev_pow {i : Int} {n : Nat} (hc : n ≤ 1000000 ∧ i.natAbs < 2 ^ 64) (za : Ev X a σ h (.int i)) (zb : Ev X b σ h (.int (n : Nat))) : Ev X (.BinOp a .Pow b pos) σ h (.int (i ^ n)) :=
  ev_is (ev_op2 op_pow za zb (r_iiC (C := CPow) ⟨by omega, by omega, hc.2⟩ fun _ => .int _)) (by rw [Int.toNat_natCast])
theorem ev_listL (hg : Gl X "list") (hm : X.mg "list" = none) (z : Ev X a σ h (.list ds)) (hs : starEach [a] X.env = (false, eval a X.env) :: starEach [] X.env := by rfl) (hpl : (backTo pos (starEach [] X.env)).any (·.1) = false := by rfl) :
    Ev X (.Call (.Name "list" p) [a] [] pos) σ h (.list ds) :=
  ev_cty call_list_of hg hm (by decide +kernel) (ea_cons z ea_nil hs) (fun vs h H e r Q q => by
    obtain ⟨v1, rfl, z1⟩ := dn1 r
    cases z1 with
    | lst s t => exact ⟨_, _, rfl, .inl (Evl.ex_l e s), fun l nl => q _ _ _ (.new e nl) (.lst (Evl.sq_of upd_same) (t.ex (Evl.Ex.new (Evl.fresh_back e nl))))⟩) (by decide) (by decide) hs hpl
/-- y = [elt for target in iter], the element may draw -/
theorem bh_setLcK {i : Nat} {y : Str} {py spos : Pos} {scope : Scope} {own : List (Str × Nat)} {tgg : TG} (hc : X.calm = true) (hN : X.N.Nodup) (hy : X.N[i]? = some y) (hyl : X.env.scope.names.lookup y = some .local)
    (hsw : swapsWith (.ListComp elt [⟨tg, iter, [], 0⟩] scope pos) (some (.Name y py)) spos.line X.env = pure true) (ok : BlkOk X.N X.env.scope scope own)
    (hg : ∀ (s : Shared) (H : Hp) (C : Addr) (cl : List (Str × Addr)) (fp : List Addr), PG (Bk X scope s H C cl fp) tg tgg) (zi : EvI X tg iter σ g ds) (hl : ds.length ≤ 100000) (I : Nat → List V → Hp → Rl → Prop)
    (h0 : ∀ g', Ex g g' → I 0 [] g' R) (hlen : ∀ i acc g' R', I i acc g' R' → acc.length = i)
    (turn : ∀ i d, ds[i]? = some d → ∀ l acc g' R', Ex g g' → I i acc g' R' → ∀ v g2 H2, Ex g' g2 → Ex g2 H2 → Dn X.K g2 v d → ∃ σ2, wipe σ2 (own.map (·.2)) = wipe σ (own.map (·.2)) ∧ (∀ C : L2.St → Hp → Prop, C σ2 H2 → tgg v (wipe σ (own.map (·.2))) H2 C) ∧
      ∀ (s : Shared) (H : Hp) (C : Addr) (cl : List (Str × Addr)) (fp : List Addr), ∃ Rin, ((l, HO.lst acc) :: R').Perm Rin ∧ EH (Bk X scope s H C cl fp) elt σ2 g2 Rin fun y g3 R3 => ∃ R4, R3.Perm ((l, .lst acc) :: R4) ∧ Ex g' g3 ∧ I (i + 1) (acc ++ [y]) g3 R4)
    (k : ∀ l acc g' R', Ex g g' → I ds.length acc g' R' → BH X rest D (σ.set i (some (.ref l))) g' ((l, .lst acc) :: R'))
    (hs : ∀ x, foldedSetIterable iter X.env x = pure x := by intro _; rfl) : BH X (.Assign [.Name y py] (.ListComp elt [⟨tg, iter, [], 0⟩] scope pos) spos :: rest) D σ g R := fun H sh =>
  .of (pss_cons (ps_setLc (own := own) (g := tgg) (tt := tYes) (te := BE X scope elt) hc hN hy hyl hsw WI.pi ok hg (fun s H C cl fp => pts_nil) (fun s H C cl fp => ⟨fun pins s' σ H' Q I h => (h s H C cl fp).run pins s' I⟩) hs) WS.ps)
    (zi H sh.ex _ fun J g1 H1 r1 w D1 nD => by
      refine lc_it w (fun i H' => ∃ acc g' R', Ex g1 g' ∧ Sh g' ((D1, .lst acc) :: R') H' ∧ I i acc g' R') ⟨[], g1, R, Evl.Ex.refl g1, (sh.rs r1).new nD, h0 g1 r1.b⟩ (fun i H' _ ⟨acc, g', R', e, s', _⟩ => e.trans s'.ex) (fun i v H' H2 hi ⟨acc, g', R', e, s', hI⟩ yy => ?_) fun H' ⟨acc, g', R', e, s', hI⟩ => k D1 acc g' R' (r1.b.trans e) hI H' s'
      obtain ⟨d, g3, hdi, r3, z3⟩ := yy
      have r4 : Rs g' H' (un g' g3) H2 := r3.up e s'.ex
      have s4 : Sh (un g' g3) ((D1, .lst acc) :: R') H2 := s'.rs r4
      obtain ⟨σ2, hw, ht, hel⟩ := turn i d hdi D1 acc g' R' (r1.b.trans e) hI v (un g' g3) H2 r4.b r4.c (z3.ex (r3.upIn s'.ex))
      refine ht _ ⟨hw, ?_⟩
      dsimp only [tYes]
      rw [if_pos rfl]
      intro s H0 C cl fp
      obtain ⟨Rin, hp, he⟩ := hel s H0 C cl fp
      refine WE.mono (he H2 (s4.perm hp)) fun y H4 ⟨g5, R5, s5, R6, hp6, e6, hI6⟩ => ?_
      have s6 := s5.perm hp6
      have la := hlen i acc g' R' hI
      exact ⟨acc, s6.get (k := 0) rfl, Nat.lt_of_le_of_lt (show acc.length ≤ 100000 by omega) (by rw [sizeLine_eq]; decide), acc ++ [y], g5, R6, e.trans e6, s6.set (k := 0) rfl, hI6⟩)
end
end Sk

namespace Sk
open PySem PySem.Spec PyProof.Rows L2
open Evl (Ex)
def boolS (b : Bool) : Str := if b then "True" else "False"
/-- texts and ints alone -/
def flat : PyData → Bool
  | .int _ => true
  | .str _ => true
  | _ => false
theorem dp_flat {K : PySem.W.Frag} {H : Hp} : ∀ {vs : List V} {ds : List PyData}, DnAll K H vs ds → ds.all flat = true → DpAll K H vs ds
  | _, _, .nil, _ => .nil
  | _, _, .cons h r, e => by
    rw [List.all_cons, Bool.and_eq_true] at e
    refine .cons ?_ (dp_flat r e.2)
    cases h <;> first | exact .int _ | exact .str _ | cases e.1
section
variable {X : Cx} {tg a b c e iter elt value : Expr} {es : List Expr} {σ : L2.St} {g h : Hp} {R Fr : Rl} {d : PyData} {pos p p' : Pos} {ds : List PyData} {rest sa sb : List Stmt} {Kn : V → Hp → Rl → Prop} {KA : List V → Hp → Rl → Prop} {KT : Bool → Hp → Rl → Prop} {D : Ends} {dk : Dk}
theorem call_reprB : CallR X (.builtin "repr") (fun xs H Q => ∃ b, xs = [.bl b] ∧ Q (.str (boolS b)) H) := by
  intro pins s σ H xs us Q I r h
  obtain ⟨b, rfl, q⟩ := h
  obtain ⟨u, rfl, ru⟩ := vals1 r
  cases ru
  exact PySem.P.repr_of_bool ⟨.str _, H, I.tok _, ⟨_, rfl⟩, q⟩
theorem ev_reprB {t : Bool} (hg : Gl X "repr") (hm : X.mg "repr" = none) (z : Ev X a σ h (.bool t)) (hs : starEach [a] X.env = (false, eval a X.env) :: starEach [] X.env := by rfl) (hpl : (backTo pos (starEach [] X.env)).any (·.1) = false := by rfl) :
    Ev X (.Call (.Name "repr" p) [a] [] pos) σ h (.str (boolS t)) :=
  ev_cb call_reprB hg hm (by decide +kernel) (ea_cons z ea_nil hs) (fun vs h H e r Q q => by
    obtain ⟨v1, rfl, z1⟩ := dn1 r
    cases z1
    exact ⟨t, rfl, q _ h H (.refl e) (.str _)⟩) (by decide) (by decide) hs hpl
theorem et_neS {x y : Str} (za : Ev X a σ h (.str x)) (zb : Ev X b σ h (.str y)) : EvT X (.Compare a [.NotEq] [b] pos) σ h (!decide (x = y)) :=
  et_cmp2 op_ne (nomark _) za zb fun u v h H e hx hy Q q => by
    cases hx
    cases hy
    refine ⟨rfl, q _ h H (.refl e) ?_⟩
    rw [show decide (V.str x = V.str y) = decide (x = y) from by simp]
    exact .bl _
theorem et_neB {x y : Bool} (za : Ev X a σ h (.bool x)) (zb : Ev X b σ h (.bool y)) : EvT X (.Compare a [.NotEq] [b] pos) σ h (!decide (x = y)) :=
  et_cmp2 op_ne (nomark _) za zb fun u v h H e hx hy Q q => by
    cases hx
    cases hy
    refine ⟨rfl, q _ h H (.refl e) ?_⟩
    rw [show decide (V.bl x = V.bl y) = decide (x = y) from by simp]
    exact .bl _
/-- two tuples of texts and ints -/
theorem ev_eqT {d1 d2 : List PyData} (hu : X.A.units + 64 < cLine) (f1 : d1.all flat = true) (f2 : d2.all flat = true) (s1 : SeqAt.shaped (.tuple d1) = true) (s2 : SeqAt.shaped (.tuple d2) = true) (za : Ev X a σ h (.tuple d1)) (zb : Ev X b σ h (.tuple d2)) : Ev X (.Compare a [.Eq] [b] pos) σ h (.bool (PyData.eqv (.tuple d1) (.tuple d2))) :=
  ev_cmp2 (op_eqD hu) (nomark _) za zb fun u v h H e hx hy Q q => by
    cases hx with
    | tup q1 r1 =>
      cases hy with
      | tup q2 r2 =>
        exact ⟨.tuple d1, .tuple d2, .tup (Evl.ex_t e q1) (dp_flat (r1.ex e) f1), .tup (Evl.ex_t e q2) (dp_flat (r2.ex e) f2), s1, s2, q _ h H (.refl e) (.bl _)⟩
/-- x.f, x an object that stays -/
theorem ev_fldV {n : Nat} {x f : Str} {px : Pos} {o C dx : Addr} {fs : List (Str × V)} {v : V} (hN : X.N[n]? = some x) (hv : Vis X.env.scope x) (hs : σ[n]? = some (some (.ref o))) (ho : h o = some (.ins C dx fs)) (c : Cls X.K C) (na : NoAttr X.K C f) (l : fs.lookup f = some v) (z : Dn X.K h v d)
    (hb : attributeBase (.Name x px) f X.env (eval (.Name x px) X.env) = eval (.Name x px) X.env := by rfl) (hd : (x == ("__debug__" : Str)) = false := by decide) (hcd : (x == ("__classdict__" : Str)) = false := by decide) : Ev X (.Attribute (.Name x px) f pos) σ h d :=
  fun H y Q q => .of (pe_fld (pe_var hN hv hd hcd) hb) ⟨_, hs, o, C, dx, fs, v, rfl, y _ _ ho, c, na, l, q v h H (.refl y) z⟩
/-- x.f = value, x an object that may change -/
theorem bh_fld {o : Expr} {f : Str} {k : Nat} {ad C dx : Addr} {fs : List (Str × V)} (c : Cls X.K C) (na : NoAttr X.K C f) (hl : fs.length < 1000)
    (hv : EH X value σ g R fun y g1 R1 => R1[k]? = some (ad, .ins C dx fs) ∧ EH X o σ g1 R1 fun x g2 R2 => x = .ref ad ∧ R2 = R1 ∧ BH X rest D σ g2 (R1.set k (ad, .ins C dx (putF f y fs))))
    (hs : swapsWith value (some (.Attribute o f p')) pos.line X.env = pure false := by rfl) : BH X (.Assign [.Attribute o f p'] value pos :: rest) D σ g R := fun H s =>
  .of (pss_cons (ps_fld WE.pe WE.pe hs) WS.ps) (WE.mono (hv H s) fun y H1 ⟨g1, R1, s1, hk, ho⟩ => WE.mono (ho H1 s1) fun x H2 ⟨g2, R2, s2, ex, er, kb⟩ => by
    subst ex er
    exact ⟨ad, C, dx, fs, rfl, s2.get hk, c, na, hl, kb _ (s2.set hk)⟩)
theorem eh_keep {l : Addr} {o : HO} (h : EH X e σ g R fun v g1 R1 => ∃ R2, R1.Perm ((l, o) :: R2) ∧ (Ex g1 (upd g1 l o) → Kn v (upd g1 l o) R2)) : EH X e σ g R Kn := fun H s =>
  WE.mono (h H s) fun v H1 ⟨g1, R1, s1, R2, hp, k⟩ => by
    have s2 := (s1.perm hp).keep
    exact ⟨_, R2, s2.1, k s2.2⟩
/-- [e, ..] that stays -/
theorem eh_lstK (h : AH X es σ g R fun vs g1 R1 => vs.length ≤ 100000 ∧ ∀ p, Ex g1 (upd g1 p (.lst vs)) → Kn (.ref p) (upd g1 p (.lst vs)) R1) : EH X (.List es pos) σ g R Kn := fun H s =>
  .of (pe_lst WA.pa) (WA.mono (h H s) fun vs H1 ⟨g1, R1, s1, hl, k1⟩ => ⟨Evl.sz_of hl, fun p np => by
    have q := (Sh.new (o := .lst vs) s1 np).keep
    exact ⟨_, R1, q.1, k1 p q.2⟩⟩)
/-- for x in iter, the list made on the way -/
theorem bh_forE {n : Nat} {x : Str} {px : Pos} (hp : PassesOwn (model X.prog X.w) X.A X.env X.xe) (hc : X.calm = true) (hg : PG X (.Name x px) (gName n))
    (h : EH X iter σ g R fun v g0 R0 => ∃ (ds : List PyData) (I : Nat → L2.St → Hp → Rl → Prop), Dn X.K g0 v (.list ds) ∧ I 0 σ g0 R0 ∧
      (∀ i d σ' g' R', ds[i]? = some d → Ex g0 g' → I i σ' g' R' → ∀ v g2, Ex g' g2 → Dn X.K g2 v d → BH X sa { D with nx := fun σ3 H3 => ∃ g3 R3, Ex g' g3 ∧ Sh g3 R3 H3 ∧ I (i + 1) σ3 g3 R3, ct := fun σ3 H3 => ∃ g3 R3, Ex g' g3 ∧ Sh g3 R3 H3 ∧ I (i + 1) σ3 g3 R3, bk := WS X rest D } (σ'.set n (some v)) g2 R') ∧
      (∀ σ' g' R', Ex g0 g' → I ds.length σ' g' R' → BH X rest D σ' g' R'))
    (hs : ∀ x, foldedSetIterable iter X.env x = pure x := by intro _; rfl) : BH X (.For (.Name x px) iter sa [] pos :: rest) D σ g R := fun H s =>
  .of (pss_cons (ps_for hp hc (pi_list WE.pe) hg WS.ps hs) WS.ps) (WE.mono (h H s) fun v H1 ⟨g1, R1, s1, ds, I, z1, h0, turn, hd⟩ => by
    obtain ⟨ad, xs, rfl, sq, t⟩ : ∃ ad xs, v = .ref ad ∧ SqL X.K g1 ad xs ∧ DnAll X.K g1 xs ds := by
      cases z1 with
      | lst s t => exact ⟨_, _, rfl, s, t⟩
    · refine ⟨ad, rfl, ⟨xs, Evl.ex_l s1.ex sq⟩, ?_⟩
      have w : Walk (Itl X.K ad) ds.length (fun H' => Ex g1 H') (Yd X.K g1 ds) := by
        rw [← t.length]
        refine (walk_list (K := X.K) (a := ad) (xs := xs)).mono (fun H' e => Evl.ex_l e sq) fun i H' v H2 _ e yy => ?_
        obtain ⟨rfl, hx⟩ := yy
        obtain ⟨d, hd, hz⟩ := t.get hx
        exact ⟨d, g1, hd, .refl e, hz⟩
      refine for_it w (fun i σ' H' => ∃ g' R', Ex g1 g' ∧ Sh g' R' H' ∧ I i σ' g' R') ⟨g1, R1, Evl.Ex.refl g1, s1, h0⟩ (fun i σ' H' _ ⟨g', R', e, s', _⟩ => e.trans s'.ex) (fun i v σ' H' H2 hi ⟨g', R', e, s', hI⟩ yy => ?_) fun σ' H' ⟨g', R', e, s', hI⟩ => hd σ' g' R' e hI H' s'
      obtain ⟨d, g3, hdi, r3, z3⟩ := yy
      have r4 : Rs g' H' (un g' g3) H2 := r3.up e s'.ex
      have s4 : Sh (un g' g3) R' H2 := s'.rs r4
      exact WS.mono (turn i d σ' g' R' hdi e hI v (un g' g3) r4.b (z3.ex (r3.upIn s'.ex)) _ s4) (fun σ3 H3 ⟨g5, R5, e5, s5, i5⟩ => ⟨g5, R5, e.trans e5, s5, i5⟩) (fun _ _ z => z) (fun _ _ z => z) (fun σ3 H3 ⟨g5, R5, e5, s5, i5⟩ => ⟨g5, R5, e.trans e5, s5, i5⟩))
/-- while c: W by a measure -/
theorem bh_while (hp : PassesOwn (model X.prog X.w) X.A X.env X.xe) (W : Nat → L2.St → Hp → Rl → Prop) (m0 : Nat) (h0 : W m0 σ g R)
    (turn : ∀ m σ' g' R', Ex g g' → W m σ' g' R' → TH X c σ' g' R' fun t g1 R1 => Ex g' g1 ∧ (t = true → BH X sa { D with nx := fun σ3 H3 => ∃ m' g3 R3, m' < m ∧ Ex g g3 ∧ Sh g3 R3 H3 ∧ W m' σ3 g3 R3, ct := fun σ3 H3 => ∃ m' g3 R3, m' < m ∧ Ex g g3 ∧ Sh g3 R3 H3 ∧ W m' σ3 g3 R3, bk := WS X rest D } σ' g1 R1) ∧ (t = false → BH X rest D σ' g1 R1)) :
    BH X (.While c sa [] pos :: rest) D σ g R := fun H s =>
  .of (pss_cons (ps_while hp WT.pt WS.ps) WS.ps) ⟨fun m σ' H' => ∃ g' R', Ex g g' ∧ Sh g' R' H' ∧ W m σ' g' R', ⟨m0, g, R, Evl.Ex.refl g, s, h0⟩, fun m σ' H' ⟨g', R', e, s', w⟩ => WT.mono (turn m σ' g' R' e w H' s') fun t H1 ⟨g1, R1, s1, e1, k1, k2⟩ => by
    cases t with
    | true => exact iteT ⟨fun σ3 H3 => ∃ m' g3 R3, m' < m ∧ Ex g g3 ∧ Sh g3 R3 H3 ∧ W m' σ3 g3 R3, fun σ3 H3 ⟨m', g3, R3, lt, e3, s3, w3⟩ => ⟨m', lt, g3, R3, e3, s3, w3⟩, k1 rfl H1 s1⟩
    | false => exact iteF (k2 rfl H1 s1)⟩
end
end Sk

namespace Sk
open PySem PySem.Spec PyProof.Rows L2
open Evl (Ex)
section
variable {X : Cx} {tg a b c e iter elt value : Expr} {es : List Expr} {σ : L2.St} {g h : Hp} {R Fr : Rl} {d : PyData} {pos p p' : Pos} {ds : List PyData}
theorem ev_take {n : Nat} {p2 : Pos} (za : Ev X a σ h (.list ds)) (zn : Ev X b σ h (.int (n : Nat))) : Ev X (.Subscript a (.Slice none (some b) none p2) pos) σ h (.list (ds.take n)) := fun H y Q q =>
  .of (pe_slice sl_list WE.pe po_none (po_some WE.pe)) (za H y _ fun v g1 H1 r1 z1 => zn.up r1.b H1 r1.c _ fun w g2 H2 r2 z2 => by
    cases z2
    cases z1 with
    | lst sq t =>
      rename_i ad xs
      refine ⟨(n : Nat), rfl, ad, xs, rfl, Evl.ex_l (r2.b.trans r2.c) sq, fun q' nq => ?_⟩
      have cv : cutV xs none (some (n : Nat)) = xs.take n := by
        unfold cutV
        rw [show HT.sIx xs.length xs.length (some (n : Nat)) = min n xs.length from HT.sIx_nat xs.length xs.length n, HT.sIx_none]
        show (xs.drop 0).take (min n xs.length - 0) = xs.take n
        rw [List.drop_zero, Nat.sub_zero, List.take_eq_take_iff]
        omega
      rw [cv]
      exact q _ _ _ ((r1.trans r2).trans (.new r2.c nq)) (.lst (Evl.sq_of upd_same) ((dn_take n (t.ex r2.b)).ex (Evl.Ex.new (Evl.fresh_back r2.c nq)))))
theorem ev_abs {i : Int} (hg : Gl X "abs") (hm : X.mg "abs" = none) (z : Ev X a σ h (.int i)) (hs : starEach [a] X.env = (false, eval a X.env) :: starEach [] X.env := by rfl) (hpl : (backTo pos (starEach [] X.env)).any (·.1) = false := by rfl) :
    Ev X (.Call (.Name "abs" p) [a] [] pos) σ h (.int (if i < 0 then -i else i)) :=
  ev_cb call_abs hg hm (by decide +kernel) (ea_cons z ea_nil hs) (fun vs h H e r Q q => by
    obtain ⟨v1, rfl, z1⟩ := dn1 r
    cases z1
    exact ⟨i, rfl, q _ h H (.refl e) (.int _)⟩) (by decide) (by decide) hs hpl
theorem ev_fdivW {i j : Int} (hc : CDivW i j) (za : Ev X a σ h (.int i)) (zb : Ev X b σ h (.int j)) : Ev X (.BinOp a .FloorDiv b pos) σ h (.int (i / j)) := ev_op2 op_fdivW za zb (r_iiC hc fun _ => .int _)
end
end Sk

namespace K01
open PySem PySem.Spec PyProof.Rows L2 Sk
open Evl (Ex)
def topS (i : Nat) : Stmt := PySem.Challenge.pw_seekways_k01_forms.main.body.getD i (.Pass ⟨0, 0, 0, 0⟩)
theorem b_int : bootBuiltins "int" = some (.type "int") := by decide +kernel
theorem b_bool : bootBuiltins "bool" = some (.type "bool") := by decide +kernel
theorem b_tuple : bootBuiltins "tuple" = some (.type "tuple") := by decide +kernel
def fromL (lo : Int) : PyData → Bool
  | .int i => decide (lo ≤ i)
  | _ => false
def inR (lo hi : Int) : PyData → Bool
  | .int i => decide (lo ≤ i) && decide (i ≤ hi)
  | _ => false
def tupOf (lo hi : Int) : PyData → Bool
  | .tuple ds => decide (lo ≤ (ds.length : Int)) && decide ((ds.length : Int) ≤ hi)
  | _ => false
def allT (p : PyData → Bool) : PyData → Bool
  | .tuple ds => ds.all p
  | _ => false
def isSt (x : PyData) : Bool := tupOf 1 12 x && allT (inR 0 999) x
def isPr : PyData → Bool
  | .tuple [c, n] => inR 0 1000 c && fromL 0 n
  | _ => false
theorem whole_int {x : PyData} (h : isW x = true) : ∃ i, x = .int i := by
  cases x <;> first | exact ⟨_, rfl⟩ | cases h
theorem tup_of {x : PyData} (h : isT x = true) : ∃ xs, x = .tuple xs := by
  cases x <;> first | exact ⟨_, rfl⟩ | cases h
theorem filt {α : Type} (ds : List α) : ds.filter (fun _ => true) = ds := List.filter_eq_self.mpr fun _ _ => rfl
structure Bi (mg : Str → Option Value) : Prop where
  isi : mg "isinstance" = none
  int : mg "int" = none
  bool : mg "bool" = none
  tuple : mg "tuple" = none
  len : mg "len" = none
  all : mg "all" = none
  zip : mg "zip" = none
  enumerate : mg "enumerate" = none
section
variable {P : Program} {w : World} {K : PySem.W.Frag} {mg : Str → Option Value} {base : Heap}
abbrev s_is_whole : Stmt := topS 5
abbrev N_is_whole : List Str := ["thing"]
abbrev p_is_whole : List Str := ["thing"]
theorem sc_is_whole : FnScope N_is_whole p_is_whole (defScope s_is_whole) := ⟨rfl, rfl, rfl, by decide +kernel, rfl, by decide +kernel, by decide +kernel⟩
theorem k_is_whole_thing : List.lookup ("thing" : Str) (defScope s_is_whole).names = some NameKind.local := by decide +kernel
theorem k_is_whole_isinstance : List.lookup ("isinstance" : Str) (defScope s_is_whole).names = some NameKind.globalImplicit := by decide +kernel
theorem k_is_whole_int : List.lookup ("int" : Str) (defScope s_is_whole).names = some NameKind.globalImplicit := by decide +kernel
theorem k_is_whole_bool : List.lookup ("bool" : Str) (defScope s_is_whole).names = some NameKind.globalImplicit := by decide +kernel
def fWhole : List PyData → PyData → Prop := fun ds d => ∃ x, ds = [x] ∧ d = .bool (isW x)
theorem is_whole (a : At K mg "is_whole" s_is_whole) (B : Bi mg) : FnD P w K mg base 1 "is_whole" fWhole := by
  refine FnD.mk' a sc_is_whole (fun _ _ _ _ _ _ us hl => match us, hl with | [_], _ => rfl) (by rintro _ _ ⟨x, rfl, rfl⟩; rfl) fun f cdv A outer s H E h vs ds d hr z hF => ?_
  obtain ⟨x, rfl, rfl⟩ := hF
  obtain ⟨v1, rfl, z1⟩ := dn1 z
  refine rt_ret (ev_is (ev_and2 (ev_isi B.isi B.int rfl rfl b_int (by decide) (by decide) (ev_var (n := 0) rfl (by first | exact .inl rfl | exact .inr (.inl rfl) | exact .inr (.inr rfl)) rfl z1) (kit_int _)) fun _ => ev_not (ev_isi B.isi B.bool rfl rfl b_bool (by decide) (by decide) (ev_var (n := 0) rfl (by first | exact .inl rfl | exact .inr (.inl rfl) | exact .inr (.inr rfl)) rfl z1) (kit_bool _))) ?_)
  cases x <;> rfl
abbrev s_is_standing : Stmt := topS 6
abbrev N_is_standing : List Str := ["thing", "number"]
abbrev p_is_standing : List Str := ["thing"]
theorem sc_is_standing : FnScope N_is_standing p_is_standing (defScope s_is_standing) := ⟨rfl, rfl, rfl, by decide +kernel, rfl, by decide +kernel, by decide +kernel⟩
theorem k_is_standing_thing : List.lookup ("thing" : Str) (defScope s_is_standing).names = some NameKind.local := by decide +kernel
theorem k_is_standing_isinstance : List.lookup ("isinstance" : Str) (defScope s_is_standing).names = some NameKind.globalImplicit := by decide +kernel
theorem k_is_standing_tuple : List.lookup ("tuple" : Str) (defScope s_is_standing).names = some NameKind.globalImplicit := by decide +kernel
theorem k_is_standing_len : List.lookup ("len" : Str) (defScope s_is_standing).names = some NameKind.globalImplicit := by decide +kernel
theorem k_is_standing_all : List.lookup ("all" : Str) (defScope s_is_standing).names = some NameKind.globalImplicit := by decide +kernel
def fSt : List PyData → PyData → Prop := fun ds d => ∃ x, ds = [x] ∧ d = .bool (isSt x)
theorem is_standing (a : At K mg "is_standing" s_is_standing) (B : Bi mg) (Gw : FnD P w K mg base 1 "is_whole" fWhole) : FnD P w K mg base 2 "is_standing" fSt := by
  refine FnD.mk' a sc_is_standing (fun _ _ _ _ _ _ us hl => match us, hl with | [_], _ => rfl) (by rintro _ _ ⟨x, rfl, rfl⟩; rfl) fun f cdv A outer s H E h vs ds d hr z hF => ?_
  obtain ⟨x, rfl, rfl⟩ := hF
  obtain ⟨v1, rfl, z1⟩ := dn1 z
  cases hx : isT x with
  | false =>
    refine rt_if (t := true) (et_or2 (t := true) (u := true) (et_not (t := false) (et_val (hx ▸ (ev_isi B.isi B.tuple rfl rfl b_tuple (by decide) (by decide) (ev_var (n := 0) rfl (by first | exact .inl rfl | exact .inr (.inl rfl) | exact .inr (.inr rfl)) rfl z1) (kit_tuple _))))) (fun z => nomatch z)) (fun _ => rt_ret (ev_is ev_bl ?_)) (fun z => nomatch z)
    cases x <;> first | rfl | cases hx
  | true =>
    obtain ⟨xs, rfl⟩ := tup_of hx
    refine rt_if (t := !(decide ((1 : Int) ≤ xs.length) && decide ((xs.length : Int) ≤ 12))) ?_ (fun ht => rt_ret (ev_is ev_bl ?_)) (fun ht => ?_)
    · refine et_or2 (t := false) (et_not (t := true) (et_val (ev_isi B.isi B.tuple rfl rfl b_tuple (by decide) (by decide) (ev_var (n := 0) rfl (by first | exact .inl rfl | exact .inr (.inl rfl) | exact .inr (.inr rfl)) rfl z1) (kit_tuple _)))) fun _ => ?_
      exact et_not (et_lele ev_int (ev_lenT rfl B.len (ev_var (n := 0) rfl (by first | exact .inl rfl | exact .inr (.inl rfl) | exact .inr (.inr rfl)) rfl z1)) ev_int)
    · show PyData.bool false = .bool ((decide ((1 : Int) ≤ xs.length) && decide ((xs.length : Int) ≤ 12)) && xs.all (inR 0 999))
      rw [Bool.not_eq_true'] at ht
      rw [ht]
      rfl
    · have ht' : (decide ((1 : Int) ≤ xs.length) && decide ((xs.length : Int) ≤ 12)) = true := by
        cases q : (decide ((1 : Int) ≤ xs.length) && decide ((xs.length : Int) ≤ 12)) with
        | true => rfl
        | false =>
          rw [q] at ht
          cases ht
      have hb : (xs.length : Int) ≤ 12 := of_decide_eq_true (Bool.and_eq_true_iff.mp ht').2
      refine rt_ret (ev_is (ev_all (bs := xs.map (inR 0 999)) rfl rfl B.all (ev_is (ev_lc (n := 1) rfl sc_is_standing.nd (blkOk_by (N := N_is_standing) (sc := defScope s_is_standing) (by decide +kernel)) (fun _ _ _ _ _ => pg_name (i := 1) sc_is_standing.nd rfl (Or.inl rfl)) (ei_tup (ev_var (n := 0) rfl (by first | exact .inl rfl | exact .inr (.inl rfl) | exact .inr (.inr rfl)) rfl z1)) (by omega) (fun _ => true) (fun x => .bool (inR 0 999 x)) (fun _ _ _ _ _ _ _ _ _ _ _ => es_nil) (fun d hd _ v h' e z s H C cl fp => ?_)) ?_)) ?_)
      · refine ev_is (ev_and2 (t := isW d) (u := inR 0 999 d) (ev_call Gw (hr.mono (by decide)) rfl (ea_cons (ev_var (n := 1) rfl (by first | exact .inl rfl | exact .inr (.inl rfl) | exact .inr (.inr rfl)) rfl z) ea_nil) ⟨_, rfl, rfl⟩) fun hw => ?_) ?_
        · obtain ⟨i, rfl⟩ := whole_int hw
          exact ev_lele ev_int (ev_var (n := 1) rfl (by first | exact .inl rfl | exact .inr (.inl rfl) | exact .inr (.inr rfl)) rfl z) ev_int
        · cases d <;> rfl
      · rw [filt, List.map_map]
        rfl
      · show PyData.bool ((xs.map (inR 0 999)).all id) = .bool ((decide ((1 : Int) ≤ xs.length) && decide ((xs.length : Int) ≤ 12)) && xs.all (inR 0 999))
        rw [ht', Bool.true_and, List.all_map]
        rfl
abbrev s_is_from : Stmt := topS 15
abbrev N_is_from : List Str := ["thing", "low"]
abbrev p_is_from : List Str := ["thing", "low"]
theorem sc_is_from : FnScope N_is_from p_is_from (defScope s_is_from) := ⟨rfl, rfl, rfl, by decide +kernel, rfl, by decide +kernel, by decide +kernel⟩
theorem k_is_from_thing : List.lookup ("thing" : Str) (defScope s_is_from).names = some NameKind.local := by decide +kernel
theorem k_is_from_low : List.lookup ("low" : Str) (defScope s_is_from).names = some NameKind.local := by decide +kernel
theorem k_is_from_is_whole : List.lookup ("is_whole" : Str) (defScope s_is_from).names = some NameKind.globalImplicit := by decide +kernel
def fFrom : List PyData → PyData → Prop := fun ds d => ∃ x lo, ds = [x, .int lo] ∧ d = .bool (fromL lo x)
theorem is_from (a : At K mg "is_from" s_is_from) (B : Bi mg) (Gw : FnD P w K mg base 1 "is_whole" fWhole) : FnD P w K mg base 2 "is_from" fFrom := by
  refine FnD.mk' a sc_is_from (fun _ _ _ _ _ _ us hl => match us, hl with | [_, _], _ => rfl) (by rintro _ _ ⟨x, lo, rfl, rfl⟩; rfl) fun f cdv A outer s H E h vs ds d hr z hF => ?_
  obtain ⟨x, lo, rfl, rfl⟩ := hF
  obtain ⟨v1, v2, rfl, z1, z2⟩ := dn2 z
  refine rt_ret (ev_is (ev_and2 (t := isW x) (u := fromL lo x) (ev_call Gw (hr.mono (by decide)) rfl (ea_cons (ev_var (n := 0) rfl (by first | exact .inl rfl | exact .inr (.inl rfl) | exact .inr (.inr rfl)) rfl z1) ea_nil) ⟨_, rfl, rfl⟩) fun hw => ?_) ?_)
  · obtain ⟨i, rfl⟩ := whole_int hw
    exact ev_ge (ev_var (n := 0) rfl (by first | exact .inl rfl | exact .inr (.inl rfl) | exact .inr (.inr rfl)) rfl z1) (ev_var (n := 1) rfl (by first | exact .inl rfl | exact .inr (.inl rfl) | exact .inr (.inr rfl)) rfl z2)
  · cases x <;> rfl
abbrev s_is_between : Stmt := topS 16
abbrev N_is_between : List Str := ["thing", "low", "high"]
abbrev p_is_between : List Str := ["thing", "low", "high"]
theorem sc_is_between : FnScope N_is_between p_is_between (defScope s_is_between) := ⟨rfl, rfl, rfl, by decide +kernel, rfl, by decide +kernel, by decide +kernel⟩
theorem k_is_between_thing : List.lookup ("thing" : Str) (defScope s_is_between).names = some NameKind.local := by decide +kernel
theorem k_is_between_low : List.lookup ("low" : Str) (defScope s_is_between).names = some NameKind.local := by decide +kernel
theorem k_is_between_high : List.lookup ("high" : Str) (defScope s_is_between).names = some NameKind.local := by decide +kernel
theorem k_is_between_is_whole : List.lookup ("is_whole" : Str) (defScope s_is_between).names = some NameKind.globalImplicit := by decide +kernel
def fBetween : List PyData → PyData → Prop := fun ds d => ∃ x lo hi, ds = [x, .int lo, .int hi] ∧ d = .bool (inR lo hi x)
theorem is_between (a : At K mg "is_between" s_is_between) (B : Bi mg) (Gw : FnD P w K mg base 1 "is_whole" fWhole) : FnD P w K mg base 2 "is_between" fBetween := by
  refine FnD.mk' a sc_is_between (fun _ _ _ _ _ _ us hl => match us, hl with | [_, _, _], _ => rfl) (by rintro _ _ ⟨x, lo, hi, rfl, rfl⟩; rfl) fun f cdv A outer s H E h vs ds d hr z hF => ?_
  obtain ⟨x, lo, hi, rfl, rfl⟩ := hF
  obtain ⟨v1, v2, v3, rfl, z1, z2, z3⟩ := dn3 z
  refine rt_ret (ev_is (ev_and2 (t := isW x) (u := inR lo hi x) (ev_call Gw (hr.mono (by decide)) rfl (ea_cons (ev_var (n := 0) rfl (by first | exact .inl rfl | exact .inr (.inl rfl) | exact .inr (.inr rfl)) rfl z1) ea_nil) ⟨_, rfl, rfl⟩) fun hw => ?_) ?_)
  · obtain ⟨i, rfl⟩ := whole_int hw
    exact ev_lele (ev_var (n := 1) rfl (by first | exact .inl rfl | exact .inr (.inl rfl) | exact .inr (.inr rfl)) rfl z2) (ev_var (n := 0) rfl (by first | exact .inl rfl | exact .inr (.inl rfl) | exact .inr (.inr rfl)) rfl z1) (ev_var (n := 2) rfl (by first | exact .inl rfl | exact .inr (.inl rfl) | exact .inr (.inr rfl)) rfl z3)
  · cases x <;> rfl
abbrev s_is_truth : Stmt := topS 17
abbrev N_is_truth : List Str := ["thing"]
abbrev p_is_truth : List Str := ["thing"]
theorem sc_is_truth : FnScope N_is_truth p_is_truth (defScope s_is_truth) := ⟨rfl, rfl, rfl, by decide +kernel, rfl, by decide +kernel, by decide +kernel⟩
theorem k_is_truth_thing : List.lookup ("thing" : Str) (defScope s_is_truth).names = some NameKind.local := by decide +kernel
theorem k_is_truth_isinstance : List.lookup ("isinstance" : Str) (defScope s_is_truth).names = some NameKind.globalImplicit := by decide +kernel
theorem k_is_truth_bool : List.lookup ("bool" : Str) (defScope s_is_truth).names = some NameKind.globalImplicit := by decide +kernel
def fTruth : List PyData → PyData → Prop := fun ds d => ∃ x, ds = [x] ∧ d = .bool (isB x)
theorem is_truth (a : At K mg "is_truth" s_is_truth) (B : Bi mg) : FnD P w K mg base 1 "is_truth" fTruth := by
  refine FnD.mk' a sc_is_truth (fun _ _ _ _ _ _ us hl => match us, hl with | [_], _ => rfl) (by rintro _ _ ⟨x, rfl, rfl⟩; rfl) fun f cdv A outer s H E h vs ds d hr z hF => ?_
  obtain ⟨x, rfl, rfl⟩ := hF
  obtain ⟨v1, rfl, z1⟩ := dn1 z
  exact rt_ret (ev_isi B.isi B.bool rfl rfl b_bool (by decide) (by decide) (ev_var (n := 0) rfl (by first | exact .inl rfl | exact .inr (.inl rfl) | exact .inr (.inr rfl)) rfl z1) (kit_bool _))
abbrev s_is_tuple_of : Stmt := topS 18
abbrev N_is_tuple_of : List Str := ["thing", "least", "most"]
abbrev p_is_tuple_of : List Str := ["thing", "least", "most"]
theorem sc_is_tuple_of : FnScope N_is_tuple_of p_is_tuple_of (defScope s_is_tuple_of) := ⟨rfl, rfl, rfl, by decide +kernel, rfl, by decide +kernel, by decide +kernel⟩
theorem k_is_tuple_of_thing : List.lookup ("thing" : Str) (defScope s_is_tuple_of).names = some NameKind.local := by decide +kernel
theorem k_is_tuple_of_least : List.lookup ("least" : Str) (defScope s_is_tuple_of).names = some NameKind.local := by decide +kernel
theorem k_is_tuple_of_most : List.lookup ("most" : Str) (defScope s_is_tuple_of).names = some NameKind.local := by decide +kernel
theorem k_is_tuple_of_isinstance : List.lookup ("isinstance" : Str) (defScope s_is_tuple_of).names = some NameKind.globalImplicit := by decide +kernel
theorem k_is_tuple_of_tuple : List.lookup ("tuple" : Str) (defScope s_is_tuple_of).names = some NameKind.globalImplicit := by decide +kernel
theorem k_is_tuple_of_len : List.lookup ("len" : Str) (defScope s_is_tuple_of).names = some NameKind.globalImplicit := by decide +kernel
def fTupOf : List PyData → PyData → Prop := fun ds d => ∃ x lo hi, ds = [x, .int lo, .int hi] ∧ d = .bool (tupOf lo hi x)
theorem is_tuple_of (a : At K mg "is_tuple_of" s_is_tuple_of) (B : Bi mg) : FnD P w K mg base 1 "is_tuple_of" fTupOf := by
  refine FnD.mk' a sc_is_tuple_of (fun _ _ _ _ _ _ us hl => match us, hl with | [_, _, _], _ => rfl) (by rintro _ _ ⟨x, lo, hi, rfl, rfl⟩; rfl) fun f cdv A outer s H E h vs ds d hr z hF => ?_
  obtain ⟨x, lo, hi, rfl, rfl⟩ := hF
  obtain ⟨v1, v2, v3, rfl, z1, z2, z3⟩ := dn3 z
  refine rt_ret (ev_is (ev_and2 (t := isT x) (u := tupOf lo hi x) (ev_isi B.isi B.tuple rfl rfl b_tuple (by decide) (by decide) (ev_var (n := 0) rfl (by first | exact .inl rfl | exact .inr (.inl rfl) | exact .inr (.inr rfl)) rfl z1) (kit_tuple _)) fun hw => ?_) ?_)
  · obtain ⟨xs, rfl⟩ := tup_of hw
    exact ev_lele (ev_var (n := 1) rfl (by first | exact .inl rfl | exact .inr (.inl rfl) | exact .inr (.inr rfl)) rfl z2) (ev_lenT rfl B.len (ev_var (n := 0) rfl (by first | exact .inl rfl | exact .inr (.inl rfl) | exact .inr (.inr rfl)) rfl z1)) (ev_var (n := 2) rfl (by first | exact .inl rfl | exact .inr (.inl rfl) | exact .inr (.inr rfl)) rfl z3)
  · cases x <;> rfl
abbrev s_are_numbers : Stmt := topS 19
abbrev N_are_numbers : List Str := ["thing", "low", "number"]
abbrev p_are_numbers : List Str := ["thing", "low"]
theorem sc_are_numbers : FnScope N_are_numbers p_are_numbers (defScope s_are_numbers) := ⟨rfl, rfl, rfl, by decide +kernel, rfl, by decide +kernel, by decide +kernel⟩
theorem k_are_numbers_thing : List.lookup ("thing" : Str) (defScope s_are_numbers).names = some NameKind.local := by decide +kernel
theorem k_are_numbers_low : List.lookup ("low" : Str) (defScope s_are_numbers).names = some NameKind.cell := by decide +kernel
theorem k_are_numbers_isinstance : List.lookup ("isinstance" : Str) (defScope s_are_numbers).names = some NameKind.globalImplicit := by decide +kernel
theorem k_are_numbers_tuple : List.lookup ("tuple" : Str) (defScope s_are_numbers).names = some NameKind.globalImplicit := by decide +kernel
theorem k_are_numbers_all : List.lookup ("all" : Str) (defScope s_are_numbers).names = some NameKind.globalImplicit := by decide +kernel
def fNums : List PyData → PyData → Prop := fun ds d => ∃ x lo, ds = [x, .int lo] ∧ (∀ xs, x = .tuple xs → xs.length ≤ 100000) ∧ d = .bool (allT (fromL lo) x)
theorem are_numbers (a : At K mg "are_numbers" s_are_numbers) (B : Bi mg) (Gf : FnD P w K mg base 2 "is_from" fFrom) : FnD P w K mg base 3 "are_numbers" fNums := by
  refine FnD.mk' a sc_are_numbers (fun _ _ _ _ _ _ us hl => match us, hl with | [_, _], _ => rfl) (by rintro _ _ ⟨x, lo, rfl, hl, rfl⟩; rfl) fun f cdv A outer s H E h vs ds d hr z hF => ?_
  obtain ⟨x, lo, rfl, hl, rfl⟩ := hF
  obtain ⟨v1, v2, rfl, z1, z2⟩ := dn2 z
  refine rt_ret (ev_is (ev_and2 (t := isT x) (u := allT (fromL lo) x) (ev_isi B.isi B.tuple rfl rfl b_tuple (by decide) (by decide) (ev_var (n := 0) rfl (by first | exact .inl rfl | exact .inr (.inl rfl) | exact .inr (.inr rfl)) rfl z1) (kit_tuple _)) fun hw => ?_) ?_)
  · obtain ⟨xs, rfl⟩ := tup_of hw
    refine ev_is (ev_all (bs := xs.map (fromL lo)) rfl rfl B.all (ev_is (ev_lc (n := 2) rfl sc_are_numbers.nd (blkOk_by (N := N_are_numbers) (sc := defScope s_are_numbers) (by decide +kernel)) (fun _ _ _ _ _ => pg_name (i := 2) sc_are_numbers.nd rfl (Or.inl rfl)) (ei_tup (ev_var (n := 0) rfl (by first | exact .inl rfl | exact .inr (.inl rfl) | exact .inr (.inr rfl)) rfl z1)) (hl xs rfl) (fun _ => true) (fun x => .bool (fromL lo x)) (fun _ _ _ _ _ _ _ _ _ _ _ => es_nil) (fun d hd _ v h' e z s H C cl fp => ev_call Gf hr rfl (ea_cons (ev_var (n := 2) rfl (by first | exact .inl rfl | exact .inr (.inl rfl) | exact .inr (.inr rfl)) rfl z) (ea_cons (ev_var (n := 1) rfl (by first | exact .inl rfl | exact .inr (.inl rfl) | exact .inr (.inr rfl)) rfl (z2.ex e)) ea_nil)) ⟨_, _, rfl, rfl⟩)) ?_)) ?_
    · rw [filt, List.map_map]
      rfl
    · rw [List.all_map]
      rfl
  · cases x <;> rfl
end
end K01

namespace K01
open PySem PySem.Spec PyProof.Rows L2 Sk
open Evl (Ex)
structure Cn (mg : Str → Option Value) : Prop where
  cost : ∃ t, mg "MOST_COST" = some (.int 1000 t)
  bound : ∃ t, mg "MOST_BOUND" = some (.int 100000 t)
  nexts : ∃ t, mg "MOST_NEXTS" = some (.int 8 t)
  turns : ∃ t, mg "MOST_TURNS" = some (.int 3 t)
  told : ∃ t, mg "MOST_TOLD" = some (.int 24 t)
  name : ∃ t, mg "MOST_NAME" = some (.int 99 t)
  heads : ∃ t, mg "MOST_HEADS" = some (.int 200 t)
def pairD (p : Int × Int) : PyData := .tuple [.int p.1, .int p.2]
def pairsD (ps : List (Int × Int)) : PyData := .tuple (ps.map pairD)
def intsD (ns : List Int) : PyData := .tuple (ns.map .int)
def okPr (many : Int) (p : Int × Int) : Prop := 0 ≤ p.1 ∧ p.1 ≤ 1000 ∧ 0 ≤ p.2 ∧ p.2 < many
structure Row where
  nx : List (Int × Int)
  dn : Bool
  nm : Int
  bd : Int
  ct : Bool
def rowD (r : Row) : PyData := .tuple [pairsD r.nx, .bool r.dn, .int r.nm, .int r.bd, .bool r.ct]
def okRow (many : Int) (r : Row) : Prop := r.nx.length ≤ 8 ∧ (∀ p ∈ r.nx, okPr many p) ∧ 0 ≤ r.nm ∧ r.nm ≤ 99 ∧ 0 ≤ r.bd ∧ r.bd ≤ 100000
def okNum (many : Int) (n : Int) : Prop := 0 ≤ n ∧ n < many
def okTurn (many : Int) (t : List Int) : Prop := (t.length : Int) = many ∧ ∀ n ∈ t, okNum many n
def rising : List Int → Bool
  | a :: b :: r => decide (a < b) && rising (b :: r)
  | _ => true
theorem all_true {α : Type} {p : α → Bool} {l : List α} (h : ∀ x ∈ l, p x = true) : l.all p = true := List.all_eq_true.mpr h
theorem zip_rise : ∀ ns : List Int, ((List.zipWith (fun x y => (x, y)) ns (ns.drop 1)).all fun q => decide (q.1 < q.2)) = rising ns
  | [] => rfl
  | [_] => rfl
  | a :: b :: r => by
    show (decide (a < b) && _) = (decide (a < b) && rising (b :: r))
    rw [← zip_rise (b :: r)]
    rfl
theorem zip_mem {α β γ : Type} {f : α → β → γ} {c : γ} : ∀ {as : List α} {bs : List β}, c ∈ List.zipWith f as bs → ∃ a b, a ∈ as ∧ b ∈ bs ∧ c = f a b
  | [], _, h => by cases h
  | _ :: _, [], h => by cases h
  | a :: as, b :: bs, h => by
    rcases List.mem_cons.mp h with e | h
    · exact ⟨a, b, List.mem_cons_self .., List.mem_cons_self .., e⟩
    · obtain ⟨x, y, hx, hy, e⟩ := zip_mem h
      exact ⟨x, y, List.mem_cons_of_mem _ hx, List.mem_cons_of_mem _ hy, e⟩
section
variable {P : Program} {w : World} {K : PySem.W.Frag} {mg : Str → Option Value} {base : Heap}
abbrev s_are_within : Stmt := topS 20
abbrev N_are_within : List Str := ["numbers", "many", "number"]
abbrev p_are_within : List Str := ["numbers", "many"]
theorem sc_are_within : FnScope N_are_within p_are_within (defScope s_are_within) := ⟨rfl, rfl, rfl, by decide +kernel, rfl, by decide +kernel, by decide +kernel⟩
theorem k_are_within_numbers : List.lookup ("numbers" : Str) (defScope s_are_within).names = some NameKind.local := by decide +kernel
theorem k_are_within_many : List.lookup ("many" : Str) (defScope s_are_within).names = some NameKind.cell := by decide +kernel
theorem k_are_within_all : List.lookup ("all" : Str) (defScope s_are_within).names = some NameKind.globalImplicit := by decide +kernel
def fWithin : List PyData → PyData → Prop := fun ds d => ∃ (ns : List Int) (m : Int) (x : PyData), ds = [x, .int m] ∧ (x = .tuple (ns.map .int) ∨ x = .list (ns.map .int)) ∧ ns.length ≤ 100000 ∧ d = .bool (ns.all fun n => decide (n < m))
theorem are_within (a : At K mg "are_within" s_are_within) (B : Bi mg) : FnD P w K mg base 1 "are_within" fWithin := by
  refine FnD.mk' a sc_are_within (fun _ _ _ _ _ _ us hl => match us, hl with | [_, _], _ => rfl) (by rintro _ _ ⟨ns, m, x, rfl, hx, hl, rfl⟩; rfl) fun f cdv A outer s H E h vs ds d hr z hF => ?_
  obtain ⟨ns, m, x, rfl, hx, hl, rfl⟩ := hF
  obtain ⟨v1, v2, rfl, z1, z2⟩ := dn2 z
  have src : ∀ (tg : Expr) (pos : Pos), EvI (Cf P w K mg base N_are_within "are_within" s_are_within f cdv A outer s H E) tg (.Name "numbers" pos) (start N_are_within [v1, v2]) h (ns.map .int) := fun tg pos => by
    rcases hx with rfl | rfl
    · exact ei_tup (ev_var (n := 0) rfl (by first | exact .inl rfl | exact .inr (.inl rfl) | exact .inr (.inr rfl)) rfl z1)
    · exact ei_list (ev_var (n := 0) rfl (by first | exact .inl rfl | exact .inr (.inl rfl) | exact .inr (.inr rfl)) rfl z1)
  refine rt_ret (ev_is (ev_all (bs := ns.map fun n => decide (n < m)) rfl rfl B.all (ev_is (ev_lc (n := 2) rfl sc_are_within.nd (blkOk_by (N := N_are_within) (sc := defScope s_are_within) (by decide +kernel)) (fun _ _ _ _ _ => pg_name (i := 2) sc_are_within.nd rfl (Or.inl rfl)) (src _ _) (by rw [List.length_map]; exact hl) (fun _ => true) (fun x => match x with | .int n => .bool (decide (n < m)) | _ => .none) (fun _ _ _ _ _ _ _ _ _ _ _ => es_nil) (fun d hd _ v h' e z s H C cl fp => ?_)) ?_)) ?_)
  · obtain ⟨n, hn, rfl⟩ := List.mem_map.mp hd
    exact ev_lt (ev_var (n := 2) rfl (by first | exact .inl rfl | exact .inr (.inl rfl) | exact .inr (.inr rfl)) rfl z) (ev_var (n := 1) rfl (by first | exact .inl rfl | exact .inr (.inl rfl) | exact .inr (.inr rfl)) rfl (z2.ex e))
  · rw [filt, List.map_map, List.map_map]
    rfl
  · rw [List.all_map]
    rfl
abbrev s_are_rising : Stmt := topS 21
abbrev N_are_rising : List Str := ["numbers", "low", "high"]
abbrev p_are_rising : List Str := ["numbers"]
theorem sc_are_rising : FnScope N_are_rising p_are_rising (defScope s_are_rising) := ⟨rfl, rfl, rfl, by decide +kernel, rfl, by decide +kernel, by decide +kernel⟩
theorem k_are_rising_numbers : List.lookup ("numbers" : Str) (defScope s_are_rising).names = some NameKind.local := by decide +kernel
theorem k_are_rising_all : List.lookup ("all" : Str) (defScope s_are_rising).names = some NameKind.globalImplicit := by decide +kernel
theorem k_are_rising_zip : List.lookup ("zip" : Str) (defScope s_are_rising).names = some NameKind.globalImplicit := by decide +kernel
def fRising : List PyData → PyData → Prop := fun ds d => ∃ (ns : List Int), ds = [intsD ns] ∧ ns.length ≤ 100000 ∧ d = .bool (rising ns)
theorem ev_drop1 {X : Cx} {a : Expr} {σ : L2.St} {h : Hp} {pos p2 p3 : Pos} {m : Nat} {ds : List PyData} (z : Ev X a σ h (.tuple ds)) (hne : ds ≠ []) : Ev X (.Subscript a (.Slice (some (.Constant (.int 1) m p3)) none none p2) pos) σ h (.tuple (ds.drop 1)) := fun H y Q q =>
  .of (pe_slice sl_tupA WE.pe (po_some pe_int) po_none) (z H y _ fun v g1 H1 r1 z1 => ⟨1, rfl, by
    cases z1 with
    | tup s t =>
      rename_i ad xs
      have hx : xs ≠ [] := fun e => by
        subst e
        cases t
        exact hne rfl
      have c1 : HT.sIx xs.length 0 (some 1) = 1 := by
        rw [show HT.sIx xs.length 0 (some 1) = min 1 xs.length from HT.sIx_nat xs.length 0 1]
        have : 0 < xs.length := List.length_pos_iff.mpr hx
        omega
      refine ⟨ad, xs, rfl, Evl.ex_t r1.c s, fun w => ?_, fun _ p np => ?_⟩
      · rw [c1] at w
        exact absurd w.1 (by decide)
      · have cv : cutV xs (some 1) none = xs.drop 1 := by
          unfold cutV
          rw [c1, HT.sIx_none]
          exact List.take_of_length_le (by rw [List.length_drop]; omega)
        have td : ∀ {us : List V} {es : List PyData}, DnAll X.K g1 us es → DnAll X.K g1 (us.drop 1) (es.drop 1) := fun r => by
          cases r with
          | nil => exact .nil
          | cons _ r => exact r
        rw [cv]
        exact q _ _ _ (r1.trans (.new r1.c np)) (.tup (Evl.st_of upd_same) ((td t).ex (Evl.Ex.new (Evl.fresh_back r1.c np))))⟩)
theorem ev_drop1n {X : Cx} {a : Expr} {σ : L2.St} {h : Hp} {pos p2 p3 : Pos} {m : Nat} (z : Ev X a σ h (.tuple [])) : Ev X (.Subscript a (.Slice (some (.Constant (.int 1) m p3)) none none p2) pos) σ h (.tuple []) := fun H y Q q =>
  .of (pe_slice sl_tupA WE.pe (po_some pe_int) po_none) (z H y _ fun v g1 H1 r1 z1 => ⟨1, rfl, by
    cases z1 with
    | tup s t =>
      cases t
      refine ⟨_, [], rfl, Evl.ex_t r1.c s, fun w => q _ g1 H1 r1 (.tup s .nil), fun w => absurd ⟨?_, ?_⟩ w⟩
      · rfl
      · rfl⟩)
theorem are_rising (a : At K mg "are_rising" s_are_rising) (B : Bi mg) : FnD P w K mg base 1 "are_rising" fRising := by
  refine FnD.mk' a sc_are_rising (fun _ _ _ _ _ _ us hl => match us, hl with | [_], _ => rfl) (by rintro _ _ ⟨ns, rfl, hl, rfl⟩; rfl) fun f cdv A outer s H E h vs ds d hr z hF => ?_
  obtain ⟨ns, rfl, hl, rfl⟩ := hF
  obtain ⟨v1, rfl, z1⟩ := dn1 z
  have src : ∀ (p2 p3 pos pos2 : Pos) (m : Nat), Ev (Cf P w K mg base N_are_rising "are_rising" s_are_rising f cdv A outer s H E) (.Subscript (.Name "numbers" pos2) (.Slice (some (.Constant (.int 1) m p3)) none none p2) pos) (start N_are_rising [v1]) h (.tuple ((ns.map .int).drop 1)) := fun p2 p3 pos pos2 m => by
    cases ns with
    | nil => exact ev_drop1n (ev_var (n := 0) rfl (by first | exact .inl rfl | exact .inr (.inl rfl) | exact .inr (.inr rfl)) rfl z1)
    | cons n r => exact ev_drop1 (ev_var (n := 0) rfl (by first | exact .inl rfl | exact .inr (.inl rfl) | exact .inr (.inr rfl)) rfl z1) (fun e => nomatch e)
  refine rt_ret (ev_is (ev_all (bs := (List.zipWith (fun x y => (x, y)) ns (ns.drop 1)).map fun q => decide (q.1 < q.2)) rfl rfl B.all (ev_is (ev_lc2 (n := 1) (n2 := 2) rfl sc_are_rising.nd (blkOk_by (N := N_are_rising) (sc := defScope s_are_rising) (by decide +kernel)) (by decide) (fun _ _ _ _ _ => pg_tup rfl (pgs_cons (pg_name (i := 1) sc_are_rising.nd rfl (Or.inl rfl)) (pgs_cons (pg_name (i := 2) sc_are_rising.nd rfl (Or.inl rfl)) pgs_nil))) (ei_zip (by rfl) B.zip (ev_var (n := 0) rfl (by first | exact .inl rfl | exact .inr (.inl rfl) | exact .inr (.inr rfl)) rfl z1) (src _ _ _ _ _)) (by rw [List.length_zipWith, List.length_map]; omega) (fun _ => true) (fun x => match x with | .tuple [.int i, .int j] => .bool (decide (i < j)) | _ => .none) ?_ (fun _ _ _ _ _ _ _ _ _ _ _ _ _ _ => es_nil) (fun d1 d2 hd _ v1 v2 h' e z1' z2' s H C cl fp => ?_)) ?_)) ?_)
  · intro d hd
    obtain ⟨i, j, _, _, rfl⟩ := zip_mem hd
    exact ⟨_, _, rfl⟩
  · obtain ⟨i, j, hi, hj, e2⟩ := zip_mem hd
    injection e2 with e2
    injection e2 with a1 a2
    injection a2 with a2 _
    subst a1 a2
    obtain ⟨x, _, rfl⟩ := List.mem_map.mp hi
    obtain ⟨y, _, rfl⟩ := List.mem_map.mp (List.mem_of_mem_drop hj)
    exact ev_lt (ev_var (n := 1) rfl (by first | exact .inl rfl | exact .inr (.inl rfl) | exact .inr (.inr rfl)) rfl z1') (ev_var (n := 2) rfl (by first | exact .inl rfl | exact .inr (.inl rfl) | exact .inr (.inr rfl)) rfl z2')
  · rw [filt, ← List.map_drop, List.zipWith_map, List.map_zipWith, List.map_zipWith, List.map_zipWith]
  · rw [List.all_map, ← zip_rise]
    rfl
abbrev s_is_pair : Stmt := topS 22
abbrev N_is_pair : List Str := ["thing"]
abbrev p_is_pair : List Str := ["thing"]
theorem sc_is_pair : FnScope N_is_pair p_is_pair (defScope s_is_pair) := ⟨rfl, rfl, rfl, by decide +kernel, rfl, by decide +kernel, by decide +kernel⟩
theorem k_is_pair_thing : List.lookup ("thing" : Str) (defScope s_is_pair).names = some NameKind.local := by decide +kernel
theorem k_is_pair_is_tuple_of : List.lookup ("is_tuple_of" : Str) (defScope s_is_pair).names = some NameKind.globalImplicit := by decide +kernel
theorem k_is_pair_is_between : List.lookup ("is_between" : Str) (defScope s_is_pair).names = some NameKind.globalImplicit := by decide +kernel
theorem k_is_pair_MOST_COST : List.lookup ("MOST_COST" : Str) (defScope s_is_pair).names = some NameKind.globalImplicit := by decide +kernel
theorem k_is_pair_is_from : List.lookup ("is_from" : Str) (defScope s_is_pair).names = some NameKind.globalImplicit := by decide +kernel
def fPair : List PyData → PyData → Prop := fun ds d => ∃ x, ds = [x] ∧ d = .bool (isPr x)
theorem is_pair (a : At K mg "is_pair" s_is_pair) (B : Bi mg) (C : Cn mg) (Gt : FnD P w K mg base 1 "is_tuple_of" fTupOf) (Gb : FnD P w K mg base 2 "is_between" fBetween) (Gf : FnD P w K mg base 2 "is_from" fFrom) : FnD P w K mg base 3 "is_pair" fPair := by
  refine FnD.mk' a sc_is_pair (fun _ _ _ _ _ _ us hl => match us, hl with | [_], _ => rfl) (by rintro _ _ ⟨x, rfl, rfl⟩; rfl) fun f cdv A outer s H E h vs ds d hr z hF => ?_
  obtain ⟨x, rfl, rfl⟩ := hF
  obtain ⟨v1, rfl, z1⟩ := dn1 z
  obtain ⟨t1, hc⟩ := C.cost
  cases ht : tupOf 2 2 x with
  | false =>
    refine rt_ret (ev_is (ev_and3 (t := false) (u := false) (w := false) (ht ▸ (ev_call Gt (hr.mono (by decide)) rfl (ea_cons (ev_var (n := 0) rfl (by first | exact .inl rfl | exact .inr (.inl rfl) | exact .inr (.inr rfl)) rfl z1) (ea_cons ev_int (ea_cons ev_int ea_nil))) ⟨x, 2, 2, rfl, rfl⟩)) (fun z => nomatch z) (fun z => nomatch z)) ?_)
    match x, ht with
    | .tuple [], _ => rfl
    | .tuple [_], _ => rfl
    | .tuple (_ :: _ :: _ :: _), _ => rfl
    | .none, _ => rfl
    | .bool _, _ => rfl
    | .int _, _ => rfl
    | .str _, _ => rfl
    | .list _, _ => rfl
    | .dict _, _ => rfl
  | true =>
    obtain ⟨c, n, rfl⟩ : ∃ c n, x = .tuple [c, n] := by
      match x, ht with
      | .tuple [c, n], _ => exact ⟨c, n, rfl⟩
      | .tuple (a :: b :: c :: r), ht =>
        have z := of_decide_eq_true (Bool.and_eq_true_iff.mp ht).2
        simp only [List.length_cons] at z
        omega
    refine rt_ret (ev_is (ev_and3 (t := true) (u := inR 0 1000 c) (w := fromL 0 n) (ht ▸ (ev_call Gt (hr.mono (by decide)) rfl (ea_cons (ev_var (n := 0) rfl (by first | exact .inl rfl | exact .inr (.inl rfl) | exact .inr (.inr rfl)) rfl z1) (ea_cons ev_int (ea_cons ev_int ea_nil))) ⟨_, 2, 2, rfl, rfl⟩)) (fun _ => (ev_call Gb (hr.mono (by decide)) rfl (ea_cons (ev_ixT (n := 0) (ev_var (n := 0) rfl (by first | exact .inl rfl | exact .inr (.inl rfl) | exact .inr (.inr rfl)) rfl z1) ev_int rfl (fun _ _ => rfl)) (ea_cons ev_int (ea_cons (ev_glob (v := .int 1000) (by rfl) hc ⟨_, rfl⟩ (.int 1000)) ea_nil))) ⟨_, 0, 1000, rfl, rfl⟩)) (fun _ _ => (ev_call Gf (hr.mono (by decide)) rfl (ea_cons (ev_ixT (n := 1) (ev_var (n := 0) rfl (by first | exact .inl rfl | exact .inr (.inl rfl) | exact .inr (.inr rfl)) rfl z1) ev_int rfl (fun _ _ => rfl)) (ea_cons ev_int ea_nil)) ⟨_, 0, rfl, rfl⟩))) ?_)
    rfl
abbrev s_are_pairs : Stmt := topS 23
abbrev N_are_pairs : List Str := ["thing", "most", "pair"]
abbrev p_are_pairs : List Str := ["thing", "most"]
theorem sc_are_pairs : FnScope N_are_pairs p_are_pairs (defScope s_are_pairs) := ⟨rfl, rfl, rfl, by decide +kernel, rfl, by decide +kernel, by decide +kernel⟩
theorem k_are_pairs_thing : List.lookup ("thing" : Str) (defScope s_are_pairs).names = some NameKind.local := by decide +kernel
theorem k_are_pairs_most : List.lookup ("most" : Str) (defScope s_are_pairs).names = some NameKind.local := by decide +kernel
theorem k_are_pairs_is_tuple_of : List.lookup ("is_tuple_of" : Str) (defScope s_are_pairs).names = some NameKind.globalImplicit := by decide +kernel
theorem k_are_pairs_all : List.lookup ("all" : Str) (defScope s_are_pairs).names = some NameKind.globalImplicit := by decide +kernel
def fPairs : List PyData → PyData → Prop := fun ds d => ∃ x m, ds = [x, .int m] ∧ m ≤ 100000 ∧ d = .bool (tupOf 0 m x && allT isPr x)
theorem are_pairs (a : At K mg "are_pairs" s_are_pairs) (B : Bi mg) (Gt : FnD P w K mg base 1 "is_tuple_of" fTupOf) (Gp : FnD P w K mg base 3 "is_pair" fPair) : FnD P w K mg base 4 "are_pairs" fPairs := by
  refine FnD.mk' a sc_are_pairs (fun _ _ _ _ _ _ us hl => match us, hl with | [_, _], _ => rfl) (by rintro _ _ ⟨x, m, rfl, hm, rfl⟩; rfl) fun f cdv A outer s H E h vs ds d hr z hF => ?_
  obtain ⟨x, m, rfl, hm, rfl⟩ := hF
  obtain ⟨v1, v2, rfl, z1, z2⟩ := dn2 z
  refine rt_ret (ev_and2 (ev_call Gt (hr.mono (by decide)) rfl (ea_cons (ev_var (n := 0) rfl (by first | exact .inl rfl | exact .inr (.inl rfl) | exact .inr (.inr rfl)) rfl z1) (ea_cons ev_int (ea_cons (ev_var (n := 1) rfl (by first | exact .inl rfl | exact .inr (.inl rfl) | exact .inr (.inr rfl)) rfl z2) ea_nil))) ⟨x, 0, m, rfl, rfl⟩) fun ht => ?_)
  obtain ⟨xs, rfl⟩ : ∃ xs, x = .tuple xs := by
    cases x <;> first | exact ⟨_, rfl⟩ | cases ht
  have hl : xs.length ≤ 100000 := by
    have ht2 : (decide ((0 : Int) ≤ xs.length) && decide ((xs.length : Int) ≤ m)) = true := ht
    have z := of_decide_eq_true (Bool.and_eq_true_iff.mp ht2).2
    omega
  refine ev_is (ev_all (bs := xs.map isPr) rfl rfl B.all (ev_is (ev_lc (n := 2) rfl sc_are_pairs.nd (blkOk_by (N := N_are_pairs) (sc := defScope s_are_pairs) (by decide +kernel)) (fun _ _ _ _ _ => pg_name (i := 2) sc_are_pairs.nd rfl (Or.inl rfl)) (ei_tup (ev_var (n := 0) rfl (by first | exact .inl rfl | exact .inr (.inl rfl) | exact .inr (.inr rfl)) rfl z1)) hl (fun _ => true) (fun x => .bool (isPr x)) (fun _ _ _ _ _ _ _ _ _ _ _ => es_nil) (fun d hd _ v h' e z s H C cl fp => (ev_call Gp (hr.mono (by decide)) rfl (ea_cons (ev_var (n := 2) rfl (by first | exact .inl rfl | exact .inr (.inl rfl) | exact .inr (.inr rfl)) rfl z) ea_nil) ⟨_, rfl, rfl⟩))) ?_)) ?_
  · rw [filt, List.map_map]
    rfl
  · rw [List.all_map]
    rfl
abbrev s_are_pairs_within : Stmt := topS 24
abbrev N_are_pairs_within : List Str := ["pairs", "many", "cost", "number"]
abbrev p_are_pairs_within : List Str := ["pairs", "many"]
theorem sc_are_pairs_within : FnScope N_are_pairs_within p_are_pairs_within (defScope s_are_pairs_within) := ⟨rfl, rfl, rfl, by decide +kernel, rfl, by decide +kernel, by decide +kernel⟩
theorem k_are_pairs_within_pairs : List.lookup ("pairs" : Str) (defScope s_are_pairs_within).names = some NameKind.local := by decide +kernel
theorem k_are_pairs_within_many : List.lookup ("many" : Str) (defScope s_are_pairs_within).names = some NameKind.local := by decide +kernel
theorem k_are_pairs_within_are_within : List.lookup ("are_within" : Str) (defScope s_are_pairs_within).names = some NameKind.globalImplicit := by decide +kernel
def fPairsIn : List PyData → PyData → Prop := fun ds d => ∃ (ps : List (Int × Int)) (m : Int), ds = [pairsD ps, .int m] ∧ ps.length ≤ 100000 ∧ d = .bool (ps.all fun p => decide (p.2 < m))
theorem are_pairs_within (a : At K mg "are_pairs_within" s_are_pairs_within) (B : Bi mg) (Gi : FnD P w K mg base 1 "are_within" fWithin) : FnD P w K mg base 2 "are_pairs_within" fPairsIn := by
  refine FnD.mk' a sc_are_pairs_within (fun _ _ _ _ _ _ us hl => match us, hl with | [_, _], _ => rfl) (by rintro _ _ ⟨ps, m, rfl, hl, rfl⟩; rfl) fun f cdv A outer s H E h vs ds d hr z hF => ?_
  obtain ⟨ps, m, rfl, hl, rfl⟩ := hF
  obtain ⟨v1, v2, rfl, z1, z2⟩ := dn2 z
  have hp2 : ∀ d1 d2, PyData.tuple [d1, d2] ∈ ps.map pairD → ∃ i j, d1 = .int i ∧ d2 = .int j := fun d1 d2 hd => by
    obtain ⟨q, _, e⟩ := List.mem_map.mp hd
    unfold pairD at e
    injection e with e
    injection e with e1 e2
    injection e2 with e2 _
    exact ⟨_, _, e1.symm, e2.symm⟩
  refine rt_ret (ev_is (ev_call Gi (hr.mono (by decide)) rfl (ea_cons ?_ (ea_cons (ev_var (n := 1) rfl (by first | exact .inl rfl | exact .inr (.inl rfl) | exact .inr (.inr rfl)) rfl z2) ea_nil)) ⟨ps.map (·.2), m, .list ((ps.map (·.2)).map .int), rfl, .inr rfl, by rw [List.length_map]; exact hl, rfl⟩) ?_)
  · refine ev_is (ev_lc2 (n := 2) (n2 := 3) rfl sc_are_pairs_within.nd (blkOk_by (N := N_are_pairs_within) (sc := defScope s_are_pairs_within) (by decide +kernel)) (by decide) (fun _ _ _ _ _ => pg_tup rfl (pgs_cons (pg_name (i := 2) sc_are_pairs_within.nd rfl (Or.inl rfl)) (pgs_cons (pg_name (i := 3) sc_are_pairs_within.nd rfl (Or.inl rfl)) pgs_nil))) (ei_tup (ev_var (n := 0) rfl (by first | exact .inl rfl | exact .inr (.inl rfl) | exact .inr (.inr rfl)) rfl z1)) (by rw [List.length_map]; exact hl) (fun _ => true) (fun x => match x with | .tuple [_, n] => n | _ => .none) ?_ (fun _ _ _ _ _ _ _ _ _ _ _ _ _ _ => es_nil) (fun d1 d2 hd _ v1 v2 h' e z1' z2' s H C cl fp => (ev_var (n := 3) rfl (by first | exact .inl rfl | exact .inr (.inl rfl) | exact .inr (.inr rfl)) rfl z2'))) ?_
    · intro d hd
      obtain ⟨q, _, rfl⟩ := List.mem_map.mp hd
      exact ⟨_, _, rfl⟩
    · rw [filt, List.map_map, List.map_map]
      rfl
  · rw [List.all_map]
    rfl
end
end K01

namespace K01
open PySem PySem.Spec PyProof.Rows L2 Sk
open Evl (Ex)
structure Tsk where
  rows : List Row
  turns : List (List Int)
  eh : Option (List Int × List (List (Int × Int)))
def many (t : Tsk) : Int := t.rows.length
def rowsD (t : Tsk) : PyData := .tuple (t.rows.map rowD)
def turnsD (t : Tsk) : PyData := .tuple (t.turns.map intsD)
def endsD (t : Tsk) : PyData := match t.eh with
  | none => .none
  | some q => intsD q.1
def headsD (t : Tsk) : PyData := match t.eh with
  | none => .none
  | some q => .tuple (q.2.map pairsD)
structure OkT (t : Tsk) : Prop where
  one : 1 ≤ t.rows.length
  most : t.rows.length ≤ 24
  row : ∀ r ∈ t.rows, okRow (many t) r
  few : t.turns.length ≤ 3
  turn : ∀ u ∈ t.turns, okTurn (many t) u
  ends : ∀ q, t.eh = some q → (∀ n ∈ q.1, okNum (many t) n) ∧ rising q.1 = true ∧ q.1.length ≤ 100000
  heads : ∀ q, t.eh = some q → (q.2.length : Int) = many t ∧ ∀ ps ∈ q.2, ps.length ≤ 200 ∧ ∀ p ∈ ps, okPr (many t) p
theorem pr_ok {m : Int} {p : Int × Int} (h : okPr m p) : isPr (pairD p) = true := by
  obtain ⟨h1, h2, h3, _⟩ := h
  show ((decide (0 ≤ p.1) && decide (p.1 ≤ 1000)) && decide (0 ≤ p.2)) = true
  rw [decide_eq_true h1, decide_eq_true h2, decide_eq_true h3]
  rfl
theorem prs_ok {k : Nat} {m : Int} {ps : List (Int × Int)} (hl : ps.length ≤ k) (h : ∀ p ∈ ps, okPr m p) : (tupOf 0 (k : Nat) (pairsD ps) && allT isPr (pairsD ps)) = true := by
  show ((decide ((0 : Int) ≤ ((ps.map pairD).length : Int)) && decide (((ps.map pairD).length : Int) ≤ (k : Nat))) && (ps.map pairD).all isPr) = true
  rw [List.length_map, decide_eq_true (by omega), decide_eq_true (by omega), List.all_map]
  exact all_true fun p hp => pr_ok (h p hp)
theorem prs_in {m : Int} {ps : List (Int × Int)} (h : ∀ p ∈ ps, okPr m p) : (ps.all fun p => decide (p.2 < m)) = true := all_true fun p hp => decide_eq_true (h p hp).2.2.2
theorem nums_ok {m : Int} {ns : List Int} (h : ∀ n ∈ ns, okNum m n) : allT (fromL 0) (intsD ns) = true := by
  show (ns.map PyData.int).all (fromL 0) = true
  rw [List.all_map]
  exact all_true fun n hn => decide_eq_true (h n hn).1
theorem nums_in {m : Int} {ns : List Int} (h : ∀ n ∈ ns, okNum m n) : (ns.all fun n => decide (n < m)) = true := all_true fun n hn => decide_eq_true (h n hn).2
theorem tup_ok {lo hi : Int} {ds : List PyData} (h1 : lo ≤ ds.length) (h2 : (ds.length : Int) ≤ hi) : tupOf lo hi (.tuple ds) = true := by
  show (decide _ && decide _) = true
  rw [decide_eq_true h1, decide_eq_true h2]
  rfl
theorem in_ok {lo hi n : Int} (h1 : lo ≤ n) (h2 : n ≤ hi) : inR lo hi (.int n) = true := by
  show (decide _ && decide _) = true
  rw [decide_eq_true h1, decide_eq_true h2]
  rfl
section
variable {P : Program} {w : World} {K : PySem.W.Frag} {mg : Str → Option Value} {base : Heap}
abbrev s_is_table_row : Stmt := topS 35
abbrev N_is_table_row : List Str := ["row", "many", "nexts", "done", "name", "bound", "cut"]
abbrev p_is_table_row : List Str := ["row", "many"]
theorem sc_is_table_row : FnScope N_is_table_row p_is_table_row (defScope s_is_table_row) := ⟨rfl, rfl, rfl, by decide +kernel, rfl, by decide +kernel, by decide +kernel⟩
theorem k_is_table_row_row : List.lookup ("row" : Str) (defScope s_is_table_row).names = some NameKind.local := by decide +kernel
theorem k_is_table_row_many : List.lookup ("many" : Str) (defScope s_is_table_row).names = some NameKind.local := by decide +kernel
theorem k_is_table_row_nexts : List.lookup ("nexts" : Str) (defScope s_is_table_row).names = some NameKind.local := by decide +kernel
theorem k_is_table_row_done : List.lookup ("done" : Str) (defScope s_is_table_row).names = some NameKind.local := by decide +kernel
theorem k_is_table_row_name : List.lookup ("name" : Str) (defScope s_is_table_row).names = some NameKind.local := by decide +kernel
theorem k_is_table_row_bound : List.lookup ("bound" : Str) (defScope s_is_table_row).names = some NameKind.local := by decide +kernel
theorem k_is_table_row_cut : List.lookup ("cut" : Str) (defScope s_is_table_row).names = some NameKind.local := by decide +kernel
theorem k_is_table_row_is_tuple_of : List.lookup ("is_tuple_of" : Str) (defScope s_is_table_row).names = some NameKind.globalImplicit := by decide +kernel
theorem k_is_table_row_are_pairs : List.lookup ("are_pairs" : Str) (defScope s_is_table_row).names = some NameKind.globalImplicit := by decide +kernel
theorem k_is_table_row_MOST_NEXTS : List.lookup ("MOST_NEXTS" : Str) (defScope s_is_table_row).names = some NameKind.globalImplicit := by decide +kernel
theorem k_is_table_row_are_pairs_within : List.lookup ("are_pairs_within" : Str) (defScope s_is_table_row).names = some NameKind.globalImplicit := by decide +kernel
theorem k_is_table_row_is_truth : List.lookup ("is_truth" : Str) (defScope s_is_table_row).names = some NameKind.globalImplicit := by decide +kernel
theorem k_is_table_row_is_between : List.lookup ("is_between" : Str) (defScope s_is_table_row).names = some NameKind.globalImplicit := by decide +kernel
theorem k_is_table_row_MOST_NAME : List.lookup ("MOST_NAME" : Str) (defScope s_is_table_row).names = some NameKind.globalImplicit := by decide +kernel
theorem k_is_table_row_MOST_BOUND : List.lookup ("MOST_BOUND" : Str) (defScope s_is_table_row).names = some NameKind.globalImplicit := by decide +kernel
def fRow : List PyData → PyData → Prop := fun ds d => ∃ (r : Row) (m : Int), ds = [rowD r, .int m] ∧ okRow m r ∧ d = .bool true
theorem is_table_row (a : At K mg "is_table_row" s_is_table_row) (B : Bi mg) (C : Cn mg) (Gt : FnD P w K mg base 1 "is_tuple_of" fTupOf) (Gps : FnD P w K mg base 4 "are_pairs" fPairs) (Gpi : FnD P w K mg base 2 "are_pairs_within" fPairsIn) (Gtr : FnD P w K mg base 1 "is_truth" fTruth) (Gb : FnD P w K mg base 2 "is_between" fBetween) : FnD P w K mg base 5 "is_table_row" fRow := by
  refine FnD.mk' a sc_is_table_row (fun _ _ _ _ _ _ us hl => match us, hl with | [_, _], _ => rfl) (by rintro _ _ ⟨r, m, rfl, ok, rfl⟩; rfl) fun f cdv A outer s H E h vs ds d hr z hF => ?_
  obtain ⟨r, m, rfl, ok, rfl⟩ := hF
  obtain ⟨v1, v2, rfl, z1, z2⟩ := dn2 z
  obtain ⟨o1, o2, o3, o4, o5, o6⟩ := ok
  obtain ⟨t1, hc1⟩ := C.nexts
  obtain ⟨t2, hc2⟩ := C.name
  obtain ⟨t3, hc3⟩ := C.bound
  refine rt_if (t := false) (et_not (t := true) (et_val (ev_call Gt (hr.mono (by decide)) rfl (ea_cons (ev_var (n := 0) rfl (by first | exact .inl rfl | exact .inr (.inl rfl) | exact .inr (.inr rfl)) rfl z1) (ea_cons ev_int (ea_cons ev_int ea_nil))) ⟨_, 5, 5, rfl, rfl⟩))) (fun z => nomatch z) fun _ => ?_
  refine rt_unp (n := 5) rfl (pgs_cons (pg_name (i := 2) sc_is_table_row.nd rfl (Or.inl rfl)) (pgs_cons (pg_name (i := 3) sc_is_table_row.nd rfl (Or.inl rfl)) (pgs_cons (pg_name (i := 4) sc_is_table_row.nd rfl (Or.inl rfl)) (pgs_cons (pg_name (i := 5) sc_is_table_row.nd rfl (Or.inl rfl)) (pgs_cons (pg_name (i := 6) sc_is_table_row.nd rfl (Or.inl rfl)) pgs_nil))))) rfl rfl rfl rfl (ev_var (n := 0) rfl (by first | exact .inl rfl | exact .inr (.inl rfl) | exact .inr (.inr rfl)) rfl z1) rfl fun vs g e1 w1 => ?_
  obtain ⟨u1, u2, u3, u4, u5, rfl, y1, y2, y3, y4, y5⟩ := dn5 w1
  refine ⟨[some v1, some v2, some u1, some u2, some u3, some u4, some u5], fun H Q q => ⟨u1, _, rfl, u2, _, rfl, u3, _, rfl, u4, _, rfl, u5, _, rfl, rfl, q⟩, ?_⟩
  have e2 : (tupOf 0 8 (pairsD r.nx) && allT isPr (pairsD r.nx)) = true := prs_ok (k := 8) o1 o2
  refine rt_if (t := false) (et_or2 (t := false) (u := false) (et_not (t := true) (et_val (ev_is (ev_call Gps (hr.mono (by decide)) rfl (ea_cons (ev_var (n := 2) rfl (by first | exact .inl rfl | exact .inr (.inl rfl) | exact .inr (.inr rfl)) rfl y1) (ea_cons (ev_glob (v := .int 8) (by rfl) hc1 ⟨_, rfl⟩ (.int 8)) ea_nil)) ⟨_, 8, rfl, by decide, rfl⟩) (congrArg PyData.bool e2)))) fun _ => et_not (t := true) (et_val (ev_is (ev_call Gpi (hr.mono (by decide)) rfl (ea_cons (ev_var (n := 2) rfl (by first | exact .inl rfl | exact .inr (.inl rfl) | exact .inr (.inr rfl)) rfl y1) (ea_cons (ev_var (n := 1) rfl (by first | exact .inl rfl | exact .inr (.inl rfl) | exact .inr (.inr rfl)) rfl (z2.ex e1)) ea_nil)) ⟨r.nx, m, rfl, by omega, rfl⟩) (congrArg PyData.bool (prs_in o2))))) (fun z => nomatch z) fun _ => ?_
  refine rt_if (t := false) (et_or2 (t := false) (u := false) (et_not (t := true) (et_val (ev_call Gtr (hr.mono (by decide)) rfl (ea_cons (ev_var (n := 3) rfl (by first | exact .inl rfl | exact .inr (.inl rfl) | exact .inr (.inr rfl)) rfl y2) ea_nil) ⟨_, rfl, rfl⟩))) fun _ => et_not (t := true) (et_val (ev_call Gtr (hr.mono (by decide)) rfl (ea_cons (ev_var (n := 6) rfl (by first | exact .inl rfl | exact .inr (.inl rfl) | exact .inr (.inr rfl)) rfl y5) ea_nil) ⟨_, rfl, rfl⟩))) (fun z => nomatch z) fun _ => ?_
  exact rt_ret (ev_and2 (t := true) (u := true) (ev_is (ev_call Gb (hr.mono (by decide)) rfl (ea_cons (ev_var (n := 4) rfl (by first | exact .inl rfl | exact .inr (.inl rfl) | exact .inr (.inr rfl)) rfl y3) (ea_cons ev_int (ea_cons (ev_glob (v := .int 99) (by rfl) hc2 ⟨_, rfl⟩ (.int 99)) ea_nil))) ⟨_, 0, 99, rfl, rfl⟩) (congrArg PyData.bool (in_ok o3 o4))) fun _ => ev_is (ev_call Gb (hr.mono (by decide)) rfl (ea_cons (ev_var (n := 5) rfl (by first | exact .inl rfl | exact .inr (.inl rfl) | exact .inr (.inr rfl)) rfl y4) (ea_cons ev_int (ea_cons (ev_glob (v := .int 100000) (by rfl) hc3 ⟨_, rfl⟩ (.int 100000)) ea_nil))) ⟨_, 0, 100000, rfl, rfl⟩) (congrArg PyData.bool (in_ok o5 o6)))
abbrev s_is_turn : Stmt := topS 36
abbrev N_is_turn : List Str := ["turn", "many"]
abbrev p_is_turn : List Str := ["turn", "many"]
theorem sc_is_turn : FnScope N_is_turn p_is_turn (defScope s_is_turn) := ⟨rfl, rfl, rfl, by decide +kernel, rfl, by decide +kernel, by decide +kernel⟩
theorem k_is_turn_turn : List.lookup ("turn" : Str) (defScope s_is_turn).names = some NameKind.local := by decide +kernel
theorem k_is_turn_many : List.lookup ("many" : Str) (defScope s_is_turn).names = some NameKind.local := by decide +kernel
theorem k_is_turn_are_numbers : List.lookup ("are_numbers" : Str) (defScope s_is_turn).names = some NameKind.globalImplicit := by decide +kernel
theorem k_is_turn_len : List.lookup ("len" : Str) (defScope s_is_turn).names = some NameKind.globalImplicit := by decide +kernel
theorem k_is_turn_are_within : List.lookup ("are_within" : Str) (defScope s_is_turn).names = some NameKind.globalImplicit := by decide +kernel
def fTurn : List PyData → PyData → Prop := fun ds d => ∃ (t : List Int) (m : Int), ds = [intsD t, .int m] ∧ okTurn m t ∧ t.length ≤ 100000 ∧ d = .bool true
theorem is_turn (a : At K mg "is_turn" s_is_turn) (B : Bi mg) (Gn : FnD P w K mg base 3 "are_numbers" fNums) (Gi : FnD P w K mg base 1 "are_within" fWithin) : FnD P w K mg base 4 "is_turn" fTurn := by
  refine FnD.mk' a sc_is_turn (fun _ _ _ _ _ _ us hl => match us, hl with | [_, _], _ => rfl) (by rintro _ _ ⟨t, m, rfl, ok, hl, rfl⟩; rfl) fun f cdv A outer s H E h vs ds d hr z hF => ?_
  obtain ⟨t, m, rfl, ok, hl, rfl⟩ := hF
  obtain ⟨v1, v2, rfl, z1, z2⟩ := dn2 z
  obtain ⟨o1, o2⟩ := ok
  refine rt_ret (ev_and3 (t := true) (u := true) (w := true) (ev_is (ev_call Gn (hr.mono (by decide)) rfl (ea_cons (ev_var (n := 0) rfl (by first | exact .inl rfl | exact .inr (.inl rfl) | exact .inr (.inr rfl)) rfl z1) (ea_cons ev_int ea_nil)) ⟨_, 0, rfl, fun xs e => by cases e; rw [List.length_map]; exact hl, rfl⟩) (congrArg PyData.bool (nums_ok o2))) (fun _ => ev_is (ev_eqI (ev_lenT (by rfl) B.len (ev_var (n := 0) rfl (by first | exact .inl rfl | exact .inr (.inl rfl) | exact .inr (.inr rfl)) rfl z1)) (ev_var (n := 1) rfl (by first | exact .inl rfl | exact .inr (.inl rfl) | exact .inr (.inr rfl)) rfl z2)) ?_) (fun _ _ => ev_is (ev_call Gi (hr.mono (by decide)) rfl (ea_cons (ev_var (n := 0) rfl (by first | exact .inl rfl | exact .inr (.inl rfl) | exact .inr (.inr rfl)) rfl z1) (ea_cons (ev_var (n := 1) rfl (by first | exact .inl rfl | exact .inr (.inl rfl) | exact .inr (.inr rfl)) rfl z2) ea_nil)) ⟨t, m, _, rfl, .inl rfl, hl, rfl⟩) (congrArg PyData.bool (nums_in o2))))
  rw [List.length_map, decide_eq_true o1]
abbrev s_wrong_turn : Stmt := topS 37
abbrev N_wrong_turn : List Str := ["turns", "many", "number", "turn"]
abbrev p_wrong_turn : List Str := ["turns", "many"]
theorem sc_wrong_turn : FnScope N_wrong_turn p_wrong_turn (defScope s_wrong_turn) := ⟨rfl, rfl, rfl, by decide +kernel, rfl, by decide +kernel, by decide +kernel⟩
theorem k_wrong_turn_turns : List.lookup ("turns" : Str) (defScope s_wrong_turn).names = some NameKind.local := by decide +kernel
theorem k_wrong_turn_many : List.lookup ("many" : Str) (defScope s_wrong_turn).names = some NameKind.local := by decide +kernel
theorem k_wrong_turn_number : List.lookup ("number" : Str) (defScope s_wrong_turn).names = some NameKind.local := by decide +kernel
theorem k_wrong_turn_turn : List.lookup ("turn" : Str) (defScope s_wrong_turn).names = some NameKind.local := by decide +kernel
theorem k_wrong_turn_isinstance : List.lookup ("isinstance" : Str) (defScope s_wrong_turn).names = some NameKind.globalImplicit := by decide +kernel
theorem k_wrong_turn_tuple : List.lookup ("tuple" : Str) (defScope s_wrong_turn).names = some NameKind.globalImplicit := by decide +kernel
theorem k_wrong_turn_len : List.lookup ("len" : Str) (defScope s_wrong_turn).names = some NameKind.globalImplicit := by decide +kernel
theorem k_wrong_turn_MOST_TURNS : List.lookup ("MOST_TURNS" : Str) (defScope s_wrong_turn).names = some NameKind.globalImplicit := by decide +kernel
theorem k_wrong_turn_enumerate : List.lookup ("enumerate" : Str) (defScope s_wrong_turn).names = some NameKind.globalImplicit := by decide +kernel
theorem k_wrong_turn_is_turn : List.lookup ("is_turn" : Str) (defScope s_wrong_turn).names = some NameKind.globalImplicit := by decide +kernel
def fWTurn : List PyData → PyData → Prop := fun ds d => ∃ (ts : List (List Int)) (m : Int), ds = [.tuple (ts.map intsD), .int m] ∧ ts.length ≤ 3 ∧ (∀ t ∈ ts, okTurn m t) ∧ m ≤ 100000 ∧ d = .none
theorem wrong_turn (a : At K mg "wrong_turn" s_wrong_turn) (B : Bi mg) (C : Cn mg) (Gu : FnD P w K mg base 4 "is_turn" fTurn) : FnD P w K mg base 5 "wrong_turn" fWTurn := by
  refine FnD.mk' a sc_wrong_turn (fun _ _ _ _ _ _ us hl => match us, hl with | [_, _], _ => rfl) (by rintro _ _ ⟨ts, m, rfl, o1, o2, o3, rfl⟩; rfl) fun f cdv A outer s H E h vs ds d hr z hF => ?_
  obtain ⟨ts, m, rfl, o1, o2, o3, rfl⟩ := hF
  obtain ⟨v1, v2, rfl, z1, z2⟩ := dn2 z
  obtain ⟨t1, hc1⟩ := C.turns
  refine rt_if (t := false) (et_not (t := true) (et_val (ev_isi B.isi B.tuple rfl rfl b_tuple (by decide) (by decide) (ev_var (n := 0) rfl (by first | exact .inl rfl | exact .inr (.inl rfl) | exact .inr (.inr rfl)) rfl z1) (kit_tuple _)))) (fun z => nomatch z) fun _ => ?_
  refine rt_if (t := decide ((3 : Int) < ((ts.map intsD).length : Int))) (et_gt (ev_lenT (by rfl) B.len (ev_var (n := 0) rfl (by first | exact .inl rfl | exact .inr (.inl rfl) | exact .inr (.inr rfl)) rfl z1)) (ev_glob (v := .int 3) (by rfl) hc1 ⟨_, rfl⟩ (.int 3))) (fun z => ?_) fun _ => ?_
  · exfalso
    have z2 := of_decide_eq_true z
    rw [List.length_map] at z2
    omega
  · refine rt_forP (n := 2) (n2 := 3) PassesOwn.never rfl (pg_tup rfl (pgs_cons (pg_name (i := 2) sc_wrong_turn.nd rfl (Or.inl rfl)) (pgs_cons (pg_name (i := 3) sc_wrong_turn.nd rfl (Or.inl rfl)) pgs_nil))) (by decide) (ei_enum (by rfl) B.enumerate (ev_var (n := 0) rfl (by first | exact .inl rfl | exact .inr (.inl rfl) | exact .inr (.inr rfl)) rfl z1)) (fun d hd => ?_) (fun d1 d2 hd u1 u2 h' e y1 y2 => ?_) (fun w1 w2 => rt_ret ev_non) ⟨_, rfl⟩ ⟨_, rfl⟩
    · unfold Sk.numbered at hd
      obtain ⟨q, _, rfl⟩ := List.mem_map.mp hd
      exact ⟨_, _, rfl⟩
    · have hm : d2 ∈ ts.map intsD := numbered_mem hd
      obtain ⟨t, ht, rfl⟩ := List.mem_map.mp hm
      have ot := o2 t ht
      exact ps_ifN (t := false) (et_not (t := true) (et_val (ev_call Gu hr rfl (ea_cons (ev_var (n := 3) rfl (by first | exact .inl rfl | exact .inr (.inl rfl) | exact .inr (.inr rfl)) rfl y2) (ea_cons (ev_var (n := 1) rfl (by first | exact .inl rfl | exact .inr (.inl rfl) | exact .inr (.inr rfl)) rfl (z2.ex e)) ea_nil)) ⟨t, m, rfl, ot, by have := ot.1; omega, rfl⟩))) rfl ps_nil
abbrev s_are_ends : Stmt := topS 38
abbrev N_are_ends : List Str := ["ends", "many"]
abbrev p_are_ends : List Str := ["ends", "many"]
theorem sc_are_ends : FnScope N_are_ends p_are_ends (defScope s_are_ends) := ⟨rfl, rfl, rfl, by decide +kernel, rfl, by decide +kernel, by decide +kernel⟩
theorem k_are_ends_ends : List.lookup ("ends" : Str) (defScope s_are_ends).names = some NameKind.local := by decide +kernel
theorem k_are_ends_many : List.lookup ("many" : Str) (defScope s_are_ends).names = some NameKind.local := by decide +kernel
theorem k_are_ends_are_numbers : List.lookup ("are_numbers" : Str) (defScope s_are_ends).names = some NameKind.globalImplicit := by decide +kernel
theorem k_are_ends_are_within : List.lookup ("are_within" : Str) (defScope s_are_ends).names = some NameKind.globalImplicit := by decide +kernel
theorem k_are_ends_are_rising : List.lookup ("are_rising" : Str) (defScope s_are_ends).names = some NameKind.globalImplicit := by decide +kernel
def fEnds : List PyData → PyData → Prop := fun ds d => ∃ (t : Tsk) (m : Int), ds = [endsD t, .int m] ∧ OkT t ∧ m = many t ∧ d = .bool true
theorem are_ends (a : At K mg "are_ends" s_are_ends) (B : Bi mg) (Gn : FnD P w K mg base 3 "are_numbers" fNums) (Gi : FnD P w K mg base 1 "are_within" fWithin) (Gr : FnD P w K mg base 1 "are_rising" fRising) : FnD P w K mg base 4 "are_ends" fEnds := by
  refine FnD.mk' a sc_are_ends (fun _ _ _ _ _ _ us hl => match us, hl with | [_, _], _ => rfl) (by rintro _ _ ⟨t, m, rfl, ok, rfl, rfl⟩; rfl) fun f cdv A outer s H E h vs ds d hr z hF => ?_
  obtain ⟨t, m, rfl, ok, rfl, rfl⟩ := hF
  obtain ⟨v1, v2, rfl, z1, z2⟩ := dn2 z
  cases he : t.eh with
  | none =>
    have e1 : endsD t = .none := by
      unfold endsD
      rw [he]
    rw [e1] at z1
    exact rt_if (t := true) (et_isN (d := .none) (ev_var (n := 0) rfl (by first | exact .inl rfl | exact .inr (.inl rfl) | exact .inr (.inr rfl)) rfl z1)) (fun _ => rt_ret ev_bl) fun z => nomatch z
  | some q =>
    obtain ⟨o1, o2, o3⟩ := ok.ends q he
    have e1 : endsD t = intsD q.1 := by
      unfold endsD
      rw [he]
    rw [e1] at z1
    refine rt_if (t := false) (et_isN (d := intsD q.1) (ev_var (n := 0) rfl (by first | exact .inl rfl | exact .inr (.inl rfl) | exact .inr (.inr rfl)) rfl z1)) (fun z => nomatch z) fun _ => rt_ret (ev_and3 (t := true) (u := true) (w := true) (ev_is (ev_call Gn (hr.mono (by decide)) rfl (ea_cons (ev_var (n := 0) rfl (by first | exact .inl rfl | exact .inr (.inl rfl) | exact .inr (.inr rfl)) rfl z1) (ea_cons ev_int ea_nil)) ⟨_, 0, rfl, fun xs e => by cases e; rw [List.length_map]; exact o3, rfl⟩) (congrArg PyData.bool (nums_ok o1))) (fun _ => ev_is (ev_call Gi (hr.mono (by decide)) rfl (ea_cons (ev_var (n := 0) rfl (by first | exact .inl rfl | exact .inr (.inl rfl) | exact .inr (.inr rfl)) rfl z1) (ea_cons (ev_var (n := 1) rfl (by first | exact .inl rfl | exact .inr (.inl rfl) | exact .inr (.inr rfl)) rfl z2) ea_nil)) ⟨q.1, many t, _, rfl, .inl rfl, o3, rfl⟩) (congrArg PyData.bool (nums_in o1))) (fun _ _ => ev_is (ev_call Gr (hr.mono (by decide)) rfl (ea_cons (ev_var (n := 0) rfl (by first | exact .inl rfl | exact .inr (.inl rfl) | exact .inr (.inr rfl)) rfl z1) ea_nil) ⟨q.1, rfl, o3, rfl⟩) (congrArg PyData.bool o2)))
abbrev s_are_heads : Stmt := topS 39
abbrev N_are_heads : List Str := ["heads", "ends", "many", "head"]
abbrev p_are_heads : List Str := ["heads", "ends", "many"]
theorem sc_are_heads : FnScope N_are_heads p_are_heads (defScope s_are_heads) := ⟨rfl, rfl, rfl, by decide +kernel, rfl, by decide +kernel, by decide +kernel⟩
theorem k_are_heads_heads : List.lookup ("heads" : Str) (defScope s_are_heads).names = some NameKind.local := by decide +kernel
theorem k_are_heads_ends : List.lookup ("ends" : Str) (defScope s_are_heads).names = some NameKind.local := by decide +kernel
theorem k_are_heads_many : List.lookup ("many" : Str) (defScope s_are_heads).names = some NameKind.cell := by decide +kernel
theorem k_are_heads_is_tuple_of : List.lookup ("is_tuple_of" : Str) (defScope s_are_heads).names = some NameKind.globalImplicit := by decide +kernel
theorem k_are_heads_all : List.lookup ("all" : Str) (defScope s_are_heads).names = some NameKind.globalImplicit := by decide +kernel
def fHeads : List PyData → PyData → Prop := fun ds d => ∃ (t : Tsk) (m : Int), ds = [headsD t, endsD t, .int m] ∧ OkT t ∧ m = many t ∧ d = .bool true
theorem are_heads (a : At K mg "are_heads" s_are_heads) (B : Bi mg) (C : Cn mg) (Gt : FnD P w K mg base 1 "is_tuple_of" fTupOf) (Gps : FnD P w K mg base 4 "are_pairs" fPairs) (Gpi : FnD P w K mg base 2 "are_pairs_within" fPairsIn) : FnD P w K mg base 5 "are_heads" fHeads := by
  refine FnD.mk' a sc_are_heads (fun _ _ _ _ _ _ us hl => match us, hl with | [_, _, _], _ => rfl) (by rintro _ _ ⟨t, m, rfl, ok, rfl, rfl⟩; rfl) fun f cdv A outer s H E h vs ds d hr z hF => ?_
  obtain ⟨t, m, rfl, ok, rfl, rfl⟩ := hF
  obtain ⟨v1, v2, v3, rfl, z1, z2, z3⟩ := dn3 z
  obtain ⟨t1, hc1⟩ := C.heads
  cases he : t.eh with
  | none =>
    have e1 : endsD t = .none := by
      unfold endsD
      rw [he]
    have e2 : headsD t = .none := by
      unfold headsD
      rw [he]
    rw [e1] at z2
    rw [e2] at z1
    exact rt_if (t := true) (et_isN (d := .none) (ev_var (n := 1) rfl (by first | exact .inl rfl | exact .inr (.inl rfl) | exact .inr (.inr rfl)) rfl z2)) (fun _ => rt_ret (ev_isN (d := .none) (ev_var (n := 0) rfl (by first | exact .inl rfl | exact .inr (.inl rfl) | exact .inr (.inr rfl)) rfl z1))) fun z => nomatch z
  | some q =>
    obtain ⟨o1, o2⟩ := ok.heads q he
    have e1 : endsD t = intsD q.1 := by
      unfold endsD
      rw [he]
    have e2 : headsD t = .tuple (q.2.map pairsD) := by
      unfold headsD
      rw [he]
    rw [e1] at z2
    rw [e2] at z1
    have mm : many t ≤ 24 := by
      have := ok.most
      unfold many
      omega
    refine rt_if (t := false) (et_isN (d := intsD q.1) (ev_var (n := 1) rfl (by first | exact .inl rfl | exact .inr (.inl rfl) | exact .inr (.inr rfl)) rfl z2)) (fun z => nomatch z) fun _ => ?_
    refine rt_if (t := false) (et_not (t := true) (et_val (ev_is (ev_call Gt (hr.mono (by decide)) rfl (ea_cons (ev_var (n := 0) rfl (by first | exact .inl rfl | exact .inr (.inl rfl) | exact .inr (.inr rfl)) rfl z1) (ea_cons (ev_var (n := 2) rfl (by first | exact .inl rfl | exact .inr (.inl rfl) | exact .inr (.inr rfl)) rfl z3) (ea_cons (ev_var (n := 2) rfl (by first | exact .inl rfl | exact .inr (.inl rfl) | exact .inr (.inr rfl)) rfl z3) ea_nil))) ⟨_, many t, many t, rfl, rfl⟩) (congrArg PyData.bool (tup_ok (by rw [List.length_map]; omega) (by rw [List.length_map]; omega)))))) (fun z => nomatch z) fun _ => ?_
    refine rt_ret (ev_is (ev_all (bs := (q.2.map pairsD).map fun _ => true) rfl (by rfl) B.all (ev_is (ev_lc (n := 3) rfl sc_are_heads.nd (blkOk_by (N := N_are_heads) (sc := defScope s_are_heads) (by decide +kernel)) (fun _ _ _ _ _ => pg_name (i := 3) sc_are_heads.nd rfl (Or.inl rfl)) (ei_tup (ev_var (n := 0) rfl (by first | exact .inl rfl | exact .inr (.inl rfl) | exact .inr (.inr rfl)) rfl z1)) (by rw [List.length_map]; omega) (fun _ => true) (fun x => .bool true) (fun _ _ _ _ _ _ _ _ _ _ _ => es_nil) (fun d hd _ v h' e z s H C cl fp => ?_)) ?_)) ?_)
    · obtain ⟨ps, hps, rfl⟩ := List.mem_map.mp hd
      obtain ⟨l1, l2⟩ := o2 ps hps
      exact ev_and2 (t := true) (u := true) (ev_is (ev_call Gps (hr.mono (by decide)) rfl (ea_cons (ev_var (n := 3) rfl (by first | exact .inl rfl | exact .inr (.inl rfl) | exact .inr (.inr rfl)) rfl z) (ea_cons (ev_glob (v := .int 200) (by rfl) hc1 ⟨_, rfl⟩ (.int 200)) ea_nil)) ⟨_, 200, rfl, by decide, rfl⟩) (congrArg PyData.bool (prs_ok (k := 200) l1 l2))) fun _ => ev_is (ev_call Gpi (hr.mono (by decide)) rfl (ea_cons (ev_var (n := 3) rfl (by first | exact .inl rfl | exact .inr (.inl rfl) | exact .inr (.inr rfl)) rfl z) (ea_cons (ev_var (n := 2) rfl (by first | exact .inl rfl | exact .inr (.inl rfl) | exact .inr (.inr rfl)) rfl (z3.ex e)) ea_nil)) ⟨ps, many t, rfl, by omega, rfl⟩) (congrArg PyData.bool (prs_in l2))
    · rw [filt, List.map_map, List.map_map, List.map_map]
      rfl
    · rw [List.map_map, List.all_map]
      exact congrArg PyData.bool (all_true fun _ _ => rfl)
abbrev s_wrong_place : Stmt := topS 40
abbrev N_wrong_place : List Str := ["rows", "turns", "ends", "heads", "many", "number", "row", "turn"]
abbrev p_wrong_place : List Str := ["rows", "turns", "ends", "heads"]
theorem sc_wrong_place : FnScope N_wrong_place p_wrong_place (defScope s_wrong_place) := ⟨rfl, rfl, rfl, by decide +kernel, rfl, by decide +kernel, by decide +kernel⟩
theorem k_wrong_place_rows : List.lookup ("rows" : Str) (defScope s_wrong_place).names = some NameKind.local := by decide +kernel
theorem k_wrong_place_turns : List.lookup ("turns" : Str) (defScope s_wrong_place).names = some NameKind.local := by decide +kernel
theorem k_wrong_place_ends : List.lookup ("ends" : Str) (defScope s_wrong_place).names = some NameKind.local := by decide +kernel
theorem k_wrong_place_heads : List.lookup ("heads" : Str) (defScope s_wrong_place).names = some NameKind.local := by decide +kernel
theorem k_wrong_place_many : List.lookup ("many" : Str) (defScope s_wrong_place).names = some NameKind.local := by decide +kernel
theorem k_wrong_place_number : List.lookup ("number" : Str) (defScope s_wrong_place).names = some NameKind.local := by decide +kernel
theorem k_wrong_place_row : List.lookup ("row" : Str) (defScope s_wrong_place).names = some NameKind.local := by decide +kernel
theorem k_wrong_place_turn : List.lookup ("turn" : Str) (defScope s_wrong_place).names = some NameKind.local := by decide +kernel
theorem k_wrong_place_is_tuple_of : List.lookup ("is_tuple_of" : Str) (defScope s_wrong_place).names = some NameKind.globalImplicit := by decide +kernel
theorem k_wrong_place_MOST_TOLD : List.lookup ("MOST_TOLD" : Str) (defScope s_wrong_place).names = some NameKind.globalImplicit := by decide +kernel
theorem k_wrong_place_len : List.lookup ("len" : Str) (defScope s_wrong_place).names = some NameKind.globalImplicit := by decide +kernel
theorem k_wrong_place_enumerate : List.lookup ("enumerate" : Str) (defScope s_wrong_place).names = some NameKind.globalImplicit := by decide +kernel
theorem k_wrong_place_is_table_row : List.lookup ("is_table_row" : Str) (defScope s_wrong_place).names = some NameKind.globalImplicit := by decide +kernel
theorem k_wrong_place_wrong_turn : List.lookup ("wrong_turn" : Str) (defScope s_wrong_place).names = some NameKind.globalImplicit := by decide +kernel
theorem k_wrong_place_are_ends : List.lookup ("are_ends" : Str) (defScope s_wrong_place).names = some NameKind.globalImplicit := by decide +kernel
theorem k_wrong_place_are_heads : List.lookup ("are_heads" : Str) (defScope s_wrong_place).names = some NameKind.globalImplicit := by decide +kernel
def fPlace : List PyData → PyData → Prop := fun ds d => ∃ (t : Tsk), ds = [rowsD t, turnsD t, endsD t, headsD t] ∧ OkT t ∧ d = .none
theorem wrong_place (a : At K mg "wrong_place" s_wrong_place) (B : Bi mg) (C : Cn mg) (Gt : FnD P w K mg base 1 "is_tuple_of" fTupOf) (Gr : FnD P w K mg base 5 "is_table_row" fRow) (Gwt : FnD P w K mg base 5 "wrong_turn" fWTurn) (Ge : FnD P w K mg base 4 "are_ends" fEnds) (Gh : FnD P w K mg base 5 "are_heads" fHeads) : FnD P w K mg base 6 "wrong_place" fPlace := by
  refine FnD.mk' a sc_wrong_place (fun _ _ _ _ _ _ us hl => match us, hl with | [_, _, _, _], _ => rfl) (by rintro _ _ ⟨t, rfl, ok, rfl⟩; rfl) fun f cdv A outer s H E h vs ds d hr z hF => ?_
  obtain ⟨t, rfl, ok, rfl⟩ := hF
  obtain ⟨v1, v2, v3, v4, rfl, z1, z2, z3, z4⟩ := dn4 z
  obtain ⟨t1, hc1⟩ := C.told
  have m1 : ((t.rows.map rowD).length : Int) = many t := by
    rw [List.length_map]
    rfl
  have l1 := ok.one
  have l2 := ok.most
  have ml : many t = t.rows.length := rfl
  refine rt_if (t := false) (et_not (t := true) (et_val (ev_is (ev_call Gt (hr.mono (by decide)) rfl (ea_cons (ev_var (n := 0) rfl (by first | exact .inl rfl | exact .inr (.inl rfl) | exact .inr (.inr rfl)) rfl z1) (ea_cons ev_int (ea_cons (ev_glob (v := .int 24) (by rfl) hc1 ⟨_, rfl⟩ (.int 24)) ea_nil))) ⟨_, 1, 24, rfl, rfl⟩) (congrArg PyData.bool (tup_ok (by omega) (by omega)))))) (fun z => nomatch z) fun _ => ?_
  refine rt_asg (n := 4) sc_wrong_place.nd rfl (.inl rfl) rfl (.inr rfl) (ev_is (ev_lenT (by rfl) B.len (ev_var (n := 0) rfl (by first | exact .inl rfl | exact .inr (.inl rfl) | exact .inr (.inr rfl)) rfl z1)) (congrArg PyData.int m1)) fun vm g1 e1 zm => ?_
  refine rt_forP (n := 5) (n2 := 6) PassesOwn.never rfl (pg_tup rfl (pgs_cons (pg_name (i := 5) sc_wrong_place.nd rfl (Or.inl rfl)) (pgs_cons (pg_name (i := 6) sc_wrong_place.nd rfl (Or.inl rfl)) pgs_nil))) (by decide) (ei_enum (by rfl) B.enumerate (ev_var (n := 0) rfl (by first | exact .inl rfl | exact .inr (.inl rfl) | exact .inr (.inr rfl)) rfl (z1.ex e1))) (fun d hd => ?_) (fun d1 d2 hd u1 u2 h' e y1 y2 => ?_) (fun w1 w2 => ?_) ⟨_, rfl⟩ ⟨_, rfl⟩
  · unfold Sk.numbered at hd
    obtain ⟨q, _, rfl⟩ := List.mem_map.mp hd
    exact ⟨_, _, rfl⟩
  · obtain ⟨r, hr2, rfl⟩ := List.mem_map.mp (numbered_mem hd)
    exact ps_ifN (t := false) (et_not (t := true) (et_val (ev_call Gr hr rfl (ea_cons (ev_var (n := 6) rfl (by first | exact .inl rfl | exact .inr (.inl rfl) | exact .inr (.inr rfl)) rfl y2) (ea_cons (ev_var (n := 4) rfl (by first | exact .inl rfl | exact .inr (.inl rfl) | exact .inr (.inr rfl)) rfl (zm.ex e)) ea_nil)) ⟨r, many t, rfl, ok.row r hr2, rfl⟩))) rfl ps_nil
  · refine rt_asg (n := 7) sc_wrong_place.nd rfl (.inl rfl) rfl (.inr rfl) (ev_call Gwt hr rfl (ea_cons (ev_var (n := 1) rfl (by first | exact .inl rfl | exact .inr (.inl rfl) | exact .inr (.inr rfl)) rfl (z2.ex e1)) (ea_cons (ev_var (n := 4) rfl (by first | exact .inl rfl | exact .inr (.inl rfl) | exact .inr (.inr rfl)) rfl zm) ea_nil)) ⟨t.turns, many t, rfl, ok.few, ok.turn, by omega, rfl⟩) fun vt g2 e2 zt => ?_
    refine rt_if (t := false) (et_notN (d := .none) (ev_var (n := 7) rfl (by first | exact .inl rfl | exact .inr (.inl rfl) | exact .inr (.inr rfl)) rfl zt)) (fun z => nomatch z) fun _ => ?_
    refine rt_if (t := false) (et_not (t := true) (et_val (ev_call Ge (hr.mono (by decide)) rfl (ea_cons (ev_var (n := 2) rfl (by first | exact .inl rfl | exact .inr (.inl rfl) | exact .inr (.inr rfl)) rfl (z3.ex (e1.trans e2))) (ea_cons (ev_var (n := 4) rfl (by first | exact .inl rfl | exact .inr (.inl rfl) | exact .inr (.inr rfl)) rfl (zm.ex e2)) ea_nil)) ⟨t, _, rfl, ok, rfl, rfl⟩))) (fun z => nomatch z) fun _ => ?_
    refine rt_if (t := false) (et_not (t := true) (et_val (ev_call Gh hr rfl (ea_cons (ev_var (n := 3) rfl (by first | exact .inl rfl | exact .inr (.inl rfl) | exact .inr (.inr rfl)) rfl (z4.ex (e1.trans e2))) (ea_cons (ev_var (n := 2) rfl (by first | exact .inl rfl | exact .inr (.inl rfl) | exact .inr (.inr rfl)) rfl (z3.ex (e1.trans e2))) (ea_cons (ev_var (n := 4) rfl (by first | exact .inl rfl | exact .inr (.inl rfl) | exact .inr (.inr rfl)) rfl (zm.ex e2)) ea_nil))) ⟨t, _, rfl, ok, rfl, rfl⟩))) (fun z => nomatch z) fun _ => ?_
    exact rt_ret ev_non
end
end K01

namespace K01
open PySem PySem.Spec PyProof.Rows L2 Sk
open Evl (Ex)
section
variable {P : Program} {w : World} {K : PySem.W.Frag} {mg : Str → Option Value} {base : Heap}
abbrev s__law_next : Stmt := topS 44
abbrev N__law_next : List Str := ["_law_deck_here", "_law_at", "_law_cell"]
abbrev p__law_next : List Str := ["_law_deck_here"]
theorem sc__law_next : FnScope N__law_next p__law_next (defScope s__law_next) := ⟨rfl, rfl, rfl, by decide +kernel, rfl, by decide +kernel, by decide +kernel⟩
theorem k__law_next__law_deck_here : List.lookup ("_law_deck_here" : Str) (defScope s__law_next).names = some NameKind.local := by decide +kernel
theorem k__law_next__law_at : List.lookup ("_law_at" : Str) (defScope s__law_next).names = some NameKind.local := by decide +kernel
theorem k__law_next__law_cell : List.lookup ("_law_cell" : Str) (defScope s__law_next).names = some NameKind.local := by decide +kernel
theorem k__law_next_len : List.lookup ("len" : Str) (defScope s__law_next).names = some NameKind.globalImplicit := by decide +kernel
theorem t_law_next (a : At K mg "_law_next" s__law_next) (B : Bi mg) : FnK P w K mg base 1 "_law_next" 1 noArg (drawn Dm) := by
  refine FnK.mk' a sc__law_next (fun _ _ _ _ _ _ us hl => match us, hl with | [_], _ => rfl) (by rintro _ rfl; rfl) fun f cdv Ar outer s H E g dk Fr ws ds D hr ok hn z hA q => ?_
  cases hA
  cases z
  have ix0 : ∀ {Kn : V → Hp → Rl → Prop} {σ : L2.St} {g : Hp} {dk : Dk} {p1 p2 pos : Pos} {m : Nat}, σ[0]? = some (some (.ref dk.p)) → Kn (.ref dk.q) g (Dk.R dk ++ Fr) → EH (Cf P w K mg base N__law_next "_law_next" s__law_next f cdv Ar outer s H E) (.Subscript (.Name "_law_deck_here" p1) (.Constant (.int 0) m p2) pos) σ g (Dk.R dk ++ Fr) Kn := fun h0 k =>
    eh_ixR (eh_var (n := 0) rfl (.inl rfl) h0 ⟨_, rfl, eh_int ev_int ⟨0, 0, _, _, rfl, rfl, rfl, k⟩⟩) (fun _ _ => rfl)
  have ix1 : ∀ {Kn : V → Hp → Rl → Prop} {σ : L2.St} {g : Hp} {dk : Dk} {p1 p2 pos : Pos} {m : Nat}, σ[0]? = some (some (.ref dk.p)) → Kn (.ref dk.r) g (Dk.R dk ++ Fr) → EH (Cf P w K mg base N__law_next "_law_next" s__law_next f cdv Ar outer s H E) (.Subscript (.Name "_law_deck_here" p1) (.Constant (.int 1) m p2) pos) σ g (Dk.R dk ++ Fr) Kn := fun h0 k =>
    eh_ixR (eh_var (n := 0) rfl (.inl rfl) h0 ⟨_, rfl, eh_int ev_int ⟨0, 1, _, _, rfl, rfl, rfl, k⟩⟩) (fun _ _ => rfl)
  refine bh_ifr (th_neNil hr.units (ix0 rfl ⟨dk.q, 1, dk.digs, rfl, rfl, fun ht => ?_, fun ht => ?_⟩))
  · cases hd : dk.digs with
    | nil =>
      rw [hd] at ht
      cases ht
    | cons n r =>
      have hb := ok.dig n (by rw [hd]; exact List.mem_cons_self ..)
      refine bh_ret (eh_pop0 (ix0 rfl ⟨dk.q, 1, .int n, r.map V.int, rfl, ?_, fun H2 s2 => ?_⟩))
      · show some (dk.q, HO.lst (dk.digs.map V.int)) = _
        rw [hd]
        rfl
      · exact q (.int n) g { dk with digs := r } (.int n) (Evl.Ex.refl g) ⟨rfl, rfl, rfl, by show dk.n ≤ dk.n + 1; omega, ⟨ok.n0, ok.ne, ok.few, ok.cell, fun c hc => ok.dig c (by rw [hd]; exact List.mem_cons_of_mem _ hc)⟩⟩ ⟨n, rfl, hb.1, hb.2⟩ (.int n) H2 s2
  · have n0 := ok.n0
    refine bh_asg (n := 1) sc__law_next.nd rfl (.inl rfl) rfl (.inr rfl) (eh_ixR (eh_var (n := 0) rfl (by first | exact .inl rfl | exact .inr (.inl rfl) | exact .inr (.inr rfl)) rfl ⟨_, rfl, eh_int ev_int ⟨0, 2, _, .int dk.n, rfl, rfl, rfl, ?_⟩⟩) (fun _ _ => rfl))
    refine bh_seti (eh_i0 op_add (eh_var (n := 1) rfl (by first | exact .inl rfl | exact .inr (.inl rfl) | exact .inr (.inr rfl)) rfl ⟨dk.n, rfl, eh_int ev_int ⟨1, rfl, eh_var (n := 0) rfl (by first | exact .inl rfl | exact .inr (.inl rfl) | exact .inr (.inr rfl)) rfl (eh_int ev_int ⟨dk.p, 2, 0, _, rfl, rfl, rfl, (by show 2 < 3; decide), ?_⟩)⟩⟩))
    have lc : 0 < (dk.cells.length : Int) := by
      have := List.length_pos_iff.mpr ok.ne
      omega
    have j0 := Int.emod_nonneg (dk.n + 1) (Int.ne_of_gt lc)
    have j1 := Int.emod_lt_of_pos (dk.n + 1) lc
    obtain ⟨j, hj⟩ : ∃ j : Nat, (dk.n + 1) % (dk.cells.length : Int) = (j : Nat) := ⟨_, (Int.toNat_of_nonneg j0).symm⟩
    have jl : j < dk.cells.length := by omega
    have cj := ok.cell dk.cells[j] (List.getElem_mem jl)
    have m1 : Dm = 2147483629 := rfl
    have R2 : (Dk.R dk ++ Fr).set 0 (dk.p, .lst ([V.ref dk.q, .ref dk.r, .int dk.n].set 2 (.int (dk.n + 1)))) = Dk.R { dk with n := dk.n + 1 } ++ Fr := rfl
    rw [R2]
    refine bh_asg (n := 2) sc__law_next.nd rfl (.inl rfl) rfl (.inr rfl) (eh_i0 op_add (eh_ixR (ix1 (dk := { dk with n := dk.n + 1 }) rfl ⟨dk.r, rfl, ?_⟩) (fun _ _ => rfl)))
    refine eh_i2 (C := fun _ j => 0 < j) op_mod (eh_i0 op_add (eh_var (n := 1) rfl (by first | exact .inl rfl | exact .inr (.inl rfl) | exact .inr (.inr rfl)) rfl ⟨dk.n, rfl, eh_int ev_int ⟨1, rfl, dk.n + 1, rfl, ?_⟩⟩))
    refine eh_lenR (by rfl) B.len (ix1 (dk := { dk with n := dk.n + 1 }) rfl ⟨dk.r, 2, dk.cells.map V.int, rfl, rfl, (dk.cells.length : Int), by rw [List.length_map], lc, 2, j, dk.cells.map V.int, .int dk.cells[j], by rw [hj], rfl, by rw [List.getElem?_map, List.getElem?_eq_getElem jl]; rfl, ?_⟩)
    refine ⟨dk.cells[j], rfl, eh_i2 op_mul (eh_int ev_int ⟨7, rfl, eh_var (n := 1) rfl (by first | exact .inl rfl | exact .inr (.inl rfl) | exact .inr (.inr rfl)) rfl ⟨dk.n, rfl, .inl ⟨by decide, by decide⟩, _, rfl, ?_⟩⟩)⟩
    have big : (dk.cells[j] + 7 * dk.n + 48271 * (dk.n + 1)).natAbs < 2 ^ 64 := by omega
    refine bh_ret ?_
    refine eh_i2 (C := fun _ j => 0 < j) op_mod ?_
    refine eh_i0 op_add ?_
    refine eh_i2 (C := fun _ j => 0 < j) op_mod ?_
    refine eh_i2 op_pow ?_
    refine eh_i0 op_add (eh_var (n := 2) rfl (by first | exact .inl rfl | exact .inr (.inl rfl) | exact .inr (.inr rfl)) rfl ⟨_, rfl, ?_⟩)
    refine eh_i2 op_mul (eh_int ev_int ⟨48271, rfl, eh_i0 op_add (eh_var (n := 1) rfl (by first | exact .inl rfl | exact .inr (.inl rfl) | exact .inr (.inr rfl)) rfl ⟨_, rfl, eh_int ev_int ⟨1, rfl, _, rfl, .inl ⟨by decide, by decide⟩, _, rfl, ?_⟩⟩)⟩)
    refine ⟨_, rfl, eh_int ev_int ⟨5, rfl, ⟨by decide, by decide, big⟩, _, rfl, eh_int ev_int ⟨2147483647, rfl, by decide, _, rfl, ?_⟩⟩⟩
    refine eh_i2 op_mul (eh_int ev_int ⟨69621, rfl, eh_var (n := 2) rfl (by first | exact .inl rfl | exact .inr (.inl rfl) | exact .inr (.inr rfl)) rfl ⟨_, rfl, .inl ⟨by decide, by decide⟩, _, rfl, ?_⟩⟩)
    refine ⟨_, rfl, eh_int ev_int ⟨2147483629, rfl, by decide, fun H2 s2 => ?_⟩⟩
    exact q _ _ { dk with n := dk.n + 1 } (.int _) (Evl.Ex.refl g) ⟨rfl, rfl, rfl, Int.le_refl _, ⟨by show 0 ≤ dk.n + 1; omega, ok.ne, ok.few, ok.cell, ok.dig⟩⟩ ⟨_, rfl, Int.emod_nonneg _ (by decide), Int.emod_lt_of_pos _ (by decide)⟩ (.int _) H2 s2
end
end K01

namespace K01
open PySem PySem.Spec PyProof.Rows L2 Sk
open Evl (Ex)
structure Cls where
  dn : Bool
  prs : List (Int × Int)
def clsD (c : Cls) : PyData := .tuple [.bool c.dn, .list (c.prs.map pairD)]
def okPc (m : Int) (p : Int × Int) : Prop := 0 ≤ p.1 ∧ p.1 ≤ 9 ∧ 0 ≤ p.2 ∧ p.2 < m
def okCls (m : Int) (c : Cls) : Prop := c.prs.length ≤ 4 ∧ ∀ p ∈ c.prs, okPc m p
def clssD (cs : List Cls) : PyData := .list (cs.map clsD)
def aClasses : List PyData → Prop := fun ds => ∃ m : Nat, ds = [.int (m : Nat)] ∧ 2 ≤ m ∧ m ≤ 12
def okClss (m : Nat) (cs : List Cls) : Prop := 2 ≤ cs.length ∧ cs.length ≤ m ∧ ∀ c ∈ cs, okCls cs.length c
def fClasses : List PyData → PyData → Prop := fun ds d => ∃ (m : Nat) (cs : List Cls), ds = [.int (m : Nat)] ∧ d = clssD cs ∧ okClss m cs
def costLists : List (List Int) := [[0, 1, 1, 2, 3, 5], [1, 1, 1, 1], [0, 0, 1, 9], [1, 2, 3, 4, 7, 9]]
theorem cost_at : ∀ r : Nat, r < 4 → ∃ cs : List Int, (costLists.map fun l => PyData.list (l.map .int))[r]? = some (.list (cs.map .int)) ∧ 0 < cs.length ∧ cs.length ≤ 6 ∧ ∀ c ∈ cs, 0 ≤ c ∧ c ≤ 9
  | 0, _ => ⟨_, rfl, by decide, by decide, by decide⟩
  | 1, _ => ⟨_, rfl, by decide, by decide, by decide⟩
  | 2, _ => ⟨_, rfl, by decide, by decide, by decide⟩
  | 3, _ => ⟨_, rfl, by decide, by decide, by decide⟩
theorem turns_at : ∀ r : Nat, r < 7 → ∃ n : Nat, (([1, 2, 2, 3, 0, 3, 4] : List Int).map PyData.int)[r]? = some (.int (n : Nat)) ∧ n ≤ 4
  | 0, _ => ⟨1, rfl, by decide⟩
  | 1, _ => ⟨2, rfl, by decide⟩
  | 2, _ => ⟨2, rfl, by decide⟩
  | 3, _ => ⟨3, rfl, by decide⟩
  | 4, _ => ⟨0, rfl, by decide⟩
  | 5, _ => ⟨3, rfl, by decide⟩
  | 6, _ => ⟨4, rfl, by decide⟩
section
variable {P : Program} {w : World} {K : PySem.W.Frag} {mg : Str → Option Value} {base : Heap}
abbrev s__law_classes : Stmt := topS 45
abbrev N__law_classes : List Str := ["_law_deck_here", "_law_most", "_law_many", "_law_costs", "_law_found", "_law_at", "_law_number", "_law_done", "_law_pairs", "_law_k", "_law_draw"]
abbrev p__law_classes : List Str := ["_law_deck_here", "_law_most"]
theorem sc__law_classes : FnScope N__law_classes p__law_classes (defScope s__law_classes) := ⟨rfl, rfl, rfl, by decide +kernel, rfl, by decide +kernel, by decide +kernel⟩
theorem k__law_classes__law_deck_here : List.lookup ("_law_deck_here" : Str) (defScope s__law_classes).names = some NameKind.local := by decide +kernel
theorem k__law_classes__law_most : List.lookup ("_law_most" : Str) (defScope s__law_classes).names = some NameKind.local := by decide +kernel
theorem k__law_classes__law_many : List.lookup ("_law_many" : Str) (defScope s__law_classes).names = some NameKind.local := by decide +kernel
theorem k__law_classes__law_costs : List.lookup ("_law_costs" : Str) (defScope s__law_classes).names = some NameKind.local := by decide +kernel
theorem k__law_classes__law_found : List.lookup ("_law_found" : Str) (defScope s__law_classes).names = some NameKind.local := by decide +kernel
theorem k__law_classes__law_at : List.lookup ("_law_at" : Str) (defScope s__law_classes).names = some NameKind.local := by decide +kernel
theorem k__law_classes__law_number : List.lookup ("_law_number" : Str) (defScope s__law_classes).names = some NameKind.local := by decide +kernel
theorem k__law_classes__law_done : List.lookup ("_law_done" : Str) (defScope s__law_classes).names = some NameKind.local := by decide +kernel
theorem k__law_classes__law_pairs : List.lookup ("_law_pairs" : Str) (defScope s__law_classes).names = some NameKind.local := by decide +kernel
theorem k__law_classes__law_k : List.lookup ("_law_k" : Str) (defScope s__law_classes).names = some NameKind.local := by decide +kernel
theorem k__law_classes__law_draw : List.lookup ("_law_draw" : Str) (defScope s__law_classes).names = some NameKind.local := by decide +kernel
theorem k__law_classes__law_next : List.lookup ("_law_next" : Str) (defScope s__law_classes).names = some NameKind.globalImplicit := by decide +kernel
theorem k__law_classes_range : List.lookup ("range" : Str) (defScope s__law_classes).names = some NameKind.globalImplicit := by decide +kernel
theorem k__law_classes_int : List.lookup ("int" : Str) (defScope s__law_classes).names = some NameKind.globalImplicit := by decide +kernel
theorem k__law_classes_len : List.lookup ("len" : Str) (defScope s__law_classes).names = some NameKind.globalImplicit := by decide +kernel
theorem t_law_classes (a : At K mg "_law_classes" s__law_classes) (B : Bi mg) (Gx : FnK P w K mg base 1 "_law_next" 1 noArg (drawn Dm)) (m_range : mg "range" = none) : FnK P w K mg base 2 "_law_classes" 62 aClasses fClasses := by
  refine FnK.mk' a sc__law_classes (fun _ _ _ _ _ _ us hl => match us, hl with | [_, _], _ => rfl) (by rintro _ ⟨m, rfl, _⟩; rfl) fun f cdv Ar outer s H E g dk Fr ws ds D hr ok hn z hA q => ?_
  obtain ⟨m, rfl, m2, m12⟩ := hA
  obtain ⟨v1, rfl, z1⟩ := dn1 z
  cases z1
  refine bh_asg (n := 2) sc__law_classes.nd rfl (.inl k__law_classes__law_many) rfl (.inr k__law_classes__law_many) ?_
  refine eh_i0 op_add (eh_int ev_int ⟨2, rfl, ?_⟩)
  refine eh_i2 (C := fun _ j => 0 < j) op_mod ?_
  refine eh_next (m := 0) Gx (hr.mono (by decide)) k__law_classes__law_next rfl (.inl k__law_classes__law_deck_here) rfl ok (by omega) fun j1 dk1 hj1 t1 => ?_
  refine ⟨(j1 : Nat), rfl, ?_⟩
  refine eh_int (ev_sub (ev_var (n := 1) rfl (.inl k__law_classes__law_most) rfl (.int _)) ev_int) ⟨(m : Int) - 1, rfl, (by show (0 : Int) < (m : Int) - 1; omega), _, rfl, ?_⟩
  obtain ⟨M, hM, M2, Mm⟩ : ∃ M : Nat, (2 : Int) + (j1 : Int) % ((m : Int) - 1) = (M : Nat) ∧ 2 ≤ M ∧ M ≤ m := by
    have a1 := Int.emod_nonneg (j1 : Int) (show ((m : Int) - 1) ≠ 0 by omega)
    have a2 := Int.emod_lt_of_pos (j1 : Int) (show 0 < ((m : Int) - 1) by omega)
    exact ⟨(2 + (j1 : Int) % ((m : Int) - 1)).toNat, by omega, by omega, by omega⟩
  rw [hM]
  have tn1 := t1.n
  have hp1 : (List.set (start N__law_classes [V.ref dk.p, V.int (m : Nat)]) 2 (some (V.int (M : Nat))))[0]? = some (some (V.ref dk1.p)) := by
    rw [t1.ep]
    rfl
  refine bh_asg (n := 3) sc__law_classes.nd rfl (.inl k__law_classes__law_costs) rfl (.inr k__law_classes__law_costs) ?_
  refine eh_ixD (ds := costLists.map fun l => PyData.list (l.map .int)) ?_ (fun g1 e1 => ?_) (fun _ _ => rfl)
  · exact (ev_lst (ea_cons (ev_lst (ea_cons ev_int (ea_cons ev_int (ea_cons ev_int (ea_cons ev_int (ea_cons ev_int (ea_cons ev_int ea_nil)))))) (by simp)) (ea_cons (ev_lst (ea_cons ev_int (ea_cons ev_int (ea_cons ev_int (ea_cons ev_int ea_nil)))) (by simp)) (ea_cons (ev_lst (ea_cons ev_int (ea_cons ev_int (ea_cons ev_int (ea_cons ev_int ea_nil)))) (by simp)) (ea_cons (ev_lst (ea_cons ev_int (ea_cons ev_int (ea_cons ev_int (ea_cons ev_int (ea_cons ev_int (ea_cons ev_int ea_nil)))))) (by simp)) ea_nil)))) (by simp [costLists]))
  refine eh_i2 (C := fun _ j => 0 < j) op_mod ?_
  refine eh_next (m := 0) Gx (hr.mono (by decide)) k__law_classes__law_next rfl (.inl k__law_classes__law_deck_here) hp1 t1.ok (by omega) fun j2 dk2 hj2 t2 => ?_
  refine ⟨_, rfl, eh_int ev_int ⟨4, rfl, by decide, ?_⟩⟩
  have t12 := t1.trans t2 (Int.le_refl _)
  have tn2 := t12.n
  obtain ⟨cs, hcs, cs0, cs6, cs9⟩ := cost_at (j2 % 4) (Nat.mod_lt _ (by decide))
  refine ⟨j2 % 4, _, by rw [Int.natCast_emod]; rfl, Evl.Ex.refl g1, hcs, fun vc zc => ?_⟩
  refine bh_newK (n := 4) sc__law_classes.nd rfl (.inl k__law_classes__law_found) rfl (.inr k__law_classes__law_found) fun lf => ?_
  refine bh_for1 (n := 5) PassesOwn.never rfl (pg_name (i := 5) sc__law_classes.nd rfl (.inl k__law_classes__law_at) (.inr k__law_classes__law_at)) (ei_range (n := M) k__law_classes_range m_range (ev_var (n := 2) rfl (.inl k__law_classes__law_many) rfl (.int _)) (by omega))
    (fun i σ' g' R' => ∃ (dk' : Dk) (vs : List V) (cl : List Cls) (x5 x6 x7 x8 x9 x10 : Option V), σ' = [some (.ref dk.p), some (.int (m : Nat)), some (.int (M : Nat)), some vc, some (.ref lf), x5, x6, x7, x8, x9, x10] ∧ R' = Dk.R dk' ++ (lf, .lst vs) :: Fr ∧ Dk.To (2 + 5 * (i : Int)) dk dk' ∧ DnAll K g' vs (cl.map clsD) ∧ cl.length = i ∧ ∀ c ∈ cl, okCls M c)
    (fun g' e => ⟨dk2, [], [], none, none, none, none, none, none, rfl, rfl, t12.trans (Dk.To.refl t12.ok (Int.le_refl 0)) (by omega), .nil, rfl, fun _ h => nomatch h⟩)
    (fun i d σ' g' R' hdi eg hI v g2 e2 zv => ?_) (fun σ' g' R' eg hI => ?_)
  · obtain ⟨dk3, vs, cl, x5, x6, x7, x8, x9, x10, rfl, rfl, t3, hA, hl, hok⟩ := hI
    have iM : i < M := by
      have := (List.getElem?_eq_some_iff.mp hdi).1
      simpa using this
    have hd : d = .int (i : Nat) := by
      rw [List.getElem?_map, List.getElem?_range iM] at hdi
      exact (Option.some.inj hdi).symm
    subst hd
    cases zv
    have tn3 := t3.n
    refine bh_asg (n := 6) sc__law_classes.nd rfl (.inl k__law_classes__law_number) rfl (.inr k__law_classes__law_number) (eh_next (m := 0) Gx (hr.mono (by decide)) k__law_classes__law_next rfl (.inl k__law_classes__law_deck_here) (by rw [t3.ep]; rfl) t3.ok (by omega) fun j4 dk4 hj4 t4 => ?_)
    have tn4 := t4.n
    refine bh_asg (n := 7) sc__law_classes.nd rfl (.inl k__law_classes__law_done) rfl (.inr k__law_classes__law_done) (eh_ev (d := .bool (if decide ((0 : Int) < (i : Nat)) then decide ((j4 : Int) % 4 = 0) else decide ((j4 : Int) % 12 = 0))) ?_ fun v7 g5 e5 z7 => ?_)
    · refine ev_ixL (n := if decide ((0 : Int) < (i : Nat)) then 1 else 0) (ds := [.bool (decide ((j4 : Int) % 12 = 0)), .bool (decide ((j4 : Int) % 4 = 0))]) (ev_lst (ea_cons (ev_eqI (ev_mod (by decide) (ev_var (n := 6) rfl (.inl k__law_classes__law_number) rfl (.int _)) ev_int) ev_int) (ea_cons (ev_eqI (ev_mod (by decide) (ev_var (n := 6) rfl (.inl k__law_classes__law_number) rfl (.int _)) ev_int) ev_int) ea_nil)) (by simp)) (ev_is (ev_int1b k__law_classes_int B.int (ev_gt (ev_var (n := 5) rfl (.inl k__law_classes__law_at) rfl (.int _)) ev_int)) ?_) ?_ (fun _ _ => rfl)
      · cases decide ((0 : Int) < (i : Nat)) <;> rfl
      · cases decide ((0 : Int) < (i : Nat)) <;> rfl
    obtain ⟨b7, hb7⟩ : ∃ b7, b7 = (if decide ((0 : Int) < (i : Nat)) then decide ((j4 : Int) % 4 = 0) else decide ((j4 : Int) % 12 = 0)) := ⟨_, rfl⟩
    rw [← hb7] at z7
    refine bh_newK (n := 8) sc__law_classes.nd rfl (.inl k__law_classes__law_pairs) rfl (.inr k__law_classes__law_pairs) fun lp => ?_
    obtain ⟨T, hT, T4⟩ := turns_at (j4 / 12 % 7) (Nat.mod_lt _ (by decide))
    refine bh_for1 (n := 9) PassesOwn.never rfl (pg_name (i := 9) sc__law_classes.nd rfl (.inl k__law_classes__law_k) (.inr k__law_classes__law_k)) (ei_range (n := T) k__law_classes_range m_range (ev_ixL (n := j4 / 12 % 7) (ds := ([1, 2, 2, 3, 0, 3, 4] : List Int).map PyData.int) (ev_lst (ea_cons ev_int (ea_cons ev_int (ea_cons ev_int (ea_cons ev_int (ea_cons ev_int (ea_cons ev_int (ea_cons ev_int ea_nil))))))) (by simp)) (ev_is (ev_mod (by decide) (ev_fdiv ⟨by decide, by decide⟩ (ev_var (n := 6) rfl (.inl k__law_classes__law_number) rfl (.int _)) ev_int) ev_int) (by rw [Int.natCast_emod, Int.natCast_ediv]; rfl)) hT (fun _ _ => rfl)) (by omega))
      (fun k σ' g' R' => ∃ (dk' : Dk) (ws : List V) (prs : List (Int × Int)) (y9 y10 : Option V), σ' = [some (.ref dk.p), some (.int (m : Nat)), some (.int (M : Nat)), some vc, some (.ref lf), some (.int (i : Nat)), some (.int (j4 : Nat)), some v7, some (.ref lp), y9, y10] ∧ R' = Dk.R dk' ++ (lp, .lst ws) :: (lf, .lst vs) :: Fr ∧ Dk.To (3 + 5 * (i : Int) + (k : Int)) dk dk' ∧ DnAll K g' ws (prs.map pairD) ∧ prs.length = k ∧ ∀ p ∈ prs, okPc M p)
      (fun g' e => ⟨dk4, [], [], x9, x10, rfl, rfl, t3.trans t4 (by omega), .nil, rfl, fun _ h => nomatch h⟩)
      (fun k d σ' g' R' hdk eg2 hI v g6 e6 zv => ?_) (fun σ' g' R' eg2 hI => ?_)
    · obtain ⟨dk5, ws, prs, y9, y10, rfl, rfl, t5, hB, hlp, hokp⟩ := hI
      have kT : k < T := by
        have := (List.getElem?_eq_some_iff.mp hdk).1
        simpa using this
      have tn5 := t5.n
      refine bh_asg (n := 10) sc__law_classes.nd rfl (.inl k__law_classes__law_draw) rfl (.inr k__law_classes__law_draw) (eh_next (m := 0) Gx (hr.mono (by decide)) k__law_classes__law_next rfl (.inl k__law_classes__law_deck_here) (by rw [t5.ep]; rfl) t5.ok (by omega) fun j6 dk6 hj6 t6 => ?_)
      have lcs : (cs.map PyData.int).length = cs.length := List.length_map ..
      have jc : j6 % cs.length < cs.length := Nat.mod_lt _ cs0
      have zc6 : Dn K g6 vc (.list (cs.map .int)) := zc.ex ((eg.trans (e2.trans e5)).trans (eg2.trans e6))
      refine bh_appK (n := 8) (F1 := []) (m := 3) rfl rfl (.inl k__law_classes__law_pairs) rfl (by have := hB.length; rw [List.length_map] at this; omega) (eh_ev (d := pairD (cs[j6 % cs.length], (j6 : Int) / 8 % (M : Nat))) (ev_tup (ea_cons (ev_ixL (n := j6 % cs.length) (ev_var (n := 3) rfl (.inl k__law_classes__law_costs) rfl zc6) (ev_is (ev_mod (by omega) (ev_var (n := 10) rfl (.inl k__law_classes__law_draw) rfl (.int _)) (ev_lenL k__law_classes_len B.len (ev_var (n := 3) rfl (.inl k__law_classes__law_costs) rfl zc6))) (by rw [lcs, Int.natCast_emod])) (by rw [List.getElem?_map, List.getElem?_eq_getElem jc]; rfl) (fun _ _ => rfl)) (ea_cons (ev_mod (by omega) (ev_fdiv ⟨by decide, by decide⟩ (ev_var (n := 10) rfl (.inl k__law_classes__law_draw) rfl (.int _)) ev_int) (ev_var (n := 2) rfl (.inl k__law_classes__law_many) rfl (.int _))) ea_nil)) (by simp)) fun v8 g8 e8 z8 => ⟨dk6, rfl, bh_end (I := fun σ3 g3 R3 => _) (e6.trans e8) ⟨dk6, ws ++ [v8], prs ++ [(cs[j6 % cs.length], (j6 : Int) / 8 % (M : Nat))], _, _, rfl, rfl, t5.trans t6 (by omega), ?_, ?_, ?_⟩⟩)
      · rw [List.map_append]
        exact (hB.ex (e6.trans e8)).snoc z8
      · rw [List.length_append, hlp]
        rfl
      · intro p hp
        rcases List.mem_append.mp hp with hp | hp
        · exact hokp p hp
        · rw [List.mem_singleton.mp hp]
          have c9 := cs9 _ (List.getElem_mem jc)
          exact ⟨c9.1, c9.2, Int.emod_nonneg _ (by omega), Int.emod_lt_of_pos _ (by omega)⟩
    · obtain ⟨dk5, ws, prs, y9, y10, rfl, rfl, t5, hB, hlp, hokp⟩ := hI
      have lT : ((List.range T).map fun i => PyData.int (i : Nat)).length = T := by simp
      refine bh_keepK fun e9 => ?_
      have zp : Dn K (upd g' lp (.lst ws)) (.ref lp) (.list (prs.map pairD)) := .lst (Evl.sq_of upd_same) (hB.ex e9)
      have z79 := z7.ex (eg2.trans e9)
      refine bh_appK (n := 4) (F1 := []) (m := 3) rfl rfl (.inl k__law_classes__law_found) rfl (by have := hA.length; rw [List.length_map] at this; omega) (eh_ev (d := clsD ⟨b7, prs⟩) (ev_tup (ea_cons (ev_var (n := 7) rfl (.inl k__law_classes__law_done) rfl z79) (ea_cons (ev_var (n := 8) rfl (.inl k__law_classes__law_pairs) rfl zp) ea_nil)) (by simp)) fun v8 g8 e8 z8 => ⟨dk5, rfl, bh_end (I := fun σ3 g3 R3 => _) (e2.trans (e5.trans (eg2.trans (e9.trans e8)))) ⟨dk5, vs ++ [v8], cl ++ [⟨b7, prs⟩], _, _, _, _, _, _, rfl, rfl, t5.trans (Dk.To.refl t5.ok (Int.le_refl 0)) (by rw [lT]; omega), ?_, ?_, ?_⟩⟩)
      · rw [List.map_append]
        exact (hA.ex (e2.trans (e5.trans (eg2.trans (e9.trans e8))))).snoc z8
      · rw [List.length_append, hl]
        rfl
      · intro c hc
        rcases List.mem_append.mp hc with hc | hc
        · exact hok c hc
        · rw [List.mem_singleton.mp hc]
          exact ⟨by show prs.length ≤ 4; rw [hlp, lT]; exact T4, hokp⟩
  · obtain ⟨dk3, vs, cl, x5, x6, x7, x8, x9, x10, rfl, rfl, t3, hA, hl, hok⟩ := hI
    have lM : ((List.range M).map fun i => PyData.int (i : Nat)).length = M := by simp
    rw [lM] at hl t3
    refine bh_keepK fun e9 => ?_
    refine bh_ret (eh_ev (d := clssD cl) (ev_var (n := 4) rfl (.inl k__law_classes__law_found) rfl (.lst (Evl.sq_of upd_same) (hA.ex e9))) fun v g9 e10 z10 H9 s9 => ?_)
    refine q v g9 dk3 _ (e1.trans (eg.trans (e9.trans e10))) (t3.trans (Dk.To.refl t3.ok (Int.le_refl 0)) (by omega)) ⟨m, cl, rfl, rfl, by omega, by omega, fun c hc => ?_⟩ z10 H9 s9
    rw [hl]
    exact hok c hc
end
end K01

namespace K01
open PySem PySem.Spec PyProof.Rows L2 Sk
open Evl (Ex)
def optD : Option Int → PyData
  | none => .none
  | some i => .int i
def optV : Option Int → V
  | none => .non
  | some i => .int i
theorem dn_opts {K : PySem.W.Frag} {g : Hp} : ∀ {vs : List V} {rs : List (Option Int)}, DnAll K g vs (rs.map optD) → vs = rs.map optV
  | _, [], .nil => rfl
  | _, none :: rs, .cons h r => by
    cases h
    rw [dn_opts r]
    rfl
  | _, some i :: rs, .cons h r => by
    cases h
    rw [dn_opts r]
    rfl
theorem opts_dn {K : PySem.W.Frag} {g : Hp} : ∀ (rs : List (Option Int)), DnAll K g (rs.map optV) (rs.map optD)
  | [] => .nil
  | none :: rs => .cons .non (opts_dn rs)
  | some i :: rs => .cons (.int i) (opts_dn rs)
def okO (b : Int) : Option Int → Prop
  | none => True
  | some i => 0 ≤ i ∧ i ≤ b
theorem okO.mono {b c : Int} (h : b ≤ c) : ∀ {o : Option Int}, okO b o → okO c o
  | none, _ => trivial
  | some _, z => ⟨z.1, Int.le_trans z.2 h⟩
def restsD (rs : List (Option Int)) : PyData := .list (rs.map optD)
def aRests : List PyData → Prop := fun ds => ∃ cs, ds = [clssD cs] ∧ okClss 12 cs
def okRests (n : Nat) (rs : List (Option Int)) : Prop := rs.length = n ∧ ∀ r ∈ rs, okO 6000 r
def fRests : List PyData → PyData → Prop := fun ds d => ∃ cs rs, ds = [clssD cs] ∧ d = restsD rs ∧ okRests cs.length rs
theorem ws_nil {X : Cx} {D : Ends} {σ : L2.St} {H : Hp} (h : D.nx σ H) : WS X [] D σ H := .of pss_nil h
theorem set_ok {b : Int} {rs : List (Option Int)} {j : Nat} {v : Option Int} (h : ∀ r ∈ rs, okO b r) (hv : okO b v) : ∀ r ∈ rs.set j v, okO b r := fun r hr => by
  rcases List.mem_or_eq_of_mem_set hr with z | z
  · exact h r z
  · rw [z]
    exact hv
section
variable {P : Program} {w : World} {K : PySem.W.Frag} {mg : Str → Option Value} {base : Heap}
abbrev s__law_rests : Stmt := topS 46
abbrev N__law_rests : List Str := ["_law_classes_here", "_law_rests_here", "_law_turn", "_law_at", "_law_done", "_law_pairs", "_law_cost", "_law_other", "_law_one"]
abbrev p__law_rests : List Str := ["_law_classes_here"]
theorem sc__law_rests : FnScope N__law_rests p__law_rests (defScope s__law_rests) := ⟨rfl, rfl, rfl, by decide +kernel, rfl, by decide +kernel, by decide +kernel⟩
theorem k__law_rests__law_classes_here : List.lookup ("_law_classes_here" : Str) (defScope s__law_rests).names = some NameKind.local := by decide +kernel
theorem k__law_rests__law_rests_here : List.lookup ("_law_rests_here" : Str) (defScope s__law_rests).names = some NameKind.local := by decide +kernel
theorem k__law_rests__law_turn : List.lookup ("_law_turn" : Str) (defScope s__law_rests).names = some NameKind.local := by decide +kernel
theorem k__law_rests__law_at : List.lookup ("_law_at" : Str) (defScope s__law_rests).names = some NameKind.local := by decide +kernel
theorem k__law_rests__law_done : List.lookup ("_law_done" : Str) (defScope s__law_rests).names = some NameKind.local := by decide +kernel
theorem k__law_rests__law_pairs : List.lookup ("_law_pairs" : Str) (defScope s__law_rests).names = some NameKind.local := by decide +kernel
theorem k__law_rests__law_cost : List.lookup ("_law_cost" : Str) (defScope s__law_rests).names = some NameKind.local := by decide +kernel
theorem k__law_rests__law_other : List.lookup ("_law_other" : Str) (defScope s__law_rests).names = some NameKind.local := by decide +kernel
theorem k__law_rests_enumerate : List.lookup ("enumerate" : Str) (defScope s__law_rests).names = some NameKind.globalImplicit := by decide +kernel
theorem t_law_rests (a : At K mg "_law_rests" s__law_rests) (B : Bi mg) : FnM P w K mg base 1 "_law_rests" aRests fRests := by
  refine FnM.mk' a sc__law_rests (fun _ _ _ _ _ _ us hl => match us, hl with | [_], _ => rfl) (by rintro _ ⟨cs, rfl, _⟩; rfl) fun f cdv Ar outer s H E g R vs ds D hr z hA q => ?_
  obtain ⟨cs, rfl, c2, c12, cok⟩ := hA
  obtain ⟨vc, rfl, zc⟩ := dn1 z
  refine bh_setLc (i := 1) (n := 8) rfl sc__law_rests.nd rfl k__law_rests__law_rests_here (sw_true rfl k__law_rests__law_rests_here rfl (by decide +kernel)) (blkOk_by (N := N__law_rests) (sc := defScope s__law_rests) (by decide +kernel)) (fun _ _ _ _ _ => pg_name (i := 8) sc__law_rests.nd rfl (Or.inl rfl)) (ei_list (ev_var (n := 0) rfl (.inl k__law_rests__law_classes_here) rfl zc)) (by rw [List.length_map]; omega) (fun _ => true) (fun d => match d with | .tuple [.bool b, _] => optD (if b then some 0 else none) | _ => .none) (fun _ _ _ _ _ _ _ _ _ _ _ => es_nil) (fun d hd _ v h' e z s H C cl fp => ?_) fun l vs g1 e1 hvs => ?_
  · obtain ⟨c, hc, rfl⟩ := List.mem_map.mp hd
    refine ev_ixL (n := if c.dn then 1 else 0) (ds := [.none, .int 0]) (ev_lst (ea_cons ev_non (ea_cons ev_int ea_nil)) (by simp)) (ev_is (ev_int1b (t := c.dn) (by rfl) B.int (ev_ixT (n := 0) (ev_var (n := 8) rfl (by first | exact .inl rfl | exact .inr (.inl rfl) | exact .inr (.inr rfl)) rfl z) ev_int rfl (fun _ _ => rfl))) ?_) ?_ (fun _ _ => rfl)
    · cases c.dn <;> rfl
    · cases hb : c.dn <;> simp only [clsD, hb] <;> rfl
  rw [filt, List.map_map] at hvs
  have hvs2 : DnAll K g1 vs ((cs.map fun c => if c.dn then some (0 : Int) else none).map optD) := by
    rw [List.map_map]
    exact hvs
  have evs := dn_opts hvs2
  obtain ⟨rs0, hrs0⟩ : ∃ rs0, rs0 = cs.map fun c => if c.dn then some (0 : Int) else none := ⟨_, rfl⟩
  rw [← hrs0] at evs
  subst evs
  have l0 : rs0.length = cs.length := by rw [hrs0, List.length_map]
  have o0 : ∀ r ∈ rs0, okO 0 r := fun r hr => by
    rw [hrs0] at hr
    obtain ⟨c, _, rfl⟩ := List.mem_map.mp hr
    cases c.dn
    · trivial
    · exact ⟨Int.le_refl 0, Int.le_refl 0⟩
  have hnest : ∀ d ∈ Sk.numbered (cs.map clsD), ∃ d1 d2 d3, d = .tuple [d1, .tuple [d2, d3]] := fun d hd => by
    unfold Sk.numbered at hd
    obtain ⟨q, hq, rfl⟩ := List.mem_map.mp hd
    have hm : q.1 ∈ cs.map clsD := List.mem_of_getElem? (List.mem_zipIdx_iff_getElem?.mp hq)
    obtain ⟨c, _, e⟩ := List.mem_map.mp hm
    rw [← e]
    exact ⟨_, _, _, rfl⟩
  have lcs : (cs.map clsD).length = cs.length := List.length_map ..
  have lnm : (Sk.numbered (cs.map clsD)).length = cs.length := by
    unfold Sk.numbered
    rw [List.length_map, List.length_zipIdx, lcs]
  refine bh_for1 (n := 2) PassesOwn.never rfl (pg_name (i := 2) sc__law_rests.nd rfl (.inl k__law_rests__law_turn) (.inr k__law_rests__law_turn)) (ei_list (ev_var (n := 0) rfl (.inl k__law_rests__law_classes_here) rfl (zc.ex e1)))
    (fun i σ' g' R' => ∃ (rs : List (Option Int)) (x2 x3 x4 x5 x6 x7 x8 : Option V), σ' = [some vc, some (.ref l), x2, x3, x4, x5, x6, x7, x8] ∧ R' = (l, .lst (rs.map optV)) :: R ∧ rs.length = cs.length ∧ ∀ r ∈ rs, okO (432 * (i : Int)) r)
    (fun g' e => ⟨rs0, none, none, none, none, none, none, none, rfl, rfl, l0, fun r hr => (o0 r hr).mono (by omega)⟩) (fun i d σ' g' R' hdi eg hI v g2 e2 zv => ?_) (fun σ' g' R' eg hI => ?_)
  · obtain ⟨rs, x2, x3, x4, x5, x6, x7, x8, rfl, rfl, hl, hok⟩ := hI
    refine bh_for3 (n := 3) (m := 4) (l := 5) PassesOwn.never rfl (pg_tup rfl (pgs_cons (pg_name (i := 3) sc__law_rests.nd rfl (.inl k__law_rests__law_at) (.inr k__law_rests__law_at)) (pgs_cons (pg_tup rfl (pgs_cons (pg_name (i := 4) sc__law_rests.nd rfl (.inl k__law_rests__law_done) (.inr k__law_rests__law_done)) (pgs_cons (pg_name (i := 5) sc__law_rests.nd rfl (.inl k__law_rests__law_pairs) (.inr k__law_rests__law_pairs)) pgs_nil))) pgs_nil))) (ei_enumL k__law_rests_enumerate B.enumerate (ev_var (n := 0) rfl (.inl k__law_rests__law_classes_here) rfl (zc.ex (e1.trans (eg.trans e2)))))
      (fun j σ' g' R' => ∃ (rs : List (Option Int)) (x2 x3 x4 x5 x6 x7 x8 : Option V), σ' = [some vc, some (.ref l), x2, x3, x4, x5, x6, x7, x8] ∧ R' = (l, .lst (rs.map optV)) :: R ∧ rs.length = cs.length ∧ ∀ r ∈ rs, okO (432 * (i : Int) + 36 * (j : Int)) r)
      (fun g' e => ⟨rs, _, _, _, _, _, _, _, rfl, rfl, hl, fun r hr => (hok r hr).mono (by omega)⟩) hnest (fun j d1 d2 d3 σ' g' R' hdj eg3 hI v1 v2 v3 g4 e4 z1 z2 z3 => ?_) (fun σ' g' R' eg3 hI => ?_)
    · obtain ⟨rs, x2, x3, x4, x5, x6, x7, x8, rfl, rfl, hl, hok⟩ := hI
      have hj : j < cs.length := by
        have := (List.getElem?_eq_some_iff.mp hdj).1
        rw [lnm] at this
        exact this
      have ec : PyData.tuple [d1, .tuple [d2, d3]] = .tuple [.int (j : Nat), clsD cs[j]] := by
        have z := numbered_get (ds := cs.map clsD) (i := j) (d := clsD cs[j]) (by rw [List.getElem?_map, List.getElem?_eq_getElem hj]; rfl)
        rw [hdj] at z
        exact Option.some.inj z
      unfold clsD at ec
      injection ec with ec
      injection ec with ea ec
      injection ec with ec _
      injection ec with ec
      injection ec with eb ec
      injection ec with ec _
      subst ea eb ec
      cases z1
      cases z2
      have cj := cok cs[j] (List.getElem_mem hj)
      refine bh_for2 (n := 6) (n2 := 7) PassesOwn.never rfl (pg_tup rfl (pgs_cons (pg_name (i := 6) sc__law_rests.nd rfl (.inl k__law_rests__law_cost) (.inr k__law_rests__law_cost)) (pgs_cons (pg_name (i := 7) sc__law_rests.nd rfl (.inl k__law_rests__law_other) (.inr k__law_rests__law_other)) pgs_nil))) (ei_list (ev_var (n := 5) rfl (.inl k__law_rests__law_pairs) rfl z3))
        (fun m σ' g' R' => ∃ (rs : List (Option Int)) (x6 x7 : Option V), σ' = [some vc, some (.ref l), x2, some (.int (j : Nat)), some (.bl cs[j].dn), some v3, x6, x7, x8] ∧ R' = (l, .lst (rs.map optV)) :: R ∧ rs.length = cs.length ∧ ∀ r ∈ rs, okO (432 * (i : Int) + 36 * (j : Int) + 9 * (m : Int)) r)
        (fun g' e => ⟨rs, _, _, rfl, rfl, hl, fun r hr => (hok r hr).mono (by omega)⟩) (fun d hd => by obtain ⟨p, _, rfl⟩ := List.mem_map.mp hd; exact ⟨_, _, rfl⟩) (fun m d1 d2 σ' g' R' hdm eg5 hI u1 u2 g6 e6 y1 y2 => ?_) (fun σ' g' R' eg5 hI => ?_)
      · obtain ⟨rs, x6, x7, rfl, rfl, hl, hok⟩ := hI
        have hm : m < cs[j].prs.length := by
          have := (List.getElem?_eq_some_iff.mp hdm).1
          rw [List.length_map] at this
          exact this
        have ep : PyData.tuple [d1, d2] = pairD cs[j].prs[m] := by
          rw [List.getElem?_map, List.getElem?_eq_getElem hm] at hdm
          exact (Option.some.inj hdm).symm
        unfold pairD at ep
        injection ep with ep
        injection ep with ea ep
        injection ep with ep _
        subst ea ep
        cases y1
        cases y2
        obtain ⟨p1, p2, p3, p4⟩ := cj.2 _ (List.getElem_mem hm)
        obtain ⟨o, ho⟩ : ∃ o : Nat, cs[j].prs[m].2 = (o : Nat) := ⟨_, (Int.toNat_of_nonneg p3).symm⟩
        rw [ho] at p4 ⊢
        have ol : o < rs.length := by omega
        have jl : j < rs.length := by omega
        have gO : (rs.map optV)[o]? = some (optV rs[o]) := by rw [List.getElem?_map, List.getElem?_eq_getElem ol]; rfl
        have gJ : (rs.map optV)[j]? = some (optV rs[j]) := by rw [List.getElem?_map, List.getElem?_eq_getElem jl]; rfl
        have kO := hok _ (List.getElem_mem ol)
        have kJ := hok _ (List.getElem_mem jl)
        have fin : ∀ rs2 : List (Option Int), rs2.length = cs.length → (∀ r ∈ rs2, okO (432 * (i : Int) + 36 * (j : Int) + 9 * ((m : Int) + 1)) r) → ∀ H, Sh g6 ((l, .lst (rs2.map optV)) :: R) H → ∃ g3 R3, Ex g' g3 ∧ Sh g3 R3 H ∧ ∃ (rs : List (Option Int)) (x6 x7 : Option V), [some vc, some (.ref l), x2, some (.int (j : Nat)), some (.bl cs[j].dn), some v3, some (.int cs[j].prs[m].1), some (.int (o : Nat)), x8] = [some vc, some (.ref l), x2, some (.int (j : Nat)), some (.bl cs[j].dn), some v3, x6, x7, x8] ∧ R3 = (l, .lst (rs.map optV)) :: R ∧ rs.length = cs.length ∧ ∀ r ∈ rs, okO (432 * (i : Int) + 36 * (j : Int) + 9 * ((m + 1 : Nat) : Int)) r :=
          fun rs2 h1 h2 H sh => ⟨g6, _, e6, sh, rs2, _, _, rfl, rfl, h1, fun r hr => (h2 r hr).mono (by omega)⟩
        have same := fin rs hl (fun r hr => (hok r hr).mono (by omega))
        refine bh_ifr (th_and2 (th_not (th_ev (t := cs[j].dn) (et_val (ev_var (n := 4) rfl (.inl k__law_rests__law_done) rfl (.bl _))) ⟨fun _ => ?_, fun _ => ⟨(fun z => nomatch z), fun _ => bh_nil same⟩⟩)))
        refine th_notN (eh_ixR (eh_var (n := 1) rfl (.inl k__law_rests__law_rests_here) rfl ⟨l, rfl, eh_var (n := 7) rfl (.inl k__law_rests__law_other) rfl ⟨0, o, _, _, rfl, rfl, gO, ?_⟩⟩) (fun _ _ => rfl))
        cases hro : rs[o] with
        | none => exact ⟨(fun z => nomatch z), fun _ => bh_nil same⟩
        | some vo =>
          rw [hro] at gO kO
          refine ⟨fun _ => ?_, (fun z => nomatch z)⟩
          refine bh_ifr (th_or2 (th_isN (eh_ixR (eh_var (n := 1) rfl (.inl k__law_rests__law_rests_here) rfl ⟨l, rfl, eh_var (n := 3) rfl (.inl k__law_rests__law_at) rfl ⟨0, j, _, _, rfl, rfl, gJ, ?_⟩⟩) (fun _ _ => rfl))))
          have asg : ∀ {D2 : Ends} {rest : List Stmt} {p1 p2 p3 p4 p5 p6 p7 p8 p9 : Pos}, True := trivial
          have stp : okO (432 * (i : Int) + 36 * (j : Int) + 9 * ((m : Int) + 1)) (some (cs[j].prs[m].1 + vo)) := by
            have k1 := kO.1
            have k2 := kO.2
            exact ⟨by omega, by omega⟩
          have fin2 := fin (rs.set j (some (cs[j].prs[m].1 + vo))) (by rw [List.length_set]; exact hl) (set_ok (fun r hr => (hok r hr).mono (by omega)) stp)
          rw [List.map_set] at fin2
          cases hrj : rs[j] with
          | none =>
            refine ⟨(fun z => nomatch z), fun _ => ⟨fun _ => ?_, (fun z => nomatch z)⟩⟩
            refine bh_seti (eh_i0 op_add (eh_var (n := 6) rfl (.inl k__law_rests__law_cost) rfl ⟨_, rfl, eh_ixR (eh_var (n := 1) rfl (.inl k__law_rests__law_rests_here) rfl ⟨l, rfl, eh_var (n := 7) rfl (.inl k__law_rests__law_other) rfl ⟨0, o, _, _, rfl, rfl, gO, vo, rfl, eh_var (n := 1) rfl (.inl k__law_rests__law_rests_here) rfl (eh_var (n := 3) rfl (.inl k__law_rests__law_at) rfl ⟨l, j, 0, _, rfl, rfl, rfl, (by rw [List.length_map]; exact jl), bh_nil fun H sh => ws_nil (ws_nil (fin2 H sh))⟩)⟩⟩) (fun _ _ => rfl)⟩))
          | some vj =>
            rw [hrj] at gJ
            refine ⟨fun _ => ?_, (fun z => nomatch z)⟩
            refine th_i0 op_lt (nomark _) ?_
            refine eh_i0 op_add (eh_var (n := 6) rfl (.inl k__law_rests__law_cost) rfl ⟨_, rfl, eh_ixR (eh_var (n := 1) rfl (.inl k__law_rests__law_rests_here) rfl ⟨l, rfl, eh_var (n := 7) rfl (.inl k__law_rests__law_other) rfl ⟨0, o, _, _, rfl, rfl, gO, vo, rfl, ?_⟩⟩) (fun _ _ => rfl)⟩)
            refine ⟨_, rfl, eh_ixR (eh_var (n := 1) rfl (.inl k__law_rests__law_rests_here) rfl ⟨l, rfl, eh_var (n := 3) rfl (.inl k__law_rests__law_at) rfl ⟨0, j, _, _, rfl, rfl, gJ, vj, rfl, ?_⟩⟩) (fun _ _ => rfl)⟩
            refine ⟨fun _ => ?_, fun _ => bh_nil fun H sh => ws_nil (same H sh)⟩
            refine bh_seti (eh_i0 op_add (eh_var (n := 6) rfl (.inl k__law_rests__law_cost) rfl ⟨_, rfl, eh_ixR (eh_var (n := 1) rfl (.inl k__law_rests__law_rests_here) rfl ⟨l, rfl, eh_var (n := 7) rfl (.inl k__law_rests__law_other) rfl ⟨0, o, _, _, rfl, rfl, gO, vo, rfl, eh_var (n := 1) rfl (.inl k__law_rests__law_rests_here) rfl (eh_var (n := 3) rfl (.inl k__law_rests__law_at) rfl ⟨l, j, 0, _, rfl, rfl, rfl, (by rw [List.length_map]; exact jl), bh_nil fun H sh => ws_nil (ws_nil (fin2 H sh))⟩)⟩⟩) (fun _ _ => rfl)⟩))
      · obtain ⟨rs, x6, x7, rfl, rfl, hl, hok⟩ := hI
        refine bh_end (I := fun σ3 g3 R3 => _) (e4.trans eg5) ⟨rs, _, _, _, _, _, _, _, rfl, rfl, hl, fun r hr => (hok r hr).mono ?_⟩
        have := cj.1
        rw [List.length_map]
        omega
    · obtain ⟨rs, x2, x3, x4, x5, x6, x7, x8, rfl, rfl, hl, hok⟩ := hI
      refine bh_end (I := fun σ3 g3 R3 => _) (e2.trans eg3) ⟨rs, _, _, _, _, _, _, _, rfl, rfl, hl, fun r hr => (hok r hr).mono ?_⟩
      rw [lnm]
      omega
  · obtain ⟨rs, x2, x3, x4, x5, x6, x7, x8, rfl, rfl, hl, hok⟩ := hI
    refine bh_keep fun e9 => ?_
    refine bh_ret (eh_ev (d := restsD rs) (ev_var (n := 1) rfl (.inl k__law_rests__law_rests_here) rfl (.lst (Evl.sq_of upd_same) (opts_dn rs))) fun v g9 e10 z10 H9 s9 => ?_)
    refine q v g9 _ (e1.trans (eg.trans (e9.trans e10))) ⟨cs, rs, rfl, rfl, hl, fun r hr => (hok r hr).mono ?_⟩ z10 H9 s9
    rw [lcs]
    omega
end
end K01

namespace K01
open PySem PySem.Spec PyProof.Rows L2 Sk
open Evl (Ex)
def aBounds : List PyData → Prop := fun ds => ∃ rs, ds = [restsD rs] ∧ rs.length ≤ 12 ∧ ∀ r ∈ rs, okO 6000 r
def boundsD (bs : List Int) : PyData := .list (bs.map .int)
def fBounds : List PyData → PyData → Prop := fun ds d => ∃ rs bs, ds = [restsD rs] ∧ d = boundsD bs ∧ bs.length = rs.length ∧ ∀ b ∈ bs, 0 ≤ b ∧ b ≤ 100000
def parts6 : List (Int × Int) := [(1, 1), (1, 2), (2, 3), (0, 1), (1, 1), (1, 3)]
theorem parts_at : ∀ r : Nat, r < 6 → ∃ p q : Int, (parts6.map pairD)[r]? = some (pairD (p, q)) ∧ 0 ≤ p ∧ p ≤ 2 ∧ 1 ≤ q ∧ q ≤ 3
  | 0, _ => ⟨_, _, rfl, by decide, by decide, by decide, by decide⟩
  | 1, _ => ⟨_, _, rfl, by decide, by decide, by decide, by decide⟩
  | 2, _ => ⟨_, _, rfl, by decide, by decide, by decide, by decide⟩
  | 3, _ => ⟨_, _, rfl, by decide, by decide, by decide, by decide⟩
  | 4, _ => ⟨_, _, rfl, by decide, by decide, by decide, by decide⟩
  | 5, _ => ⟨_, _, rfl, by decide, by decide, by decide, by decide⟩
theorem rests_ints : ∀ (rs : List (Option Int)), ((rs.map optD).filter fun d => !isNo d).map (fun d => d) = (rs.filterMap id).map PyData.int
  | [] => rfl
  | none :: rs => rests_ints rs
  | some i :: rs => by
    show PyData.int i :: _ = PyData.int i :: _
    exact congrArg _ (rests_ints rs)
section
variable {P : Program} {w : World} {K : PySem.W.Frag} {mg : Str → Option Value} {base : Heap}
abbrev s__law_bounds : Stmt := topS 47
abbrev N__law_bounds : List Str := ["_law_deck_here", "_law_rests_here", "_law_number", "_law_part_here", "_law_whole_here", "_law_rest", "_law_greatest", "_law_found"]
abbrev p__law_bounds : List Str := ["_law_deck_here", "_law_rests_here"]
theorem sc__law_bounds : FnScope N__law_bounds p__law_bounds (defScope s__law_bounds) := ⟨rfl, rfl, rfl, by decide +kernel, rfl, by decide +kernel, by decide +kernel⟩
theorem k__law_bounds__law_deck_here : List.lookup ("_law_deck_here" : Str) (defScope s__law_bounds).names = some NameKind.local := by decide +kernel
theorem k__law_bounds__law_rests_here : List.lookup ("_law_rests_here" : Str) (defScope s__law_bounds).names = some NameKind.local := by decide +kernel
theorem k__law_bounds__law_number : List.lookup ("_law_number" : Str) (defScope s__law_bounds).names = some NameKind.local := by decide +kernel
theorem k__law_bounds__law_part_here : List.lookup ("_law_part_here" : Str) (defScope s__law_bounds).names = some NameKind.local := by decide +kernel
theorem k__law_bounds__law_whole_here : List.lookup ("_law_whole_here" : Str) (defScope s__law_bounds).names = some NameKind.local := by decide +kernel
theorem k__law_bounds__law_rest : List.lookup ("_law_rest" : Str) (defScope s__law_bounds).names = some NameKind.local := by decide +kernel
theorem k__law_bounds__law_greatest : List.lookup ("_law_greatest" : Str) (defScope s__law_bounds).names = some NameKind.local := by decide +kernel
theorem k__law_bounds__law_found : List.lookup ("_law_found" : Str) (defScope s__law_bounds).names = some NameKind.local := by decide +kernel
theorem k__law_bounds__law_next : List.lookup ("_law_next" : Str) (defScope s__law_bounds).names = some NameKind.globalImplicit := by decide +kernel
theorem k__law_bounds_max : List.lookup ("max" : Str) (defScope s__law_bounds).names = some NameKind.globalImplicit := by decide +kernel
theorem t_law_bounds (a : At K mg "_law_bounds" s__law_bounds) (B : Bi mg) (Gx : FnK P w K mg base 1 "_law_next" 1 noArg (drawn Dm)) (m_max : mg "max" = none) : FnK P w K mg base 2 "_law_bounds" 1 aBounds fBounds := by
  refine FnK.mk' a sc__law_bounds (fun _ _ _ _ _ _ us hl => match us, hl with | [_, _], _ => rfl) (by rintro _ ⟨rs, rfl, _⟩; rfl) fun f cdv Ar outer s H E g dk Fr ws ds D hr ok hn z hA q => ?_
  obtain ⟨rs, rfl, r12, rok⟩ := hA
  obtain ⟨vr, rfl, zr⟩ := dn1 z
  refine bh_asg (n := 2) sc__law_bounds.nd rfl (.inl k__law_bounds__law_number) rfl (.inr k__law_bounds__law_number) (eh_next (m := 0) Gx (hr.mono (by decide)) k__law_bounds__law_next rfl (.inl k__law_bounds__law_deck_here) rfl ok hn fun j1 dk1 hj1 t1 => ?_)
  obtain ⟨pp, qq, hpq, p0, p2, q1, q3⟩ := parts_at (j1 % 6) (Nat.mod_lt _ (by decide))
  refine bh_unp (n := 2) rfl (pgs_cons (pg_name (i := 3) sc__law_bounds.nd rfl (.inl k__law_bounds__law_part_here) (.inr k__law_bounds__law_part_here)) (pgs_cons (pg_name (i := 4) sc__law_bounds.nd rfl (.inl k__law_bounds__law_whole_here) (.inr k__law_bounds__law_whole_here)) pgs_nil)) rfl rfl rfl rfl ?_
  refine eh_ev (d := pairD (pp, qq)) (ev_ixL (n := j1 % 6) (ds := parts6.map pairD) (ev_lst (ea_cons (ev_tup (ea_cons ev_int (ea_cons ev_int ea_nil)) (by simp)) (ea_cons (ev_tup (ea_cons ev_int (ea_cons ev_int ea_nil)) (by simp)) (ea_cons (ev_tup (ea_cons ev_int (ea_cons ev_int ea_nil)) (by simp)) (ea_cons (ev_tup (ea_cons ev_int (ea_cons ev_int ea_nil)) (by simp)) (ea_cons (ev_tup (ea_cons ev_int (ea_cons ev_int ea_nil)) (by simp)) (ea_cons (ev_tup (ea_cons ev_int (ea_cons ev_int ea_nil)) (by simp)) ea_nil)))))) (by simp [parts6])) (ev_is (ev_mod (by decide) (ev_var (n := 2) rfl (.inl k__law_bounds__law_number) rfl (.int _)) ev_int) (by rw [Int.natCast_emod]; rfl)) hpq (fun _ _ => rfl)) fun v g1 e1 z1 => ?_
  cases z1 with
  | tup sq tt =>
    obtain ⟨u1, u2, rfl, y1, y2⟩ := dn2 tt
    cases y1
    cases y2
    refine ⟨_, _, rfl, sq, rfl, [some (.ref dk.p), some vr, some (.int (j1 : Nat)), some (.int pp), some (.int qq), none, none, none], fun H Q q => ⟨_, _, rfl, _, _, rfl, rfl, q⟩, ?_⟩
    refine bh_asg (n := 6) sc__law_bounds.nd rfl (.inl k__law_bounds__law_greatest) rfl (.inr k__law_bounds__law_greatest) ?_
    refine eh_max rfl k__law_bounds_max m_max (eh_cat (eh_lst (ah_cons (eh_int ev_int (ah_nil ⟨by simp, fun l1 => ⟨l1, rfl, ?_⟩⟩)))))
    refine eh_lc (n := 5) rfl sc__law_bounds.nd (blkOk_by (N := N__law_bounds) (sc := defScope s__law_bounds) (by decide +kernel)) (fun _ _ _ _ _ => pg_name (i := 5) sc__law_bounds.nd rfl (Or.inl rfl)) (ei_list (ev_var (n := 1) rfl (.inl k__law_bounds__law_rests_here) rfl (zr.ex e1))) (by rw [List.length_map]; omega) (fun d => !isNo d) (fun d => d) (fun d hd v h' e z s H C cl fp => by refine es_one ?_; refine et_notN ?_; exact (ev_var (n := 5) rfl (by first | exact .inl rfl | exact .inr (.inl rfl) | exact .inr (.inr rfl)) rfl z)) (fun d hd _ v h' e z s H C cl fp => by exact (ev_var (n := 5) rfl (by first | exact .inl rfl | exact .inr (.inl rfl) | exact .inr (.inr rfl)) rfl z)) fun l2 vs g2 e2 hvs => ?_
    rw [rests_ints] at hvs
    have evs := hvs.ints
    subst evs
    refine ⟨l2, 1, 0, [.int 0], _, rfl, rfl, rfl, ?_, fun l3 => ⟨l3, 0, 0 :: rs.filterMap id, rfl, rfl, by simp, fun mx hm1 hm2 => ?_⟩⟩
    · have := List.length_filterMap_le id rs
      simp only [List.length_map, List.length_cons, List.length_nil]
      omega
    have mx0 : 0 ≤ mx := hm2 0 (List.mem_cons_self ..)
    have mxb : mx ≤ 6000 := by
      rcases List.mem_cons.mp hm1 with e | hm
      · omega
      · obtain ⟨o, ho, e⟩ := List.mem_filterMap.mp hm
        have := rok o ho
        cases o with
        | none => cases e
        | some i =>
          cases e
          exact this.2
    refine bh_drop (bh_drop (bh_drop ?_))
    refine bh_newK (n := 7) sc__law_bounds.nd rfl (.inl k__law_bounds__law_found) rfl (.inr k__law_bounds__law_found) fun lf => ?_
    refine bh_for1 (n := 5) PassesOwn.never rfl (pg_name (i := 5) sc__law_bounds.nd rfl (.inl k__law_bounds__law_rest) (.inr k__law_bounds__law_rest)) (ei_list (ev_var (n := 1) rfl (.inl k__law_bounds__law_rests_here) rfl (zr.ex (e1.trans e2))))
      (fun i σ' g' R' => ∃ (bs : List Int) (x5 : Option V), σ' = [some (.ref dk.p), some vr, some (.int (j1 : Nat)), some (.int pp), some (.int qq), x5, some (.int mx), some (.ref lf)] ∧ R' = Dk.R dk1 ++ (lf, .lst (bs.map V.int)) :: Fr ∧ bs.length = i ∧ ∀ b ∈ bs, 0 ≤ b ∧ b ≤ 100000)
      (fun g' e => ⟨[], none, rfl, rfl, rfl, fun _ h => nomatch h⟩) (fun i d σ' g' R' hdi eg hI v g3 e3 zv => ?_) (fun σ' g' R' eg hI => ?_)
    · obtain ⟨bs, x5, rfl, rfl, hl, hok⟩ := hI
      have hi : i < rs.length := by
        have := (List.getElem?_eq_some_iff.mp hdi).1
        rw [List.length_map] at this
        exact this
      have hd : d = optD rs[i] := by
        rw [List.getElem?_map, List.getElem?_eq_getElem hi] at hdi
        exact (Option.some.inj hdi).symm
      subst hd
      have kr := rok _ (List.getElem_mem hi)
      have fin : ∀ b : Int, 0 ≤ b ∧ b ≤ 100000 → ∃ (bs2 : List Int) (x5 : Option V), [some (.ref dk.p), some vr, some (.int (j1 : Nat)), some (.int pp), some (.int qq), some v, some (.int mx), some (.ref lf)] = [some (.ref dk.p), some vr, some (.int (j1 : Nat)), some (.int pp), some (.int qq), x5, some (.int mx), some (.ref lf)] ∧ Dk.R dk1 ++ (lf, HO.lst (bs.map V.int ++ [V.int b])) :: Fr = Dk.R dk1 ++ (lf, .lst (bs2.map V.int)) :: Fr ∧ bs2.length = i + 1 ∧ ∀ b ∈ bs2, 0 ≤ b ∧ b ≤ 100000 := fun b hb => ⟨bs ++ [b], _, rfl, by rw [List.map_append]; rfl, by rw [List.length_append, hl]; rfl, fun x hx => by
        rcases List.mem_append.mp hx with hx | hx
        · exact hok x hx
        · rw [List.mem_singleton.mp hx]
          exact hb⟩
      cases hr : rs[i] with
      | none =>
        rw [hr] at zv
        cases zv
        refine bh_if (th_isN (eh_var (n := 5) rfl (.inl k__law_bounds__law_rest) rfl ⟨fun _ => ?_, (fun z => nomatch z)⟩))
        have a0 := Int.emod_nonneg ((j1 : Int) / 6) (show (5 : Int) ≠ 0 by decide)
        have a1 := Int.emod_lt_of_pos ((j1 : Int) / 6) (show (0 : Int) < 5 by decide)
        refine bh_appK (n := 7) (F1 := []) (m := 3) rfl rfl (.inl k__law_bounds__law_found) rfl (by rw [List.length_map]; omega) (eh_int (ev_add (ev_var (n := 6) rfl (.inl k__law_bounds__law_greatest) rfl (.int _)) (ev_mod (by decide) (ev_fdiv ⟨by decide, by decide⟩ (ev_var (n := 2) rfl (.inl k__law_bounds__law_number) rfl (.int _)) ev_int) ev_int)) ⟨dk1, rfl, bh_nil fun H sh => ws_nil ⟨g3, _, e3, sh, fin _ ⟨by omega, by omega⟩⟩⟩)
      | some iv =>
        rw [hr] at zv kr
        cases zv
        have k1 := kr.1
        have k2 := kr.2
        refine bh_if (th_isN (eh_var (n := 5) rfl (.inl k__law_bounds__law_rest) rfl ⟨(fun z => nomatch z), fun _ => ?_⟩))
        have m0 : 0 ≤ iv * pp := Int.mul_nonneg k1 p0
        have m1 : iv * pp ≤ iv * 2 := Int.mul_le_mul_of_nonneg_left p2 k1
        have d0 : 0 ≤ iv * pp / qq := Int.ediv_nonneg m0 (by omega)
        have d1 : iv * pp / qq ≤ iv * pp := Int.ediv_le_self _ m0
        refine bh_appK (n := 7) (F1 := []) (m := 3) rfl rfl (.inl k__law_bounds__law_found) rfl (by rw [List.length_map]; omega) (eh_int (ev_fdiv ⟨by omega, by omega⟩ (ev_mul (.inl ⟨by omega, by omega⟩) (ev_var (n := 5) rfl (.inl k__law_bounds__law_rest) rfl (.int _)) (ev_var (n := 3) rfl (.inl k__law_bounds__law_part_here) rfl (.int _))) (ev_var (n := 4) rfl (.inl k__law_bounds__law_whole_here) rfl (.int _))) ⟨dk1, rfl, bh_nil fun H sh => ws_nil ⟨g3, _, e3, sh, fin _ ⟨d0, by omega⟩⟩⟩)
    · obtain ⟨bs, x5, rfl, rfl, hl, hok⟩ := hI
      rw [List.length_map] at hl
      refine bh_keepK fun e9 => ?_
      refine bh_ret (eh_ev (d := boundsD bs) (ev_var (n := 7) rfl (.inl k__law_bounds__law_found) rfl (.lst (Evl.sq_of upd_same) (DnAll.ofInts bs))) fun v g9 e10 z10 H9 s9 => ?_)
      exact q v g9 dk1 _ (e1.trans (e2.trans (eg.trans (e9.trans e10)))) t1 ⟨rs, bs, rfl, rfl, hl, hok⟩ z10 H9 s9
end
end K01

namespace K01
open PySem PySem.Spec PyProof.Rows L2 Sk
open Evl (Ex)
theorem th_bl {X : Cx} {a : Expr} {σ : L2.St} {g : Hp} {R : Rl} {KT : Bool → Hp → Rl → Prop} (h : EH X a σ g R fun x g1 R1 => ∃ t, x = .bl t ∧ KT t g1 R1) (he : ∀ whole, isTrue a X.env whole = (do let v ← whole; standAt a.pos; holding [v] (truthy v)) := by intro _; rfl) : TH X a σ g R KT := fun H s =>
  .of (pt_val WE.pe he) (WE.mono (h H s) fun x H1 ⟨g1, R1, s1, t, e, k⟩ => ⟨t, e, g1, R1, s1, k⟩)
def boolsD (bs : List Bool) : PyData := .list (bs.map .bool)
theorem bools_dn {K : PySem.W.Frag} {g : Hp} : ∀ (bs : List Bool), DnAll K g (bs.map V.bl) (bs.map PyData.bool)
  | [] => .nil
  | b :: bs => .cons (.bl b) (bools_dn bs)
def aCuts : List PyData → Prop := fun ds => ∃ cs rs, ds = [clssD cs, restsD rs] ∧ okClss 12 cs ∧ rs.length = cs.length
def fCuts : List PyData → PyData → Prop := fun ds d => ∃ cs rs bs, ds = [clssD cs, restsD rs] ∧ d = boolsD bs ∧ bs.length = cs.length
theorem nested_of (cs : List Cls) : ∀ d ∈ Sk.numbered (cs.map clsD), ∃ d1 d2 d3, d = .tuple [d1, .tuple [d2, d3]] := fun d hd => by
  unfold Sk.numbered at hd
  obtain ⟨q, hq, rfl⟩ := List.mem_map.mp hd
  have hm : q.1 ∈ cs.map clsD := List.mem_of_getElem? (List.mem_zipIdx_iff_getElem?.mp hq)
  obtain ⟨c, _, e⟩ := List.mem_map.mp hm
  rw [← e]
  exact ⟨_, _, _, rfl⟩
theorem len_nested (cs : List Cls) : (Sk.numbered (cs.map clsD)).length = cs.length := by
  unfold Sk.numbered
  rw [List.length_map, List.length_zipIdx, List.length_map]
theorem nested_at {cs : List Cls} {j : Nat} {d1 d2 d3 : PyData} (h : (Sk.numbered (cs.map clsD))[j]? = some (.tuple [d1, .tuple [d2, d3]])) : ∃ c, cs[j]? = some c ∧ d1 = .int (j : Nat) ∧ d2 = .bool c.dn ∧ d3 = .list (c.prs.map pairD) := by
  have hj : j < cs.length := by
    have := (List.getElem?_eq_some_iff.mp h).1
    rw [len_nested] at this
    exact this
  have z := numbered_get (ds := cs.map clsD) (i := j) (d := clsD cs[j]) (by rw [List.getElem?_map, List.getElem?_eq_getElem hj]; rfl)
  rw [h] at z
  have ec := Option.some.inj z
  unfold clsD at ec
  injection ec with ec
  injection ec with ea ec
  injection ec with ec _
  injection ec with ec
  injection ec with eb ec
  injection ec with ec _
  exact ⟨cs[j], List.getElem?_eq_getElem hj, ea, eb, ec⟩
theorem pair_at {ps : List (Int × Int)} {m : Nat} {d1 d2 : PyData} (h : (ps.map pairD)[m]? = some (.tuple [d1, d2])) : ∃ p, ps[m]? = some p ∧ d1 = .int p.1 ∧ d2 = .int p.2 := by
  have hm : m < ps.length := by
    have := (List.getElem?_eq_some_iff.mp h).1
    rw [List.length_map] at this
    exact this
  rw [List.getElem?_map, List.getElem?_eq_getElem hm] at h
  have ep := Option.some.inj h
  unfold pairD at ep
  injection ep with ep
  injection ep with ea ep
  injection ep with ep _
  exact ⟨ps[m], List.getElem?_eq_getElem hm, ea.symm, ep.symm⟩
theorem pairs_pair {ps : List (Int × Int)} : ∀ d ∈ ps.map pairD, ∃ d1 d2, d = .tuple [d1, d2] := fun d hd => by
  obtain ⟨p, _, rfl⟩ := List.mem_map.mp hd
  exact ⟨_, _, rfl⟩
theorem numbered_pair {ds : List PyData} : ∀ d ∈ Sk.numbered ds, ∃ d1 d2, d = .tuple [d1, d2] := fun d hd => by
  unfold Sk.numbered at hd
  obtain ⟨q, _, rfl⟩ := List.mem_map.mp hd
  exact ⟨_, _, rfl⟩
theorem numbered_int {ds : List PyData} {d1 d2 : PyData} (hd : .tuple [d1, d2] ∈ Sk.numbered ds) : ∃ i : Nat, d1 = .int (i : Nat) ∧ ds[i]? = some d2 := by
  unfold Sk.numbered at hd
  obtain ⟨q, hq, e⟩ := List.mem_map.mp hd
  injection e with e
  injection e with e1 e
  injection e with e _
  refine ⟨q.2, e1.symm, ?_⟩
  rw [← e]
  exact List.mem_zipIdx_iff_getElem?.mp hq
section
variable {P : Program} {w : World} {K : PySem.W.Frag} {mg : Str → Option Value} {base : Heap}
abbrev s__law_cuts : Stmt := topS 48
abbrev N__law_cuts : List Str := ["_law_deck_here", "_law_classes_here", "_law_rests_here", "_law_number", "_law_at", "_law_found", "_law_turn", "_law_done", "_law_pairs", "_law_cost", "_law_other", "_law_rest"]
abbrev p__law_cuts : List Str := ["_law_deck_here", "_law_classes_here", "_law_rests_here"]
theorem sc__law_cuts : FnScope N__law_cuts p__law_cuts (defScope s__law_cuts) := ⟨rfl, rfl, rfl, by decide +kernel, rfl, by decide +kernel, by decide +kernel⟩
theorem k__law_cuts__law_deck_here : List.lookup ("_law_deck_here" : Str) (defScope s__law_cuts).names = some NameKind.local := by decide +kernel
theorem k__law_cuts__law_classes_here : List.lookup ("_law_classes_here" : Str) (defScope s__law_cuts).names = some NameKind.local := by decide +kernel
theorem k__law_cuts__law_rests_here : List.lookup ("_law_rests_here" : Str) (defScope s__law_cuts).names = some NameKind.local := by decide +kernel
theorem k__law_cuts__law_number : List.lookup ("_law_number" : Str) (defScope s__law_cuts).names = some NameKind.cell := by decide +kernel
theorem k__law_cuts__law_at : List.lookup ("_law_at" : Str) (defScope s__law_cuts).names = some NameKind.local := by decide +kernel
theorem k__law_cuts__law_found : List.lookup ("_law_found" : Str) (defScope s__law_cuts).names = some NameKind.local := by decide +kernel
theorem k__law_cuts__law_turn : List.lookup ("_law_turn" : Str) (defScope s__law_cuts).names = some NameKind.local := by decide +kernel
theorem k__law_cuts__law_done : List.lookup ("_law_done" : Str) (defScope s__law_cuts).names = some NameKind.local := by decide +kernel
theorem k__law_cuts__law_pairs : List.lookup ("_law_pairs" : Str) (defScope s__law_cuts).names = some NameKind.local := by decide +kernel
theorem k__law_cuts__law_cost : List.lookup ("_law_cost" : Str) (defScope s__law_cuts).names = some NameKind.local := by decide +kernel
theorem k__law_cuts__law_other : List.lookup ("_law_other" : Str) (defScope s__law_cuts).names = some NameKind.local := by decide +kernel
theorem k__law_cuts__law_next : List.lookup ("_law_next" : Str) (defScope s__law_cuts).names = some NameKind.globalImplicit := by decide +kernel
theorem k__law_cuts_enumerate : List.lookup ("enumerate" : Str) (defScope s__law_cuts).names = some NameKind.globalImplicit := by decide +kernel
theorem t_law_cuts (a : At K mg "_law_cuts" s__law_cuts) (B : Bi mg) (Gx : FnK P w K mg base 1 "_law_next" 1 noArg (drawn Dm)) : FnK P w K mg base 2 "_law_cuts" 1 aCuts fCuts := by
  refine FnK.mk' a sc__law_cuts (fun _ _ _ _ _ _ us hl => match us, hl with | [_, _, _], _ => rfl) (by rintro _ ⟨cs, rs, rfl, _⟩; rfl) fun f cdv Ar outer s H E g dk Fr ws ds D hr ok hn z hA q => ?_
  obtain ⟨cs, rs, rfl, ⟨c2, c12, cok⟩, rl⟩ := hA
  obtain ⟨vc, vr, rfl, zc, zr⟩ := dn2 z
  refine bh_asg (n := 3) sc__law_cuts.nd rfl (.inr k__law_cuts__law_number) rfl (.inl rfl) (eh_next (m := 0) Gx (hr.mono (by decide)) k__law_cuts__law_next rfl (.inl k__law_cuts__law_deck_here) rfl ok hn fun j1 dk1 hj1 t1 => ?_)
  have ln : (Sk.numbered (rs.map optD)).length = rs.length := by
    unfold Sk.numbered
    rw [List.length_map, List.length_zipIdx, List.length_map]
  refine bh_setLc2 (i := 5) (n := 4) (n2 := 11) rfl sc__law_cuts.nd rfl k__law_cuts__law_found (sw_true rfl k__law_cuts__law_found rfl (by decide +kernel)) (blkOk_by (N := N__law_cuts) (sc := defScope s__law_cuts) (by decide +kernel)) (by decide) (fun _ _ _ _ _ => pg_tup rfl (pgs_cons (pg_name (i := 4) sc__law_cuts.nd rfl (Or.inl rfl)) (pgs_cons (pg_name (i := 11) sc__law_cuts.nd rfl (Or.inl rfl)) pgs_nil))) (ei_enumL k__law_cuts_enumerate B.enumerate (ev_var (n := 2) rfl (.inl k__law_cuts__law_rests_here) rfl zr)) (by rw [ln]; omega) (fun _ => true) (fun d => match d with | .tuple [.int i, r] => .bool (isNo r && (decide ((0 : Int) < (j1 : Int) / (2 + i) % 3) && decide ((0 : Int) < (j1 : Int) % 4))) | _ => .bool false) numbered_pair (fun _ _ _ _ _ _ _ _ _ _ _ _ _ _ => es_nil) (fun d1 d2 hd _ v1 v2 h' e y1 y2 s H C cl fp => ?_) fun l vs g1 e1 hvs => ?_
  · obtain ⟨i, rfl, hi⟩ := numbered_int hd
    have il : i < rs.length := by
      have := (List.getElem?_eq_some_iff.mp hi).1
      rw [List.length_map] at this
      exact this
    refine ev_and3 (t := isNo d2) ?_ (fun _ => ?_) (fun _ _ => ?_)
    · refine ev_isN ?_
      exact (ev_var (n := 11) rfl (by first | exact .inl rfl | exact .inr (.inl rfl) | exact .inr (.inr rfl)) rfl y2)
    · refine ev_gt (ev_mod (by decide) (ev_fdiv ⟨by omega, by omega⟩ ?_ (ev_add ev_int ?_)) ev_int) ev_int
      · exact (ev_var (n := 3) rfl (by first | exact .inl rfl | exact .inr (.inl rfl) | exact .inr (.inr rfl)) rfl (.int _))
      · exact (ev_var (n := 4) rfl (by first | exact .inl rfl | exact .inr (.inl rfl) | exact .inr (.inr rfl)) rfl y1)
    · refine ev_gt (ev_mod (by decide) ?_ ev_int) ev_int
      exact (ev_var (n := 3) rfl (by first | exact .inl rfl | exact .inr (.inl rfl) | exact .inr (.inr rfl)) rfl (.int _))
  rw [filt] at hvs
  obtain ⟨bs0, hb0, lb0⟩ : ∃ bs0 : List Bool, vs = bs0.map V.bl ∧ bs0.length = cs.length := by
    have key : ∀ (es : List PyData) (us : List V), (∀ d ∈ es, ∃ b, d = .bool b) → DnAll K g1 us es → ∃ bs : List Bool, us = bs.map V.bl ∧ bs.length = es.length := fun es => by
      induction es with
      | nil =>
        intro us _ h
        cases h
        exact ⟨[], rfl, rfl⟩
      | cons x r ih =>
        intro us hx h
        cases h with
        | cons h1 h2 =>
          obtain ⟨b, rfl⟩ := hx x (List.mem_cons_self ..)
          obtain ⟨bs, rfl, hl⟩ := ih _ (fun d hd => hx d (List.mem_cons_of_mem _ hd)) h2
          cases h1
          exact ⟨b :: bs, rfl, by rw [List.length_cons, List.length_cons, hl]⟩
    obtain ⟨bs, e2, hl⟩ := key _ vs (fun d hd => by
      obtain ⟨x, hx, rfl⟩ := List.mem_map.mp hd
      obtain ⟨d1, d2, rfl⟩ := numbered_pair x hx
      obtain ⟨i, rfl, _⟩ := numbered_int hx
      exact ⟨_, rfl⟩) hvs
    exact ⟨bs, e2, by rw [hl, List.length_map, ln, rl]⟩
  subst hb0
  refine bh_perm List.perm_middle.symm ?_
  refine bh_for1 (n := 6) PassesOwn.never rfl (pg_name (i := 6) sc__law_cuts.nd rfl (.inl k__law_cuts__law_turn) (.inr k__law_cuts__law_turn)) (ei_list (ev_var (n := 1) rfl (.inl k__law_cuts__law_classes_here) rfl (zc.ex e1)))
    (fun i σ' g' R' => ∃ (bs : List Bool) (x4 x6 x7 x8 x9 x10 x11 : Option V), σ' = [some (.ref dk.p), some vc, some vr, some (.int (j1 : Nat)), x4, some (.ref l), x6, x7, x8, x9, x10, x11] ∧ R' = Dk.R dk1 ++ (l, .lst (bs.map V.bl)) :: Fr ∧ bs.length = cs.length)
    (fun g' e => ⟨bs0, none, none, none, none, none, none, none, rfl, rfl, lb0⟩) (fun i d σ' g' R' hdi eg hI v g2 e2 zv => ?_) (fun σ' g' R' eg hI => ?_)
  · obtain ⟨bs, x4, x6, x7, x8, x9, x10, x11, rfl, rfl, hl⟩ := hI
    refine bh_for3 (n := 4) (m := 7) (l := 8) PassesOwn.never rfl (pg_tup rfl (pgs_cons (pg_name (i := 4) sc__law_cuts.nd rfl (.inl k__law_cuts__law_at) (.inr k__law_cuts__law_at)) (pgs_cons (pg_tup rfl (pgs_cons (pg_name (i := 7) sc__law_cuts.nd rfl (.inl k__law_cuts__law_done) (.inr k__law_cuts__law_done)) (pgs_cons (pg_name (i := 8) sc__law_cuts.nd rfl (.inl k__law_cuts__law_pairs) (.inr k__law_cuts__law_pairs)) pgs_nil))) pgs_nil))) (ei_enumL k__law_cuts_enumerate B.enumerate (ev_var (n := 1) rfl (.inl k__law_cuts__law_classes_here) rfl (zc.ex (e1.trans (eg.trans e2)))))
      (fun j σ' g' R' => ∃ (bs : List Bool) (x4 x6 x7 x8 x9 x10 x11 : Option V), σ' = [some (.ref dk.p), some vc, some vr, some (.int (j1 : Nat)), x4, some (.ref l), x6, x7, x8, x9, x10, x11] ∧ R' = Dk.R dk1 ++ (l, .lst (bs.map V.bl)) :: Fr ∧ bs.length = cs.length)
      (fun g' e => ⟨bs, _, _, _, _, _, _, _, rfl, rfl, hl⟩) (nested_of cs) (fun j d1 d2 d3 σ' g' R' hdj eg3 hI v1 v2 v3 g4 e4 z1 z2 z3 => ?_) (fun σ' g' R' eg3 hI => ?_)
    · obtain ⟨bs, x4, x6, x7, x8, x9, x10, x11, rfl, rfl, hl⟩ := hI
      obtain ⟨c, hc, rfl, rfl, rfl⟩ := nested_at hdj
      have hj : j < cs.length := (List.getElem?_eq_some_iff.mp hc).1
      have cj := cok c (List.mem_of_getElem? hc)
      cases z1
      refine bh_for2 (n := 9) (n2 := 10) PassesOwn.never rfl (pg_tup rfl (pgs_cons (pg_name (i := 9) sc__law_cuts.nd rfl (.inl k__law_cuts__law_cost) (.inr k__law_cuts__law_cost)) (pgs_cons (pg_name (i := 10) sc__law_cuts.nd rfl (.inl k__law_cuts__law_other) (.inr k__law_cuts__law_other)) pgs_nil))) (ei_list (ev_var (n := 8) rfl (.inl k__law_cuts__law_pairs) rfl z3))
        (fun m σ' g' R' => ∃ (bs : List Bool) (x9 x10 : Option V), σ' = [some (.ref dk.p), some vc, some vr, some (.int (j1 : Nat)), some (.int (j : Nat)), some (.ref l), x6, some v2, some v3, x9, x10, x11] ∧ R' = Dk.R dk1 ++ (l, .lst (bs.map V.bl)) :: Fr ∧ bs.length = cs.length)
        (fun g' e => ⟨bs, _, _, rfl, rfl, hl⟩) pairs_pair (fun m d1 d2 σ' g' R' hdm eg5 hI u1 u2 g6 e6 y1 y2 => ?_) (fun σ' g' R' eg5 hI => ?_)
      · obtain ⟨bs, x9, x10, rfl, rfl, hl⟩ := hI
        obtain ⟨pr, hpr, rfl, rfl⟩ := pair_at hdm
        cases y1
        cases y2
        obtain ⟨p1, p2, p3, p4⟩ := cj.2 _ (List.mem_of_getElem? hpr)
        obtain ⟨o, ho⟩ : ∃ o : Nat, pr.2 = (o : Nat) := ⟨_, (Int.toNat_of_nonneg p3).symm⟩
        rw [ho] at p4 ⊢
        have ol : o < bs.length := by omega
        have jl : j < bs.length := by omega
        have gJ : (bs.map V.bl)[j]? = some (.bl bs[j]) := by rw [List.getElem?_map, List.getElem?_eq_getElem jl]; rfl
        refine bh_ifr (th_bl (eh_ixR (eh_var (n := 5) rfl (.inl k__law_cuts__law_found) rfl ⟨l, rfl, eh_var (n := 4) rfl (.inl k__law_cuts__law_at) rfl ⟨3, j, _, _, rfl, rfl, gJ, _, rfl, fun _ => ?_, fun _ => bh_end (I := fun σ3 g3 R3 => _) e6 ⟨bs, _, _, rfl, rfl, hl⟩⟩⟩) (fun _ _ => rfl)))
        refine bh_seti (eh_ev (d := .bool true) ev_bl fun v9 g9 e9 z9 => ?_)
        cases z9
        refine eh_var (n := 5) rfl (.inl k__law_cuts__law_found) rfl (eh_var (n := 10) rfl (.inl k__law_cuts__law_other) rfl ⟨l, o, 3, _, rfl, rfl, rfl, (by rw [List.length_map]; exact ol), bh_nil fun H sh => ws_nil ⟨g9, _, e6.trans e9, sh, bs.set o true, _, _, rfl, ?_, by rw [List.length_set]; exact hl⟩⟩)
        rw [List.map_set]
        rfl
      · obtain ⟨bs, x9, x10, rfl, rfl, hl⟩ := hI
        exact bh_end (I := fun σ3 g3 R3 => _) (e4.trans eg5) ⟨bs, _, _, _, _, _, _, _, rfl, rfl, hl⟩
    · obtain ⟨bs, x4, x6, x7, x8, x9, x10, x11, rfl, rfl, hl⟩ := hI
      exact bh_end (I := fun σ3 g3 R3 => _) (e2.trans eg3) ⟨bs, _, _, _, _, _, _, _, rfl, rfl, hl⟩
  · obtain ⟨bs, x4, x6, x7, x8, x9, x10, x11, rfl, rfl, hl⟩ := hI
    refine bh_keepK fun e9 => ?_
    refine bh_ret (eh_ev (d := boolsD bs) (ev_var (n := 5) rfl (.inl k__law_cuts__law_found) rfl (.lst (Evl.sq_of upd_same) (bools_dn bs))) fun v g9 e10 z10 H9 s9 => ?_)
    exact q v g9 dk1 _ (e1.trans (eg.trans (e9.trans e10))) t1 ⟨cs, rs, bs, rfl, rfl, hl⟩ z10 H9 s9
end
end K01

namespace K01
open PySem PySem.Spec PyProof.Rows L2 Sk
open Evl (Ex)
def rgI (lo : Int) (n : Nat) : List Int := (List.range n).map fun i => lo + (i : Nat)
theorem ev_lstRg {X : Cx} {a b : Expr} {σ : L2.St} {h : Hp} {pos pos2 p1 p2 : Pos} {lo hi : Int} (hc : X.calm = true) (hl : Gl X "list") (ml : X.mg "list" = none) (hg : Gl X "range") (hm : X.mg "range" = none) (za : Ev X a σ h (.int lo)) (zb : Ev X b σ h (.int hi)) (h0 : 0 ≤ lo) (h1 : lo ≤ hi) (h2 : hi ≤ 1000)
    (hs : starEach [a, b] X.env = (false, eval a X.env) :: starEach [b] X.env := by rfl) (hs2 : starEach [b] X.env = (false, eval b X.env) :: starEach [] X.env := by rfl) (hpl : (backTo pos2 (starEach [b] X.env)).any (·.1) = false := by rfl)
    (na : starEach [.Call (.Name "range" p2) [a, b] [] pos2] X.env = (false, eval (.Call (.Name "range" p2) [a, b] [] pos2) X.env) :: starEach [] X.env := by rfl) :
    Ev X (.Call (.Name "list" p1) [.Call (.Name "range" p2) [a, b] [] pos2] [] pos) σ h (.list ((rgI lo (hi - lo).toNat).map .int)) := fun H y Q q =>
  .of (pe_listRg hc hl ml (prg_2 hg hm WE.pe WE.pe hs hs2 hpl) na) (za H y _ fun v g1 H1 r1 z1 => zb.up r1.b H1 r1.c _ fun w g2 H2 r2 z2 => by
    cases z1
    cases z2
    refine ⟨lo, hi, rfl, rfl, ?_, fun l nl => q _ _ _ ((r1.trans r2).trans (.new r2.c nl)) (.lst (Evl.sq_of upd_same) ?_)⟩
    · exact RgOk.of_le h0 (by omega) (by omega) (by omega)
    · have e : rgV lo hi = (rgI lo (hi - lo).toNat).map V.int := by
        unfold rgI
        rw [List.map_map]
        rfl
      rw [e]
      exact DnAll.ofInts _)
theorem eh_int1 {X : Cx} {a : Expr} {σ : L2.St} {g : Hp} {R : Rl} {Kn : V → Hp → Rl → Prop} {p pos : Pos} (hg : Gl X "int") (hm : X.mg "int" = none) (h : EH X a σ g R fun x g1 R1 => ∃ t : Bool, x = .bl t ∧ Kn (.int (if t then 1 else 0)) g1 R1) (hs : starEach [a] X.env = (false, eval a X.env) :: starEach [] X.env := by rfl) (hpl : (backTo pos (starEach [] X.env)).any (·.1) = false := by rfl) : EH X (.Call (.Name "int" p) [a] [] pos) σ g R Kn := fun H s =>
  .of (pe_callTy call_int1 hg hm (by decide +kernel) (pa_cons WE.pe pa_nil hs) (by decide) (by decide) hs hpl) (WE.mono (h H s) fun x H1 ⟨g1, R1, s1, t, e, k⟩ => .inr ⟨t, by rw [e], g1, R1, s1, k⟩)
def lsD (r : List Int) : PyData := .list (r.map .int)
def ownD (o : List (List Int)) : PyData := .list (o.map lsD)
def varsD (vs : List (List (List Int))) : PyData := .list (vs.map ownD)
def cntO (o : List (List Int)) : Nat := (o.map List.length).sum
def cnt (vs : List (List (List Int))) : Nat := (vs.map cntO).sum
def okR (T : Int) (r : List Int) : Prop := 1 ≤ r.length ∧ r.length ≤ 2 ∧ ∀ n ∈ r, 0 ≤ n ∧ n < T
def okVars (m s : Nat) (vs : List (List (List Int))) : Prop := vs.length = m ∧ (∀ o ∈ vs, o.length = s ∧ ∀ r ∈ o, okR (cnt vs) r) ∧ m ≤ cnt vs ∧ cnt vs ≤ 2 * (m * s)
def aVars : List PyData → Prop := fun ds => ∃ m s : Nat, ds = [.int (m : Nat), .int (s : Nat)] ∧ 1 ≤ m ∧ m ≤ 12 ∧ 1 ≤ s ∧ s ≤ 2
def fVars : List PyData → PyData → Prop := fun ds d => ∃ (m s : Nat) (vs : List (List (List Int))), ds = [.int (m : Nat), .int (s : Nat)] ∧ d = varsD vs ∧ okVars m s vs
theorem okR.mono {a b : Int} {r : List Int} (h : okR a r) (e : a ≤ b) : okR b r := ⟨h.1, h.2.1, fun n hn => ⟨(h.2.2 n hn).1, Int.lt_of_lt_of_le (h.2.2 n hn).2 e⟩⟩
theorem cntO_snoc (o : List (List Int)) (r : List Int) : cntO (o ++ [r]) = cntO o + r.length := by
  unfold cntO
  rw [List.map_append, List.sum_append]
  simp
theorem cnt_snoc (vs : List (List (List Int))) (o : List (List Int)) : cnt (vs ++ [o]) = cnt vs + cntO o := by
  unfold cnt
  rw [List.map_append, List.sum_append]
  simp
theorem rgI_mem {lo : Int} {n : Nat} {x : Int} (h : x ∈ rgI lo n) : lo ≤ x ∧ x < lo + n := by
  unfold rgI at h
  obtain ⟨i, hi, rfl⟩ := List.mem_map.mp h
  have := List.mem_range.mp hi
  omega
theorem rgI_len (lo : Int) (n : Nat) : (rgI lo n).length = n := by
  unfold rgI
  rw [List.length_map, List.length_range]
def aSome : List PyData → Prop := fun ds => ∃ r : List Int, ds = [lsD r] ∧ 1 ≤ r.length ∧ r.length ≤ 1000
def fSome : List PyData → PyData → Prop := fun ds d => ∃ (r : List Int) (n : Int), ds = [lsD r] ∧ d = .int n ∧ n ∈ r
section
variable {P : Program} {w : World} {K : PySem.W.Frag} {mg : Str → Option Value} {base : Heap}
abbrev s__law_variants : Stmt := topS 49
abbrev N__law_variants : List Str := ["_law_deck_here", "_law_many", "_law_sides", "_law_found", "_law_at", "_law_one", "_law_own", "_law_side", "_law_more"]
abbrev p__law_variants : List Str := ["_law_deck_here", "_law_many", "_law_sides"]
theorem sc__law_variants : FnScope N__law_variants p__law_variants (defScope s__law_variants) := ⟨rfl, rfl, rfl, by decide +kernel, rfl, by decide +kernel, by decide +kernel⟩
theorem k__law_variants__law_deck_here : List.lookup ("_law_deck_here" : Str) (defScope s__law_variants).names = some NameKind.local := by decide +kernel
theorem k__law_variants__law_many : List.lookup ("_law_many" : Str) (defScope s__law_variants).names = some NameKind.local := by decide +kernel
theorem k__law_variants__law_sides : List.lookup ("_law_sides" : Str) (defScope s__law_variants).names = some NameKind.local := by decide +kernel
theorem k__law_variants__law_found : List.lookup ("_law_found" : Str) (defScope s__law_variants).names = some NameKind.local := by decide +kernel
theorem k__law_variants__law_at : List.lookup ("_law_at" : Str) (defScope s__law_variants).names = some NameKind.local := by decide +kernel
theorem k__law_variants__law_one : List.lookup ("_law_one" : Str) (defScope s__law_variants).names = some NameKind.local := by decide +kernel
theorem k__law_variants__law_own : List.lookup ("_law_own" : Str) (defScope s__law_variants).names = some NameKind.local := by decide +kernel
theorem k__law_variants__law_side : List.lookup ("_law_side" : Str) (defScope s__law_variants).names = some NameKind.local := by decide +kernel
theorem k__law_variants__law_more : List.lookup ("_law_more" : Str) (defScope s__law_variants).names = some NameKind.local := by decide +kernel
theorem k__law_variants_range : List.lookup ("range" : Str) (defScope s__law_variants).names = some NameKind.globalImplicit := by decide +kernel
theorem k__law_variants_int : List.lookup ("int" : Str) (defScope s__law_variants).names = some NameKind.globalImplicit := by decide +kernel
theorem k__law_variants__law_next : List.lookup ("_law_next" : Str) (defScope s__law_variants).names = some NameKind.globalImplicit := by decide +kernel
theorem k__law_variants_list : List.lookup ("list" : Str) (defScope s__law_variants).names = some NameKind.globalImplicit := by decide +kernel
theorem t_law_variants (a : At K mg "_law_variants" s__law_variants) (B : Bi mg) (Gx : FnK P w K mg base 1 "_law_next" 1 noArg (drawn Dm)) (m_range : mg "range" = none) (m_list : mg "list" = none) : FnK P w K mg base 2 "_law_variants" 24 aVars fVars := by
  refine FnK.mk' a sc__law_variants (fun _ _ _ _ _ _ us hl => match us, hl with | [_, _, _], _ => rfl) (by rintro _ ⟨m, s, rfl, _⟩; rfl) fun f cdv Ar outer s H E g dk Fr ws ds D hr ok hn z hA q => ?_
  obtain ⟨mm, ss, rfl, m1, m12, s1, s2⟩ := hA
  obtain ⟨v1, v2, rfl, z1, z2⟩ := dn2 z
  cases z1
  cases z2
  refine bh_newK (n := 3) sc__law_variants.nd rfl (.inl k__law_variants__law_found) rfl (.inr k__law_variants__law_found) fun lf => ?_
  refine bh_asg (n := 4) sc__law_variants.nd rfl (.inl k__law_variants__law_at) rfl (.inr k__law_variants__law_at) (eh_int ev_int ?_)
  refine bh_for1 (n := 5) PassesOwn.never rfl (pg_name (i := 5) sc__law_variants.nd rfl (.inl k__law_variants__law_one) (.inr k__law_variants__law_one)) (ei_range (n := mm) k__law_variants_range m_range (ev_var (n := 1) rfl (.inl k__law_variants__law_many) rfl (.int _)) (by omega))
    (fun i σ' g' R' => ∃ (dk' : Dk) (ws : List V) (vs : List (List (List Int))) (x5 x6 x7 x8 : Option V), σ' = [some (.ref dk.p), some (.int (mm : Nat)), some (.int (ss : Nat)), some (.ref lf), some (.int (cnt vs : Nat)), x5, x6, x7, x8] ∧ R' = Dk.R dk' ++ (lf, .lst ws) :: Fr ∧ Dk.To (2 * (i : Int)) dk dk' ∧ DnAll K g' ws (vs.map ownD) ∧ vs.length = i ∧ (∀ o ∈ vs, o.length = ss ∧ ∀ r ∈ o, okR (cnt vs) r) ∧ i ≤ cnt vs ∧ cnt vs ≤ 2 * (i * ss))
    (fun g' e => ⟨dk, [], [], none, none, none, none, rfl, rfl, Dk.To.refl ok (by omega), .nil, rfl, (fun _ h => nomatch h), Nat.zero_le _, Nat.zero_le _⟩)
    (fun i d σ' g' R' hdi eg hI v g2 e2 zv => ?_) (fun σ' g' R' eg hI => ?_)
  · obtain ⟨dk2, ws, vs, x5, x6, x7, x8, rfl, rfl, t2, hA, hl, hok, hc1, hc2⟩ := hI
    have im : i < mm := by
      have := (List.getElem?_eq_some_iff.mp hdi).1
      simpa using this
    have tn2 := t2.n
    have cb : cnt vs ≤ 24 * 2 := by
      have : i * ss ≤ 12 * 2 := Nat.mul_le_mul (by omega) s2
      omega
    refine bh_newK (n := 6) sc__law_variants.nd rfl (.inl k__law_variants__law_own) rfl (.inr k__law_variants__law_own) fun lo => ?_
    refine bh_for1 (n := 7) PassesOwn.never rfl (pg_name (i := 7) sc__law_variants.nd rfl (.inl k__law_variants__law_side) (.inr k__law_variants__law_side)) (ei_range (n := ss) k__law_variants_range m_range (ev_var (n := 2) rfl (.inl k__law_variants__law_sides) rfl (.int _)) (by omega))
      (fun j σ' g' R' => ∃ (dk' : Dk) (us : List V) (ow : List (List Int)) (x7 x8 : Option V), σ' = [some (.ref dk.p), some (.int (mm : Nat)), some (.int (ss : Nat)), some (.ref lf), some (.int ((cnt vs + cntO ow : Nat) : Nat)), some v, some (.ref lo), x7, x8] ∧ R' = Dk.R dk' ++ (lo, .lst us) :: (lf, .lst ws) :: Fr ∧ Dk.To (2 * (i : Int) + (j : Int)) dk dk' ∧ DnAll K g' us (ow.map lsD) ∧ ow.length = j ∧ (∀ r ∈ ow, okR ((cnt vs + cntO ow : Nat) : Int) r) ∧ j ≤ cntO ow ∧ cntO ow ≤ 2 * j)
      (fun g' e => ⟨dk2, [], [], x7, x8, rfl, rfl, t2.trans (Dk.To.refl t2.ok (Int.le_refl 0)) (by omega), .nil, rfl, (fun _ h => nomatch h), Nat.zero_le _, Nat.zero_le _⟩)
      (fun j d σ' g' R' hdj eg2 hI v7 g6 e6 zv7 => ?_) (fun σ' g' R' eg2 hI => ?_)
    · obtain ⟨dk3, us, ow, x7, x8, rfl, rfl, t3, hB, hlo, hoko, ho1, ho2⟩ := hI
      have js : j < ss := by
        have := (List.getElem?_eq_some_iff.mp hdj).1
        simpa using this
      have tn3 := t3.n
      refine bh_asg (n := 8) sc__law_variants.nd rfl (.inl k__law_variants__law_more) rfl (.inr k__law_variants__law_more) (eh_i0 op_add (eh_int ev_int ⟨1, rfl, ?_⟩))
      refine eh_int1 k__law_variants_int B.int (eh_eq (eh_i2 (C := fun _ j => 0 < j) op_mod ?_))
      refine eh_next (m := 0) Gx (hr.mono (by decide)) k__law_variants__law_next rfl (.inl k__law_variants__law_deck_here) (by rw [t3.ep]; rfl) t3.ok (by omega) fun j4 dk4 hj4 t4 => ?_
      refine ⟨_, rfl, eh_int ev_int ⟨4, rfl, by decide, _, rfl, eh_int ev_int ⟨0, rfl, _, rfl, _, rfl, ?_⟩⟩⟩
      obtain ⟨mo, hmo, mo1, mo2⟩ : ∃ mo : Nat, (1 : Int) + (if decide ((j4 : Int) % 4 = 0) = true then 1 else 0) = (mo : Nat) ∧ 1 ≤ mo ∧ mo ≤ 2 := by
        cases decide ((j4 : Int) % 4 = 0)
        · exact ⟨1, rfl, by decide, by decide⟩
        · exact ⟨2, rfl, by decide, by decide⟩
      rw [hmo]
      have eqn : (((cnt vs + cntO ow : Nat) : Int) + (mo : Nat) - ((cnt vs + cntO ow : Nat) : Int)).toNat = mo := by omega
      refine bh_appK (n := 6) (F1 := []) (m := 3) rfl rfl (.inl k__law_variants__law_own) rfl (by have := hB.length; rw [List.length_map] at this; omega) (eh_ev (d := lsD (rgI ((cnt vs + cntO ow : Nat) : Int) mo)) (ev_is (ev_lstRg rfl k__law_variants_list m_list k__law_variants_range m_range (ev_var (n := 4) rfl (.inl k__law_variants__law_at) rfl (.int _)) (ev_add (ev_var (n := 4) rfl (.inl k__law_variants__law_at) rfl (.int _)) (ev_var (n := 8) rfl (.inl k__law_variants__law_more) rfl (.int _))) (by omega) (by omega) (by omega)) (by rw [eqn]; rfl)) fun v9 g9 e9 z9 => ⟨dk4, rfl, ?_⟩)
      refine bh_asg (n := 4) sc__law_variants.nd rfl (.inl k__law_variants__law_at) rfl (.inr k__law_variants__law_at) (eh_int (ev_add (ev_var (n := 4) rfl (.inl k__law_variants__law_at) rfl (.int _)) (ev_var (n := 8) rfl (.inl k__law_variants__law_more) rfl (.int _))) ?_)
      have c1 : cntO (ow ++ [rgI ((cnt vs + cntO ow : Nat) : Int) mo]) = cntO ow + mo := by rw [cntO_snoc, rgI_len]
      refine bh_end (I := fun σ3 g3 R3 => _) (e6.trans e9) ⟨dk4, us ++ [v9], ow ++ [rgI ((cnt vs + cntO ow : Nat) : Int) mo], some v7, some (.int (mo : Nat)), ?_, rfl, t3.trans t4 (by omega), ?_, ?_, ?_, by rw [c1]; omega, by rw [c1]; omega⟩
      · rw [c1, show ((cnt vs + (cntO ow + mo) : Nat) : Int) = ((cnt vs + cntO ow : Nat) : Int) + (mo : Nat) by omega]
        rfl
      · rw [List.map_append]
        exact (hB.ex (e6.trans e9)).snoc z9
      · rw [List.length_append, hlo]
        rfl
      · intro r hr
        rw [c1]
        rcases List.mem_append.mp hr with hr | hr
        · exact (hoko r hr).mono (by omega)
        · rw [List.mem_singleton.mp hr]
          refine ⟨by rw [rgI_len]; exact mo1, by rw [rgI_len]; exact mo2, fun n hn => ?_⟩
          have := rgI_mem hn
          omega
    · obtain ⟨dk3, us, ow, x7, x8, rfl, rfl, t3, hB, hlo, hoko, ho1, ho2⟩ := hI
      have ls : ((List.range ss).map fun i => PyData.int (i : Nat)).length = ss := by simp
      rw [ls] at hlo ho1 ho2 t3
      refine bh_keepK fun e9 => ?_
      have zo : Dn K (upd g' lo (.lst us)) (.ref lo) (ownD ow) := .lst (Evl.sq_of upd_same) (hB.ex e9)
      have c1 : cnt (vs ++ [ow]) = cnt vs + cntO ow := cnt_snoc vs ow
      refine bh_appK (n := 3) (F1 := []) (m := 3) rfl rfl (.inl k__law_variants__law_found) rfl (by have := hA.length; rw [List.length_map] at this; omega) (eh_ev (d := ownD ow) (ev_var (n := 6) rfl (.inl k__law_variants__law_own) rfl zo) fun v8 g8 e8 z8 => ⟨dk3, rfl, bh_end (I := fun σ3 g3 R3 => _) (e2.trans (eg2.trans (e9.trans e8))) ⟨dk3, ws ++ [v8], vs ++ [ow], some v, some (.ref lo), x7, x8, ?_, rfl, t3.trans (Dk.To.refl t3.ok (Int.le_refl 0)) (by omega), ?_, ?_, ?_, ?_, ?_⟩⟩)
      · rw [c1]
      · rw [List.map_append]
        exact (hA.ex (e2.trans (eg2.trans (e9.trans e8)))).snoc z8
      · rw [List.length_append, hl]
        rfl
      · intro o ho
        rw [c1]
        rcases List.mem_append.mp ho with ho | ho
        · exact ⟨(hok o ho).1, fun r hr => ((hok o ho).2 r hr).mono (by omega)⟩
        · rw [List.mem_singleton.mp ho]
          exact ⟨hlo, hoko⟩
      · rw [c1]
        omega
      · rw [c1, Nat.add_mul, Nat.one_mul]
        omega
  · obtain ⟨dk2, ws, vs, x5, x6, x7, x8, rfl, rfl, t2, hA, hl, hok, hc1, hc2⟩ := hI
    have lm : ((List.range mm).map fun i => PyData.int (i : Nat)).length = mm := by simp
    rw [lm] at hl hc1 hc2 t2
    refine bh_keepK fun e9 => ?_
    refine bh_ret (eh_ev (d := varsD vs) (ev_var (n := 3) rfl (.inl k__law_variants__law_found) rfl (.lst (Evl.sq_of upd_same) (hA.ex e9))) fun v g9 e10 z10 H9 s9 => ?_)
    exact q v g9 dk2 _ (eg.trans (e9.trans e10)) (t2.trans (Dk.To.refl t2.ok (Int.le_refl 0)) (by omega)) ⟨mm, ss, vs, rfl, rfl, hl, hok, hc1, hc2⟩ z10 H9 s9
abbrev s__law_some : Stmt := topS 50
abbrev N__law_some : List Str := ["_law_deck_here", "_law_rows"]
abbrev p__law_some : List Str := ["_law_deck_here", "_law_rows"]
theorem sc__law_some : FnScope N__law_some p__law_some (defScope s__law_some) := ⟨rfl, rfl, rfl, by decide +kernel, rfl, by decide +kernel, by decide +kernel⟩
theorem k__law_some__law_deck_here : List.lookup ("_law_deck_here" : Str) (defScope s__law_some).names = some NameKind.local := by decide +kernel
theorem k__law_some__law_rows : List.lookup ("_law_rows" : Str) (defScope s__law_some).names = some NameKind.local := by decide +kernel
theorem k__law_some__law_next : List.lookup ("_law_next" : Str) (defScope s__law_some).names = some NameKind.globalImplicit := by decide +kernel
theorem k__law_some_len : List.lookup ("len" : Str) (defScope s__law_some).names = some NameKind.globalImplicit := by decide +kernel
theorem t_law_some (a : At K mg "_law_some" s__law_some) (B : Bi mg) (Gx : FnK P w K mg base 1 "_law_next" 1 noArg (drawn Dm)) : FnK P w K mg base 2 "_law_some" 1 aSome fSome := by
  refine FnK.mk' a sc__law_some (fun _ _ _ _ _ _ us hl => match us, hl with | [_, _], _ => rfl) (by rintro _ ⟨r, rfl, _⟩; rfl) fun f cdv Ar outer s H E g dk Fr ws ds D hr ok hn z hA q => ?_
  obtain ⟨r, rfl, r1, r1000⟩ := hA
  obtain ⟨vr, rfl, zr⟩ := dn1 z
  refine bh_ret (eh_ixD (ev_var (n := 1) rfl (.inl k__law_some__law_rows) rfl zr) (fun g1 e1 => eh_i2 (C := fun _ j => 0 < j) op_mod (eh_next (m := 0) Gx (hr.mono (by decide)) k__law_some__law_next rfl (.inl k__law_some__law_deck_here) rfl ok hn fun j1 dk1 hj1 t1 => ⟨_, rfl, eh_int (ev_lenL k__law_some_len B.len (ev_var (n := 1) rfl (.inl k__law_some__law_rows) rfl (zr.ex e1))) ⟨_, rfl, ?_, ?_⟩⟩)) (fun _ _ => rfl))
  · rw [List.length_map]
    omega
  · have jl : j1 % r.length < r.length := Nat.mod_lt _ (by omega)
    refine ⟨j1 % r.length, .int r[j1 % r.length], ?_, Evl.Ex.refl g1, ?_, fun v zv H9 s9 => ?_⟩
    · rw [List.length_map, Int.natCast_emod]
    · rw [List.getElem?_map, List.getElem?_eq_getElem jl]
      rfl
    · exact q v g1 dk1 _ e1 t1 ⟨r, _, rfl, rfl, List.getElem_mem jl⟩ zv H9 s9
end
end K01

namespace K01
open PySem PySem.Spec PyProof.Rows L2 Sk
open Evl (Ex)
def stopsI : Nat → List Row → List Int
  | _, [] => []
  | k, r :: rs => if r.dn then (k : Int) :: stopsI (k + 1) rs else stopsI (k + 1) rs
theorem stops_low : ∀ (k : Nat) (rs : List Row), ∀ x ∈ stopsI k rs, (k : Int) ≤ x ∧ x < (k : Int) + rs.length
  | _, [], _, h => by cases h
  | k, r :: rs, x, h => by
    unfold stopsI at h
    rw [List.length_cons]
    cases hd : r.dn with
    | true =>
      rw [hd, if_pos rfl] at h
      rcases List.mem_cons.mp h with e | h
      · omega
      · have := stops_low (k + 1) rs x h
        omega
    | false =>
      rw [hd, if_neg Bool.false_ne_true] at h
      have := stops_low (k + 1) rs x h
      omega
theorem rise_cons {a : Int} : ∀ {l : List Int}, (∀ x ∈ l, a < x) → rising l = true → rising (a :: l) = true
  | [], _, _ => rfl
  | b :: l, h, hr => by
    show (decide (a < b) && rising (b :: l)) = true
    rw [hr, decide_eq_true (h b (List.mem_cons_self ..))]
    rfl
theorem stops_rise : ∀ (k : Nat) (rs : List Row), rising (stopsI k rs) = true
  | _, [] => rfl
  | k, r :: rs => by
    unfold stopsI
    cases hd : r.dn with
    | true =>
      rw [if_pos rfl]
      exact rise_cons (fun x hx => by
        have := stops_low (k + 1) rs x hx
        omega) (stops_rise (k + 1) rs)
    | false =>
      rw [if_neg Bool.false_ne_true]
      exact stops_rise (k + 1) rs
theorem stops_len : ∀ (k : Nat) (rs : List Row), (stopsI k rs).length ≤ rs.length
  | _, [] => Nat.le_refl _
  | k, r :: rs => by
    unfold stopsI
    have := stops_len (k + 1) rs
    rw [List.length_cons]
    cases r.dn with
    | true =>
      rw [if_pos rfl, List.length_cons]
      omega
    | false =>
      rw [if_neg Bool.false_ne_true]
      omega
def isDn : PyData → Bool
  | .tuple [_, .tuple [_, .bool b, _, _, _]] => b
  | _ => false
def fst2 : PyData → PyData
  | .tuple [a, _] => a
  | _ => .none
theorem stops_eq : ∀ (k : Nat) (rs : List Row), ((((rs.map rowD).zipIdx k).map fun q => PyData.tuple [.int (q.2 : Nat), q.1]).filter isDn).map fst2 = (stopsI k rs).map .int
  | _, [] => rfl
  | k, r :: rs => by
    rw [List.map_cons, List.zipIdx_cons, List.map_cons]
    unfold stopsI
    cases hd : r.dn with
    | true =>
      rw [List.filter_cons_of_pos (by unfold rowD; exact hd), if_pos rfl, List.map_cons, List.map_cons, stops_eq (k + 1) rs]
      rfl
    | false =>
      rw [List.filter_cons_of_neg (by unfold rowD; show ¬ r.dn = true; rw [hd]; exact Bool.false_ne_true), if_neg Bool.false_ne_true]
      exact stops_eq (k + 1) rs
def okPl (p : Int × Int) : Prop := 0 ≤ p.1 ∧ p.1 ≤ 1000
def aEnds : List PyData → Prop := fun ds => ∃ rs : List Row, ds = [.list (rs.map rowD)] ∧ rs.length ≤ 24 ∧ ∀ r ∈ rs, r.nx.length ≤ 8 ∧ ∀ p ∈ r.nx, okPl p
def fEndsK : List PyData → PyData → Prop := fun ds d => ∃ (rs : List Row) (st : List Int) (fr : List (List (Int × Int))), ds = [.list (rs.map rowD)] ∧ d = .tuple [intsD st, .tuple (fr.map pairsD)] ∧ (∀ n ∈ st, okNum rs.length n) ∧ rising st = true ∧ st.length ≤ rs.length ∧ fr.length = rs.length ∧ ∀ ps ∈ fr, ps.length ≤ 200 ∧ ∀ p ∈ ps, okPr rs.length p
def hits (T : Int) (dn : Bool) : PyData → Bool
  | .tuple [_, .int o] => decide (o = T) && !dn
  | _ => false
def putAt (a : Int) : PyData → PyData
  | .tuple [c, _] => .tuple [c, .int a]
  | _ => .none
theorem hits_eq (T a : Int) (dn : Bool) : ∀ nx : List (Int × Int), (∀ p ∈ nx, okPl p) → ∃ ps : List (Int × Int), ((nx.map pairD).filter (hits T dn)).map (putAt a) = ps.map pairD ∧ ps.length ≤ nx.length ∧ ∀ p ∈ ps, okPl p ∧ p.2 = a
  | [], _ => ⟨[], rfl, Nat.le_refl _, fun _ h => nomatch h⟩
  | p :: nx, h => by
    obtain ⟨ps, e, hl, hok⟩ := hits_eq T a dn nx fun q hq => h q (List.mem_cons_of_mem _ hq)
    rw [List.map_cons]
    cases hh : hits T dn (pairD p) with
    | true =>
      refine ⟨(p.1, a) :: ps, ?_, ?_, fun q hq => ?_⟩
      · rw [List.filter_cons_of_pos hh, List.map_cons, e]
        rfl
      · rw [List.length_cons, List.length_cons]
        omega
      · rcases List.mem_cons.mp hq with rfl | hq
        · exact ⟨h p (List.mem_cons_self ..), rfl⟩
        · exact hok q hq
    | false =>
      refine ⟨ps, ?_, ?_, hok⟩
      · rw [List.filter_cons_of_neg (by rw [hh]; exact Bool.false_ne_true), e]
      · rw [List.length_cons]
        omega
theorem dn_app {K : PySem.W.Frag} {g : Hp} : ∀ {us vs : List V} {ds es : List PyData}, DnAll K g us ds → DnAll K g vs es → DnAll K g (us ++ vs) (ds ++ es)
  | _, _, _, _, .nil, h => h
  | _, _, _, _, .cons h r, z => .cons h (dn_app r z)
section
variable {P : Program} {w : World} {K : PySem.W.Frag} {mg : Str → Option Value} {base : Heap}
abbrev s__law_ends : Stmt := topS 52
abbrev N__law_ends : List Str := ["_law_rows", "_law_at", "_law_row", "_law_stops", "_law_fronts", "_law_target", "_law_own", "_law_cost", "_law_other"]
abbrev p__law_ends : List Str := ["_law_rows"]
theorem sc__law_ends : FnScope N__law_ends p__law_ends (defScope s__law_ends) := ⟨rfl, rfl, rfl, by decide +kernel, rfl, by decide +kernel, by decide +kernel⟩
theorem k__law_ends__law_rows : List.lookup ("_law_rows" : Str) (defScope s__law_ends).names = some NameKind.local := by decide +kernel
theorem k__law_ends__law_at : List.lookup ("_law_at" : Str) (defScope s__law_ends).names = some NameKind.cell := by decide +kernel
theorem k__law_ends__law_row : List.lookup ("_law_row" : Str) (defScope s__law_ends).names = some NameKind.cell := by decide +kernel
theorem k__law_ends__law_stops : List.lookup ("_law_stops" : Str) (defScope s__law_ends).names = some NameKind.local := by decide +kernel
theorem k__law_ends__law_fronts : List.lookup ("_law_fronts" : Str) (defScope s__law_ends).names = some NameKind.local := by decide +kernel
theorem k__law_ends__law_target : List.lookup ("_law_target" : Str) (defScope s__law_ends).names = some NameKind.cell := by decide +kernel
theorem k__law_ends__law_own : List.lookup ("_law_own" : Str) (defScope s__law_ends).names = some NameKind.local := by decide +kernel
theorem k__law_ends_tuple : List.lookup ("tuple" : Str) (defScope s__law_ends).names = some NameKind.globalImplicit := by decide +kernel
theorem k__law_ends_enumerate : List.lookup ("enumerate" : Str) (defScope s__law_ends).names = some NameKind.globalImplicit := by decide +kernel
theorem k__law_ends_range : List.lookup ("range" : Str) (defScope s__law_ends).names = some NameKind.globalImplicit := by decide +kernel
theorem k__law_ends_len : List.lookup ("len" : Str) (defScope s__law_ends).names = some NameKind.globalImplicit := by decide +kernel
theorem t_law_ends (a : At K mg "_law_ends" s__law_ends) (B : Bi mg) (m_range : mg "range" = none) : FnM P w K mg base 1 "_law_ends" aEnds fEndsK := by
  refine FnM.mk' a sc__law_ends (fun _ _ _ _ _ _ us hl => match us, hl with | [_], _ => rfl) (by rintro _ ⟨rs, rfl, _⟩; rfl) fun f cdv Ar outer s H E g R vs ds D hr z hA q => ?_
  obtain ⟨rs, rfl, r24, rok⟩ := hA
  obtain ⟨vr, rfl, zr⟩ := dn1 z
  have ln : (Sk.numbered (rs.map rowD)).length = rs.length := by
    unfold Sk.numbered
    rw [List.length_map, List.length_zipIdx, List.length_map]
  have rowAt : ∀ {d1 d2 : PyData}, .tuple [d1, d2] ∈ Sk.numbered (rs.map rowD) → ∃ (i : Nat) (r : Row), d1 = .int (i : Nat) ∧ d2 = rowD r ∧ rs[i]? = some r := fun hd => by
    obtain ⟨i, e1, h2⟩ := numbered_int hd
    rw [List.getElem?_map] at h2
    cases hr : rs[i]? with
    | none =>
      rw [hr] at h2
      cases h2
    | some r =>
      rw [hr] at h2
      exact ⟨i, r, e1, (Option.some.inj h2).symm, hr⟩
  refine bh_asg (n := 3) sc__law_ends.nd rfl (.inl k__law_ends__law_stops) rfl (.inr k__law_ends__law_stops) (eh_ev (d := intsD (stopsI 0 rs)) (ev_tupleL k__law_ends_tuple B.tuple (ev_is (ev_lc2 (n := 1) (n2 := 2) rfl sc__law_ends.nd (blkOk_by (N := N__law_ends) (sc := defScope s__law_ends) (by decide +kernel)) (by decide) (fun _ _ _ _ _ => pg_tup rfl (pgs_cons (pg_name (i := 1) sc__law_ends.nd rfl (Or.inl rfl)) (pgs_cons (pg_name (i := 2) sc__law_ends.nd rfl (Or.inl rfl)) pgs_nil))) (ei_enumL (by exact k__law_ends_enumerate) B.enumerate (ev_var (n := 0) rfl (.inl k__law_ends__law_rows) rfl zr)) (by rw [ln]; omega) isDn fst2 numbered_pair (fun d1 d2 hd v1 v2 h' e y1 y2 s H C cl fp => ?_) (fun d1 d2 hd _ v1 v2 h' e y1 y2 s H C cl fp => ?_)) (congrArg PyData.list (stops_eq 0 rs)))) fun v3 g1 e1 z3 => ?_)
  · obtain ⟨i, r, rfl, rfl, hr⟩ := rowAt hd
    refine es_one (et_val (ev_ixT (n := 1) (ds := [pairsD r.nx, .bool r.dn, .int r.nm, .int r.bd, .bool r.ct]) ?_ ev_int rfl (fun _ _ => rfl)))
    exact (ev_var (n := 2) rfl (by first | exact .inl rfl | exact .inr (.inl rfl) | exact .inr (.inr rfl)) rfl y2)
  · exact (ev_var (n := 1) rfl (by first | exact .inl rfl | exact .inr (.inl rfl) | exact .inr (.inr rfl)) rfl y1)
  refine bh_asg (n := 4) sc__law_ends.nd rfl (.inl k__law_ends__law_fronts) rfl (.inr k__law_ends__law_fronts) (eh_lst (ah_nil ⟨Nat.zero_le _, fun lf => ?_⟩))
  refine bh_for1 (n := 5) PassesOwn.never rfl (pg_name (i := 5) sc__law_ends.nd rfl (.inr k__law_ends__law_target) (.inl rfl)) (ei_range (n := rs.length) k__law_ends_range m_range (ev_is (ev_lenL k__law_ends_len B.len (ev_var (n := 0) rfl (.inl k__law_ends__law_rows) rfl (zr.ex e1))) (by rw [List.length_map])) (by omega))
    (fun i σ' g' R' => ∃ (ws : List V) (fr : List (List (Int × Int))) (x1 x2 x5 x6 x7 x8 : Option V), σ' = [some vr, x1, x2, some v3, some (.ref lf), x5, x6, x7, x8] ∧ R' = (lf, .lst ws) :: R ∧ DnAll K g' ws (fr.map pairsD) ∧ fr.length = i ∧ ∀ ps ∈ fr, ps.length ≤ 200 ∧ ∀ p ∈ ps, okPr rs.length p)
    (fun g' e => ⟨[], [], none, none, none, none, none, none, rfl, rfl, .nil, rfl, fun _ h => nomatch h⟩)
    (fun i d σ' g' R' hdi eg hI v g2 e2 zv => ?_) (fun σ' g' R' eg hI => ?_)
  · obtain ⟨ws, fr, x1, x2, x5, x6, x7, x8, rfl, rfl, hA, hl, hok⟩ := hI
    have il : i < rs.length := by
      have := (List.getElem?_eq_some_iff.mp hdi).1
      simpa using this
    have hd : d = .int (i : Nat) := by
      rw [List.getElem?_map, List.getElem?_range il] at hdi
      exact (Option.some.inj hdi).symm
    subst hd
    cases zv
    refine bh_asg (n := 6) sc__law_ends.nd rfl (.inl k__law_ends__law_own) rfl (.inr k__law_ends__law_own) (eh_lst (ah_nil ⟨Nat.zero_le _, fun lo => ?_⟩))
    refine bh_for2 (n := 1) (n2 := 2) PassesOwn.never rfl (pg_tup rfl (pgs_cons (pg_name (i := 1) sc__law_ends.nd rfl (.inr k__law_ends__law_at) (.inl rfl)) (pgs_cons (pg_name (i := 2) sc__law_ends.nd rfl (.inr k__law_ends__law_row) (.inl rfl)) pgs_nil))) (ei_enumL k__law_ends_enumerate B.enumerate (ev_var (n := 0) rfl (.inl k__law_ends__law_rows) rfl (zr.ex (e1.trans (eg.trans e2)))))
      (fun j σ' g' R' => ∃ (l6 : Addr) (us : List V) (ow : List (Int × Int)) (x1 x2 x7 x8 : Option V), σ' = [some vr, x1, x2, some v3, some (.ref lf), some (.int (i : Nat)), some (.ref l6), x7, x8] ∧ R' = (l6, .lst us) :: (lf, .lst ws) :: R ∧ DnAll K g' us (ow.map pairD) ∧ ow.length ≤ 8 * j ∧ ∀ p ∈ ow, okPr rs.length p)
      (fun g' e => ⟨lo, [], [], _, _, _, _, rfl, rfl, .nil, Nat.zero_le _, fun _ h => nomatch h⟩) numbered_pair
      (fun j d1 d2 σ' g' R' hdj eg3 hI u1 u2 g4 e4 y1 y2 => ?_) (fun σ' g' R' eg3 hI => ?_)
    · obtain ⟨l6, us, ow, x1, x2, x7, x8, rfl, rfl, hB, hlo, hoko⟩ := hI
      have jl : j < rs.length := by
        have := (List.getElem?_eq_some_iff.mp hdj).1
        rw [ln] at this
        exact this
      obtain ⟨i2, r, rfl, rfl, hr⟩ := rowAt (List.mem_of_getElem? hdj)
      have i2l : i2 < rs.length := (List.getElem?_eq_some_iff.mp hr).1
      obtain ⟨rn, rp⟩ := rok r (List.mem_of_getElem? hr)
      cases y1
      obtain ⟨ps, eps, lps, okps⟩ := hits_eq (i : Nat) (i2 : Nat) r.dn r.nx rp
      refine bh_asg (n := 6) sc__law_ends.nd rfl (.inl k__law_ends__law_own) rfl (.inr k__law_ends__law_own) (eh_cat (eh_var (n := 6) rfl (.inl k__law_ends__law_own) rfl ⟨l6, rfl, ?_⟩))
      refine eh_lc2 (n := 7) (n2 := 8) rfl sc__law_ends.nd (blkOk_by (N := N__law_ends) (sc := defScope s__law_ends) (by decide +kernel)) (by decide) (fun _ _ _ _ _ => pg_tup rfl (pgs_cons (pg_name (i := 7) sc__law_ends.nd rfl (Or.inl rfl)) (pgs_cons (pg_name (i := 8) sc__law_ends.nd rfl (Or.inl rfl)) pgs_nil))) (ei_tup (ds := r.nx.map pairD) (ev_ixT (n := 0) (ev_var (n := 2) rfl (.inr (.inl k__law_ends__law_row)) rfl y2) ev_int rfl (fun _ _ => rfl))) (by rw [List.length_map]; omega) (hits (i : Nat) r.dn) (putAt (i2 : Nat)) pairs_pair (fun d1 d2 hd w1 w2 h' e y7 y8 s H C cl fp => ?_) (fun d1 d2 hd _ w1 w2 h' e y7 y8 s H C cl fp => ?_) fun l7 vs7 g7 e7 hvs => ?_
      · obtain ⟨pr, _, ep⟩ := List.mem_map.mp hd
        unfold pairD at ep
        injection ep with ep
        injection ep with ea ep
        injection ep with ep _
        subst ea ep
        refine es_one (et_and2 (t := decide (pr.2 = (i : Nat))) (u := !r.dn) (et_eqI ?_ ?_) fun _ => et_not (et_val (ev_ixT (n := 1) (ds := [pairsD r.nx, .bool r.dn, .int r.nm, .int r.bd, .bool r.ct]) ?_ ev_int rfl (fun _ _ => rfl))))
        · exact (ev_var (n := 8) rfl (by first | exact .inl rfl | exact .inr (.inl rfl) | exact .inr (.inr rfl)) rfl y8)
        · exact (ev_var (n := 5) rfl (by first | exact .inl rfl | exact .inr (.inl rfl) | exact .inr (.inr rfl)) rfl (.int _))
        · exact (ev_var (n := 2) rfl (by first | exact .inl rfl | exact .inr (.inl rfl) | exact .inr (.inr rfl)) rfl (y2.ex e))
      · refine ev_tup (ea_cons ?_ (ea_cons ?_ ea_nil)) (by simp)
        · exact (ev_var (n := 7) rfl (by first | exact .inl rfl | exact .inr (.inl rfl) | exact .inr (.inr rfl)) rfl y7)
        · exact (ev_var (n := 1) rfl (by first | exact .inl rfl | exact .inr (.inl rfl) | exact .inr (.inr rfl)) rfl (.int _))
      rw [eps] at hvs
      have lus := hB.length
      have lvs := hvs.length
      rw [List.length_map] at lus lvs
      refine ⟨l7, 1, 0, us, vs7, rfl, rfl, rfl, by omega, fun l8 => ?_⟩
      refine bh_sub (R' := (l8, .lst (us ++ vs7)) :: (lf, .lst ws) :: R) (.cons₂ _ (.cons _ (.cons _ (List.Sublist.refl _)))) ?_
      refine bh_end (I := fun σ3 g3 R3 => _) (e4.trans e7) ⟨l8, us ++ vs7, ow ++ ps, some (.int (i2 : Nat)), some u2, x7, x8, rfl, rfl, ?_, ?_, ?_⟩
      · rw [List.map_append]
        exact dn_app (hB.ex (e4.trans e7)) hvs
      · rw [List.length_append]
        omega
      · intro p hp
        rcases List.mem_append.mp hp with hp | hp
        · exact hoko p hp
        · obtain ⟨⟨h1, h2⟩, h3⟩ := okps p hp
          exact ⟨h1, h2, by omega, by omega⟩
    · obtain ⟨l6, us, ow, x1, x2, x7, x8, rfl, rfl, hB, hlo, hoko⟩ := hI
      rw [ln] at hlo
      refine bh_perm (List.Perm.swap _ _ _) ?_
      refine bh_app (eh_var (n := 4) rfl (.inl k__law_ends__law_fronts) rfl ⟨lf, rfl, ⟨0, _, rfl⟩, eh_tupleR k__law_ends_tuple B.tuple (eh_var (n := 6) rfl (.inl k__law_ends__law_own) rfl ⟨l6, 1, us, rfl, rfl, fun p7 e7 => ⟨0, ws, rfl, (by have := hA.length; rw [List.length_map] at this; omega), ?_⟩⟩)⟩)
      refine bh_sub (R' := (lf, .lst (ws ++ [.ref p7])) :: R) (.cons₂ _ (.cons _ (List.Sublist.refl _))) ?_
      refine bh_end (I := fun σ3 g3 R3 => _) (e2.trans (eg3.trans e7)) ⟨ws ++ [.ref p7], fr ++ [ow], _, _, _, _, _, _, rfl, rfl, ?_, ?_, ?_⟩
      · rw [List.map_append]
        exact (hA.ex (e2.trans (eg3.trans e7))).snoc (.tup (Evl.st_of upd_same) (hB.ex e7))
      · rw [List.length_append, hl]
        rfl
      · intro ps hps
        rcases List.mem_append.mp hps with hps | hps
        · exact hok ps hps
        · rw [List.mem_singleton.mp hps]
          exact ⟨by omega, hoko⟩
  · obtain ⟨ws, fr, x1, x2, x5, x6, x7, x8, rfl, rfl, hA, hl, hok⟩ := hI
    have lm : ((List.range rs.length).map fun i => PyData.int (i : Nat)).length = rs.length := by simp
    rw [lm] at hl
    refine bh_keep fun e9 => ?_
    refine bh_ret (eh_ev (d := .tuple [intsD (stopsI 0 rs), .tuple (fr.map pairsD)]) (ev_tup (ea_cons (ev_var (n := 3) rfl (.inl k__law_ends__law_stops) rfl (z3.ex (eg.trans e9))) (ea_cons (ev_tupleL k__law_ends_tuple B.tuple (ev_var (n := 4) rfl (.inl k__law_ends__law_fronts) rfl (.lst (Evl.sq_of upd_same) (hA.ex e9)))) ea_nil)) (by simp)) fun v g9 e10 z10 H9 s9 => ?_)
    refine q v g9 _ (e1.trans (eg.trans (e9.trans e10))) ⟨rs, stopsI 0 rs, fr, rfl, rfl, fun n hn => ?_, stops_rise 0 rs, stops_len 0 rs, hl, hok⟩ z10 H9 s9
    have := stops_low 0 rs n hn
    exact ⟨by omega, by omega⟩
end
end K01

namespace K01
open PySem PySem.Spec PyProof.Rows L2 Sk
open Evl (Ex)
def tripD (t : Int × Int × Int) : PyData := .tuple [.int t.1, .int t.2.1, .int t.2.2]
def okTr (n s : Int) (t : Int × Int × Int) : Prop := 0 ≤ t.1 ∧ t.1 ≤ 9 ∧ 0 ≤ t.2.1 ∧ t.2.1 < n ∧ 0 ≤ t.2.2 ∧ t.2.2 < s
def aimOf (tu s : Int) : PyData → PyData
  | .tuple [.int k, .tuple [c, o]] => .tuple [c, o, .int (tu / (3 + k) % s)]
  | _ => .none
theorem aims_eq (tu s : Int) (prs : List (Int × Int)) : (Sk.numbered (prs.map pairD)).map (aimOf tu s) = (prs.zipIdx.map fun q => (q.1.1, q.1.2, tu / (3 + (q.2 : Nat)) % s)).map tripD := by
  unfold Sk.numbered
  rw [List.zipIdx_map, List.map_map, List.map_map, List.map_map]
  rfl
theorem pairs_nested (prs : List (Int × Int)) : ∀ d ∈ Sk.numbered (prs.map pairD), ∃ (i : Nat) (p : Int × Int), i < prs.length ∧ p ∈ prs ∧ d = .tuple [.int (i : Nat), pairD p] := fun d hd => by
  obtain ⟨d1, d2, rfl⟩ := numbered_pair d hd
  obtain ⟨i, rfl, hi⟩ := numbered_int hd
  rw [List.getElem?_map] at hi
  cases hp : prs[i]? with
  | none =>
    rw [hp] at hi
    cases hi
  | some p =>
    rw [hp] at hi
    exact ⟨i, p, (List.getElem?_eq_some_iff.mp hp).1, List.mem_of_getElem? hp, by rw [← Option.some.inj hi]⟩
theorem cnt_take {vs : List (List (List Int))} {i : Nat} {o : List (List Int)} (h : vs[i]? = some o) : cnt (vs.take (i + 1)) = cnt (vs.take i) + cntO o := by
  rw [List.take_add_one, h]
  exact cnt_snoc _ o
theorem cntO_take {o : List (List Int)} {j : Nat} {r : List Int} (h : o[j]? = some r) : cntO (o.take (j + 1)) = cntO (o.take j) + r.length := by
  rw [List.take_add_one, h]
  exact cntO_snoc _ r
theorem cnt_le {vs : List (List (List Int))} (i : Nat) : cnt (vs.take i) ≤ cnt vs := by
  have e : vs = vs.take i ++ vs.drop i := (List.take_append_drop i vs).symm
  have : cnt vs = cnt (vs.take i) + cnt (vs.drop i) := by
    conv => lhs; rw [e]
    unfold cnt
    rw [List.map_append, List.sum_append]
  omega
theorem cntO_le {o : List (List Int)} (i : Nat) : cntO (o.take i) ≤ cntO o := by
  have e : o = o.take i ++ o.drop i := (List.take_append_drop i o).symm
  have : cntO o = cntO (o.take i) + cntO (o.drop i) := by
    conv => lhs; rw [e]
    unfold cntO
    rw [List.map_append, List.sum_append]
  omega
theorem pick2 {vs : List (List (List Int))} {X : Cx} {σ : L2.St} {gg : Hp} {a b c : Expr} {p1 p2 : Pos} {ai bi : Nat} {o : List (List Int)} {r : List Int} (za : Ev X a σ gg (varsD vs)) (zb : Ev X b σ gg (.int (ai : Nat))) (zc : Ev X c σ gg (.int (bi : Nat))) (h1 : vs[ai]? = some o) (h2 : o[bi]? = some r) (hp1 : PlainIx b) (hp2 : PlainIx c) : Ev X (.Subscript (.Subscript a b p1) c p2) σ gg (lsD r) :=
  ev_ixL (ev_ixL za zb (by rw [List.getElem?_map, h1]; rfl) hp1) zc (by rw [List.getElem?_map, h2]; rfl) hp2
def aTask : List PyData → Prop := fun ds => ∃ m : Nat, ds = [.int (m : Nat)] ∧ 2 ≤ m ∧ m ≤ 6
def taskD (t : Tsk) : PyData := .tuple [rowsD t, turnsD t, endsD t, headsD t]
def fTask : List PyData → PyData → Prop := fun _ d => ∃ t : Tsk, d = taskD t ∧ OkT t
section
variable {P : Program} {w : World} {K : PySem.W.Frag} {mg : Str → Option Value} {base : Heap}
abbrev s__law_task : Stmt := topS 51
abbrev N__law_task : List Str := ["_law_deck_here", "_law_most", "_law_classes_here", "_law_rests_here", "_law_bounds_here", "_law_cuts_here", "_law_sides", "_law_variants_here", "_law_rows", "_law_maps", "_law_at", "_law_done", "_law_pairs", "_law_side", "_law_turned", "_law_aims", "_law_row", "_law_number", "_law_order", "_law_nexts", "_law_maps_by", "_law_stops", "_law_fronts", "_law_k", "_law_cost", "_law_other", "_law_way"]
abbrev p__law_task : List Str := ["_law_deck_here", "_law_most"]
theorem sc__law_task : FnScope N__law_task p__law_task (defScope s__law_task) := ⟨rfl, rfl, rfl, by decide +kernel, rfl, by decide +kernel, by decide +kernel⟩
theorem k__law_task__law_deck_here : List.lookup ("_law_deck_here" : Str) (defScope s__law_task).names = some NameKind.cell := by decide +kernel
theorem k__law_task__law_most : List.lookup ("_law_most" : Str) (defScope s__law_task).names = some NameKind.local := by decide +kernel
theorem k__law_task__law_classes_here : List.lookup ("_law_classes_here" : Str) (defScope s__law_task).names = some NameKind.local := by decide +kernel
theorem k__law_task__law_rests_here : List.lookup ("_law_rests_here" : Str) (defScope s__law_task).names = some NameKind.local := by decide +kernel
theorem k__law_task__law_bounds_here : List.lookup ("_law_bounds_here" : Str) (defScope s__law_task).names = some NameKind.local := by decide +kernel
theorem k__law_task__law_cuts_here : List.lookup ("_law_cuts_here" : Str) (defScope s__law_task).names = some NameKind.local := by decide +kernel
theorem k__law_task__law_sides : List.lookup ("_law_sides" : Str) (defScope s__law_task).names = some NameKind.cell := by decide +kernel
theorem k__law_task__law_variants_here : List.lookup ("_law_variants_here" : Str) (defScope s__law_task).names = some NameKind.cell := by decide +kernel
theorem k__law_task__law_rows : List.lookup ("_law_rows" : Str) (defScope s__law_task).names = some NameKind.local := by decide +kernel
theorem k__law_task__law_maps : List.lookup ("_law_maps" : Str) (defScope s__law_task).names = some NameKind.local := by decide +kernel
theorem k__law_task__law_at : List.lookup ("_law_at" : Str) (defScope s__law_task).names = some NameKind.local := by decide +kernel
theorem k__law_task__law_done : List.lookup ("_law_done" : Str) (defScope s__law_task).names = some NameKind.local := by decide +kernel
theorem k__law_task__law_pairs : List.lookup ("_law_pairs" : Str) (defScope s__law_task).names = some NameKind.local := by decide +kernel
theorem k__law_task__law_side : List.lookup ("_law_side" : Str) (defScope s__law_task).names = some NameKind.local := by decide +kernel
theorem k__law_task__law_turned : List.lookup ("_law_turned" : Str) (defScope s__law_task).names = some NameKind.cell := by decide +kernel
theorem k__law_task__law_aims : List.lookup ("_law_aims" : Str) (defScope s__law_task).names = some NameKind.local := by decide +kernel
theorem k__law_task__law_row : List.lookup ("_law_row" : Str) (defScope s__law_task).names = some NameKind.local := by decide +kernel
theorem k__law_task__law_number : List.lookup ("_law_number" : Str) (defScope s__law_task).names = some NameKind.local := by decide +kernel
theorem k__law_task__law_order : List.lookup ("_law_order" : Str) (defScope s__law_task).names = some NameKind.local := by decide +kernel
theorem k__law_task__law_nexts : List.lookup ("_law_nexts" : Str) (defScope s__law_task).names = some NameKind.local := by decide +kernel
theorem k__law_task__law_maps_by : List.lookup ("_law_maps_by" : Str) (defScope s__law_task).names = some NameKind.local := by decide +kernel
theorem k__law_task__law_stops : List.lookup ("_law_stops" : Str) (defScope s__law_task).names = some NameKind.local := by decide +kernel
theorem k__law_task__law_fronts : List.lookup ("_law_fronts" : Str) (defScope s__law_task).names = some NameKind.local := by decide +kernel
theorem k__law_task__law_classes : List.lookup ("_law_classes" : Str) (defScope s__law_task).names = some NameKind.globalImplicit := by decide +kernel
theorem k__law_task__law_rests : List.lookup ("_law_rests" : Str) (defScope s__law_task).names = some NameKind.globalImplicit := by decide +kernel
theorem k__law_task__law_bounds : List.lookup ("_law_bounds" : Str) (defScope s__law_task).names = some NameKind.globalImplicit := by decide +kernel
theorem k__law_task__law_cuts : List.lookup ("_law_cuts" : Str) (defScope s__law_task).names = some NameKind.globalImplicit := by decide +kernel
theorem k__law_task__law_next : List.lookup ("_law_next" : Str) (defScope s__law_task).names = some NameKind.globalImplicit := by decide +kernel
theorem k__law_task__law_variants : List.lookup ("_law_variants" : Str) (defScope s__law_task).names = some NameKind.globalImplicit := by decide +kernel
theorem k__law_task_len : List.lookup ("len" : Str) (defScope s__law_task).names = some NameKind.globalImplicit := by decide +kernel
theorem k__law_task_enumerate : List.lookup ("enumerate" : Str) (defScope s__law_task).names = some NameKind.globalImplicit := by decide +kernel
theorem k__law_task_range : List.lookup ("range" : Str) (defScope s__law_task).names = some NameKind.globalImplicit := by decide +kernel
theorem k__law_task_max : List.lookup ("max" : Str) (defScope s__law_task).names = some NameKind.globalImplicit := by decide +kernel
theorem k__law_task_tuple : List.lookup ("tuple" : Str) (defScope s__law_task).names = some NameKind.globalImplicit := by decide +kernel
theorem k__law_task__law_some : List.lookup ("_law_some" : Str) (defScope s__law_task).names = some NameKind.globalImplicit := by decide +kernel
theorem k__law_task__law_ends : List.lookup ("_law_ends" : Str) (defScope s__law_task).names = some NameKind.globalImplicit := by decide +kernel
theorem t_law_task (a : At K mg "_law_task" s__law_task) (B : Bi mg) (Gx : FnK P w K mg base 1 "_law_next" 1 noArg (drawn Dm)) (Gc : FnK P w K mg base 2 "_law_classes" 62 aClasses fClasses) (Gr : FnM P w K mg base 1 "_law_rests" aRests fRests) (Gb : FnK P w K mg base 2 "_law_bounds" 1 aBounds fBounds) (Gt : FnK P w K mg base 2 "_law_cuts" 1 aCuts fCuts) (Gv : FnK P w K mg base 2 "_law_variants" 24 aVars fVars) (Gs : FnK P w K mg base 2 "_law_some" 1 aSome fSome) (Ge : FnM P w K mg base 1 "_law_ends" aEnds fEndsK) (m_range : mg "range" = none) (m_max : mg "max" = none) : FnK P w K mg base 3 "_law_task" 300 aTask fTask := by
  refine FnK.mk' a sc__law_task (fun _ _ _ _ _ _ us hl => match us, hl with | [_, _], _ => rfl) (by rintro _ ⟨m, rfl, _⟩; rfl) fun f cdv Ar outer s H E g dk Fr ws ds D hr ok hn z hA q => ?_
  obtain ⟨m, rfl, m2, m6⟩ := hA
  obtain ⟨v1, rfl, z1⟩ := dn1 z
  cases z1
  refine bh_asg (n := 2) sc__law_task.nd rfl (.inl k__law_task__law_classes_here) rfl (.inr k__law_task__law_classes_here) (eh_callK (m := 0) Gc (hr.mono (by decide)) k__law_task__law_classes rfl (.inr (.inl k__law_task__law_deck_here)) rfl (ea_cons (ev_var (n := 1) rfl (.inl k__law_task__law_most) rfl (.int _)) ea_nil) ok (by omega) ⟨m, rfl, m2, by omega⟩ fun vC g1 dk1 dC e1 t1 hC zC => ?_)
  obtain ⟨m', cs, em, rfl, c2, cm, cok⟩ := hC
  have em2 : m' = m := by
    injection em with em _
    injection em with em
    omega
  subst em2
  have tn1 := t1.n
  refine bh_asg (n := 3) sc__law_task.nd rfl (.inl k__law_task__law_rests_here) rfl (.inr k__law_task__law_rests_here) (eh_callM Gr (hr.mono (by decide)) k__law_task__law_rests (ea_cons (ev_var (n := 2) rfl (.inl k__law_task__law_classes_here) rfl zC) ea_nil) ⟨cs, rfl, c2, by omega, cok⟩ fun vR g2 dR e2 hR zR => ?_)
  obtain ⟨cs', rs, ecs, rfl, rl, rok⟩ := hR
  have lrs : rs.length = cs.length := by
    injection ecs with ecs _
    unfold clssD at ecs
    injection ecs with ecs
    have := congrArg List.length ecs
    rw [List.length_map, List.length_map] at this
    omega
  refine bh_asg (n := 4) sc__law_task.nd rfl (.inl k__law_task__law_bounds_here) rfl (.inr k__law_task__law_bounds_here) (eh_callK (m := 0) Gb (hr.mono (by decide)) k__law_task__law_bounds rfl (.inr (.inl k__law_task__law_deck_here)) (by rw [t1.ep]; rfl) (ea_cons (ev_var (n := 3) rfl (.inl k__law_task__law_rests_here) rfl zR) ea_nil) t1.ok (by omega) ⟨rs, rfl, by omega, rok⟩ fun vB g3 dk3 dB e3 t3 hB zB => ?_)
  obtain ⟨rs', bs, ers, rfl, bl, bok⟩ := hB
  have lbs : bs.length = cs.length := by
    injection ers with ers _
    unfold restsD at ers
    injection ers with ers
    have := congrArg List.length ers
    rw [List.length_map, List.length_map] at this
    omega
  have t13 := t1.trans t3 (Int.le_refl _)
  have tn3 := t13.n
  refine bh_asg (n := 5) sc__law_task.nd rfl (.inl k__law_task__law_cuts_here) rfl (.inr k__law_task__law_cuts_here) (eh_callK (m := 0) Gt (hr.mono (by decide)) k__law_task__law_cuts rfl (.inr (.inl k__law_task__law_deck_here)) (by rw [t13.ep]; rfl) (ea_cons (ev_var (n := 2) rfl (.inl k__law_task__law_classes_here) rfl (zC.ex (e2.trans e3))) (ea_cons (ev_var (n := 3) rfl (.inl k__law_task__law_rests_here) rfl (zR.ex e3)) ea_nil)) t13.ok (by omega) ⟨cs, rs, rfl, ⟨c2, by omega, cok⟩, lrs⟩ fun vT g4 dk4 dT e4 t4 hT zT => ?_)
  obtain ⟨cs'', rs'', qs, ecs2, rfl, ql⟩ := hT
  have lqs : qs.length = cs.length := by
    injection ecs2 with ecs2 _
    unfold clssD at ecs2
    injection ecs2 with ecs2
    have := congrArg List.length ecs2
    rw [List.length_map, List.length_map] at this
    omega
  have t14 := t13.trans t4 (Int.le_refl _)
  have tn4 := t14.n
  refine bh_asg (n := 6) sc__law_task.nd rfl (.inr k__law_task__law_sides) rfl (.inl rfl) (eh_i0 op_add (eh_int ev_int ⟨1, rfl, ?_⟩))
  refine eh_i2 (C := fun _ j => 0 < j) op_mod ?_
  refine eh_next (m := 0) Gx (hr.mono (by decide)) k__law_task__law_next rfl (.inr (.inl k__law_task__law_deck_here)) (by rw [t14.ep]; rfl) t14.ok (by omega) fun j5 dk5 hj5 t5 => ?_
  refine ⟨_, rfl, eh_int ev_int ⟨2, rfl, by decide, _, rfl, ?_⟩⟩
  obtain ⟨s, hs, s1, s2⟩ : ∃ s : Nat, (1 : Int) + (j5 : Int) % 2 = (s : Nat) ∧ 1 ≤ s ∧ s ≤ 2 := ⟨(1 + (j5 : Int) % 2).toNat, by omega, by omega, by omega⟩
  rw [hs]
  have t15 := t14.trans t5 (Int.le_refl _)
  have tn5 := t15.n
  refine bh_asg (n := 7) sc__law_task.nd rfl (.inr k__law_task__law_variants_here) rfl (.inl rfl) (eh_callK (m := 0) Gv (hr.mono (by decide)) k__law_task__law_variants rfl (.inr (.inl k__law_task__law_deck_here)) (by rw [t15.ep]; rfl) (ea_cons (ev_is (ev_lenL k__law_task_len B.len (ev_var (n := 2) rfl (.inl k__law_task__law_classes_here) rfl (zC.ex (e2.trans (e3.trans e4))))) (congrArg (fun n : Nat => PyData.int (n : Nat)) (List.length_map ..))) (ea_cons (ev_var (n := 6) rfl (.inr (.inl k__law_task__law_sides)) rfl (.int _)) ea_nil)) t15.ok (by omega) ⟨cs.length, s, rfl, by omega, by omega, s1, s2⟩ fun vV g6 dk6 dV e6 t6 hV zV => ?_)
  obtain ⟨n', s', vs, en, rfl, vl, vok, vc1, vc2⟩ := hV
  have en2 : n' = cs.length ∧ s' = s := by
    injection en with en en'
    injection en with en
    injection en' with en' _
    injection en' with en'
    exact ⟨by omega, by omega⟩
  obtain ⟨rfl, rfl⟩ := en2
  have t16 := t15.trans t6 (Int.le_refl _)
  have tn6 := t16.n
  have T24 : cnt vs ≤ 24 := by
    have : cs.length * s' ≤ 6 * 2 := Nat.mul_le_mul (by omega) s2
    omega
  have zC6 := zC.ex (e2.trans (e3.trans (e4.trans e6)))
  have zB6 := zB.ex (e4.trans e6)
  have zT6 := zT.ex e6
  refine bh_newK (n := 8) sc__law_task.nd rfl (.inl k__law_task__law_rows) rfl (.inr k__law_task__law_rows) fun lr => ?_
  refine bh_newK (n := 9) sc__law_task.nd rfl (.inl k__law_task__law_maps) rfl (.inr k__law_task__law_maps) fun lm => ?_
  refine bh_for3 (n := 10) (m := 11) (l := 12) PassesOwn.never rfl (pg_tup rfl (pgs_cons (pg_name (i := 10) sc__law_task.nd rfl (.inl k__law_task__law_at) (.inr k__law_task__law_at)) (pgs_cons (pg_tup rfl (pgs_cons (pg_name (i := 11) sc__law_task.nd rfl (.inl k__law_task__law_done) (.inr k__law_task__law_done)) (pgs_cons (pg_name (i := 12) sc__law_task.nd rfl (.inl k__law_task__law_pairs) (.inr k__law_task__law_pairs)) pgs_nil))) pgs_nil))) (ei_enumL k__law_task_enumerate B.enumerate (ev_var (n := 2) rfl (.inl k__law_task__law_classes_here) rfl zC6))
    (fun i σ' g' R' => ∃ (dk' : Dk) (us ms : List V) (rw : List Row) (mp : List Int) (x10 x11 x12 x13 x14 x15 x16 x17 x18 x19 x20 x21 x22 x23 x24 x25 x26 : Option V), σ' = [some (.ref dk.p), some (.int (m' : Nat)), some vC, some vR, some vB, some vT, some (.int (s' : Nat)), some vV, some (.ref lr), some (.ref lm), x10, x11, x12, x13, x14, x15, x16, x17, x18, x19, x20, x21, x22, x23, x24, x25, x26] ∧ R' = Dk.R dk' ++ (lm, .lst ms) :: (lr, .lst us) :: Fr ∧ Dk.To (89 + 26 * (i : Int)) dk dk' ∧ DnAll K g' us (rw.map rowD) ∧ ms = mp.map V.int ∧ rw.length = cnt (vs.take i) ∧ mp.length = cnt (vs.take i) ∧ (∀ r ∈ rw, okRow (cnt vs : Nat) r ∧ r.nx.length ≤ 4) ∧ ∀ n ∈ mp, okNum (cnt vs : Nat) n)
    (fun g' e => ⟨dk6, [], [], [], [], none, none, none, none, none, none, none, none, none, none, none, none, none, none, none, none, none, rfl, rfl, t16.trans (Dk.To.refl t16.ok (Int.le_refl 0)) (by omega), .nil, rfl, rfl, rfl, (fun _ h => nomatch h), (fun _ h => nomatch h)⟩) (nested_of cs)
    (fun i d1 d2 d3 σ' g' R' hdi eg hI w1 w2 w3 g8 e8 y1 y2 y3 => ?_) (fun σ' g' R' eg hI => ?_)
  · obtain ⟨dk7, us, ms, rw, mp, x10, x11, x12, x13, x14, x15, x16, x17, x18, x19, x20, x21, x22, x23, x24, x25, x26, rfl, rfl, t7, hU, rfl, hlr, hlm, hrok, hmok⟩ := hI
    obtain ⟨c, hc, rfl, rfl, rfl⟩ := nested_at hdi
    have ci : i < cs.length := (List.getElem?_eq_some_iff.mp hc).1
    have cj := cok c (List.mem_of_getElem? hc)
    cases y1
    have vi : i < vs.length := by omega
    have hv : vs[i]? = some vs[i] := List.getElem?_eq_getElem vi
    obtain ⟨vil, vir⟩ := vok vs[i] (List.getElem_mem vi)
    have ct1 := cnt_take hv
    have ctl := cnt_le (vs := vs) (i + 1)
    have tn7 := t7.n
    refine bh_for1 (n := 13) PassesOwn.never rfl (pg_name (i := 13) sc__law_task.nd rfl (.inl k__law_task__law_side) (.inr k__law_task__law_side)) (ei_range (n := s') k__law_task_range m_range (ev_var (n := 6) rfl (.inr (.inl k__law_task__law_sides)) rfl (.int _)) (by omega))
      (fun j σ' g' R' => ∃ (dk' : Dk) (us : List V) (rw : List Row) (mp : List Int) (x13 x14 x15 x16 x17 x18 x19 : Option V), σ' = [some (.ref dk.p), some (.int (m' : Nat)), some vC, some vR, some vB, some vT, some (.int (s' : Nat)), some vV, some (.ref lr), some (.ref lm), some (.int (i : Nat)), some w2, some w3, x13, x14, x15, x16, x17, x18, x19, x20, x21, x22, x23, x24, x25, x26] ∧ R' = Dk.R dk' ++ (lm, .lst (mp.map V.int)) :: (lr, .lst us) :: Fr ∧ Dk.To (89 + 26 * (i : Int) + 13 * (j : Int)) dk dk' ∧ DnAll K g' us (rw.map rowD) ∧ rw.length = cnt (vs.take i) + cntO (vs[i].take j) ∧ mp.length = cnt (vs.take i) + cntO (vs[i].take j) ∧ (∀ r ∈ rw, okRow (cnt vs : Nat) r ∧ r.nx.length ≤ 4) ∧ ∀ n ∈ mp, okNum (cnt vs : Nat) n)
      (fun g' e => ⟨dk7, us, rw, mp, x13, x14, x15, x16, x17, x18, x19, rfl, rfl, t7.trans (Dk.To.refl t7.ok (Int.le_refl 0)) (by omega), hU.ex (e8.trans e), hlr, hlm, hrok, hmok⟩)
      (fun j d σ' g' R' hdj eg2 hI w13 g9 e9 zw => ?_) (fun σ' g' R' eg2 hI => ?_)
    · obtain ⟨dk8, us, rw, mp, x13, x14, x15, x16, x17, x18, x19, rfl, rfl, t8, hU, hlr, hlm, hrok, hmok⟩ := hI
      have js : j < s' := by
        have := (List.getElem?_eq_some_iff.mp hdj).1
        simpa using this
      have hd : d = .int (j : Nat) := by
        rw [List.getElem?_map, List.getElem?_range js] at hdj
        exact (Option.some.inj hdj).symm
      subst hd
      cases zw
      have vj : j < vs[i].length := by omega
      have hvj : vs[i][j]? = some vs[i][j] := List.getElem?_eq_getElem vj
      have okr := vir vs[i][j] (List.getElem_mem vj)
      have co1 := cntO_take hvj
      have col := cntO_le (o := vs[i]) (j + 1)
      have tn8 := t8.n
      refine bh_asg (n := 14) sc__law_task.nd rfl (.inr k__law_task__law_turned) rfl (.inl rfl) (eh_next (m := 0) Gx (hr.mono (by decide)) k__law_task__law_next rfl (.inr (.inl k__law_task__law_deck_here)) (by rw [t8.ep]; rfl) t8.ok (by omega) fun j9 dk9 hj9 t9 => ?_)
      have lnp : (Sk.numbered (c.prs.map pairD)).length = c.prs.length := by
        unfold Sk.numbered
        rw [List.length_map, List.length_zipIdx, List.length_map]
      have c4 := cj.1
      refine bh_setLcG (tgg := gTup K 2 (gCons (gName 23) (gCons (gTup K 2 (gCons (gName 24) (gCons (gName 25) gNil))) gNil))) (i := 15) (own := [("_law_k", 23), ("_law_cost", 24), ("_law_other", 25)]) rfl sc__law_task.nd rfl k__law_task__law_aims (sw_true rfl k__law_task__law_aims rfl (by decide +kernel)) (blkOk_by (N := N__law_task) (sc := defScope s__law_task) (by decide +kernel)) (by intro _ _ _ _ _; refine pg_tup rfl (pgs_cons ?_ (pgs_cons ?_ pgs_nil)); exact pg_name (i := 23) sc__law_task.nd rfl (Or.inl rfl); refine pg_tup rfl (pgs_cons ?_ (pgs_cons ?_ pgs_nil)); exact pg_name (i := 24) sc__law_task.nd rfl (Or.inl rfl); exact pg_name (i := 25) sc__law_task.nd rfl (Or.inl rfl)) (ei_enumL k__law_task_enumerate B.enumerate (ev_var (n := 12) rfl (.inl k__law_task__law_pairs) rfl (y3.ex (eg2.trans e9)))) (by rw [lnp]; omega) (fun _ => true) (aimOf (j9 : Nat) (s' : Nat)) (fun d hd v gg HH eE1 eE2 zz => ?_) fun la avs g10 e10 hav => ?_
      · obtain ⟨ki, pr, hki, hpr, rfl⟩ := pairs_nested c.prs d hd
        cases zz with
        | tup sq tt =>
          obtain ⟨q1, q2, rfl, qz1, qz2⟩ := dn2 tt
          cases qz1
          cases qz2 with
          | tup sq2 tt2 =>
            obtain ⟨q3, q4, rfl, qz3, qz4⟩ := dn2 tt2
            refine ⟨_, ?_, fun C hC => ⟨_, _, rfl, Evl.ex_t eE2 sq, rfl, _, _, rfl, _, [], rfl, _, _, rfl, Evl.ex_t eE2 sq2, rfl, _, _, rfl, _, [], rfl, rfl, rfl, hC⟩, fun _ _ _ _ _ => es_nil, fun _ sS sH sC scl sfp => ?_⟩
            · rw [wipe_set (by decide), wipe_set (by decide), wipe_set (by decide), wipe_wipe]
            · refine ev_tup (ea_cons ?_ (ea_cons ?_ (ea_cons (ev_mod (by omega) (ev_fdiv ⟨by omega, by omega⟩ ?_ (ev_add ev_int ?_)) ?_) ea_nil))) (by simp)
              · exact (ev_var (n := 24) rfl (by first | exact .inl rfl | exact .inr (.inl rfl) | exact .inr (.inr rfl)) rfl qz3)
              · exact (ev_var (n := 25) rfl (by first | exact .inl rfl | exact .inr (.inl rfl) | exact .inr (.inr rfl)) rfl qz4)
              · exact (ev_var (n := 14) rfl (by first | exact .inl rfl | exact .inr (.inl rfl) | exact .inr (.inr rfl)) rfl (.int _))
              · exact (ev_var (n := 23) rfl (by first | exact .inl rfl | exact .inr (.inl rfl) | exact .inr (.inr rfl)) rfl (.int _))
              · exact (ev_var (n := 6) rfl (by first | exact .inl rfl | exact .inr (.inl rfl) | exact .inr (.inr rfl)) rfl (.int _))
      rw [filt, aims_eq] at hav
      obtain ⟨ams, hams⟩ : ∃ ams, ams = c.prs.zipIdx.map fun q => (q.1.1, q.1.2, ((j9 : Nat) : Int) / (3 + (q.2 : Nat)) % ((s' : Nat) : Int)) := ⟨_, rfl⟩
      rw [← hams] at hav
      have lam : ams.length = c.prs.length := by rw [hams, List.length_map, List.length_zipIdx]
      have oam : ∀ t ∈ ams, okTr cs.length s' t := fun t ht => by
        rw [hams] at ht
        obtain ⟨q, hq, rfl⟩ := List.mem_map.mp ht
        obtain ⟨p1, p2, p3, p4⟩ := cj.2 q.1 (List.mem_of_getElem? (List.mem_zipIdx_iff_getElem?.mp hq))
        exact ⟨p1, p2, p3, p4, Int.emod_nonneg _ (by omega), Int.emod_lt_of_pos _ (by omega)⟩
      refine bh_keep fun e11 => ?_
      have zA : Dn K (upd g10 la (.lst avs)) (.ref la) (.list (ams.map tripD)) := .lst (Evl.sq_of upd_same) (hav.ex e11)
      have t89 := t8.trans t9 (Int.le_refl _)
      have tn9 := t89.n
      have zV9 := zV.ex (eg.trans (e8.trans (eg2.trans (e9.trans (e10.trans e11)))))
      refine bh_for1 (n := 16) PassesOwn.never rfl (pg_name (i := 16) sc__law_task.nd rfl (.inl k__law_task__law_row) (.inr k__law_task__law_row)) (ei_list (ds := vs[i][j].map .int) (pick2 (ev_var (n := 7) rfl (.inr (.inl k__law_task__law_variants_here)) rfl zV9) (ev_var (n := 10) rfl (.inl k__law_task__law_at) rfl (.int _)) (ev_var (n := 13) rfl (.inl k__law_task__law_side) rfl (.int _)) hv hvj (fun _ _ => rfl) (fun _ _ => rfl)))
        (fun l σ' g' R' => ∃ (dk' : Dk) (us : List V) (rw : List Row) (mp : List Int) (x16 x17 x18 x19 : Option V), σ' = [some (.ref dk.p), some (.int (m' : Nat)), some vC, some vR, some vB, some vT, some (.int (s' : Nat)), some vV, some (.ref lr), some (.ref lm), some (.int (i : Nat)), some w2, some w3, some (.int (j : Nat)), some (.int (j9 : Nat)), some (.ref la), x16, x17, x18, x19, x20, x21, x22, x23, x24, x25, x26] ∧ R' = Dk.R dk' ++ (lm, .lst (mp.map V.int)) :: (lr, .lst us) :: Fr ∧ Dk.To (90 + 26 * (i : Int) + 13 * (j : Int) + 6 * (l : Int)) dk dk' ∧ DnAll K g' us (rw.map rowD) ∧ rw.length = cnt (vs.take i) + cntO (vs[i].take j) + l ∧ mp.length = cnt (vs.take i) + cntO (vs[i].take j) + l ∧ (∀ r ∈ rw, okRow (cnt vs : Nat) r ∧ r.nx.length ≤ 4) ∧ ∀ n ∈ mp, okNum (cnt vs : Nat) n)
        (fun g' e => ⟨dk9, us, rw, mp, x16, x17, x18, x19, rfl, rfl, t89.trans (Dk.To.refl t89.ok (Int.le_refl 0)) (by omega), hU.ex (e9.trans (e10.trans (e11.trans e))), hlr, hlm, hrok, hmok⟩)
        (fun l d σ' g' R' hdl eg4 hI w16 g12 e12 zw16 => ?_) (fun σ' g' R' eg4 hI => ?_)
      · obtain ⟨dk10, us, rw, mp, x16, x17, x18, x19, rfl, rfl, t10, hU, hlr, hlm, hrok, hmok⟩ := hI
        have ll : l < vs[i][j].length := by
          have := (List.getElem?_eq_some_iff.mp hdl).1
          rw [List.length_map] at this
          exact this
        have l2 := okr.2.1
        have tn10 := t10.n
        have zA12 := zA.ex (eg4.trans e12)
        have latr : (ams.map tripD).length = ams.length := List.length_map ..
        refine bh_asg (n := 17) sc__law_task.nd rfl (.inl k__law_task__law_number) rfl (.inr k__law_task__law_number) (eh_i2 (C := fun _ j => 0 < j) op_mod ?_)
        refine eh_next (m := 0) Gx (hr.mono (by decide)) k__law_task__law_next rfl (.inr (.inl k__law_task__law_deck_here)) (by rw [t10.ep]; rfl) t10.ok (by omega) fun j11 dk11 hj11 t11 => ?_
        refine ⟨_, rfl, eh_int (ev_max2 rfl k__law_task_max m_max ev_int (ev_lenL k__law_task_len B.len (ev_var (n := 15) rfl (.inl k__law_task__law_aims) rfl zA12))) ⟨_, rfl, ?_, ?_⟩⟩
        · split <;> omega
        obtain ⟨nn, hnn, nnl⟩ : ∃ nn : Nat, (j11 : Int) % (if ((ams.map tripD).length : Int) > 1 then ((ams.map tripD).length : Int) else 1) = (nn : Nat) ∧ nn ≤ ams.length := by
          rw [latr]
          by_cases hb : (ams.length : Int) > 1
          · rw [if_pos hb]
            have a0 := Int.emod_nonneg (j11 : Int) (show (ams.length : Int) ≠ 0 by omega)
            have a1 := Int.emod_lt_of_pos (j11 : Int) (show 0 < (ams.length : Int) by omega)
            exact ⟨((j11 : Int) % (ams.length : Int)).toNat, by omega, by omega⟩
          · rw [if_neg hb]
            exact ⟨0, by omega, by omega⟩
        rw [hnn]
        have t1011 := t10.trans t11 (Int.le_refl _)
        have tn11 := t1011.n
        have lord : (ams.map tripD).length = ams.length := List.length_map ..
        refine bh_asg (n := 18) sc__law_task.nd rfl (.inl k__law_task__law_order) rfl (.inr k__law_task__law_order) (eh_cat (eh_drop (n := nn) (ev_var (n := 15) rfl (.inl k__law_task__law_aims) rfl zA12) (ev_var (n := 17) rfl (.inl k__law_task__law_number) rfl (.int _)) (fun p1 xs g13 e13 hxs => ⟨p1, rfl, eh_take (n := nn) (ev_var (n := 15) rfl (.inl k__law_task__law_aims) rfl (zA12.ex e13)) (ev_var (n := 17) rfl (.inl k__law_task__law_number) rfl (.int _)) (fun p2 ys g14 e14 hys => ⟨p2, 1, 0, xs, ys, rfl, rfl, rfl, ?_, fun p3 => ?_⟩) (by omega)⟩) (by omega)))
        · have l1 := hxs.length
          have l2 := hys.length
          rw [List.length_drop] at l1
          rw [List.length_take] at l2
          omega
        refine bh_sub (R' := (p3, .lst (xs ++ ys)) :: (Dk.R dk11 ++ (lm, .lst (mp.map V.int)) :: (lr, .lst us) :: Fr)) (.cons₂ _ (.cons _ (.cons _ (List.Sublist.refl _)))) ?_
        refine bh_keep fun e15 => ?_
        obtain ⟨od, hod⟩ : ∃ od, od = ams.drop nn ++ ams.take nn := ⟨_, rfl⟩
        have lod : od.length ≤ 4 := by
          rw [hod, List.length_append, List.length_drop, List.length_take]
          omega
        have ood : ∀ t ∈ od, okTr cs.length s' t := fun t ht => by
          rw [hod] at ht
          rcases List.mem_append.mp ht with ht | ht
          · exact oam t (List.mem_of_mem_drop ht)
          · exact oam t (List.mem_of_mem_take ht)
        have zO : Dn K (upd g14 p3 (.lst (xs ++ ys))) (.ref p3) (.list (od.map tripD)) := by
          refine .lst (Evl.sq_of upd_same) ?_
          rw [hod, List.map_append, List.map_drop, List.map_take]
          exact dn_app ((hxs.ex e14).ex e15) (hys.ex e15)
        have zV15 := zV9.ex (eg4.trans (e12.trans (e13.trans (e14.trans e15))))
        refine bh_asg (n := 19) sc__law_task.nd rfl (.inl k__law_task__law_nexts) rfl (.inr k__law_task__law_nexts) (eh_tupleR k__law_task_tuple B.tuple ?_)
        refine eh_lcK (tgg := gTup K 3 (gCons (gName 24) (gCons (gName 25) (gCons (gName 26) gNil)))) (own := [("_law_cost", 24), ("_law_other", 25), ("_law_way", 26)]) rfl sc__law_task.nd (blkOk_by (N := N__law_task) (sc := defScope s__law_task) (by decide +kernel)) (by intro _ _ _ _ _; refine pg_tup rfl (pgs_cons ?_ (pgs_cons ?_ (pgs_cons ?_ pgs_nil))); exact pg_name (i := 24) sc__law_task.nd rfl (Or.inl rfl); exact pg_name (i := 25) sc__law_task.nd rfl (Or.inl rfl); exact pg_name (i := 26) sc__law_task.nd rfl (Or.inl rfl)) (ei_list (ev_var (n := 18) rfl (.inl k__law_task__law_order) rfl zO)) (by rw [List.length_map]; omega)
          (fun o acc g' R' => ∃ (dk' : Dk) (ps : List (Int × Int)), R' = Dk.R dk' ++ (lm, .lst (mp.map V.int)) :: (lr, .lst us) :: Fr ∧ Dk.To (o : Int) dk11 dk' ∧ DnAll K g' acc (ps.map pairD) ∧ ps.length = o ∧ ∀ p ∈ ps, okPr (cnt vs : Nat) p)
          (fun g' e => ⟨dk11, [], rfl, Dk.To.refl t11.ok (by omega), .nil, rfl, fun _ h => nomatch h⟩) (fun o acc g' R' hI => by
            obtain ⟨_, ps, _, _, hd, hl, _⟩ := hI
            rw [hd.length, List.length_map, hl])
          (fun o d hdo l20 acc g' R' eg16 hI v g17 H17 e17 e17' zz => ?_) fun l20 acc g16 R' eg16 hI => ?_
        · obtain ⟨dk12, ps, rfl, t12, hP, hlp, hokp⟩ := hI
          have oo : o < od.length := by
            have := (List.getElem?_eq_some_iff.mp hdo).1
            rw [List.length_map] at this
            exact this
          have hd : d = tripD od[o] := by
            rw [List.getElem?_map, List.getElem?_eq_getElem oo] at hdo
            exact (Option.some.inj hdo).symm
          subst hd
          obtain ⟨k1, k2, k3, k4, k5, k6⟩ := ood od[o] (List.getElem_mem oo)
          have tn12 := t12.n
          obtain ⟨oi, hoi⟩ : ∃ oi : Nat, od[o].2.1 = (oi : Nat) := ⟨_, (Int.toNat_of_nonneg k3).symm⟩
          obtain ⟨wi, hwi⟩ : ∃ wi : Nat, od[o].2.2 = (wi : Nat) := ⟨_, (Int.toNat_of_nonneg k5).symm⟩
          have oiv : oi < vs.length := by omega
          obtain ⟨ovl, ovr⟩ := vok vs[oi] (List.getElem_mem oiv)
          have wiv : wi < vs[oi].length := by omega
          have okw := ovr vs[oi][wi] (List.getElem_mem wiv)
          cases zz with
          | tup sq tt =>
            obtain ⟨q1, q2, q3, rfl, qz1, qz2, qz3⟩ := dn3 tt
            rw [hoi] at qz2
            rw [hwi] at qz3
            refine ⟨_, ?_, fun C hC => ⟨_, _, rfl, Evl.ex_t e17' sq, rfl, _, _, rfl, _, _, rfl, _, [], rfl, rfl, hC⟩, fun sS sH sC scl sfp => ⟨Dk.R dk12 ++ (l20, .lst acc) :: (lm, .lst (mp.map V.int)) :: (lr, .lst us) :: Fr, List.perm_middle.symm, ?_⟩⟩
            · rw [wipe_set (by decide), wipe_set (by decide), wipe_set (by decide), wipe_wipe]
            · refine eh_tup (ah_cons ?_)
              refine eh_var (n := 24) rfl (by first | exact .inl rfl | exact .inr (.inl rfl) | exact .inr (.inr rfl)) rfl ?_
              refine ah_cons ?_
              refine eh_callK (m := 0) Gs (hr.mono (by decide)) (by rfl) rfl (by first | exact .inl rfl | exact .inr (.inl rfl) | exact .inr (.inr rfl)) (by rw [t12.ep, t1011.ep]; rfl) (ea_cons (pick2 (vs := vs) ?_ ?_ ?_ (List.getElem?_eq_getElem oiv) (List.getElem?_eq_getElem wiv) (fun _ _ => rfl) (fun _ _ => rfl)) ea_nil) t12.ok (by omega) ⟨_, rfl, okw.1, by have := okw.2.1; omega⟩ fun v18 g18 dk18 d18 e18 t18 hF z18 => ah_nil ⟨by simp, fun p18 e19 => ?_⟩
              · exact (ev_var (n := 7) rfl (by first | exact .inl rfl | exact .inr (.inl rfl) | exact .inr (.inr rfl)) rfl (zV15.ex (eg16.trans e17)))
              · exact (ev_var (n := 25) rfl (by first | exact .inl rfl | exact .inr (.inl rfl) | exact .inr (.inr rfl)) rfl qz2)
              · exact (ev_var (n := 26) rfl (by first | exact .inl rfl | exact .inr (.inl rfl) | exact .inr (.inr rfl)) rfl qz3)
              obtain ⟨r18, n18, er, rfl, hn18⟩ := hF
              have er2 : r18 = vs[oi][wi] := by
                injection er with er _
                unfold lsD at er
                injection er with er
                exact ((List.map_inj_right (fun a b h => by injection h)).mp er).symm
              rw [er2] at hn18
              have hb18 := okw.2.2 n18 hn18
              refine ⟨Dk.R dk18 ++ (lm, .lst (mp.map V.int)) :: (lr, .lst us) :: Fr, List.perm_middle, e17.trans (e18.trans e19), dk18, ps ++ [(od[o].1, n18)], rfl, t12.trans t18 (by omega), ?_, ?_, ?_⟩
              · rw [List.map_append]
                exact (hP.ex (e17.trans (e18.trans e19))).snoc (.tup (Evl.st_of upd_same) (.cons (qz1.ex (e18.trans e19)) (.cons (z18.ex e19) .nil)))
              · rw [List.length_append, hlp]
                rfl
              · intro p hp
                rcases List.mem_append.mp hp with hp | hp
                · exact hokp p hp
                · rw [List.mem_singleton.mp hp]
                  exact ⟨k1, by show od[o].1 ≤ 1000; omega, hb18.1, hb18.2⟩
        · obtain ⟨dk12, ps, rfl, t12, hP, hlp, hokp⟩ := hI
          rw [List.length_map] at hlp t12
          refine ⟨l20, 0, acc, rfl, rfl, fun p20 e20 => bh_drop ?_⟩
          have tn12 := t12.n
          have t1012 := t1011.trans t12 (Int.le_refl _)
          have zN : Dn K (upd g16 p20 (.tup acc)) (.ref p20) (pairsD ps) := .tup (Evl.st_of upd_same) (hP.ex e20)
          have eAll := e12.trans (e13.trans (e14.trans (e15.trans (eg16.trans e20))))
          have ib : i < bs.length := by omega
          have iq : i < qs.length := by omega
          have zB20 := zB6.ex (eg.trans (e8.trans (eg2.trans (e9.trans (e10.trans (e11.trans (eg4.trans eAll)))))))
          have zT20 := zT6.ex (eg.trans (e8.trans (eg2.trans (e9.trans (e10.trans (e11.trans (eg4.trans eAll)))))))
          have y220 := y2.ex (eg2.trans (e9.trans (e10.trans (e11.trans (eg4.trans eAll)))))
          have hbd := bok bs[i] (List.getElem_mem ib)
          refine bh_appK (n := 8) (F1 := [(lm, .lst (mp.map V.int))]) (m := 4) rfl rfl (.inl k__law_task__law_rows) rfl (by have := hU.length; rw [List.length_map] at this; omega) (eh_ev (d := rowD ⟨ps, c.dn, 2 * (i : Nat) + (j : Nat), bs[i], qs[i]⟩) (ev_tup (ea_cons (ev_var (n := 19) rfl (.inl k__law_task__law_nexts) rfl zN) (ea_cons (ev_var (n := 11) rfl (.inl k__law_task__law_done) rfl y220) (ea_cons (ev_add (ev_mul (.inl ⟨by decide, by decide⟩) ev_int (ev_var (n := 10) rfl (.inl k__law_task__law_at) rfl (.int _))) (ev_var (n := 13) rfl (.inl k__law_task__law_side) rfl (.int _))) (ea_cons (ev_ixL (ev_var (n := 4) rfl (.inl k__law_task__law_bounds_here) rfl zB20) (ev_var (n := 10) rfl (.inl k__law_task__law_at) rfl (.int _)) (by rw [List.getElem?_map, List.getElem?_eq_getElem ib]; rfl) (fun _ _ => rfl)) (ea_cons (ev_ixL (ev_var (n := 5) rfl (.inl k__law_task__law_cuts_here) rfl zT20) (ev_var (n := 10) rfl (.inl k__law_task__law_at) rfl (.int _)) (by rw [List.getElem?_map, List.getElem?_eq_getElem iq]; rfl) (fun _ _ => rfl)) ea_nil))))) (by simp)) fun v21 g21 e21 z21 => ⟨dk12, rfl, ?_⟩)
          have sj : s' - 1 - j < vs[i].length := by omega
          have okm := vir vs[i][s' - 1 - j] (List.getElem_mem sj)
          have zV21 := zV15.ex (eg16.trans (e20.trans e21))
          refine bh_appK (n := 9) (F1 := []) (m := 3) rfl rfl (.inl k__law_task__law_maps) rfl (by rw [List.length_map]; omega) ?_
          refine eh_callK (m := 0) Gs (hr.mono (by decide)) k__law_task__law_some rfl (.inr (.inl k__law_task__law_deck_here)) (by rw [t1012.ep]; rfl) (ea_cons (pick2 (vs := vs) (ev_var (n := 7) rfl (.inr (.inl k__law_task__law_variants_here)) rfl zV21) (ev_var (n := 10) rfl (.inl k__law_task__law_at) rfl (.int _)) (ev_is (ev_sub (ev_sub (ev_var (n := 6) rfl (.inr (.inl k__law_task__law_sides)) rfl (.int _)) ev_int) (ev_var (n := 13) rfl (.inl k__law_task__law_side) rfl (.int _))) (show PyData.int _ = .int ((s' - 1 - j : Nat) : Nat) from congrArg PyData.int (by omega))) hv (List.getElem?_eq_getElem sj) (fun _ _ => rfl) (fun _ _ => rfl)) ea_nil) t1012.ok (by omega) ⟨_, rfl, okm.1, by have := okm.2.1; omega⟩ fun v22 g22 dk22 d22 e22 t22 hF z22 => ?_
          obtain ⟨r22, n22, er, rfl, hn22⟩ := hF
          have er2 : r22 = vs[i][s' - 1 - j] := by
            injection er with er _
            unfold lsD at er
            injection er with er
            exact ((List.map_inj_right (fun a b h => by injection h)).mp er).symm
          rw [er2] at hn22
          have hb22 := okm.2.2 n22 hn22
          cases z22
          refine ⟨dk22, rfl, bh_end (I := fun σ3 g3 R3 => _) (eAll.trans (e21.trans e22)) ⟨dk22, us ++ [v21], rw ++ [⟨ps, c.dn, 2 * (i : Nat) + (j : Nat), bs[i], qs[i]⟩], mp ++ [n22], _, _, _, _, rfl, ?_, t1012.trans t22 (by omega), ?_, ?_, ?_, ?_, ?_⟩⟩
          · rw [List.map_append]
            rfl
          · rw [List.map_append]
            exact (hU.ex (eAll.trans (e21.trans e22))).snoc (z21.ex e22)
          · rw [List.length_append, hlr]
            rfl
          · rw [List.length_append, hlm]
            rfl
          · intro r hr
            rcases List.mem_append.mp hr with hr | hr
            · exact hrok r hr
            · rw [List.mem_singleton.mp hr]
              exact ⟨⟨by show ps.length ≤ 8; omega, hokp, by show 0 ≤ 2 * (i : Int) + (j : Nat); omega, by show 2 * (i : Int) + (j : Nat) ≤ 99; omega, hbd.1, hbd.2⟩, by show ps.length ≤ 4; omega⟩
          · intro n hn
            rcases List.mem_append.mp hn with hn | hn
            · exact hmok n hn
            · rw [List.mem_singleton.mp hn]
              exact ⟨hb22.1, hb22.2⟩
      · obtain ⟨dk10, us, rw, mp, x16, x17, x18, x19, rfl, rfl, t10, hU, hlr, hlm, hrok, hmok⟩ := hI
        rw [List.length_map] at hlr hlm t10
        have l2 := okr.2.1
        exact bh_end (I := fun σ3 g3 R3 => _) (e9.trans (e10.trans (e11.trans eg4))) ⟨dk10, us, rw, mp, _, _, _, _, _, _, _, rfl, rfl, t10.trans (Dk.To.refl t10.ok (Int.le_refl 0)) (by omega), hU, by rw [co1]; omega, by rw [co1]; omega, hrok, hmok⟩
    · obtain ⟨dk8, us, rw, mp, x13, x14, x15, x16, x17, x18, x19, rfl, rfl, t8, hU, hlr, hlm, hrok, hmok⟩ := hI
      have ls : ((List.range s').map fun i => PyData.int (i : Nat)).length = s' := by simp
      rw [ls] at hlr hlm t8
      have tk : vs[i].take s' = vs[i] := List.take_of_length_le (by omega)
      rw [tk] at hlr hlm
      exact bh_end (I := fun σ3 g3 R3 => _) (e8.trans eg2) ⟨dk8, us, _, rw, mp, _, _, _, _, _, _, _, _, _, _, _, _, _, _, _, _, _, rfl, rfl, t8.trans (Dk.To.refl t8.ok (Int.le_refl 0)) (by omega), hU, rfl, by rw [ct1]; omega, by rw [ct1]; omega, hrok, hmok⟩
  · obtain ⟨dk7, us, ms, rw, mp, x10, x11, x12, x13, x14, x15, x16, x17, x18, x19, x20, x21, x22, x23, x24, x25, x26, rfl, rfl, t7, hU, rfl, hlr, hlm, hrok, hmok⟩ := hI
    rw [len_nested] at hlr hlm t7
    rw [show vs.take cs.length = vs from List.take_of_length_le (by omega)] at hlr hlm
    have tn7 := t7.n
    refine bh_keepK fun e20 => ?_
    refine bh_keepK fun e21 => ?_
    have zM := (show Dn K (upd g' lm (.lst (mp.map V.int))) (.ref lm) (.list (mp.map .int)) from .lst (Evl.sq_of upd_same) (DnAll.ofInts mp)).ex e21
    have zU : Dn K (upd (upd g' lm (.lst (mp.map V.int))) lr (.lst us)) (.ref lr) (.list (rw.map rowD)) := .lst (Evl.sq_of upd_same) (hU.ex (e20.trans e21))
    obtain ⟨tl, htl, tl1, tlok⟩ : ∃ tl : List (List Int), ([PyData.tuple [], .tuple [intsD mp]] : List PyData)[s' - 1]? = some (.tuple (tl.map intsD)) ∧ tl.length ≤ 3 ∧ ∀ u ∈ tl, u = mp := by
      have s12 : s' = 1 ∨ s' = 2 := by omega
      rcases s12 with h1 | h1
      · subst h1
        exact ⟨[], rfl, by decide, fun _ h => nomatch h⟩
      · subst h1
        exact ⟨[mp], rfl, by simp, fun u hu => List.mem_singleton.mp hu⟩
    refine bh_asg (n := 20) sc__law_task.nd rfl (.inl k__law_task__law_maps_by) rfl (.inr k__law_task__law_maps_by) (eh_ev (d := .tuple (tl.map intsD)) (ev_ixL (n := s' - 1) (ds := [.tuple [], .tuple [intsD mp]]) (ev_lst (ea_cons (ev_tup ea_nil (by simp)) (ea_cons (ev_tup (ea_cons (ev_tupleL k__law_task_tuple B.tuple (ev_var (n := 9) rfl (.inl k__law_task__law_maps) rfl zM)) ea_nil) (by simp)) ea_nil)) (by simp)) (ev_is (ev_sub (ev_var (n := 6) rfl (.inr (.inl k__law_task__law_sides)) rfl (.int _)) ev_int) (show PyData.int _ = .int ((s' - 1 : Nat) : Nat) from congrArg PyData.int (by omega))) htl (fun _ _ => rfl)) fun v20 g22 e22 z20 => ?_)
    have okT : ∀ eh : Option (List Int × List (List (Int × Int))), (∀ q, eh = some q → (∀ n ∈ q.1, okNum rw.length n) ∧ rising q.1 = true ∧ q.1.length ≤ 100000) → (∀ q, eh = some q → (q.2.length : Int) = rw.length ∧ ∀ ps ∈ q.2, ps.length ≤ 200 ∧ ∀ p ∈ ps, okPr rw.length p) → OkT ⟨rw, tl, eh⟩ := fun eh h1 h2 => by
      have mt : many ⟨rw, tl, eh⟩ = (cnt vs : Nat) := by
        show (rw.length : Int) = _
        rw [hlr]
      have mt2 : many ⟨rw, tl, eh⟩ = rw.length := rfl
      refine ⟨by show 1 ≤ rw.length; omega, by show rw.length ≤ 24; omega, fun r hr => ?_, tl1, fun u hu => ?_, fun q hq => ?_, fun q hq => ?_⟩
      · rw [mt]
        exact (hrok r hr).1
      · rw [mt, tlok u hu]
        exact ⟨by rw [hlm], hmok⟩
      · rw [mt2]
        exact h1 q hq
      · rw [mt2]
        exact h2 q hq
    refine bh_ifr (th_eq ?_)
    refine eh_i2 (C := fun _ j => 0 < j) op_mod ?_
    refine eh_next (m := 0) Gx (hr.mono (by decide)) k__law_task__law_next rfl (.inr (.inl k__law_task__law_deck_here)) (by rw [t7.ep]; rfl) t7.ok (by omega) fun j30 dk30 hj30 t30 => ?_
    have t730 := t7.trans t30 (Int.le_refl _)
    refine ⟨_, rfl, eh_int ev_int ⟨2, rfl, by decide, _, rfl, eh_int ev_int ⟨0, rfl, fun _ => ?_, fun _ => ?_⟩⟩⟩
    · refine bh_ret (eh_ev (d := taskD ⟨rw, tl, none⟩) (ev_tup (ea_cons (ev_tupleL k__law_task_tuple B.tuple (ev_var (n := 8) rfl (.inl k__law_task__law_rows) rfl (zU.ex e22))) (ea_cons (ev_var (n := 20) rfl (.inl k__law_task__law_maps_by) rfl z20) (ea_cons ev_non (ea_cons ev_non ea_nil)))) (by simp)) fun v g31 e31 z31 H31 s31 => ?_)
      exact q v g31 dk30 _ (e1.trans (e2.trans (e3.trans (e4.trans (e6.trans (eg.trans (e20.trans (e21.trans (e22.trans e31))))))))) (t730.trans (Dk.To.refl t730.ok (Int.le_refl 0)) (by omega)) ⟨_, rfl, okT none (fun _ h => nomatch h) (fun _ h => nomatch h)⟩ z31 H31 s31
    · refine bh_unp (n := 2) rfl (pgs_cons (pg_name (i := 21) sc__law_task.nd rfl (.inl k__law_task__law_stops) (.inr k__law_task__law_stops)) (pgs_cons (pg_name (i := 22) sc__law_task.nd rfl (.inl k__law_task__law_fronts) (.inr k__law_task__law_fronts)) pgs_nil)) rfl rfl rfl rfl ?_
      refine eh_callM Ge (hr.mono (by decide)) k__law_task__law_ends (ea_cons (ev_var (n := 8) rfl (.inl k__law_task__law_rows) rfl (zU.ex e22)) ea_nil) ⟨rw, rfl, by omega, fun r hr => ⟨(hrok r hr).1.1, fun p hp => ⟨((hrok r hr).1.2.1 p hp).1, ((hrok r hr).1.2.1 p hp).2.1⟩⟩⟩ fun vE g31 dE e31 hE zE => ?_
      obtain ⟨rs3, st, fr, er3, rfl, st1, st2, st3, fr1, fr2⟩ := hE
      have lrs3 : rs3.length = rw.length := by
        injection er3 with er3 _
        injection er3 with er3
        have := congrArg List.length er3
        rw [List.length_map, List.length_map] at this
        omega
      rw [lrs3] at st1 st3 fr1 fr2
      cases zE with
      | tup sq tt =>
        obtain ⟨u1, u2, rfl, y1, y2⟩ := dn2 tt
        refine ⟨_, _, rfl, sq, rfl, _, fun H Q q => ⟨_, _, rfl, _, [], rfl, rfl, q⟩, ?_⟩
        refine bh_ret (eh_ev (d := taskD ⟨rw, tl, some (st, fr)⟩) (ev_tup (ea_cons (ev_tupleL k__law_task_tuple B.tuple (ev_var (n := 8) rfl (.inl k__law_task__law_rows) rfl (zU.ex (e22.trans e31)))) (ea_cons (ev_var (n := 20) rfl (.inl k__law_task__law_maps_by) rfl (z20.ex e31)) (ea_cons (ev_var (n := 21) rfl (.inl k__law_task__law_stops) rfl y1) (ea_cons (ev_var (n := 22) rfl (.inl k__law_task__law_fronts) rfl y2) ea_nil)))) (by simp)) fun v g32 e32 z32 H31 s31 => ?_)
        refine q v g32 dk30 _ (e1.trans (e2.trans (e3.trans (e4.trans (e6.trans (eg.trans (e20.trans (e21.trans (e22.trans (e31.trans e32)))))))))) (t730.trans (Dk.To.refl t730.ok (Int.le_refl 0)) (by omega)) ⟨_, rfl, okT (some (st, fr)) (fun q hq => ?_) (fun q hq => ?_)⟩ z32 H31 s31
        · cases hq
          exact ⟨st1, st2, by show st.length ≤ 100000; omega⟩
        · cases hq
          exact ⟨by show (fr.length : Int) = _; rw [fr1], fr2⟩
end
end K01

namespace K01
open PySem PySem.Spec PyProof.Rows L2 Sk
open Evl (Ex)

theorem isSt_tup (xs : List PyData) : isSt (.tuple xs) = ((decide ((1 : Int) ≤ xs.length) && decide ((xs.length : Int) ≤ 12)) && xs.all (inR 0 999)) := rfl
theorem filt_empty {α : Type} (p : α → Bool) : ∀ xs : List α, (xs.filter fun x => !p x).isEmpty = xs.all p
  | [] => rfl
  | x :: xs => by
    cases h : p x with
    | true =>
      rw [List.filter_cons_of_neg (by rw [h]; decide), List.all_cons, h, Bool.true_and]
      exact filt_empty p xs
    | false =>
      rw [List.filter_cons_of_pos (by rw [h]; rfl), List.all_cons, h]
      rfl
def anyD : List PyData → PyData → Prop := fun _ _ => True
section
variable {P : Program} {w : World} {K : PySem.W.Frag} {mg : Str → Option Value} {base : Heap}
abbrev s__law_whole : Stmt := topS 54
abbrev N__law_whole : List Str := ["_law_thing_here"]
abbrev p__law_whole : List Str := ["_law_thing_here"]
theorem sc__law_whole : FnScope N__law_whole p__law_whole (defScope s__law_whole) := ⟨rfl, rfl, rfl, by decide +kernel, rfl, by decide +kernel, by decide +kernel⟩
theorem k__law_whole__law_thing_here : List.lookup ("_law_thing_here" : Str) (defScope s__law_whole).names = some NameKind.local := by decide +kernel
theorem k__law_whole_isinstance : List.lookup ("isinstance" : Str) (defScope s__law_whole).names = some NameKind.globalImplicit := by decide +kernel
theorem k__law_whole_int : List.lookup ("int" : Str) (defScope s__law_whole).names = some NameKind.globalImplicit := by decide +kernel
theorem k__law_whole_bool : List.lookup ("bool" : Str) (defScope s__law_whole).names = some NameKind.globalImplicit := by decide +kernel
theorem t_law_whole (a : At K mg "_law_whole" s__law_whole) (B : Bi mg) : FnD P w K mg base 1 "_law_whole" fWhole := by
  refine FnD.mk' a sc__law_whole (fun _ _ _ _ _ _ us hl => match us, hl with | [_], _ => rfl) (by rintro _ _ ⟨x, rfl, rfl⟩; rfl) fun f cdv A outer s H E h vs ds d hr z hF => ?_
  obtain ⟨x, rfl, rfl⟩ := hF
  obtain ⟨v1, rfl, z1⟩ := dn1 z
  refine rt_ret (ev_is (ev_and2 (ev_isi B.isi B.int k__law_whole_isinstance k__law_whole_int b_int (by decide) (by decide) (ev_var (n := 0) rfl (.inl k__law_whole__law_thing_here) rfl z1) (kit_int _)) fun _ => ev_not (ev_isi B.isi B.bool k__law_whole_isinstance k__law_whole_bool b_bool (by decide) (by decide) (ev_var (n := 0) rfl (.inl k__law_whole__law_thing_here) rfl z1) (kit_bool _))) ?_)
  cases x <;> rfl
abbrev s__law_is_standing : Stmt := topS 55
abbrev N__law_is_standing : List Str := ["_law_thing_here", "_law_part_here"]
abbrev p__law_is_standing : List Str := ["_law_thing_here"]
theorem sc__law_is_standing : FnScope N__law_is_standing p__law_is_standing (defScope s__law_is_standing) := ⟨rfl, rfl, rfl, by decide +kernel, rfl, by decide +kernel, by decide +kernel⟩
theorem k__law_is_standing__law_thing_here : List.lookup ("_law_thing_here" : Str) (defScope s__law_is_standing).names = some NameKind.local := by decide +kernel
theorem k__law_is_standing_isinstance : List.lookup ("isinstance" : Str) (defScope s__law_is_standing).names = some NameKind.globalImplicit := by decide +kernel
theorem k__law_is_standing_tuple : List.lookup ("tuple" : Str) (defScope s__law_is_standing).names = some NameKind.globalImplicit := by decide +kernel
theorem k__law_is_standing_len : List.lookup ("len" : Str) (defScope s__law_is_standing).names = some NameKind.globalImplicit := by decide +kernel
theorem t_law_is_standing (a : At K mg "_law_is_standing" s__law_is_standing) (B : Bi mg) (Gw : FnD P w K mg base 1 "_law_whole" fWhole) : FnD P w K mg base 2 "_law_is_standing" fSt := by
  refine FnD.mk' a sc__law_is_standing (fun _ _ _ _ _ _ us hl => match us, hl with | [_], _ => rfl) (by rintro _ _ ⟨x, rfl, rfl⟩; rfl) fun f cdv A outer s H E h vs ds d hr z hF => ?_
  obtain ⟨x, rfl, rfl⟩ := hF
  obtain ⟨v1, rfl, z1⟩ := dn1 z
  cases hx : isT x with
  | false =>
    refine rt_if (t := true) (et_or3 (t := true) (u := true) (w := true) (et_not (t := false) (et_val (hx ▸ (ev_isi B.isi B.tuple k__law_is_standing_isinstance k__law_is_standing_tuple b_tuple (by decide) (by decide) (ev_var (n := 0) rfl (.inl k__law_is_standing__law_thing_here) rfl z1) (kit_tuple _))))) (fun z => nomatch z) (fun z => nomatch z)) (fun _ => rt_ret (ev_is ev_bl ?_)) (fun z => nomatch z)
    cases x <;> first | rfl | cases hx
  | true =>
    obtain ⟨xs, rfl⟩ := tup_of hx
    refine rt_if (t := decide ((xs.length : Int) = 0) || decide ((12 : Int) < xs.length)) ?_ (fun ht => rt_ret (ev_is ev_bl ?_)) (fun ht => ?_)
    · refine et_or3 (t := false) (et_not (t := true) (et_val (ev_isi B.isi B.tuple k__law_is_standing_isinstance k__law_is_standing_tuple b_tuple (by decide) (by decide) (ev_var (n := 0) rfl (.inl k__law_is_standing__law_thing_here) rfl z1) (kit_tuple _)))) (fun _ => et_eqI (ev_lenT k__law_is_standing_len B.len (ev_var (n := 0) rfl (.inl k__law_is_standing__law_thing_here) rfl z1)) ev_int) (fun _ _ => et_gt (ev_lenT k__law_is_standing_len B.len (ev_var (n := 0) rfl (.inl k__law_is_standing__law_thing_here) rfl z1)) ev_int)
    · rw [isSt_tup]
      have : (decide ((1 : Int) ≤ xs.length) && decide ((xs.length : Int) ≤ 12)) = false := by
        rcases Bool.or_eq_true_iff.mp ht with h | h
        · have := of_decide_eq_true h
          rw [decide_eq_false (by omega)]
          rfl
        · have := of_decide_eq_true h
          rw [decide_eq_false (p := (xs.length : Int) ≤ 12) (by omega), Bool.and_false]
      rw [this]
      rfl
    · have h1 := of_decide_eq_false (Bool.or_eq_false_iff.mp ht).1
      have h2 := of_decide_eq_false (Bool.or_eq_false_iff.mp ht).2
      refine rt_ret (ev_is (ev_eqNil (ds := (xs.filter fun d => !inR 0 999 d).map id) (Nat.lt_of_le_of_lt (Nat.le_add_right _ 64) hr.units) (ev_lc (n := 1) rfl sc__law_is_standing.nd (blkOk_by (N := N__law_is_standing) (sc := defScope s__law_is_standing) (by decide +kernel)) (fun _ _ _ _ _ => pg_name (i := 1) sc__law_is_standing.nd rfl (Or.inl rfl)) (ei_tup (ev_var (n := 0) rfl (.inl k__law_is_standing__law_thing_here) rfl z1)) (by omega) (fun d => !inR 0 999 d) id (fun d hd v h' e z s H C cl fp => ?_) (fun d hd _ v h' e z s H C cl fp => ?_))) ?_)
      · refine es_one ?_
        cases hw : isW d with
        | false =>
          have e1 : (!inR 0 999 d) = (!false || (false || false)) := by
            cases d <;> first | rfl | cases hw
          rw [e1]
          exact et_or3 (et_not (et_val (hw ▸ (ev_call Gw (hr.mono (by decide)) rfl (ea_cons (ev_var (n := 1) rfl (by first | exact .inl rfl | exact .inr (.inl rfl) | exact .inr (.inr rfl)) rfl z) ea_nil) ⟨_, rfl, rfl⟩)))) (fun z => nomatch z) (fun z => nomatch z)
        | true =>
          obtain ⟨i, rfl⟩ := whole_int hw
          have e1 : (!inR 0 999 (.int i)) = (!true || (decide (i < 0) || decide (999 < i))) := by
            show (!(decide (0 ≤ i) && decide (i ≤ 999))) = (false || (decide (i < 0) || decide (999 < i)))
            by_cases h0 : 0 ≤ i <;> by_cases h9 : i ≤ 999 <;> simp [h0, h9] <;> omega
          rw [e1]
          exact et_or3 (et_not (et_val (ev_call Gw (hr.mono (by decide)) rfl (ea_cons (ev_var (n := 1) rfl (by first | exact .inl rfl | exact .inr (.inl rfl) | exact .inr (.inr rfl)) rfl z) ea_nil) ⟨_, rfl, rfl⟩))) (fun _ => et_lt (ev_var (n := 1) rfl (by first | exact .inl rfl | exact .inr (.inl rfl) | exact .inr (.inr rfl)) rfl z) ev_int) (fun _ _ => et_gt (ev_var (n := 1) rfl (by first | exact .inl rfl | exact .inr (.inl rfl) | exact .inr (.inr rfl)) rfl z) ev_int)
      · exact (ev_var (n := 1) rfl (by first | exact .inl rfl | exact .inr (.inl rfl) | exact .inr (.inr rfl)) rfl z)
      · rw [isSt_tup, decide_eq_true (p := (1 : Int) ≤ xs.length) (by omega), decide_eq_true (p := (xs.length : Int) ≤ 12) (by omega), List.map_id, filt_empty]
        rfl
abbrev s__law_part : Stmt := topS 56
abbrev N__law_part : List Str := ["_law_deck_here", "_law_some_here", "_law_number"]
abbrev p__law_part : List Str := ["_law_deck_here"]
theorem sc__law_part : FnScope N__law_part p__law_part (defScope s__law_part) := ⟨rfl, rfl, rfl, by decide +kernel, rfl, by decide +kernel, by decide +kernel⟩
theorem k__law_part__law_deck_here : List.lookup ("_law_deck_here" : Str) (defScope s__law_part).names = some NameKind.local := by decide +kernel
theorem k__law_part__law_some_here : List.lookup ("_law_some_here" : Str) (defScope s__law_part).names = some NameKind.local := by decide +kernel
theorem k__law_part__law_number : List.lookup ("_law_number" : Str) (defScope s__law_part).names = some NameKind.local := by decide +kernel
theorem k__law_part__law_next : List.lookup ("_law_next" : Str) (defScope s__law_part).names = some NameKind.globalImplicit := by decide +kernel
theorem k__law_part_int : List.lookup ("int" : Str) (defScope s__law_part).names = some NameKind.globalImplicit := by decide +kernel
theorem t_law_part (a : At K mg "_law_part" s__law_part) (Gx : FnK P w K mg base 1 "_law_next" 1 noArg (drawn Dm)) (B : Bi mg) : FnK P w K mg base 2 "_law_part" 1 noArg anyD := by
  refine FnK.mk' a sc__law_part (fun _ _ _ _ _ _ us hl => match us, hl with | [_], _ => rfl) (by rintro _ rfl; rfl) fun f cdv Ar outer s H E g dk Fr ws ds D hr ok hn z hA q => ?_
  cases hA
  cases z
  refine bh_asg (n := 1) sc__law_part.nd rfl (.inl k__law_part__law_some_here) rfl (.inr k__law_part__law_some_here) (eh_ev (ev_lst (ea_cons ev_int (ea_cons ev_int (ea_cons ev_int (ea_cons (ev_neg ev_int) (ea_cons (ev_pow (n := 30) (by decide) ev_int ev_int) (ea_cons ev_bl (ea_cons ev_bl (ea_cons ev_non (ea_cons ev_str (ea_cons ev_str (ea_cons (ev_tup ea_nil (by simp)) (ea_cons (ev_tup (ea_cons ev_int ea_nil) (by simp)) (ea_cons (ev_lst ea_nil (by simp)) (ea_cons ev_dict0 (ea_cons ev_int (ea_cons ev_int ea_nil)))))))))))))))) (by simp)) fun v1 g1 e1 z1 => ?_)
  refine bh_asg (n := 2) sc__law_part.nd rfl (.inl k__law_part__law_number) rfl (.inr k__law_part__law_number) ?_
  refine eh_next (m := 0) Gx (hr.mono (by decide)) k__law_part__law_next rfl (.inl k__law_part__law_deck_here) rfl ok (by omega) fun j dk1 hj t1 => ?_
  have jm : j % 16 < 16 := Nat.mod_lt _ (by decide)
  refine bh_ret ?_
  obtain ⟨dd, hdd⟩ : ∃ dd, ([PyData.int 0, .int 999, .int 1000, .int (-1), .int (10 ^ 30), .bool true, .bool false, .none, .str "", .str "0", .tuple [], .tuple [.int 0], .list [], .dict [], .int 7, .int 998] : List PyData)[j % 16]? = some dd := ⟨_, List.getElem?_eq_getElem (by simpa using jm)⟩
  refine eh_ev (d := [PyData.int ((j : Int) / 16 % 1000), dd].getD (if decide ((j : Int) / 7 % 5 = 0) then 1 else 0) .none) (ev_ixL (n := if decide ((j : Int) / 7 % 5 = 0) then 1 else 0) (ev_lst (ea_cons (ev_mod (by decide) (ev_fdiv ⟨by decide, by decide⟩ (ev_var (n := 2) rfl (.inl k__law_part__law_number) rfl (.int _)) ev_int) ev_int) (ea_cons (ev_ixL (n := j % 16) (ev_var (n := 1) rfl (.inl k__law_part__law_some_here) rfl z1) (ev_is (ev_mod (by decide) (ev_var (n := 2) rfl (.inl k__law_part__law_number) rfl (.int _)) ev_int) (by rw [Int.natCast_emod]; rfl)) hdd (fun _ _ => rfl)) ea_nil)) (by simp)) (ev_is (ev_int1b k__law_part_int B.int (ev_eqI (ev_mod (by decide) (ev_fdiv ⟨by decide, by decide⟩ (ev_var (n := 2) rfl (.inl k__law_part__law_number) rfl (.int _)) ev_int) ev_int) ev_int)) ?_) ?_ (fun _ _ => rfl)) fun v g2 e2 z2 H2 s2 => q v g2 dk1 _ (e1.trans e2) t1 trivial z2 H2 s2
  · cases decide ((j : Int) / 7 % 5 = 0) <;> rfl
  · cases decide ((j : Int) / 7 % 5 = 0) <;> rfl
abbrev s__law_thing : Stmt := topS 57
abbrev N__law_thing : List Str := ["_law_deck_here", "_law_number", "_law_some_here", "_law_found", "_law_k"]
abbrev p__law_thing : List Str := ["_law_deck_here"]
theorem sc__law_thing : FnScope N__law_thing p__law_thing (defScope s__law_thing) := ⟨rfl, rfl, rfl, by decide +kernel, rfl, by decide +kernel, by decide +kernel⟩
theorem k__law_thing__law_deck_here : List.lookup ("_law_deck_here" : Str) (defScope s__law_thing).names = some NameKind.cell := by decide +kernel
theorem k__law_thing__law_number : List.lookup ("_law_number" : Str) (defScope s__law_thing).names = some NameKind.local := by decide +kernel
theorem k__law_thing__law_some_here : List.lookup ("_law_some_here" : Str) (defScope s__law_thing).names = some NameKind.local := by decide +kernel
theorem k__law_thing__law_found : List.lookup ("_law_found" : Str) (defScope s__law_thing).names = some NameKind.local := by decide +kernel
theorem k__law_thing__law_next : List.lookup ("_law_next" : Str) (defScope s__law_thing).names = some NameKind.globalImplicit := by decide +kernel
theorem k__law_thing_range : List.lookup ("range" : Str) (defScope s__law_thing).names = some NameKind.globalImplicit := by decide +kernel
theorem k__law_thing_tuple : List.lookup ("tuple" : Str) (defScope s__law_thing).names = some NameKind.globalImplicit := by decide +kernel
theorem k__law_thing_list : List.lookup ("list" : Str) (defScope s__law_thing).names = some NameKind.globalImplicit := by decide +kernel
theorem k__law_thing_int : List.lookup ("int" : Str) (defScope s__law_thing).names = some NameKind.globalImplicit := by decide +kernel
theorem t_law_thing (a : At K mg "_law_thing" s__law_thing) (Gx : FnK P w K mg base 1 "_law_next" 1 noArg (drawn Dm)) (B : Bi mg) (Gp : FnK P w K mg base 2 "_law_part" 1 noArg anyD) (m_range : mg "range" = none) (m_list : mg "list" = none) : FnK P w K mg base 3 "_law_thing" 20 noArg anyD := by
  refine FnK.mk' a sc__law_thing (fun _ _ _ _ _ _ us hl => match us, hl with | [_], _ => rfl) (by rintro _ rfl; rfl) fun f cdv Ar outer s H E g dk Fr ws ds D hr ok hn z hA q => ?_
  cases hA
  cases z
  refine bh_asg (n := 1) sc__law_thing.nd rfl (.inl k__law_thing__law_number) rfl (.inr k__law_thing__law_number) ?_
  refine eh_next (m := 0) Gx (hr.mono (by decide)) k__law_thing__law_next rfl (.inr (.inl k__law_thing__law_deck_here)) rfl ok (by omega) fun j dk1 hj t1 => ?_
  have tn1 := t1.n
  refine bh_asg (n := 2) sc__law_thing.nd rfl (.inl k__law_thing__law_some_here) rfl (.inr k__law_thing__law_some_here) (eh_ev (ev_lst (ea_cons ev_non (ea_cons ev_bl (ea_cons ev_int (ea_cons ev_str (ea_cons ev_str (ea_cons (ev_lst ea_nil (by simp)) (ea_cons (ev_lst (ea_cons ev_int ea_nil) (by simp)) (ea_cons ev_dict0 (ea_cons (ev_tup ea_nil (by simp)) (ea_cons (ev_tup (ea_cons (ev_tup (ea_cons ev_int ea_nil) (by simp)) ea_nil) (by simp)) (ea_cons (ev_tup (ea_cons (ev_tup (ea_cons ev_int (ea_cons ev_int ea_nil)) (by simp)) (ea_cons ev_int ea_nil)) (by simp)) (ea_cons (ev_neg ev_int) ea_nil)))))))))))) (by simp)) fun v1 g1 e1 z1 => ?_)
  refine bh_ifr (th_ev (et_eqI (ev_mod (by decide) (ev_var (n := 1) rfl (.inl k__law_thing__law_number) rfl (.int _)) ev_int) ev_int) ⟨fun _ => ?_, fun _ => ?_⟩)
  · have jm : j / 5 % 12 < 12 := Nat.mod_lt _ (by decide)
    refine bh_ret (eh_ev (ev_ixL (n := j / 5 % 12) (ev_var (n := 2) rfl (.inl k__law_thing__law_some_here) rfl z1) (ev_is (ev_mod (by decide) (ev_fdiv ⟨by decide, by decide⟩ (ev_var (n := 1) rfl (.inl k__law_thing__law_number) rfl (.int _)) ev_int) ev_int) (by rw [Int.natCast_emod, Int.natCast_ediv]; rfl)) (List.getElem?_eq_getElem (by simpa using jm)) (fun _ _ => rfl)) fun v g2 e2 z2 H2 s2 => q v g2 dk1 _ (e1.trans e2) (t1.trans (Dk.To.refl t1.ok (Int.le_refl 0)) (by omega)) trivial z2 H2 s2)
  · have jm : j / 5 % 14 < 14 := Nat.mod_lt _ (by decide)
    refine bh_setLcK (own := [("_law_k", 4)]) (tgg := gName 4) (i := 3) rfl sc__law_thing.nd rfl k__law_thing__law_found rfl (blkOk_by (N := N__law_thing) (sc := defScope s__law_thing) (by decide +kernel)) (fun _ _ _ _ _ => pg_name (i := 4) sc__law_thing.nd rfl (Or.inl rfl))
      (ei_range (n := j / 5 % 14) k__law_thing_range m_range (ev_is (ev_mod (by decide) (ev_fdiv ⟨by decide, by decide⟩ (ev_var (n := 1) rfl (.inl k__law_thing__law_number) rfl (.int _)) ev_int) ev_int) (by rw [Int.natCast_emod, Int.natCast_ediv]; rfl)) (by omega)) (by simp; omega)
      (fun i acc g' R' => acc.length = i ∧ ∃ dk' ds, R' = Dk.R dk' ++ Fr ∧ Dk.To (1 + (i : Int)) dk dk' ∧ DnAll K g' acc ds)
      (fun g' e => ⟨rfl, dk1, [], rfl, t1.trans (Dk.To.refl t1.ok (Int.le_refl 0)) (by omega), .nil⟩) (fun i acc g' R' h => h.1)
      (fun i d hdi l acc g' R' eg hI v g2 H2 e2 e3 zv => ?_) (fun l acc g' R' eg hI => ?_)
    · obtain ⟨hl, dk2, ds, rfl, t2, hA⟩ := hI
      have im : i < 14 := by
        have := (List.getElem?_eq_some_iff.mp hdi).1
        simp at this
        omega
      have tn2 := t2.n
      refine ⟨_, ?_, fun C hC => hC, fun s H C cl fp => ⟨Dk.R dk2 ++ (l, .lst acc) :: Fr, List.perm_middle.symm, ?_⟩⟩
      · rw [wipe_set (by simp)]
        exact wipe_wipe
      · refine eh_callK (m := 0) Gp (hr.mono (by decide)) rfl rfl (by first | exact .inl rfl | exact .inr (.inl rfl) | exact .inr (.inr rfl)) (by rw [t2.ep]; rfl) ea_nil t2.ok (by omega) rfl fun u g3 dk3 d3 e3 t3 _ z3 => ?_
        exact ⟨Dk.R dk3 ++ Fr, List.perm_middle, e2.trans e3, by rw [List.length_append, hl]; rfl, dk3, ds ++ [d3], rfl, t2.trans t3 (by omega), (hA.ex (e2.trans e3)).snoc z3⟩
    · obtain ⟨hl, dk2, ds, rfl, t2, hA⟩ := hI
      have ll : ((List.range (j / 5 % 14)).map fun i => PyData.int (i : Nat)).length = j / 5 % 14 := by simp
      rw [ll] at t2 hl
      refine bh_keep fun e4 => ?_
      have z3 : Dn K (upd g' l (.lst acc)) (.ref l) (.list ds) := .lst (Evl.sq_of upd_same) (hA.ex e4)
      refine bh_ret ?_
      refine eh_ev (d := [PyData.tuple ds, .list ds].getD (if decide ((j : Int) / 70 % 9 = 0) then 1 else 0) .none) (ev_ixL (n := if decide ((j : Int) / 70 % 9 = 0) then 1 else 0) (ev_lst (ea_cons (ev_tupleL k__law_thing_tuple B.tuple (ev_var (n := 3) rfl (.inl k__law_thing__law_found) rfl z3)) (ea_cons (ev_listL k__law_thing_list m_list (ev_var (n := 3) rfl (.inl k__law_thing__law_found) rfl z3)) ea_nil)) (by simp)) (ev_is (ev_int1b k__law_thing_int B.int (ev_eqI (ev_mod (by decide) (ev_fdiv ⟨by decide, by decide⟩ (ev_var (n := 1) rfl (.inl k__law_thing__law_number) rfl (.int _)) ev_int) ev_int) ev_int)) ?_) ?_ (fun _ _ => rfl)) fun v g2 e2 z2 H2 s2 => q v g2 dk2 _ (e1.trans (eg.trans (e4.trans e2))) (t2.trans (Dk.To.refl t2.ok (Int.le_refl 0)) (by omega)) trivial z2 H2 s2
      · cases decide ((j : Int) / 70 % 9 = 0) <;> rfl
      · cases decide ((j : Int) / 70 % 9 = 0) <;> rfl
end
end K01

namespace K01
open PySem PySem.Spec PyProof.Rows L2 Sk
open Evl (Ex)

theorem putF_len (f : Str) (v : V) : ∀ fs : List (Str × V), (putF f v fs).length ≤ fs.length + 1
  | [] => Nat.le_refl _
  | (q, x) :: r => by
    unfold putF
    split
    · exact Nat.le_succ _
    · exact Nat.succ_le_succ (putF_len f v r)
def fldsT (v1 v2 v3 v4 : V) : List (Str × V) := putF "heads" v4 (putF "targets" v3 (putF "maps" v2 (putF "table" v1 [])))
theorem fldsT_table (v1 v2 v3 v4 : V) : (fldsT v1 v2 v3 v4).lookup ("table" : Str) = some v1 := by
  unfold fldsT
  rw [lookup_putF, if_neg (by decide +kernel), lookup_putF, if_neg (by decide +kernel), lookup_putF, if_neg (by decide +kernel), lookup_putF, if_pos rfl]
theorem fldsT_has (v1 v2 v3 v4 : V) : (fldsT v1 v2 v3 v4).lookup ("has" : Str) = none := by
  unfold fldsT
  rw [lookup_putF, if_neg (by decide +kernel), lookup_putF, if_neg (by decide +kernel), lookup_putF, if_neg (by decide +kernel), lookup_putF, if_neg (by decide +kernel)]
  rfl
structure TxtT (K : PySem.W.Frag) (mg : Str → Option Value) (C : Addr) : Prop where
  cl : L2.Cls K C
  nT : NoAttr K C "table"
  nM : NoAttr K C "maps"
  nE : NoAttr K C "targets"
  nH : NoAttr K C "heads"
  mgC : mg "Told" = some (.ref C)
def hasN (n : Int) (d : PyData) : Bool := isSt d && (match d with
  | .tuple [.int i] => decide (i < n)
  | _ => false)
theorem isSt_ints {xs : List PyData} (h : isSt (.tuple xs) = true) : ∀ x ∈ xs, ∃ i, x = .int i := fun x hx => by
  rw [isSt_tup, Bool.and_eq_true] at h
  have := List.all_eq_true.mp h.2 x hx
  cases x <;> first | exact ⟨_, rfl⟩ | cases this
theorem isSt_T {d : PyData} (h : isSt d = true) : ∃ xs, d = .tuple xs := by
  cases d <;> first | exact ⟨_, rfl⟩ | cases h
theorem ev_due {X : Cx} {a b c : Expr} {σ : L2.St} {h : Hp} {d : PyData} {n : Int} {pos : Pos} (za : Ev X a σ h (.bool (isSt d))) (zb : ∀ xs, d = .tuple xs → Ev X b σ h (.bool (decide ((xs.length : Int) = 1)))) (zc : ∀ i, d = .tuple [.int i] → Ev X c σ h (.bool (decide (i < n)))) : Ev X (.BoolOp .And [a, b, c] pos) σ h (.bool (hasN n d)) := by
  unfold hasN
  cases hs : isSt d with
  | false =>
    rw [hs] at za
    exact ev_and3 (t := false) (u := false) (w := false) za (fun z => nomatch z) (fun z => nomatch z)
  | true =>
    rw [hs] at za
    obtain ⟨xs, rfl⟩ := isSt_T hs
    have zb := zb xs rfl
    by_cases hl : xs.length = 1
    · obtain ⟨x, rfl⟩ := List.length_eq_one_iff.mp hl
      obtain ⟨i, rfl⟩ := isSt_ints hs x (List.mem_singleton.mpr rfl)
      exact ev_and3 (t := true) (u := true) (w := decide (i < n)) za (fun _ => zb) (fun _ _ => zc i rfl)
    · have e1 : decide ((xs.length : Int) = 1) = false := decide_eq_false (by omega)
      rw [e1] at zb
      have e2 : (match PyData.tuple xs with
        | .tuple [.int i] => decide (i < n)
        | _ => false) = false := by
        match xs, hl with
        | [], _ => rfl
        | [_], hl => exact absurd rfl hl
        | x :: _ :: _, _ => cases x <;> rfl
      rw [e2]
      exact ev_and3 (t := true) (u := false) (w := false) za (fun _ => zb) (fun _ z => nomatch z)
theorem kbn_of {K : PySem.W.Frag} {x qual : Str} {st : Stmt} {f : Addr} {fd : FuncData} {ps ks : List Str} {n : Nat} (F : Fun K x qual st f fd)
    (h : ∀ (kV doc pm : Value) (an : Option Addr) (cdv ct : Value) (us ws : List Value), us.length = n → ws.length = ks.length → bindArgs (PySem.W.fnOf x qual (defArgs st) (defBody st) (defScope st) .none kV doc pm an cdv ct) ⟨us, ks.zip ws⟩ = pure (ps.zip (us ++ ws))) :
    KBn K fd ps n ks (fun us ws => us ++ ws) (fun vs zs => vs ++ zs) := by
  obtain ⟨oc, od, kV, doc, pm, an, cdv, ct, osl, rfl, lk, hcd⟩ := F.ex
  exact ⟨fun s us ws X l1 l2 => .of_eq (h kV doc pm an cdv ct us ws l1 l2), fun r1 r2 => r1.append r2⟩
def spInit (K : PySem.W.Frag) (C : Addr) : Sp := fun vs H Q _ => ∃ (g : Hp) (R : Rl) (p dx : Addr) (v1 v2 v3 v4 : V) (t : Tsk), vs = [.ref p, v1, v2, v3, v4] ∧ Sh g ((p, .ins C dx []) :: R) H ∧ DnAll K g [v1, v2, v3, v4] [rowsD t, turnsD t, endsD t, headsD t] ∧ OkT t ∧
  ∀ g' H', Ex g g' → Sh g' ((p, .ins C dx (fldsT v1 v2 v3 v4)) :: R) H' → Q .non H'
def spHas (K : PySem.W.Frag) (C : Addr) : Sp := fun vs H Q _ => ∃ (h : Hp) (p dx : Addr) (v1 v2 v3 v4 v : V) (t : Tsk) (d : PyData), vs = [.ref p, v] ∧ Ex h H ∧ h p = some (.ins C dx (fldsT v1 v2 v3 v4)) ∧ Dn K h v1 (rowsD t) ∧ Dn K h v d ∧ ∀ H', Ex H H' → Q (.bl (hasN t.rows.length d)) H'
def spMk (K : PySem.W.Frag) (C : Addr) : Sp := fun vs H Q _ => ∃ (g : Hp) (R : Rl) (v : V) (t : Tsk), vs = [v] ∧ Sh g R H ∧ Dn K g v (taskD t) ∧ OkT t ∧
  ∀ (g' H' : Hp) (p dx : Addr) (v1 v2 v3 v4 : V), Ex g g' → Sh g' R H' → g' p = some (.ins C dx (fldsT v1 v2 v3 v4)) → Dn K g' v1 (rowsD t) → Q (.ref p) H'
section
variable {P : Program} {w : World} {K : PySem.W.Frag} {mg : Str → Option Value} {base : Heap}
abbrev s_Told___init__ : Stmt := inClass (topS 41) 0
abbrev N_Told___init__ : List Str := ["self", "rows", "turns", "ends", "heads", "place"]
abbrev p_Told___init__ : List Str := ["self", "rows", "turns", "ends", "heads"]
theorem sc_Told___init__ : FnScope N_Told___init__ p_Told___init__ (defScope s_Told___init__) := ⟨rfl, rfl, rfl, by decide +kernel, rfl, by decide +kernel, by decide +kernel⟩
theorem k_Told___init___self : List.lookup ("self" : Str) (defScope s_Told___init__).names = some NameKind.local := by decide +kernel
theorem k_Told___init___rows : List.lookup ("rows" : Str) (defScope s_Told___init__).names = some NameKind.local := by decide +kernel
theorem k_Told___init___turns : List.lookup ("turns" : Str) (defScope s_Told___init__).names = some NameKind.local := by decide +kernel
theorem k_Told___init___ends : List.lookup ("ends" : Str) (defScope s_Told___init__).names = some NameKind.local := by decide +kernel
theorem k_Told___init___heads : List.lookup ("heads" : Str) (defScope s_Told___init__).names = some NameKind.local := by decide +kernel
theorem k_Told___init___place : List.lookup ("place" : Str) (defScope s_Told___init__).names = some NameKind.local := by decide +kernel
theorem k_Told___init___wrong_place : List.lookup ("wrong_place" : Str) (defScope s_Told___init__).names = some NameKind.globalImplicit := by decide +kernel
theorem k_Told___init___BadTask : List.lookup ("BadTask" : Str) (defScope s_Told___init__).names = some NameKind.globalImplicit := by decide +kernel
theorem ok_init {f C : Addr} {fd : FuncData} (F : Fun K "__init__" "Told.__init__" s_Told___init__ f fd) (T : TxtT K mg C) (Gwp : FnD P w K mg base 6 "wrong_place" fPlace) : FnOk P w K mg base CX0 7 f fd p_Told___init__ (spInit K C) := by
  refine F.ok sc_Told___init__ (fun vs H Q E h => ?_) (fun cdv A outer s H vs Q E hr h => ?_)
  · obtain ⟨g, R, p, dx, v1, v2, v3, v4, t, rfl, _⟩ := h
    rfl
  · obtain ⟨g, R, p, dx, v1, v2, v3, v4, t, rfl, sh, z, okt, k⟩ := h
    obtain ⟨w1, w2, w3, w4, ew, y1, y2, y3, y4⟩ := dn4 z
    injection ew with e1 ew
    injection ew with e2 ew
    injection ew with e3 ew
    injection ew with e4 _
    subst e1 e2 e3 e4
    have main : BH (Cf P w K mg base N_Told___init__ "Told.__init__" s_Told___init__ f cdv A outer s H E) (defBody s_Told___init__) { nx := fun _ H' => Q .non H', rt := Q } (start N_Told___init__ [.ref p, v1, v2, v3, v4]) g ((p, .ins C dx []) :: R) := by
      refine bh_asg (n := 5) sc_Told___init__.nd rfl (.inl k_Told___init___place) rfl (.inr k_Told___init___place) (eh_ev (ev_call Gwp (hr.mono (by decide)) k_Told___init___wrong_place (ea_cons (ev_var (n := 1) rfl (.inl k_Told___init___rows) rfl y1) (ea_cons (ev_var (n := 2) rfl (.inl k_Told___init___turns) rfl y2) (ea_cons (ev_var (n := 3) rfl (.inl k_Told___init___ends) rfl y3) (ea_cons (ev_var (n := 4) rfl (.inl k_Told___init___heads) rfl y4) ea_nil)))) ⟨t, rfl, okt, rfl⟩) fun v g1 e1 z1 => ?_)
      refine bh_ifr (th_ev (et_notN (ev_var (n := 5) rfl (.inl k_Told___init___place) rfl z1)) ⟨fun z => absurd z (by decide), fun _ => ?_⟩)
      have l1 : (putF "table" v1 []).length ≤ 1 := Nat.le_refl _
      have l2 : (putF "maps" v2 (putF "table" v1 [])).length ≤ 2 := Nat.le_trans (putF_len _ _ _) (by omega)
      have l3 : (putF "targets" v3 (putF "maps" v2 (putF "table" v1 []))).length ≤ 3 := Nat.le_trans (putF_len _ _ _) (by omega)
      refine bh_fld (k := 0) T.cl T.nT (by decide) (eh_var (n := 1) rfl (.inl k_Told___init___rows) rfl ⟨rfl, eh_var (n := 0) rfl (.inl k_Told___init___self) rfl ⟨rfl, rfl, ?_⟩⟩)
      refine bh_fld (k := 0) T.cl T.nM (by omega) (eh_var (n := 2) rfl (.inl k_Told___init___turns) rfl ⟨rfl, eh_var (n := 0) rfl (.inl k_Told___init___self) rfl ⟨rfl, rfl, ?_⟩⟩)
      refine bh_fld (k := 0) T.cl T.nE (by omega) (eh_var (n := 3) rfl (.inl k_Told___init___ends) rfl ⟨rfl, eh_var (n := 0) rfl (.inl k_Told___init___self) rfl ⟨rfl, rfl, ?_⟩⟩)
      refine bh_fld (k := 0) T.cl T.nH (by omega) (eh_var (n := 4) rfl (.inl k_Told___init___heads) rfl ⟨rfl, eh_var (n := 0) rfl (.inl k_Told___init___self) rfl ⟨rfl, rfl, ?_⟩⟩)
      exact bh_nil fun H' s' => k g1 H' e1 s'
    exact ⟨_, WS.ps, main H sh⟩
abbrev s_Told_has : Stmt := inClass (topS 41) 5
abbrev N_Told_has : List Str := ["self", "thing"]
abbrev p_Told_has : List Str := ["self", "thing"]
theorem sc_Told_has : FnScope N_Told_has p_Told_has (defScope s_Told_has) := ⟨rfl, rfl, rfl, by decide +kernel, rfl, by decide +kernel, by decide +kernel⟩
theorem k_Told_has_self : List.lookup ("self" : Str) (defScope s_Told_has).names = some NameKind.local := by decide +kernel
theorem k_Told_has_thing : List.lookup ("thing" : Str) (defScope s_Told_has).names = some NameKind.local := by decide +kernel
theorem k_Told_has_is_standing : List.lookup ("is_standing" : Str) (defScope s_Told_has).names = some NameKind.globalImplicit := by decide +kernel
theorem k_Told_has_len : List.lookup ("len" : Str) (defScope s_Told_has).names = some NameKind.globalImplicit := by decide +kernel
theorem ok_has {f C : Addr} {fd : FuncData} (F : Fun K "has" "Told.has" s_Told_has f fd) (T : TxtT K mg C) (B : Bi mg) (Gs : FnD P w K mg base 2 "is_standing" fSt) : FnOk P w K mg base CX0 3 f fd p_Told_has (spHas K C) := by
  refine F.ok sc_Told_has (fun vs H Q E h => ?_) (fun cdv A outer s H vs Q E hr h => ?_)
  · obtain ⟨h, p, dx, v1, v2, v3, v4, v, t, d, rfl, _⟩ := h
    rfl
  · obtain ⟨h, p, dx, v1, v2, v3, v4, v, t, d, rfl, ex, hp, zt, zd, k⟩ := h
    have main : Rt (Cf P w K mg base N_Told_has "Told.has" s_Told_has f cdv A outer s H E) (defBody s_Told_has) (start N_Told_has [.ref p, v]) h (.bool (hasN t.rows.length d)) := by
      refine rt_ret (ev_due (ev_call Gs (hr.mono (by decide)) k_Told_has_is_standing (ea_cons (ev_var (n := 1) rfl (.inl k_Told_has_thing) rfl zd) ea_nil) ⟨_, rfl, rfl⟩) (fun xs ed => ?_) (fun i ed => ?_))
      · subst ed
        exact ev_eqI (ev_lenT k_Told_has_len B.len (ev_var (n := 1) rfl (.inl k_Told_has_thing) rfl zd)) ev_int
      · subst ed
        refine ev_lt (ev_ixT (n := 0) (ev_var (n := 1) rfl (.inl k_Told_has_thing) rfl zd) ev_int rfl (fun _ _ => rfl)) (ev_is (ev_lenT (ds := t.rows.map rowD) k_Told_has_len B.len (ev_fldV (n := 0) rfl (.inl k_Told_has_self) rfl hp T.cl T.nT (fldsT_table v1 v2 v3 v4) zt)) ?_)
        rw [List.length_map]
    refine ⟨_, WS.ps, main H ex _ fun u g H' r z => ?_⟩
    cases z
    exact k H' r.a
theorem ev_has {X : Cx} {f C : Addr} {fd : FuncData} {n : Nat} {x : Str} {px pa pos : Pos} {e : Expr} {σ : L2.St} {h : Hp} {p dx : Addr} {v1 v2 v3 v4 : V} {t : Tsk} {d : PyData} {pl : Sem Bool} (G : FnOk X.prog X.w X.K X.mg X.base CX0 3 f fd p_Told_has (spHas X.K C)) (hr : Room 3 X.A) (T : TxtT X.K X.mg C) (M : Meth X.K C "has" f) (hb : Binds X.K fd p_Told_has [])
    (hN : X.N[n]? = some x) (hv : Vis X.env.scope x) (hs : σ[n]? = some (some (.ref p))) (ho : h p = some (.ins C dx (fldsT v1 v2 v3 v4))) (zt : Dn X.K h v1 (rowsD t)) (z : Ev X e σ h d)
    (ht : eval (.Call (.Attribute (.Name x px) "has" pa) [e] [] pos) X.env = (do
      let ov ← eval (.Name x px) X.env
      standAt pa.atName
      let (f, first) ← holding [ov] (getMethod ov "has" pl)
      callWith pos f first (backTo pos (starEach [e] X.env)) (backToKw pos (keywordEach [] X.env))))
    (hd : (x == ("__debug__" : Str)) = false := by decide) (hcd : (x == ("__classdict__" : Str)) = false := by decide) (hst : starEach [e] X.env = (false, eval e X.env) :: starEach [] X.env := by rfl) (hpl : (backTo pos (starEach [] X.env)).any (·.1) = false := by rfl) : Ev X (.Call (.Attribute (.Name x px) "has" pa) [e] [] pos) σ h (.bool (hasN t.rows.length d)) := fun H y Q q =>
  .of (pe_meth (pl := pl) (pe_var hN hv hd hcd) T.cl M G hr hb .nil pass0 WA.pa hst hpl ht) ⟨_, hs, p, dx, _, rfl, y _ _ ho, fldsT_has v1 v2 v3 v4, (ea_cons z ea_nil hst) H y _ fun vs g H1 r1 z1 => by
    obtain ⟨u, rfl, zu⟩ := dn1 z1
    exact ⟨g, p, dx, v1, v2, v3, v4, u, t, d, rfl, r1.c, r1.b _ _ ho, zt.ex r1.b, zu, fun H' e' => q _ g H' (r1.trans ⟨e', Evl.Ex.refl g, r1.c.trans e', fun _ _ z => .inl z⟩) (.bl _)⟩⟩
abbrev s__law_told : Stmt := topS 53
abbrev N__law_told : List Str := ["_law_data"]
abbrev p__law_told : List Str := ["_law_data"]
theorem sc__law_told : FnScope N__law_told p__law_told (defScope s__law_told) := ⟨rfl, rfl, rfl, by decide +kernel, rfl, by decide +kernel, by decide +kernel⟩
theorem k__law_told__law_data : List.lookup ("_law_data" : Str) (defScope s__law_told).names = some NameKind.local := by decide +kernel
theorem k__law_told_Told : List.lookup ("Told" : Str) (defScope s__law_told).names = some NameKind.globalImplicit := by decide +kernel
theorem ok_told {f C f2 : Addr} {fd fd2 : FuncData} (F : Fun K "_law_told" "_law_told" s__law_told f fd) (T : TxtT K mg C) (M : Mk K C f2) (FI : Fun K "__init__" "Told.__init__" s_Told___init__ f2 fd2) (G : FnOk P w K mg base CX0 7 f2 fd2 p_Told___init__ (spInit K C)) : FnOk P w K mg base CX0 9 f fd p__law_told (spMk K C) := by
  have hb : KBn K fd2 p_Told___init__ 2 ["turns", "ends", "heads"] (fun us ws => us ++ ws) (fun vs zs => vs ++ zs) := kbn_of FI fun kV doc pm an cdv ct us ws h1 h2 => by
    match us, h1, ws, h2 with
    | [_, _], _, [_, _, _], _ => rfl
  refine F.ok sc__law_told (fun vs H Q E h => ?_) (fun cdv A outer s H vs Q E hr h => ?_)
  · obtain ⟨g, R, v, t, rfl, _⟩ := h
    rfl
  · obtain ⟨g, R, v, t, rfl, sh, zd, okt, k⟩ := h
    refine ⟨_, pss_one (ps_ret (pe_makeK (n := 1) M G hr k__law_told_Told T.mgC hb pass0 WA.pa (pk_cons WE.pe (pk_cons WE.pe (pk_cons WE.pe pk_nil))))), ?_⟩
    refine (ea_cons (ev_ixT (n := 0) (ev_var (n := 0) rfl (.inl k__law_told__law_data) rfl zd) ev_int rfl (fun _ _ => rfl)) ea_nil) H sh.ex _ fun vs g1 H1 r1 z1 => ?_
    obtain ⟨u1, rfl, y1⟩ := dn1 z1
    refine (show Ev (Cf P w K mg base N__law_told "_law_told" s__law_told f cdv A outer s H E) _ _ g (turnsD t) from (ev_ixT (n := 1) (ev_var (n := 0) rfl (.inl k__law_told__law_data) rfl zd) ev_int rfl (fun _ _ => rfl))).up r1.b H1 r1.c _ fun u2 g2 H2 r2 y2 => ?_
    refine (show Ev (Cf P w K mg base N__law_told "_law_told" s__law_told f cdv A outer s H E) _ _ g (endsD t) from (ev_ixT (n := 2) (ev_var (n := 0) rfl (.inl k__law_told__law_data) rfl zd) ev_int rfl (fun _ _ => rfl))).up (r1.trans r2).b H2 r2.c _ fun u3 g3 H3 r3 y3 => ?_
    refine (show Ev (Cf P w K mg base N__law_told "_law_told" s__law_told f cdv A outer s H E) _ _ g (headsD t) from (ev_ixT (n := 3) (ev_var (n := 0) rfl (.inl k__law_told__law_data) rfl zd) ev_int rfl (fun _ _ => rfl))).up ((r1.trans r2).trans r3).b H3 r3.c _ fun u4 g4 H4 r4 y4 => ?_
    refine ⟨rfl, rfl, fun x dx nx ndx ne => ?_⟩
    have r14 := (((r1.trans r2).trans r3).trans r4)
    have s4 := sh.rs r14
    have s5 : Sh g4 ((x, .ins C dx []) :: (dx, .own x) :: R) (upd (upd H4 dx (.own x)) x (.ins C dx [])) := (s4.new ndx).new (by rw [upd_ne (Ne.symm ne)]; exact nx)
    refine ⟨g4, _, x, dx, u1, u2, u3, u4, t, rfl, s5, .cons (y1.ex (r2.trans (r3.trans r4)).b) (.cons (y2.ex (r3.trans r4).b) (.cons (y3.ex r4.b) (.cons y4 .nil))), okt, fun g5 H5 e5 s6 => ⟨rfl, ?_⟩⟩
    have s7 := s6.keep
    exact k _ H5 x dx u1 u2 u3 u4 (r14.b.trans (e5.trans s7.2)) s7.1.drop upd_same (y1.ex ((r2.trans (r3.trans r4)).b.trans (e5.trans s7.2)))
end
end K01

namespace K01
open PySem PySem.Spec PyProof.Rows L2 Sk
open Evl (Ex)

def spDeck (K : PySem.W.Frag) : Sp := fun vs H Q _ => ∃ (g : Hp) (R : Rl) (a : Addr) (ns : List Int), vs = [.ref a] ∧ Sh g R H ∧ Dn K g (.ref a) (.list (ns.map .int)) ∧ ns.length ≤ 63 ∧
  ∀ (g' : Hp) (dk : Dk) (H' : Hp), Ex g g' → Sh g' (Dk.R dk ++ R) H' → dk.Ok → dk.n = 0 → Q (.ref dk.p) H'
theorem mod_ok (z : Int) : 0 ≤ z % 2147483629 ∧ z % 2147483629 < Dm := ⟨Int.emod_nonneg _ (by decide), Int.emod_lt_of_pos _ (by decide)⟩
theorem snoc_ok {l : List Int} {z : Int} (h : ∀ c ∈ l, 0 ≤ c ∧ c < Dm) (hz : 0 ≤ z ∧ z < Dm) : ∀ c ∈ l ++ [z], 0 ≤ c ∧ c < Dm := fun c hc => by
  rcases List.mem_append.mp hc with hc | hc
  · exact h c hc
  · rw [List.mem_singleton.mp hc]
    exact hz
section
variable {P : Program} {w : World} {K : PySem.W.Frag} {mg : Str → Option Value} {base : Heap}
abbrev s__law_deck : Stmt := topS 43
abbrev N__law_deck : List Str := ["_law_script", "_law_digits", "_law_cells", "_law_cell"]
abbrev p__law_deck : List Str := ["_law_script"]
theorem sc__law_deck : FnScope N__law_deck p__law_deck (defScope s__law_deck) := ⟨rfl, rfl, rfl, by decide +kernel, rfl, by decide +kernel, by decide +kernel⟩
theorem k__law_deck__law_script : List.lookup ("_law_script" : Str) (defScope s__law_deck).names = some NameKind.local := by decide +kernel
theorem k__law_deck__law_digits : List.lookup ("_law_digits" : Str) (defScope s__law_deck).names = some NameKind.local := by decide +kernel
theorem k__law_deck__law_cells : List.lookup ("_law_cells" : Str) (defScope s__law_deck).names = some NameKind.local := by decide +kernel
theorem k__law_deck__law_cell : List.lookup ("_law_cell" : Str) (defScope s__law_deck).names = some NameKind.local := by decide +kernel
theorem k__law_deck_len : List.lookup ("len" : Str) (defScope s__law_deck).names = some NameKind.globalImplicit := by decide +kernel
theorem k__law_deck_abs : List.lookup ("abs" : Str) (defScope s__law_deck).names = some NameKind.globalImplicit := by decide +kernel
theorem ok_deck {f : Addr} {fd : FuncData} (F : Fun K "_law_deck" "_law_deck" s__law_deck f fd) (B : Bi mg) (m_abs : mg "abs" = none) : FnOk P w K mg base CX0 1 f fd p__law_deck (spDeck K) := by
  refine F.ok sc__law_deck (fun vs H Q E h => ?_) (fun cdv A outer s H vs Q E hr h => ?_)
  · obtain ⟨g, R, a, ns, rfl, _⟩ := h
    rfl
  · obtain ⟨g, R, a, ns, rfl, sh, zs, hl, kk⟩ := h
    have main : BH (Cf P w K mg base N__law_deck "_law_deck" s__law_deck f cdv A outer s H E) (defBody s__law_deck) { nx := fun _ H' => Q .non H', rt := Q } (start N__law_deck [.ref a]) g R := by
      refine bh_asg (n := 1) sc__law_deck.nd rfl (.inl k__law_deck__law_digits) rfl (.inr k__law_deck__law_digits) (eh_lst (ah_nil ⟨Nat.zero_le _, fun lq => ?_⟩))
      refine bh_asg (n := 2) sc__law_deck.nd rfl (.inl k__law_deck__law_cells) rfl (.inr k__law_deck__law_cells) (eh_lst (ah_cons (eh_int (ev_lenL k__law_deck_len B.len (ev_var (n := 0) rfl (.inl k__law_deck__law_script) rfl zs)) (ah_nil ⟨by simp, fun lr => ?_⟩))))
      refine bh_for1 (n := 3) PassesOwn.never rfl (pg_name (i := 3) sc__law_deck.nd rfl (.inl k__law_deck__law_cell) (.inr k__law_deck__law_cell)) (ei_list (ev_take (n := 63) (ev_var (n := 0) rfl (.inl k__law_deck__law_script) rfl zs) ev_int))
        (fun i σ' g' R' => ∃ (digs cells : List Int) (x3 : Option V), σ' = [some (.ref a), some (.ref lq), some (.ref lr), x3] ∧ R' = (lr, .lst (cells.map V.int)) :: (lq, .lst (digs.map V.int)) :: R ∧ cells.length = i + 1 ∧ (∀ c ∈ cells, 0 ≤ c ∧ c < Dm) ∧ (∀ c ∈ digs, 0 ≤ c ∧ c < Dm) ∧ digs.length ≤ 900)
        (fun g' e => ⟨[], [(ns.length : Int)], none, rfl, by rw [List.length_map]; rfl, rfl, ?_, (fun _ h => nomatch h), Nat.zero_le _⟩)
        (fun i d σ' g' R' hdi eg hI v g2 e2 zv => ?_) (fun σ' g' R' eg hI => ?_)
      · intro c hc
        rw [List.mem_singleton.mp hc]
        have : Dm = 2147483629 := rfl
        omega
      · obtain ⟨digs, cells, x3, rfl, rfl, hcl, hc, hd, hdl⟩ := hI
        obtain ⟨z, rfl⟩ : ∃ z, d = .int z := by
          rw [← List.map_take, List.getElem?_map] at hdi
          cases hz : (ns.take 63)[i]? with
          | none =>
            rw [hz] at hdi
            cases hdi
          | some z =>
            rw [hz] at hdi
            exact ⟨z, (Option.some.inj hdi).symm⟩
        have il : i < 63 := by
          have := (List.getElem?_eq_some_iff.mp hdi).1
          rw [List.length_take] at this
          omega
        refine bh_asg (n := 3) sc__law_deck.nd rfl (.inl k__law_deck__law_cell) rfl (.inr k__law_deck__law_cell) (eh_int (ev_abs k__law_deck_abs m_abs (ev_var (n := 3) rfl (.inl k__law_deck__law_cell) rfl zv)) ?_)
        generalize (if z < 0 then -z else z) = y
        refine bh_app (eh_var (n := 2) rfl (.inl k__law_deck__law_cells) rfl ⟨lr, rfl, ⟨0, _, rfl⟩, eh_int (ev_mod (by decide) (ev_var (n := 3) rfl (.inl k__law_deck__law_cell) rfl (.int _)) ev_int) ⟨0, _, rfl, by rw [List.length_map]; omega, ?_⟩⟩)
        have rc : cells.map V.int ++ [V.int (y % 2147483629)] = (cells ++ [y % 2147483629]).map V.int := by rw [List.map_append]; rfl
        rw [rc]
        have hc2 := snoc_ok hc (mod_ok y)
        have hcl2 : (cells ++ [y % 2147483629]).length = i + 1 + 1 := by rw [List.length_append, hcl]; rfl
        generalize cells ++ [y % 2147483629] = cells2 at hc2 hcl2
        show BH _ _ _ _ _ ((lr, .lst (cells2.map V.int)) :: (lq, .lst (digs.map V.int)) :: R)
        refine bh_while PassesOwn.never (fun m σ' g' R' => ∃ (digs2 : List Int) (c : Int), σ' = [some (.ref a), some (.ref lq), some (.ref lr), some (.int c)] ∧ R' = (lr, .lst (cells2.map V.int)) :: (lq, .lst (digs2.map V.int)) :: R ∧ (∀ c ∈ digs2, 0 ≤ c ∧ c < Dm) ∧ digs2.length ≤ 900 ∧ m = 900 - digs2.length) (900 - digs.length) ⟨digs, y, rfl, rfl, hd, hdl, rfl⟩ (fun m σ' g3 R' e3 hW => ?_)
        obtain ⟨digs2, c, rfl, rfl, hd2, hdl2, rfl⟩ := hW
        refine th_and2 (th_ev (et_ge (ev_var (n := 3) rfl (.inl k__law_deck__law_cell) rfl (.int _)) (ev_pow (n := 18) (by decide) ev_int ev_int)) ⟨fun _ => ?_, fun _ => ⟨Evl.Ex.refl g3, (fun z => nomatch z), fun _ => bh_end (I := fun σ3 g3 R3 => _) (e2.trans e3) ⟨digs2, cells2, _, rfl, rfl, hcl2, hc2, hd2, hdl2⟩⟩⟩)
        refine th_i0 (f := fun i j => decide (i < j)) op_lt (nomark _) (eh_lenR k__law_deck_len B.len (eh_var (n := 1) rfl (.inl k__law_deck__law_digits) rfl ⟨lq, 1, _, rfl, rfl, _, rfl, eh_int ev_int ⟨900, rfl, Evl.Ex.refl g3, fun ht => ?_, fun _ => bh_end (I := fun σ3 g3 R3 => _) (e2.trans e3) ⟨digs2, cells2, _, rfl, rfl, hcl2, hc2, hd2, hdl2⟩⟩⟩))
        have lt : digs2.length < 900 := by
          have := of_decide_eq_true ht
          rw [List.length_map] at this
          omega
        refine bh_app (eh_var (n := 1) rfl (.inl k__law_deck__law_digits) rfl ⟨lq, rfl, ⟨1, _, rfl⟩, eh_int (ev_mod (by decide) (ev_var (n := 3) rfl (.inl k__law_deck__law_cell) rfl (.int _)) ev_int) ⟨1, _, rfl, by rw [List.length_map]; omega, ?_⟩⟩)
        refine bh_asg (n := 3) sc__law_deck.nd rfl (.inl k__law_deck__law_cell) rfl (.inr k__law_deck__law_cell) (eh_int (ev_fdivW (wide_div (b := 31) (by decide) (by decide) (by decide) (by decide)) (ev_var (n := 3) rfl (.inl k__law_deck__law_cell) rfl (.int _)) ev_int) ?_)
        refine bh_nil fun H3 s3 => ⟨900 - (digs2 ++ [c % 2147483629]).length, g3, _, ?_, e3, s3, digs2 ++ [c % 2147483629], _, rfl, ?_, snoc_ok hd2 (mod_ok c), ?_, rfl⟩
        · rw [List.length_append]
          show 900 - (digs2.length + 1) < _
          omega
        · rw [List.map_append]
          rfl
        · rw [List.length_append]
          show digs2.length + 1 ≤ 900
          omega
      · obtain ⟨digs, cells, x3, rfl, rfl, hcl, hc, hd, hdl⟩ := hI
        refine bh_ret (eh_lst (ah_cons (eh_var (n := 1) rfl (.inl k__law_deck__law_digits) rfl (ah_cons (eh_var (n := 2) rfl (.inl k__law_deck__law_cells) rfl (ah_cons (eh_int ev_int (ah_nil ⟨by simp, fun lp H' s' => ?_⟩))))))))
        refine kk g' ⟨lp, lq, lr, 0, digs, cells⟩ H' eg (s'.perm (.cons _ (.swap ..))) ⟨Int.le_refl 0, ?_, ?_, hc, hd⟩ rfl
        · intro e
          have e2 : cells = [] := e
          rw [e2] at hcl
          cases hcl
        · rw [List.length_take, List.length_map] at hcl
          show cells.length ≤ 64
          omega
    exact ⟨_, WS.ps, main H sh⟩
end
end K01

namespace K01
open PySem PySem.Spec PyProof.Rows L2 Sk
open Evl (Ex)

structure FnS (P : Program) (w : World) (K : PySem.W.Frag) (mg : Str → Option Value) (base : Heap) (k : Nat) (x : Str) (sp : Sp) : Prop where
  ex : ∃ f fd ps, FnOk P w K mg base CX0 k f fd ps sp ∧ mg x = some (.ref f) ∧ PySem.W.keepIn K (.ref f) = true ∧ Binds K fd ps []
section
variable {X : Cx} {e : Expr} {σ : L2.St} {g : Hp} {R : Rl} {Kn : V → Hp → Rl → Prop} {pos p : Pos}
theorem eh_deck {n : Nat} {ns : List Int} (G : FnS X.prog X.w X.K X.mg X.base n "_law_deck" (spDeck X.K)) (hr : Room n X.A) (hg : Gl X "_law_deck") (z : Ev X e σ g (.list (ns.map .int))) (hl : ns.length ≤ 63)
    (k : ∀ g' dk, Ex g g' → dk.Ok → dk.n = 0 → Kn (.ref dk.p) g' (Dk.R dk ++ R))
    (he : starEach [e] X.env = (false, eval e X.env) :: starEach [] X.env := by rfl) (hpl : (backTo pos (starEach [] X.env)).any (·.1) = false := by rfl) : EH X (.Call (.Name "_law_deck" p) [e] [] pos) σ g R Kn := fun H s => by
  obtain ⟨f, fd, ps, G, hm, hk, hb⟩ := G.ex
  refine .of (pe_call G hr hg hm hk hb .nil pass0 WA.pa (by decide) he hpl) ((ea_cons z ea_nil he) H s.ex _ fun ws g1 H1 r1 z1 => ?_)
  obtain ⟨u, rfl, zu⟩ := dn1 z1
  obtain ⟨ad, rfl⟩ : ∃ ad, u = .ref ad := by
    cases zu with
    | lst s t => exact ⟨_, rfl⟩
  exact ⟨g1, R, ad, ns, rfl, s.rs r1, zu, hl, fun g2 dk H2 e2 s2 ok n0 => ⟨g2, _, s2, k g2 dk (r1.b.trans e2) ok n0⟩⟩
theorem eh_told {n : Nat} {C : Addr} {t : Tsk} (G : FnS X.prog X.w X.K X.mg X.base n "_law_told" (spMk X.K C)) (hr : Room n X.A) (hg : Gl X "_law_told") (z : Ev X e σ g (taskD t)) (ok : OkT t)
    (k : ∀ (g' : Hp) (p dx : Addr) (v1 v2 v3 v4 : V), Ex g g' → g' p = some (.ins C dx (fldsT v1 v2 v3 v4)) → Dn X.K g' v1 (rowsD t) → Kn (.ref p) g' R)
    (he : starEach [e] X.env = (false, eval e X.env) :: starEach [] X.env := by rfl) (hpl : (backTo pos (starEach [] X.env)).any (·.1) = false := by rfl) : EH X (.Call (.Name "_law_told" p) [e] [] pos) σ g R Kn := fun H s => by
  obtain ⟨f, fd, ps, G, hm, hk, hb⟩ := G.ex
  refine .of (pe_call G hr hg hm hk hb .nil pass0 WA.pa (by decide) he hpl) ((ea_cons z ea_nil he) H s.ex _ fun ws g1 H1 r1 z1 => ?_)
  obtain ⟨u, rfl, zu⟩ := dn1 z1
  exact ⟨g1, R, u, t, rfl, s.rs r1, zu, ok, fun g2 H2 p dx v1 v2 v3 v4 e2 s2 h2 z2 => ⟨g2, R, s2, k g2 p dx v1 v2 v3 v4 (r1.b.trans e2) h2 z2⟩⟩
end
def spLaw (K : PySem.W.Frag) : Sp := fun vs H Q _ => ∃ (a : Addr) (ns : List Int), vs = [.ref a] ∧ SqL K H a (ns.map V.int) ∧ ns.length ≤ 63 ∧ ∀ H', Q (.bl true) H'
structure Wd (K : PySem.W.Frag) (mg : Str → Option Value) : Prop where
  words : ∃ aW, mg "WORDS" = some (.ref aW) ∧ ∀ H, Dn K H (.ref aW) (.tuple [.str "standing", .str "name", .str "turn"])
  never : ∃ t, mg "NEVER" = some (.int (-1) t)
  most : ∃ t, mg "MOST_ROWS" = some (.int 400 t)
section
variable {P : Program} {w : World} {K : PySem.W.Frag} {mg : Str → Option Value} {base : Heap}
abbrev s_law : Stmt := topS 58
abbrev N_law : List Str := ["_law_script", "_law_deck_here", "_law_data", "_law_task_here", "_law_turn", "_law_thing_here", "_law_found", "_law_part_here", "_law_number", "_law_one", "_law_due"]
abbrev p_law : List Str := ["_law_script"]
theorem sc_law : FnScope N_law p_law (defScope s_law) := ⟨rfl, rfl, rfl, by decide +kernel, rfl, by decide +kernel, by decide +kernel⟩
theorem k_law__law_script : List.lookup ("_law_script" : Str) (defScope s_law).names = some NameKind.local := by decide +kernel
theorem k_law__law_deck_here : List.lookup ("_law_deck_here" : Str) (defScope s_law).names = some NameKind.local := by decide +kernel
theorem k_law__law_data : List.lookup ("_law_data" : Str) (defScope s_law).names = some NameKind.local := by decide +kernel
theorem k_law__law_task_here : List.lookup ("_law_task_here" : Str) (defScope s_law).names = some NameKind.local := by decide +kernel
theorem k_law__law_turn : List.lookup ("_law_turn" : Str) (defScope s_law).names = some NameKind.local := by decide +kernel
theorem k_law__law_thing_here : List.lookup ("_law_thing_here" : Str) (defScope s_law).names = some NameKind.local := by decide +kernel
theorem k_law__law_found : List.lookup ("_law_found" : Str) (defScope s_law).names = some NameKind.local := by decide +kernel
theorem k_law__law_part_here : List.lookup ("_law_part_here" : Str) (defScope s_law).names = some NameKind.local := by decide +kernel
theorem k_law__law_number : List.lookup ("_law_number" : Str) (defScope s_law).names = some NameKind.local := by decide +kernel
theorem k_law__law_one : List.lookup ("_law_one" : Str) (defScope s_law).names = some NameKind.local := by decide +kernel
theorem k_law__law_due : List.lookup ("_law_due" : Str) (defScope s_law).names = some NameKind.local := by decide +kernel
theorem k_law__law_deck : List.lookup ("_law_deck" : Str) (defScope s_law).names = some NameKind.globalImplicit := by decide +kernel
theorem k_law__law_task : List.lookup ("_law_task" : Str) (defScope s_law).names = some NameKind.globalImplicit := by decide +kernel
theorem k_law__law_told : List.lookup ("_law_told" : Str) (defScope s_law).names = some NameKind.globalImplicit := by decide +kernel
theorem k_law_range : List.lookup ("range" : Str) (defScope s_law).names = some NameKind.globalImplicit := by decide +kernel
theorem k_law__law_thing : List.lookup ("_law_thing" : Str) (defScope s_law).names = some NameKind.globalImplicit := by decide +kernel
theorem k_law_is_standing : List.lookup ("is_standing" : Str) (defScope s_law).names = some NameKind.globalImplicit := by decide +kernel
theorem k_law_isinstance : List.lookup ("isinstance" : Str) (defScope s_law).names = some NameKind.globalImplicit := by decide +kernel
theorem k_law_bool : List.lookup ("bool" : Str) (defScope s_law).names = some NameKind.globalImplicit := by decide +kernel
theorem k_law__law_is_standing : List.lookup ("_law_is_standing" : Str) (defScope s_law).names = some NameKind.globalImplicit := by decide +kernel
theorem k_law__law_part : List.lookup ("_law_part" : Str) (defScope s_law).names = some NameKind.globalImplicit := by decide +kernel
theorem k_law_repr : List.lookup ("repr" : Str) (defScope s_law).names = some NameKind.globalImplicit := by decide +kernel
theorem k_law_is_whole : List.lookup ("is_whole" : Str) (defScope s_law).names = some NameKind.globalImplicit := by decide +kernel
theorem k_law__law_whole : List.lookup ("_law_whole" : Str) (defScope s_law).names = some NameKind.globalImplicit := by decide +kernel
theorem k_law__law_next : List.lookup ("_law_next" : Str) (defScope s_law).names = some NameKind.globalImplicit := by decide +kernel
theorem k_law_len : List.lookup ("len" : Str) (defScope s_law).names = some NameKind.globalImplicit := by decide +kernel
theorem k_law_WORDS : List.lookup ("WORDS" : Str) (defScope s_law).names = some NameKind.globalImplicit := by decide +kernel
theorem k_law_NEVER : List.lookup ("NEVER" : Str) (defScope s_law).names = some NameKind.globalImplicit := by decide +kernel
theorem k_law_MOST_ROWS : List.lookup ("MOST_ROWS" : Str) (defScope s_law).names = some NameKind.globalImplicit := by decide +kernel
theorem ok_law {f C fh : Addr} {fd fdh : FuncData} (F : Fun K "law" "law" s_law f fd) (B : Bi mg) (W : Wd K mg) (m_range : mg "range" = none) (m_repr : mg "repr" = none) (T : TxtT K mg C) (Gd : FnS P w K mg base 1 "_law_deck" (spDeck K)) (Gt : FnK P w K mg base 3 "_law_task" 300 aTask fTask) (Gm : FnS P w K mg base 9 "_law_told" (spMk K C))
    (Gg : FnK P w K mg base 3 "_law_thing" 20 noArg anyD) (Gs : FnD P w K mg base 2 "is_standing" fSt) (Gls : FnD P w K mg base 2 "_law_is_standing" fSt) (Gp : FnK P w K mg base 2 "_law_part" 1 noArg anyD) (Gw : FnD P w K mg base 1 "is_whole" fWhole) (Glw : FnD P w K mg base 1 "_law_whole" fWhole) (Gx : FnK P w K mg base 1 "_law_next" 1 noArg (drawn Dm))
    (Gh : FnOk P w K mg base CX0 3 fh fdh p_Told_has (spHas K C)) (Mh : Meth K C "has" fh) (bh : Binds K fdh p_Told_has []) : FnOk P w K mg base CX0 10 f fd p_law (spLaw K) := by
  refine F.ok sc_law (fun vs H Q E h => ?_) (fun cdv A outer s H vs Q E hr h => ?_)
  · obtain ⟨a, ns, rfl, _⟩ := h
    rfl
  · obtain ⟨a, ns, rfl, hS, hl, kk⟩ := h
    have zs : Dn K H (.ref a) (.list (ns.map .int)) := .lst hS (DnAll.ofInts ns)
    have main : BH (Cf P w K mg base N_law "law" s_law f cdv A outer s H E) (defBody s_law) { nx := fun _ H' => Q .non H', rt := Q } (start N_law [.ref a]) H [] := by
      refine bh_asg (n := 1) sc_law.nd rfl (.inl k_law__law_deck_here) rfl (.inr k_law__law_deck_here) (eh_deck Gd (hr.mono (by decide)) k_law__law_deck (ev_var (n := 0) rfl (.inl k_law__law_script) rfl zs) hl fun g1 dk e1 ok n0 => ?_)
      refine bh_asg (n := 2) sc_law.nd rfl (.inl k_law__law_data) rfl (.inr k_law__law_data) (eh_callK (m := 1) Gt (hr.mono (by decide)) k_law__law_task rfl (.inl k_law__law_deck_here) rfl (ea_cons ev_int ea_nil) ok (by omega) ⟨5, rfl, by decide, by decide⟩ fun vd g2 dk2 dd e2 t2 hF zd => ?_)
      obtain ⟨t, rfl, okt⟩ := hF
      have tn2 := t2.n
      refine bh_asg (n := 3) sc_law.nd rfl (.inl k_law__law_task_here) rfl (.inr k_law__law_task_here) (eh_told Gm (hr.mono (by decide)) k_law__law_told (ev_var (n := 2) rfl (.inl k_law__law_data) rfl zd) okt fun g3 p dx v1 v2 v3 v4 e3 hp zt => ?_)
      have zd3 := zd.ex e3
      clear zd e2 e1 zs
      refine bh_for1 (n := 4) PassesOwn.never rfl (pg_name (i := 4) sc_law.nd rfl (.inl k_law__law_turn) (.inr k_law__law_turn)) (ei_range (n := 12) k_law_range m_range ev_int (by decide))
        (fun i σ' g' R' => ∃ (dk' : Dk) (x4 x5 x6 x7 x8 x9 x10 : Option V), σ' = [some (.ref a), some (.ref dk.p), some vd, some (.ref p), x4, x5, x6, x7, x8, x9, x10] ∧ R' = Dk.R dk' ++ [] ∧ Dk.To (300 + 22 * (i : Int)) dk dk')
        (fun g' e => ⟨dk2, none, none, none, none, none, none, none, rfl, rfl, t2.trans (Dk.To.refl t2.ok (Int.le_refl 0)) (by omega)⟩)
        (fun i d σ' g' R' hdi eg hI v4' g4 e4 zv => ?_) (fun σ' g' R' eg hI => ?_)
      · obtain ⟨dk3, x4, x5, x6, x7, x8, x9, x10, rfl, rfl, t3⟩ := hI
        have im : i < 12 := by
          have := (List.getElem?_eq_some_iff.mp hdi).1
          simpa using this
        have tn3 := t3.n
        have e34 := eg.trans e4
        refine bh_asg (n := 5) sc_law.nd rfl (.inl k_law__law_thing_here) rfl (.inr k_law__law_thing_here) (eh_callK (m := 1) Gg (hr.mono (by decide)) k_law__law_thing rfl (.inl k_law__law_deck_here) (by rw [t3.ep]; rfl) ea_nil t3.ok (by omega) rfl fun v5 g5 dk5 d5 e5 t5 _ z5 => ?_)
        have t35 := t3.trans t5 (Int.le_refl _)
        have tn5 := t35.n
        refine bh_asg (n := 6) sc_law.nd rfl (.inl k_law__law_found) rfl (.inr k_law__law_found) (eh_ev (ev_call Gs (hr.mono (by decide)) k_law_is_standing (ea_cons (ev_var (n := 5) rfl (.inl k_law__law_thing_here) rfl z5) ea_nil) ⟨_, rfl, rfl⟩) fun v6 g6 e6 z6 => ?_)
        have z5' := z5.ex e6
        refine bh_ifr (th_ev (et_or2 (t := false) (u := !decide (isSt d5 = isSt d5)) (et_not (t := true) (et_val (ev_isi B.isi B.bool k_law_isinstance k_law_bool b_bool (by decide) (by decide) (ev_var (n := 6) rfl (.inl k_law__law_found) rfl z6) (kit_bool _)))) fun _ => et_neB (ev_var (n := 6) rfl (.inl k_law__law_found) rfl z6) (ev_call Gls (hr.mono (by decide)) k_law__law_is_standing (ea_cons (ev_var (n := 5) rfl (.inl k_law__law_thing_here) rfl z5') ea_nil) ⟨_, rfl, rfl⟩)) ⟨fun z => absurd z (by simp), fun _ => ?_⟩)
        refine bh_forE (n := 7) PassesOwn.never rfl (pg_name (i := 7) sc_law.nd rfl (.inl k_law__law_part_here) (.inr k_law__law_part_here)) ?_
        refine eh_lstK (ah_cons (eh_var (n := 5) rfl (.inl k_law__law_thing_here) rfl (ah_cons (eh_callK (m := 1) Gp (hr.mono (by decide)) k_law__law_part rfl (.inl k_law__law_deck_here) (by rw [t35.ep]; rfl) ea_nil t35.ok (by omega) rfl fun v7 g7 dk7 d7 e7 t7 _ z7 => ah_nil ⟨by simp, fun pl e8 => ?_⟩))))
        have t37 := t35.trans t7 (Int.le_refl _)
        have tn7 := t37.n
        refine ⟨[d5, d7], fun j σ' g' R' => ∃ x7 : Option V, σ' = [some (.ref a), some (.ref dk.p), some vd, some (.ref p), some v4', some v5, some v6, x7, x8, x9, x10] ∧ R' = Dk.R dk7 ++ [], .lst (Evl.sq_of upd_same) (.cons (z5'.ex (e7.trans e8)) (.cons (z7.ex e8) .nil)), ⟨_, rfl, rfl⟩, fun j d8 σ' g8 R' hdj e80 hI vp g9 e9 zp => ?_, fun σ' g8 R' e80 hI => ?_⟩
        · obtain ⟨x7', rfl, rfl⟩ := hI
          refine bh_ifr (th_ev (et_neS (ev_reprB k_law_repr m_repr (ev_call Gw (hr.mono (by decide)) k_law_is_whole (ea_cons (ev_var (n := 7) rfl (.inl k_law__law_part_here) rfl zp) ea_nil) ⟨_, rfl, rfl⟩)) (ev_reprB k_law_repr m_repr (ev_call Glw (hr.mono (by decide)) k_law__law_whole (ea_cons (ev_var (n := 7) rfl (.inl k_law__law_part_here) rfl zp) ea_nil) ⟨_, rfl, rfl⟩))) ⟨fun z => absurd z (by simp), fun _ => ?_⟩)
          exact bh_end (I := fun σ3 g3 R3 => _) e9 ⟨_, rfl, rfl⟩
        · obtain ⟨x7', rfl, rfl⟩ := hI
          have e38 := e34.trans (e5.trans (e6.trans (e7.trans (e8.trans e80))))
          have zd8 := zd3.ex e38
          have zt8 := zt.ex e38
          have hp8 := e38 _ _ hp
          have z58 := z5'.ex (e7.trans (e8.trans e80))
          refine bh_asg (n := 8) sc_law.nd rfl (.inl k_law__law_number) rfl (.inr k_law__law_number) ?_
          refine eh_i0 op_sub (eh_i2 (C := fun _ j => 0 < j) op_mod ?_)
          refine eh_next (m := 1) Gx (hr.mono (by decide)) k_law__law_next rfl (.inl k_law__law_deck_here) (by rw [t37.ep]; rfl) t37.ok (by omega) fun j10 dk10 hj10 t10 => ?_
          have t310 := t37.trans t10 (Int.le_refl _)
          refine ⟨_, rfl, eh_int (ev_add (ev_lenT (ds := t.rows.map rowD) k_law_len B.len (ev_ixT (n := 0) (ev_var (n := 2) rfl (.inl k_law__law_data) rfl zd8) ev_int rfl (fun _ _ => rfl))) ev_int) ⟨_, rfl, by omega, _, rfl, eh_int ev_int ⟨1, rfl, ?_⟩⟩⟩
          generalize (j10 : Int) % (((t.rows.map rowD).length : Int) + 2) - 1 = nn
          refine bh_for1 (n := 9) PassesOwn.never rfl (pg_name (i := 9) sc_law.nd rfl (.inl k_law__law_one) (.inr k_law__law_one)) (ei_list (ev_lst (ea_cons (ev_var (n := 5) rfl (.inl k_law__law_thing_here) rfl z58) (ea_cons (ev_tup (ea_cons (ev_var (n := 8) rfl (.inl k_law__law_number) rfl (.int _)) ea_nil) (by simp)) (ea_cons (ev_tup (ea_cons (ev_var (n := 8) rfl (.inl k_law__law_number) rfl (.int _)) (ea_cons ev_int ea_nil)) (by simp)) (ea_cons (ev_lst (ea_cons (ev_var (n := 8) rfl (.inl k_law__law_number) rfl (.int _)) ea_nil) (by simp)) (ea_cons (ev_var (n := 8) rfl (.inl k_law__law_number) rfl (.int _)) (ea_cons (ev_tup (ea_cons (ev_eqI (ev_var (n := 8) rfl (.inl k_law__law_number) rfl (.int _)) ev_int) ea_nil) (by simp)) ea_nil)))))) (by simp)))
            (fun j σ' g' R' => ∃ x9 x10 : Option V, σ' = [some (.ref a), some (.ref dk.p), some vd, some (.ref p), some v4', some v5, some v6, x7', some (.int nn), x9, x10] ∧ R' = Dk.R dk10 ++ [])
            (fun g' e => ⟨_, _, rfl, rfl⟩) (fun j d11 σ' g11 R' hdj e11 hI v9 g12 e12 z9 => ?_) (fun σ' g11 R' e11 hI => ?_)
          · obtain ⟨x9', x10', rfl, rfl⟩ := hI
            have e812 := e11.trans e12
            refine bh_asg (n := 10) sc_law.nd rfl (.inl k_law__law_due) rfl (.inr k_law__law_due) (eh_ev (ev_due (n := (t.rows.length : Int)) (ev_call Gls (hr.mono (by decide)) k_law__law_is_standing (ea_cons (ev_var (n := 9) rfl (.inl k_law__law_one) rfl z9) ea_nil) ⟨_, rfl, rfl⟩) (fun xs ed => ?_) (fun i2 ed => ?_)) fun v10 g13 e13 z10 => ?_)
            · subst ed
              exact ev_eqI (ev_lenT k_law_len B.len (ev_var (n := 9) rfl (.inl k_law__law_one) rfl z9)) ev_int
            · subst ed
              exact ev_lt (ev_ixT (n := 0) (ev_var (n := 9) rfl (.inl k_law__law_one) rfl z9) ev_int rfl (fun _ _ => rfl)) (ev_is (ev_lenT (ds := t.rows.map rowD) k_law_len B.len (ev_ixT (n := 0) (ev_var (n := 2) rfl (.inl k_law__law_data) rfl (zd8.ex e812)) ev_int rfl (fun _ _ => rfl))) (by rw [List.length_map]))
            · refine bh_ifr (th_ev (et_neS (ev_reprB k_law_repr m_repr (ev_has (n := 3) Gh (hr.mono (by decide)) T Mh bh rfl (.inl k_law__law_task_here) rfl ((e812.trans e13) _ _ hp8) (zt8.ex (e812.trans e13)) (ev_var (n := 9) rfl (.inl k_law__law_one) rfl (z9.ex e13)) rfl)) (ev_reprB k_law_repr m_repr (ev_var (n := 10) rfl (.inl k_law__law_due) rfl z10))) ⟨fun z => absurd z (by simp), fun _ => ?_⟩)
              exact bh_end (I := fun σ3 g3 R3 => _) (e12.trans e13) ⟨_, _, rfl, rfl⟩
          · obtain ⟨x9', x10', rfl, rfl⟩ := hI
            exact bh_end (I := fun σ3 g3 R3 => _) (e4.trans (e5.trans (e6.trans (e7.trans (e8.trans (e80.trans e11)))))) ⟨dk10, _, _, _, _, _, _, _, rfl, rfl, t310.trans (Dk.To.refl t310.ok (Int.le_refl 0)) (by omega)⟩
      · obtain ⟨dk3, x4, x5, x6, x7, x8, x9, x10, rfl, rfl, t3⟩ := hI
        obtain ⟨aW, mW, zW⟩ := W.words
        obtain ⟨tn, mN⟩ := W.never
        obtain ⟨tm, mM⟩ := W.most
        have zN : ∀ (σ : L2.St) (g : Hp) (pos : Pos), Ev (Cf P w K mg base N_law "law" s_law f cdv A outer s H E) (.Name "NEVER" pos) σ g (.int (-1)) := fun σ g pos => ev_glob (v := .int (-1)) k_law_NEVER mN ⟨_, rfl⟩ (.int _)
        refine bh_ret (eh_ev (d := .bool (true && (true && true))) (ev_and3 (t := true) (u := true) (w := true) (ev_is (ev_eqT hr.units (d1 := [.str "standing", .str "name", .str "turn"]) (d2 := [.str "standing", .str "name", .str "turn"]) rfl rfl (by decide +kernel) (by decide +kernel) (ev_glob (v := .ref aW) k_law_WORDS mW rfl (zW _)) (ev_tup (ea_cons ev_str (ea_cons ev_str (ea_cons ev_str ea_nil))) (by simp))) (congrArg PyData.bool (by decide +kernel))) (fun _ => ev_is (ev_eqT hr.units (d1 := [.int (-1), .int 400]) (d2 := [.int (-1), .int 400]) rfl rfl (by decide +kernel) (by decide +kernel) (ev_tup (ea_cons (zN _ _ _) (ea_cons (ev_glob (v := .int 400) k_law_MOST_ROWS mM ⟨_, rfl⟩ (.int _)) ea_nil)) (by simp)) (ev_tup (ea_cons (ev_neg ev_int) (ea_cons ev_int ea_nil)) (by simp))) (congrArg PyData.bool (by decide +kernel))) (fun _ _ => ev_not (t := false) (ev_isi B.isi B.bool k_law_isinstance k_law_bool b_bool (by decide) (by decide) (zN _ _ _) (kit_bool _)))) fun v g9 e9 z9 H9 s9 => ?_)
        cases z9
        exact kk H9
    exact ⟨_, WS.ps, main H ⟨Evl.Ex.refl H, (fun _ h => nomatch h), (fun _ h => nomatch h), List.nodup_nil⟩⟩
end
end K01

namespace K01
open PySem PySem.Spec PyProof.Rows L2 Sk
open Evl (Ex)
section
variable {P : Program} {w : World} {K : PySem.W.Frag} {mg : Str → Option Value} {base : Heap}
theorem at_mk {h : Heap} {x : Str} {st : Stmt} {f : Addr} {oc : Value} {od an : Option Addr} {osl : Array (Option Value)} {kV doc pm cdv ct : Value} (X : K.In h) (G : h.Ns mainGlobals mg) (a : PySem.W.nsIn K mainGlobals x = some (some (.ref f)))
    (l : K.lookup f = some ⟨oc, od, .func (PySem.W.fnOf x x (defArgs st) (defBody st) (defScope st) .none kV doc pm an cdv ct), osl⟩) (c : PySem.W.codeIn K cdv x = true) (k : PySem.W.keepIn K (.ref f) = true) : At K mg x st :=
  ⟨f, _, fun_mk l c k, PySem.W.mg_of X G a⟩
theorem int_mk {h : Heap} {x : Str} {i : Int} {t : Tok} (X : K.In h) (G : h.Ns mainGlobals mg) (a : PySem.W.nsIn K mainGlobals x = some (some (.int i t))) : ∃ t, mg x = some (.int i t) := ⟨t, PySem.W.mg_of X G a⟩
theorem words_mk {h : Heap} {aW : Addr} {od : Option Addr} {sl : Array (Option Value)} {n : Nat} {t1 t2 t3 : Tok} (X : K.In h) (G : h.Ns mainGlobals mg) (a : PySem.W.nsIn K mainGlobals "WORDS" = some (some (.ref aW))) (l : K.lookup aW = some ⟨.type "tuple", od, .seq #[.str "standing" t1, .str "name" t2, .str "turn" t3] n, sl⟩) :
    ∃ aW, mg "WORDS" = some (.ref aW) ∧ ∀ H, Dn K H (.ref aW) (.tuple [.str "standing", .str "name", .str "turn"]) :=
  ⟨aW, PySem.W.mg_of X G a, fun H => .tup (xs := [.str "standing", .str "name", .str "turn"]) (.inr ⟨_, _, n, l, rfl, rfl, (by rw [sizeLine_eq]; show 3 ≤ _; decide), .cons ⟨t1, rfl⟩ (.cons ⟨t2, rfl⟩ (.cons ⟨t3, rfl⟩ .nil))⟩) (.cons (.str _) (.cons (.str _) (.cons (.str _) .nil)))⟩
theorem all_ok {C fi fh fl : Addr} {fdi fdh fdl : FuncData}
    (A_is_whole : At K mg "is_whole" s_is_whole)
    (A_is_standing : At K mg "is_standing" s_is_standing)
    (A_is_from : At K mg "is_from" s_is_from)
    (A_is_between : At K mg "is_between" s_is_between)
    (A_is_truth : At K mg "is_truth" s_is_truth)
    (A_is_tuple_of : At K mg "is_tuple_of" s_is_tuple_of)
    (A_are_numbers : At K mg "are_numbers" s_are_numbers)
    (A_are_within : At K mg "are_within" s_are_within)
    (A_are_rising : At K mg "are_rising" s_are_rising)
    (A_is_pair : At K mg "is_pair" s_is_pair)
    (A_are_pairs : At K mg "are_pairs" s_are_pairs)
    (A_are_pairs_within : At K mg "are_pairs_within" s_are_pairs_within)
    (A_is_table_row : At K mg "is_table_row" s_is_table_row)
    (A_is_turn : At K mg "is_turn" s_is_turn)
    (A_wrong_turn : At K mg "wrong_turn" s_wrong_turn)
    (A_are_ends : At K mg "are_ends" s_are_ends)
    (A_are_heads : At K mg "are_heads" s_are_heads)
    (A_wrong_place : At K mg "wrong_place" s_wrong_place)
    (A__law_deck : At K mg "_law_deck" s__law_deck)
    (A__law_next : At K mg "_law_next" s__law_next)
    (A__law_classes : At K mg "_law_classes" s__law_classes)
    (A__law_rests : At K mg "_law_rests" s__law_rests)
    (A__law_bounds : At K mg "_law_bounds" s__law_bounds)
    (A__law_cuts : At K mg "_law_cuts" s__law_cuts)
    (A__law_variants : At K mg "_law_variants" s__law_variants)
    (A__law_some : At K mg "_law_some" s__law_some)
    (A__law_task : At K mg "_law_task" s__law_task)
    (A__law_ends : At K mg "_law_ends" s__law_ends)
    (A__law_told : At K mg "_law_told" s__law_told)
    (A__law_whole : At K mg "_law_whole" s__law_whole)
    (A__law_is_standing : At K mg "_law_is_standing" s__law_is_standing)
    (A__law_part : At K mg "_law_part" s__law_part)
    (A__law_thing : At K mg "_law_thing" s__law_thing)
    (B : Bi mg) (Cs : Cn mg) (W : Wd K mg) (m_range : mg "range" = none) (m_list : mg "list" = none) (m_max : mg "max" = none) (m_repr : mg "repr" = none) (m_abs : mg "abs" = none)
    (T : TxtT K mg C) (M : Mk K C fi) (FI : Fun K "__init__" "Told.__init__" s_Told___init__ fi fdi) (FH : Fun K "has" "Told.has" s_Told_has fh fdh) (Mh : Meth K C "has" fh) (FL : Fun K "law" "law" s_law fl fdl) : FnOk P w K mg base CX0 10 fl fdl p_law (spLaw K) := by
  have G_is_whole := is_whole (P := P) (w := w) (base := base) A_is_whole B
  have G_is_standing := is_standing (P := P) (w := w) (base := base) A_is_standing B G_is_whole
  have G_is_from := is_from (P := P) (w := w) (base := base) A_is_from B G_is_whole
  have G_is_between := is_between (P := P) (w := w) (base := base) A_is_between B G_is_whole
  have G_is_truth := is_truth (P := P) (w := w) (base := base) A_is_truth B
  have G_is_tuple_of := is_tuple_of (P := P) (w := w) (base := base) A_is_tuple_of B
  have G_are_numbers := are_numbers (P := P) (w := w) (base := base) A_are_numbers B G_is_from
  have G_are_within := are_within (P := P) (w := w) (base := base) A_are_within B
  have G_are_rising := are_rising (P := P) (w := w) (base := base) A_are_rising B
  have G_is_pair := is_pair (P := P) (w := w) (base := base) A_is_pair B Cs G_is_tuple_of G_is_between G_is_from
  have G_are_pairs := are_pairs (P := P) (w := w) (base := base) A_are_pairs B G_is_tuple_of G_is_pair
  have G_are_pairs_within := are_pairs_within (P := P) (w := w) (base := base) A_are_pairs_within B G_are_within
  have G_is_table_row := is_table_row (P := P) (w := w) (base := base) A_is_table_row B Cs G_is_tuple_of G_are_pairs G_are_pairs_within G_is_truth G_is_between
  have G_is_turn := is_turn (P := P) (w := w) (base := base) A_is_turn B G_are_numbers G_are_within
  have G_wrong_turn := wrong_turn (P := P) (w := w) (base := base) A_wrong_turn B Cs G_is_turn
  have G_are_ends := are_ends (P := P) (w := w) (base := base) A_are_ends B G_are_numbers G_are_within G_are_rising
  have G_are_heads := are_heads (P := P) (w := w) (base := base) A_are_heads B Cs G_is_tuple_of G_are_pairs G_are_pairs_within
  have G_wrong_place := wrong_place (P := P) (w := w) (base := base) A_wrong_place B Cs G_is_tuple_of G_is_table_row G_wrong_turn G_are_ends G_are_heads
  have G__law_next := t_law_next (P := P) (w := w) (base := base) A__law_next B
  have G__law_classes := t_law_classes (P := P) (w := w) (base := base) A__law_classes B G__law_next m_range
  have G__law_rests := t_law_rests (P := P) (w := w) (base := base) A__law_rests B
  have G__law_bounds := t_law_bounds (P := P) (w := w) (base := base) A__law_bounds B G__law_next m_max
  have G__law_cuts := t_law_cuts (P := P) (w := w) (base := base) A__law_cuts B G__law_next
  have G__law_variants := t_law_variants (P := P) (w := w) (base := base) A__law_variants B G__law_next m_range m_list
  have G__law_some := t_law_some (P := P) (w := w) (base := base) A__law_some B G__law_next
  have G__law_ends := t_law_ends (P := P) (w := w) (base := base) A__law_ends B m_range
  have G__law_task := t_law_task (P := P) (w := w) (base := base) A__law_task B G__law_next G__law_classes G__law_rests G__law_bounds G__law_cuts G__law_variants G__law_some G__law_ends m_range m_max
  have G__law_whole := t_law_whole (P := P) (w := w) (base := base) A__law_whole B
  have G__law_is_standing := t_law_is_standing (P := P) (w := w) (base := base) A__law_is_standing B G__law_whole
  have G__law_part := t_law_part (P := P) (w := w) (base := base) A__law_part G__law_next B
  have G__law_thing := t_law_thing (P := P) (w := w) (base := base) A__law_thing G__law_next B G__law_part m_range m_list
  have G_init := ok_init (P := P) (w := w) (base := base) FI T G_wrong_place
  have G_has := ok_has (P := P) (w := w) (base := base) FH T B G_is_standing
  have G_deck : FnS P w K mg base 1 "_law_deck" (spDeck K) := by
    obtain ⟨f, fd, Fu, hm⟩ := A__law_deck.ex
    exact ⟨f, fd, _, ok_deck Fu B m_abs, hm, Fu.kp, Fu.binds fun _ _ _ _ _ _ us hl => match us, hl with | [_], _ => rfl⟩
  have G_told : FnS P w K mg base 9 "_law_told" (spMk K C) := by
    obtain ⟨f, fd, Fu, hm⟩ := A__law_told.ex
    exact ⟨f, fd, _, ok_told Fu T M FI G_init, hm, Fu.kp, Fu.binds fun _ _ _ _ _ _ us hl => match us, hl with | [_], _ => rfl⟩
  exact ok_law FL B W m_range m_repr T G_deck G__law_task G_told G__law_thing G_is_standing G__law_is_standing G__law_part G_is_whole G__law_whole G__law_next G_has Mh (FH.binds fun _ _ _ _ _ _ us hl => match us, hl with | [_, _], _ => rfl)
theorem all_mk {l : PySem.W.OpenLaw} {h : Heap} {fa C fi fh fl : Addr} {od1 an1 od2 an2 od3 an3 : Option Addr} {sl1 sl2 sl3 : Array (Option Value)} {oc1 kV1 dc1 pm1 cd1 ct1 oc2 kV2 dc2 pm2 cd2 ct2 oc3 kV3 dc3 pm3 cd3 ct3 : Value} (X : K.In h) (G : h.Ns mainGlobals mg) (hfa : mg "law" = some (.ref fa))
    (A_is_whole : At K mg "is_whole" s_is_whole)
    (A_is_standing : At K mg "is_standing" s_is_standing)
    (A_is_from : At K mg "is_from" s_is_from)
    (A_is_between : At K mg "is_between" s_is_between)
    (A_is_truth : At K mg "is_truth" s_is_truth)
    (A_is_tuple_of : At K mg "is_tuple_of" s_is_tuple_of)
    (A_are_numbers : At K mg "are_numbers" s_are_numbers)
    (A_are_within : At K mg "are_within" s_are_within)
    (A_are_rising : At K mg "are_rising" s_are_rising)
    (A_is_pair : At K mg "is_pair" s_is_pair)
    (A_are_pairs : At K mg "are_pairs" s_are_pairs)
    (A_are_pairs_within : At K mg "are_pairs_within" s_are_pairs_within)
    (A_is_table_row : At K mg "is_table_row" s_is_table_row)
    (A_is_turn : At K mg "is_turn" s_is_turn)
    (A_wrong_turn : At K mg "wrong_turn" s_wrong_turn)
    (A_are_ends : At K mg "are_ends" s_are_ends)
    (A_are_heads : At K mg "are_heads" s_are_heads)
    (A_wrong_place : At K mg "wrong_place" s_wrong_place)
    (A__law_deck : At K mg "_law_deck" s__law_deck)
    (A__law_next : At K mg "_law_next" s__law_next)
    (A__law_classes : At K mg "_law_classes" s__law_classes)
    (A__law_rests : At K mg "_law_rests" s__law_rests)
    (A__law_bounds : At K mg "_law_bounds" s__law_bounds)
    (A__law_cuts : At K mg "_law_cuts" s__law_cuts)
    (A__law_variants : At K mg "_law_variants" s__law_variants)
    (A__law_some : At K mg "_law_some" s__law_some)
    (A__law_task : At K mg "_law_task" s__law_task)
    (A__law_ends : At K mg "_law_ends" s__law_ends)
    (A__law_told : At K mg "_law_told" s__law_told)
    (A__law_whole : At K mg "_law_whole" s__law_whole)
    (A__law_is_standing : At K mg "_law_is_standing" s__law_is_standing)
    (A__law_part : At K mg "_law_part" s__law_part)
    (A__law_thing : At K mg "_law_thing" s__law_thing)
    (B : Bi mg) (Cs : Cn mg) (W : Wd K mg) (m_range : mg "range" = none) (m_list : mg "list" = none) (m_max : mg "max" = none) (m_repr : mg "repr" = none) (m_abs : mg "abs" = none)
    (aC : PySem.W.nsIn K mainGlobals "Told" = some (some (.ref C)))
    (a1 : PySem.W.findIn K (.ref C) "__init__" = some (some (.ref fi))) (i1 : PySem.W.isFn K (.ref fi) = true) (l1 : K.lookup fi = some ⟨oc1, od1, .func (PySem.W.fnOf "__init__" "Told.__init__" (defArgs s_Told___init__) (defBody s_Told___init__) (defScope s_Told___init__) .none kV1 dc1 pm1 an1 cd1 ct1), sl1⟩) (c1 : PySem.W.codeIn K cd1 "Told.__init__" = true) (k1 : PySem.W.keepIn K (.ref fi) = true)
    (a2 : PySem.W.findIn K (.ref C) "has" = some (some (.ref fh))) (i2 : PySem.W.isFn K (.ref fh) = true) (l2 : K.lookup fh = some ⟨oc2, od2, .func (PySem.W.fnOf "has" "Told.has" (defArgs s_Told_has) (defBody s_Told_has) (defScope s_Told_has) .none kV2 dc2 pm2 an2 cd2 ct2), sl2⟩) (c2 : PySem.W.codeIn K cd2 "Told.has" = true) (k2 : PySem.W.keepIn K (.ref fh) = true)
    (a3 : PySem.W.nsIn K mainGlobals "law" = some (some (.ref fl))) (l3 : K.lookup fl = some ⟨oc3, od3, .func (PySem.W.fnOf "law" "law" (defArgs s_law) (defBody s_law) (defScope s_law) .none kV3 dc3 pm3 an3 cd3 ct3), sl3⟩) (c3 : PySem.W.codeIn K cd3 "law" = true) (k3 : PySem.W.keepIn K (.ref fl) = true)
    (pg : PySem.W.plainGet K C Str.empty = true) (hd : PySem.W.hasDictIn K C = true) (po : PySem.W.plainOver K C = true) (sa : PySem.W.findIn K (.ref C) "__setattr__" = some (some (.builtin "object.__setattr__"))) (mk : PySem.W.makesIn K C = true) (kc : PySem.W.keepIn K (.ref C) = true)
    (nT : PySem.W.findIn K (.ref C) "table" = some none) (nM : PySem.W.findIn K (.ref C) "maps" = some none) (nE : PySem.W.findIn K (.ref C) "targets" = some none) (nH : PySem.W.findIn K (.ref C) "heads" = some none) :
    ∃ fd : FuncData, (∀ (s : Shared) (v : Value), BindsTo s fd ⟨[v], []⟩ [("_law_script", v)]) ∧ ∀ base : Heap, K.In base → base.Ns mainGlobals mg → FnOk l.prog w K mg base CX0 10 fa fd ["_law_script"] (spLaw K) := by
  have e := hfa.symm.trans (PySem.W.mg_of X G a3)
  cases e
  have F1 := fun_mk (st := s_Told___init__) l1 c1 k1
  have F2 := fun_mk (st := s_Told_has) l2 c2 k2
  have F3 := fun_mk (st := s_law) l3 c3 k3
  exact ⟨PySem.W.fnOf "law" "law" (defArgs s_law) (defBody s_law) (defScope s_law) .none kV3 dc3 pm3 an3 cd3 ct3, fun s v => .of_eq rfl, fun base _ _ => all_ok A_is_whole A_is_standing A_is_from A_is_between A_is_truth A_is_tuple_of A_are_numbers A_are_within A_are_rising A_is_pair A_are_pairs A_are_pairs_within A_is_table_row A_is_turn A_wrong_turn A_are_ends A_are_heads A_wrong_place A__law_deck A__law_next A__law_classes A__law_rests A__law_bounds A__law_cuts A__law_variants A__law_some A__law_task A__law_ends A__law_told A__law_whole A__law_is_standing A__law_part A__law_thing B Cs W m_range m_list m_max m_repr m_abs ⟨⟨pg, hd, po, sa⟩, nT, nM, nE, nH, PySem.W.mg_of X G aC⟩ ⟨mk, a1, i1, kc⟩ F1 F2 ⟨a2, i2, k2⟩ F3⟩
theorem walk {l : PySem.W.OpenLaw} {q : Program} {loose : List Str} {XP : (Str → Option Value) → Heap → Prop} {YP : World → Heap → Prop} {d : DefRec} {K : Params → PySem.W.Frag} (hn : l.most = some 63) (hdf : d.params.defaults = [])
    (hY : ∀ (w : World) (h : Heap), YP w h → (K w.params).In h)
    (F : ∀ (w : World) (mg : Str → Option Value) (fa : Addr) (h : Heap), (K w.params).In h → h.Ns mainGlobals mg → mg d.name = some (.ref fa) →
      ∃ fd : FuncData, (∀ (s : Shared) (u : Value), BindsTo s fd ⟨[u], []⟩ [("_law_script", u)]) ∧ ∀ base : Heap, (K w.params).In base → base.Ns mainGlobals mg → FnOk l.prog w (K w.params) mg base CX0 10 fa fd ["_law_script"] (spLaw (K w.params))) :
    PySem.W.WalkO q loose XP YP l.row.toRowW d [] (fun f vs => PySem.call f vs) :=
  L2.walk_of (n := 63) (k := 10) (x := "_law_script") (CX := fun _ => CX0) (sp := fun w => spLaw (K w.params)) hn (by decide) hdf ⟨rfl, by decide, by decide⟩ hY F (fun _ _ a ns hl _ hS => ⟨a, ns, rfl, hS, hl, fun _ => rfl⟩) fun _ _ _ _ _ z => z
end
end K01

open PySem PySem.W PyProof.Rows
set_option maxRecDepth 100000 in
set_option maxHeartbeats 0 in
theorem PySem.Challenge.cw_seekways_k01_forms_holds : PySem.Challenge.rw_seekways_k01_forms.Holds := by
  w_on; o_law; k_head; (case hw => w_witness2)
  k_fill
  refine K01.walk (l := PySem.Challenge.rw_seekways_k01_forms) rfl rfl (fun w h Y => PySem.W.kIn_of Y) ?F
  case F =>
    intro w mg fa h KX G hmg
    refine' K01.all_mk KX G hmg ?A_is_whole ?A_is_standing ?A_is_from ?A_is_between ?A_is_truth ?A_is_tuple_of ?A_are_numbers ?A_are_within ?A_are_rising ?A_is_pair ?A_are_pairs ?A_are_pairs_within ?A_is_table_row ?A_is_turn ?A_wrong_turn ?A_are_ends ?A_are_heads ?A_wrong_place ?A__law_deck ?A__law_next ?A__law_classes ?A__law_rests ?A__law_bounds ?A__law_cuts ?A__law_variants ?A__law_some ?A__law_task ?A__law_ends ?A__law_told ?A__law_whole ?A__law_is_standing ?A__law_part ?A__law_thing ⟨?b_isinstance, ?b_int, ?b_bool, ?b_tuple, ?b_len, ?b_all, ?b_zip, ?b_enumerate⟩ ⟨?n1, ?n2, ?n3, ?n4, ?n5, ?n6, ?n7⟩ ⟨?wo, ?ne, ?mo⟩ ?b_range ?b_list ?b_max ?b_repr ?b_abs ?aC ?a1 ?i1 ?l1 ?c1 ?k1 ?a2 ?i2 ?l2 ?c2 ?k2 ?a3 ?l3 ?c3 ?k3 ?pg ?hd ?po ?sa ?mk ?kc ?nT ?nM ?nE ?nH
    case A_is_whole =>
      refine' K01.at_mk KX G ?a ?l ?c ?k
      (case a => k_is); (case l => k_is); (case c => k_is); (case k => k_is)
    case A_is_standing =>
      refine' K01.at_mk KX G ?a ?l ?c ?k
      (case a => k_is); (case l => k_is); (case c => k_is); (case k => k_is)
    case A_is_from =>
      refine' K01.at_mk KX G ?a ?l ?c ?k
      (case a => k_is); (case l => k_is); (case c => k_is); (case k => k_is)
    case A_is_between =>
      refine' K01.at_mk KX G ?a ?l ?c ?k
      (case a => k_is); (case l => k_is); (case c => k_is); (case k => k_is)
    case A_is_truth =>
      refine' K01.at_mk KX G ?a ?l ?c ?k
      (case a => k_is); (case l => k_is); (case c => k_is); (case k => k_is)
    case A_is_tuple_of =>
      refine' K01.at_mk KX G ?a ?l ?c ?k
      (case a => k_is); (case l => k_is); (case c => k_is); (case k => k_is)
    case A_are_numbers =>
      refine' K01.at_mk KX G ?a ?l ?c ?k
      (case a => k_is); (case l => k_is); (case c => k_is); (case k => k_is)
    case A_are_within =>
      refine' K01.at_mk KX G ?a ?l ?c ?k
      (case a => k_is); (case l => k_is); (case c => k_is); (case k => k_is)
    case A_are_rising =>
      refine' K01.at_mk KX G ?a ?l ?c ?k
      (case a => k_is); (case l => k_is); (case c => k_is); (case k => k_is)
    case A_is_pair =>
      refine' K01.at_mk KX G ?a ?l ?c ?k
      (case a => k_is); (case l => k_is); (case c => k_is); (case k => k_is)
    case A_are_pairs =>
      refine' K01.at_mk KX G ?a ?l ?c ?k
      (case a => k_is); (case l => k_is); (case c => k_is); (case k => k_is)
    case A_are_pairs_within =>
      refine' K01.at_mk KX G ?a ?l ?c ?k
      (case a => k_is); (case l => k_is); (case c => k_is); (case k => k_is)
    case A_is_table_row =>
      refine' K01.at_mk KX G ?a ?l ?c ?k
      (case a => k_is); (case l => k_is); (case c => k_is); (case k => k_is)
    case A_is_turn =>
      refine' K01.at_mk KX G ?a ?l ?c ?k
      (case a => k_is); (case l => k_is); (case c => k_is); (case k => k_is)
    case A_wrong_turn =>
      refine' K01.at_mk KX G ?a ?l ?c ?k
      (case a => k_is); (case l => k_is); (case c => k_is); (case k => k_is)
    case A_are_ends =>
      refine' K01.at_mk KX G ?a ?l ?c ?k
      (case a => k_is); (case l => k_is); (case c => k_is); (case k => k_is)
    case A_are_heads =>
      refine' K01.at_mk KX G ?a ?l ?c ?k
      (case a => k_is); (case l => k_is); (case c => k_is); (case k => k_is)
    case A_wrong_place =>
      refine' K01.at_mk KX G ?a ?l ?c ?k
      (case a => k_is); (case l => k_is); (case c => k_is); (case k => k_is)
    case A__law_deck =>
      refine' K01.at_mk KX G ?a ?l ?c ?k
      (case a => k_is); (case l => k_is); (case c => k_is); (case k => k_is)
    case A__law_next =>
      refine' K01.at_mk KX G ?a ?l ?c ?k
      (case a => k_is); (case l => k_is); (case c => k_is); (case k => k_is)
    case A__law_classes =>
      refine' K01.at_mk KX G ?a ?l ?c ?k
      (case a => k_is); (case l => k_is); (case c => k_is); (case k => k_is)
    case A__law_rests =>
      refine' K01.at_mk KX G ?a ?l ?c ?k
      (case a => k_is); (case l => k_is); (case c => k_is); (case k => k_is)
    case A__law_bounds =>
      refine' K01.at_mk KX G ?a ?l ?c ?k
      (case a => k_is); (case l => k_is); (case c => k_is); (case k => k_is)
    case A__law_cuts =>
      refine' K01.at_mk KX G ?a ?l ?c ?k
      (case a => k_is); (case l => k_is); (case c => k_is); (case k => k_is)
    case A__law_variants =>
      refine' K01.at_mk KX G ?a ?l ?c ?k
      (case a => k_is); (case l => k_is); (case c => k_is); (case k => k_is)
    case A__law_some =>
      refine' K01.at_mk KX G ?a ?l ?c ?k
      (case a => k_is); (case l => k_is); (case c => k_is); (case k => k_is)
    case A__law_task =>
      refine' K01.at_mk KX G ?a ?l ?c ?k
      (case a => k_is); (case l => k_is); (case c => k_is); (case k => k_is)
    case A__law_ends =>
      refine' K01.at_mk KX G ?a ?l ?c ?k
      (case a => k_is); (case l => k_is); (case c => k_is); (case k => k_is)
    case A__law_told =>
      refine' K01.at_mk KX G ?a ?l ?c ?k
      (case a => k_is); (case l => k_is); (case c => k_is); (case k => k_is)
    case A__law_whole =>
      refine' K01.at_mk KX G ?a ?l ?c ?k
      (case a => k_is); (case l => k_is); (case c => k_is); (case k => k_is)
    case A__law_is_standing =>
      refine' K01.at_mk KX G ?a ?l ?c ?k
      (case a => k_is); (case l => k_is); (case c => k_is); (case k => k_is)
    case A__law_part =>
      refine' K01.at_mk KX G ?a ?l ?c ?k
      (case a => k_is); (case l => k_is); (case c => k_is); (case k => k_is)
    case A__law_thing =>
      refine' K01.at_mk KX G ?a ?l ?c ?k
      (case a => k_is); (case l => k_is); (case c => k_is); (case k => k_is)
    (case b_isinstance => refine PySem.W.mg_none_of KX G ?_; k_is)
    (case b_int => refine PySem.W.mg_none_of KX G ?_; k_is)
    (case b_bool => refine PySem.W.mg_none_of KX G ?_; k_is)
    (case b_tuple => refine PySem.W.mg_none_of KX G ?_; k_is)
    (case b_len => refine PySem.W.mg_none_of KX G ?_; k_is)
    (case b_all => refine PySem.W.mg_none_of KX G ?_; k_is)
    (case b_zip => refine PySem.W.mg_none_of KX G ?_; k_is)
    (case b_enumerate => refine PySem.W.mg_none_of KX G ?_; k_is)
    (case b_range => refine PySem.W.mg_none_of KX G ?_; k_is)
    (case b_list => refine PySem.W.mg_none_of KX G ?_; k_is)
    (case b_max => refine PySem.W.mg_none_of KX G ?_; k_is)
    (case b_repr => refine PySem.W.mg_none_of KX G ?_; k_is)
    (case b_abs => refine PySem.W.mg_none_of KX G ?_; k_is)
    (case n1 => refine' K01.int_mk KX G ?a; (case a => k_is))
    (case n2 => refine' K01.int_mk KX G ?a; (case a => k_is))
    (case n3 => refine' K01.int_mk KX G ?a; (case a => k_is))
    (case n4 => refine' K01.int_mk KX G ?a; (case a => k_is))
    (case n5 => refine' K01.int_mk KX G ?a; (case a => k_is))
    (case n6 => refine' K01.int_mk KX G ?a; (case a => k_is))
    (case n7 => refine' K01.int_mk KX G ?a; (case a => k_is))
    case wo =>
      refine' K01.words_mk KX G ?a ?l
      (case a => k_is); (case l => k_is)
    (case ne => refine' K01.int_mk KX G ?a; (case a => k_is))
    (case mo => refine' K01.int_mk KX G ?a; (case a => k_is))
    (case aC => k_is)
    (case a1 => k_is)
    (case i1 => k_is)
    (case l1 => k_is)
    (case c1 => k_is)
    (case k1 => k_is)
    (case a2 => k_is)
    (case i2 => k_is)
    (case l2 => k_is)
    (case c2 => k_is)
    (case k2 => k_is)
    (case a3 => k_is)
    (case l3 => k_is)
    (case c3 => k_is)
    (case k3 => k_is)
    (case pg => k_is)
    (case hd => k_is)
    (case po => k_is)
    (case sa => k_is)
    (case mk => k_is)
    (case kc => k_is)
    (case nT => k_is)
    (case nM => k_is)
    (case nE => k_is)
    (case nH => k_is)

