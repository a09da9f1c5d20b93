import PyProof.Rows.All
import Wide.All
import OpenK.AllK
import Wide.FinOn
import HandS.ForMost
import HandS.IsInst
import HandS.Evl
import HandS.Walk
import HandS.Zip
import HandS.Style
import HandS.TupMul
import HandS.TupAny
import HandS.Wide
import HandS.MakeKwOnly
import HandS.Conv
import HandS.SortInts
import KE.GoesEnum
import HandS.Deep
import PyProof.P3In
import KE.KIndexOf
import HandS.ReCall
import KE.KTupSum
import PyProof.ReprLen
import HandS.SetFor
import HandS.TupSets
import HandS.Small
import KE.KDictDisplayH
import PyProof.Rows.TupDisplay
import KE.DataMinMax
import KE.SortData
import PyProof.Rows.RowBridgeK
import PySem.Challenge.RW_seekways_k04_labels
set_option Elab.async false
set_option linter.all false
set_option maxRecDepth 100000
set_option maxHeartbeats 8000000
namespace Sd
open PySem PySem.Spec PyProof.Rows L2
open Evl (Ex)
/-! readings by the run itself -/
section
variable {X : Cx} {e : Expr} {σ : L2.St} {H : Hp}
structure WE (X : Cx) (e : Expr) (σ : L2.St) (H : Hp) (Q : VK) : Prop where
  run : ∀ (pins : List (Addr × Obj)) (s : Shared), Inv X pins σ H s →
    wpAny (model X.prog X.w) X.A (eval e X.env) (EP X pins σ Q) X.xe s
theorem WE.pe : PE X e (WE X e) := ⟨fun pins s _ _ _ I h => h.run pins s I⟩
theorem WE.of {t : TE} {Q : VK} (p : PE X e t) (h : t σ H Q) : WE X e σ H Q :=
  ⟨fun pins s I => p.run pins s σ H Q I h⟩
structure WT (X : Cx) (e : Expr) (σ : L2.St) (H : Hp) (Q : Bool → Hp → Prop) : Prop where
  run : ∀ (pins : List (Addr × Obj)) (s : Shared), Inv X pins σ H s →
    wpAny (model X.prog X.w) X.A (isTrue e X.env (eval e X.env)) (TP X pins σ Q) X.xe s
theorem WT.pt : PT X e (WT X e) := ⟨fun pins s _ _ _ I h => h.run pins s I⟩
theorem WT.of {t : TT} {Q : Bool → Hp → Prop} (p : PT X e t) (h : t σ H Q) : WT X e σ H Q :=
  ⟨fun pins s I => p.run pins s σ H Q I h⟩
structure WA (X : Cx) (es : List Expr) (σ : L2.St) (H : Hp) (Q : List V → Hp → Prop) : Prop where
  run : ∀ (pos : Pos) (pins : List (Addr × Obj)) (s : Shared), Inv X pins σ H s →
    wpAny (model X.prog X.w) X.A (spliced (backTo pos (starEach es X.env))) (AP X pins σ Q) X.xe s
theorem WA.pa {es : List Expr} : PA X es (WA X es) := ⟨fun pos pins s _ _ _ I h => h.run pos pins s I⟩
theorem WA.of {es : List Expr} {t : TA} {Q : List V → Hp → Prop} (p : PA X es t) (h : t σ H Q) : WA X es σ H Q :=
  ⟨fun pos pins s I => p.run pos pins s σ H Q I h⟩
structure WS (X : Cx) (b : List Stmt) (D : Ends) (σ : L2.St) (H : Hp) : Prop where
  run : ∀ (pins : List (Addr × Obj)) (s : Shared), Inv X pins σ H s →
    wpAny (model X.prog X.w) X.A (execs b X.env) (SP X pins D) X.xe s
theorem WS.ps {b : List Stmt} : PSs X b (WS X b) := ⟨fun pins s _ _ _ I h => h.run pins s I⟩
theorem WS.of {b : List Stmt} {t : TS} {D : Ends} (p : PSs X b t) (h : t D σ H) : WS X b D σ H :=
  ⟨fun pins s I => p.run pins s σ H D I h⟩
structure WI (X : Cx) (tg iter : Expr) (σ : L2.St) (H : Hp) (R : It → Hp → Prop) : Prop where
  run : ∀ (pins : List (Addr × Obj)) (s : Shared), Inv X pins σ H s →
    wpAny (model X.prog X.w) X.A (eval iter X.env) (fun v s1 => wpAny (model X.prog X.w) X.A (pyIter v) (PIE X pins σ tg R) X.xe s1) X.xe s
theorem WI.pi {tg iter : Expr} : PI X tg iter (WI X tg iter) := ⟨fun pins s _ _ _ I h => h.run pins s I⟩
theorem WI.of {tg iter : Expr} {t : TI} {R : It → Hp → Prop} (p : PI X tg iter t) (h : t σ H R) : WI X tg iter σ H R := ⟨fun pins s I => p.run pins s σ H R I h⟩
structure WTs (X : Cx) (ifs : List Expr) (σ : L2.St) (H : Hp) (Q : Bool → Hp → Prop) : Prop where
  run : ∀ (pins : List (Addr × Obj)) (s : Shared), Inv X pins σ H s →
    wpAny (model X.prog X.w) X.A (forIn ifs true fun c r => if r = true then do let ok ← isTrue c X.env (eval c X.env); pure (ForInStep.yield ok) else pure (ForInStep.yield r)) (TP X pins σ Q) X.xe s
theorem WTs.of {ifs : List Expr} {t : TT} {Q : Bool → Hp → Prop} (p : PTs X ifs t) (h : t σ H Q) : WTs X ifs σ H Q := ⟨fun pins s I => p.run pins s σ H Q I h⟩
theorem WE.mono {Q Q' : VK} (h : WE X e σ H Q) (q : ∀ v H', Q v H' → Q' v H') : WE X e σ H Q' :=
  ⟨fun pins s I => thn (h.run pins s I) fun _ _ ⟨v, H', I', r, z⟩ => ⟨v, H', I', r, q v H' z⟩⟩
theorem WA.mono {es : List Expr} {Q Q' : List V → Hp → Prop} (h : WA X es σ H Q) (q : ∀ v H', Q v H' → Q' v H') : WA X es σ H Q' :=
  ⟨fun pos pins s I => thn (h.run pos pins s I) fun _ _ ⟨v, H', I', r, z⟩ => ⟨v, H', I', r, q v H' z⟩⟩
theorem WT.mono {Q Q' : Bool → Hp → Prop} (h : WT X e σ H Q) (q : ∀ v H', Q v H' → Q' v H') : WT X e σ H Q' :=
  ⟨fun pins s I => thn (h.run pins s I) fun _ _ ⟨H', I', z⟩ => ⟨H', I', q _ H' z⟩⟩
theorem WTs.mono {es : List Expr} {Q Q' : Bool → Hp → Prop} (h : WTs X es σ H Q) (q : ∀ v H', Q v H' → Q' v H') : WTs X es σ H Q' :=
  ⟨fun pins s I => thn (h.run pins s I) fun _ _ ⟨H', I', z⟩ => ⟨H', I', q _ H' z⟩⟩
theorem WS.mono {b : List Stmt} {D D' : Ends} (h : WS X b D σ H) (n : ∀ σ H, D.nx σ H → D'.nx σ H) (r : ∀ v H, D.rt v H → D'.rt v H) (k : ∀ σ H, D.bk σ H → D'.bk σ H) (c : ∀ σ H, D.ct σ H → D'.ct σ H) : WS X b D' σ H := by
  refine ⟨fun pins s I => thn (h.run pins s I) fun f s' z => ?_⟩
  cases f with
  | next =>
    obtain ⟨σ', H', I', q⟩ := z
    exact ⟨σ', H', I', n _ _ q⟩
  | brk =>
    obtain ⟨σ', H', I', q⟩ := z
    exact ⟨σ', H', I', k _ _ q⟩
  | cont =>
    obtain ⟨σ', H', I', q⟩ := z
    exact ⟨σ', H', I', c _ _ q⟩
  | ret u =>
    obtain ⟨v, σ', H', I', w, q⟩ := z
    exact ⟨v, σ', H', I', w, r _ _ q⟩
end
/-! heaps: g what stays, R what may change -/
abbrev Rl := List (Addr × HO)
structure Sh (g : Hp) (R : Rl) (H : Hp) : Prop where
  ex : Ex g H
  at_ : ∀ q ∈ R, H q.1 = some q.2
  free : ∀ q ∈ R, g q.1 = none
  nd : (R.map (·.1)).Nodup
theorem Sh.ext {g H H' : Hp} {R : Rl} (s : Sh g R H) (e : Ex H H') : Sh g R H' := ⟨s.ex.trans e, fun q hq => e _ _ (s.at_ q hq), s.free, s.nd⟩
theorem Sh.perm {g H : Hp} {R R' : Rl} (s : Sh g R H) (p : R.Perm R') : Sh g R' H :=
  ⟨s.ex, fun q hq => s.at_ q (p.mem_iff.mpr hq), fun q hq => s.free q (p.mem_iff.mpr hq), (p.map _).nodup_iff.mp s.nd⟩
theorem Sh.new {g H : Hp} {R : Rl} (s : Sh g R H) {p : Addr} {o : HO} (n : H p = none) : Sh g ((p, o) :: R) (upd H p o) :=
  ⟨s.ex.trans (Evl.Ex.new n), fun q hq => by
    rcases List.mem_cons.mp hq with rfl | hq
    · exact upd_same
    · exact Evl.Ex.new n _ _ (s.at_ q hq), fun q hq => by
    rcases List.mem_cons.mp hq with rfl | hq
    · exact Evl.fresh_back s.ex n
    · exact s.free q hq, by
    rw [List.map_cons, List.nodup_cons]
    refine ⟨fun hm => ?_, s.nd⟩
    obtain ⟨q, hq, e⟩ := List.mem_map.mp hm
    have z := s.at_ q hq
    rw [e, n] at z
    cases z⟩
theorem Sh.keep {g H : Hp} {R : Rl} {p : Addr} {o : HO} (s : Sh g ((p, o) :: R) H) : Sh (upd g p o) R H ∧ Ex g (upd g p o) := by
  have n : g p = none := s.free _ (List.mem_cons_self ..)
  have nd := List.nodup_cons.mp s.nd
  refine ⟨⟨fun q u z => ?_, fun q hq => s.at_ q (List.mem_cons_of_mem _ hq), fun q hq => ?_, nd.2⟩, Evl.Ex.new n⟩
  · by_cases e : q = p
    · subst e
      rw [upd_same] at z
      rw [← z]
      exact s.at_ _ (List.mem_cons_self ..)
    · rw [upd_ne e] at z
      exact s.ex q u z
  · have ne : q.1 ≠ p := fun e => nd.1 (List.mem_map.mpr ⟨q, hq, e⟩)
    rw [upd_ne ne]
    exact s.free q (List.mem_cons_of_mem _ hq)
/-- the first of R changes -/
theorem Sh.put {g H : Hp} {R : Rl} {p : Addr} {o o' : HO} (s : Sh g ((p, o) :: R) H) : Sh g ((p, o') :: R) (upd H p o') := by
  have n : g p = none := s.free _ (List.mem_cons_self ..)
  have nd := List.nodup_cons.mp s.nd
  refine ⟨Evl.Ex.mut s.ex n, fun q hq => ?_, fun q hq => ?_, s.nd⟩
  · rcases List.mem_cons.mp hq with rfl | hq
    · exact upd_same
    · have ne : q.1 ≠ p := fun e => nd.1 (List.mem_map.mpr ⟨q, hq, e⟩)
      rw [upd_ne ne]
      exact s.at_ q (List.mem_cons_of_mem _ hq)
  · rcases List.mem_cons.mp hq with rfl | hq
    · exact n
    · exact s.free q (List.mem_cons_of_mem _ hq)
theorem Sh.drop {g H : Hp} {R : Rl} {q : Addr × HO} (s : Sh g (q :: R) H) : Sh g R H :=
  ⟨s.ex, fun x hx => s.at_ x (List.mem_cons_of_mem _ hx), fun x hx => s.free x (List.mem_cons_of_mem _ hx), (List.nodup_cons.mp s.nd).2⟩
theorem Sh.sub {g H : Hp} {R R' : Rl} (s : Sh g R H) (p : R'.Sublist R) : Sh g R' H :=
  ⟨s.ex, fun x hx => s.at_ x (p.subset hx), fun x hx => s.free x (p.subset hx), (p.map _).nodup s.nd⟩
theorem Sh.down {g g' H : Hp} {R : Rl} (s : Sh g' R H) (e : Ex g g') : Sh g R H := ⟨e.trans s.ex, s.at_, fun q hq => Evl.fresh_back e (s.free q hq), s.nd⟩
theorem Sh.head {g H : Hp} {R : Rl} {p : Addr} {o : HO} (s : Sh g ((p, o) :: R) H) : H p = some o := s.at_ _ (List.mem_cons_self ..)
/-- a new object that stays -/
theorem Sh.add {g H : Hp} {R : Rl} (s : Sh g R H) {p : Addr} {o : HO} (n : H p = none) : Sh (upd g p o) R (upd H p o) ∧ Ex g (upd g p o) := (s.new n).keep
/-! data -/
inductive D where
  | non
  | bl (b : Bool)
  | int (i : Int)
  | str (x : Str)
  | tup (l : List D)
  | tupU (l : List D)
  | lst (l : List D)
  | scr (l : List Int)
  | dct (ks : List Int) (l : List D)
  | ins (c : Nat) (ks : List Str) (l : List D)
  | ref (k : Nat)
def Pf (ι ι' : List Addr) : Prop := ∀ (k : Nat) (a : Addr), ι[k]? = some a → ι'[k]? = some a
theorem Pf.refl (ι : List Addr) : Pf ι ι := fun _ _ h => h
theorem Pf.trans {a b c : List Addr} (x : Pf a b) (y : Pf b c) : Pf a c := fun k p h => y k p (x k p h)
theorem Pf.snoc (ι : List Addr) (a : Addr) : Pf ι (ι ++ [a]) := fun k p h => by
  rw [List.getElem?_append_left (List.getElem?_eq_some_iff.mp h).1]
  exact h
/-- an object without a dict -/
def NoD (K : PySem.W.Frag) (g : Hp) (a : Addr) : Prop := (∃ o u, g a = some (.frz o (.tup u)) ∧ o.dict = none) ∨ ∃ o, K.lookup a = some o ∧ o.cls = .type "tuple" ∧ o.dict = none
theorem NoD.up {K : PySem.W.Frag} {g g' : Hp} {a : Addr} (e : Ex g g') (h : NoD K g a) : NoD K g' a := by
  rcases h with ⟨o, u, h, n⟩ | h
  · exact .inl ⟨o, u, e _ _ h, n⟩
  · exact .inr h
mutual
inductive DR (K : PySem.W.Frag) (cl : Nat → Addr) (ι : List Addr) (g : Hp) : V → D → Prop
  | non : DR K cl ι g .non .non
  | bl (b : Bool) : DR K cl ι g (.bl b) (.bl b)
  | int (i : Int) : DR K cl ι g (.int i) (.int i)
  | str (x : Str) : DR K cl ι g (.str x) (.str x)
  | tup {a : Addr} {xs : List V} {ds : List D} (h : SqT K g a xs) (n : NoD K g a) (r : DRs K cl ι g xs ds) : DR K cl ι g (.ref a) (.tup ds)
  | tupU {a : Addr} {xs : List V} {ds : List D} (h : SqT K g a xs) (r : DRs K cl ι g xs ds) : DR K cl ι g (.ref a) (.tupU ds)
  | lst {a : Addr} {xs : List V} {ds : List D} (h : g a = some (.lst xs)) (r : DRs K cl ι g xs ds) : DR K cl ι g (.ref a) (.lst ds)
  | scr {a : Addr} {ns : List Int} (h : SqL K g a (ns.map V.int)) : DR K cl ι g (.ref a) (.scr ns)
  | dct {a : Addr} {kvs : List (Key × V)} {ks : List Int} {ds : List D} (h : g a = some (.dK kvs)) (hk : kvs.map (·.1) = ks.map Sum.inl) (r : DRs K cl ι g (kvs.map (·.2)) ds) : DR K cl ι g (.ref a) (.dct ks ds)
  | ins {a dx : Addr} {c : Nat} {fs : List (Str × V)} {ds : List D} (h : g a = some (.ins (cl c) dx fs)) (r : DRs K cl ι g (fs.map (·.2)) ds) : DR K cl ι g (.ref a) (.ins c (fs.map (·.1)) ds)
  | ref {a : Addr} {k : Nat} (h : ι[k]? = some a) : DR K cl ι g (.ref a) (.ref k)
inductive DRs (K : PySem.W.Frag) (cl : Nat → Addr) (ι : List Addr) (g : Hp) : List V → List D → Prop
  | nil : DRs K cl ι g [] []
  | cons {v : V} {vs : List V} {d : D} {ds : List D} (h : DR K cl ι g v d) (r : DRs K cl ι g vs ds) : DRs K cl ι g (v :: vs) (d :: ds)
end
structure Lt (g : Hp) (ι : List Addr) (g' : Hp) (ι' : List Addr) : Prop where
  e : Ex g g'
  p : Pf ι ι'
theorem Lt.refl {g : Hp} {ι : List Addr} : Lt g ι g ι := ⟨Evl.Ex.refl g, .refl ι⟩
theorem Lt.trans {g1 g2 g3 : Hp} {i1 i2 i3 : List Addr} (a : Lt g1 i1 g2 i2) (b : Lt g2 i2 g3 i3) : Lt g1 i1 g3 i3 := ⟨a.e.trans b.e, a.p.trans b.p⟩
section
variable {K : PySem.W.Frag} {cl : Nat → Addr} {ι ι' : List Addr} {g g' : Hp}
mutual
theorem DR.up (l : Lt g ι g' ι') : ∀ {v : V} {d : D}, DR K cl ι g v d → DR K cl ι' g' v d
  | _, _, .non => .non
  | _, _, .bl b => .bl b
  | _, _, .int i => .int i
  | _, _, .str x => .str x
  | _, _, .tup h n r => .tup (Evl.ex_t l.e h) (NoD.up l.e n) (DRs.up l r)
  | _, _, .tupU h r => .tupU (Evl.ex_t l.e h) (DRs.up l r)
  | _, _, .lst h r => .lst (l.e _ _ h) (DRs.up l r)
  | _, _, .scr h => .scr (Evl.ex_l l.e h)
  | _, _, .dct h k r => .dct (l.e _ _ h) k (DRs.up l r)
  | _, _, .ins h r => .ins (l.e _ _ h) (DRs.up l r)
  | _, _, .ref h => .ref (l.p _ _ h)
theorem DRs.up (l : Lt g ι g' ι') : ∀ {vs : List V} {ds : List D}, DRs K cl ι g vs ds → DRs K cl ι' g' vs ds
  | _, _, .nil => .nil
  | _, _, .cons h r => .cons (DR.up l h) (DRs.up l r)
end
theorem DRs.length : ∀ {vs : List V} {ds : List D}, DRs K cl ι g vs ds → vs.length = ds.length
  | _, _, .nil => rfl
  | _, _, .cons _ r => by rw [List.length_cons, List.length_cons, DRs.length r]
theorem DRs.get : ∀ {vs : List V} {ds : List D} {i : Nat} {v : V}, DRs K cl ι g vs ds → vs[i]? = some v → ∃ d, ds[i]? = some d ∧ DR K cl ι g v d
  | _, _, _, _, .nil, h => by cases h
  | _, _, 0, _, .cons h r, e => by
    cases e
    exact ⟨_, rfl, h⟩
  | _, _, i + 1, _, .cons _ r, e => DRs.get (i := i) r e
theorem DRs.at : ∀ {vs : List V} {ds : List D} {i : Nat} {d : D}, DRs K cl ι g vs ds → ds[i]? = some d → ∃ v, vs[i]? = some v ∧ DR K cl ι g v d
  | _, _, _, _, .nil, h => by cases h
  | _, _, 0, _, .cons h r, e => by
    cases e
    exact ⟨_, rfl, h⟩
  | _, _, i + 1, _, .cons _ r, e => DRs.at (i := i) r e
theorem DRs.append : ∀ {vs ws : List V} {ds es : List D}, DRs K cl ι g vs ds → DRs K cl ι g ws es → DRs K cl ι g (vs ++ ws) (ds ++ es)
  | _, _, _, _, .nil, h => h
  | _, _, _, _, .cons h r, z => .cons h (DRs.append r z)
theorem DRs.snoc {vs : List V} {ds : List D} {v : V} {d : D} (a : DRs K cl ι g vs ds) (b : DR K cl ι g v d) : DRs K cl ι g (vs ++ [v]) (ds ++ [d]) := a.append (.cons b .nil)
theorem DRs.drop : ∀ (n : Nat) {vs : List V} {ds : List D}, DRs K cl ι g vs ds → DRs K cl ι g (vs.drop n) (ds.drop n)
  | 0, _, _, h => h
  | _ + 1, _, _, .nil => .nil
  | n + 1, _, _, .cons _ r => DRs.drop n r
theorem DRs.take : ∀ (n : Nat) {vs : List V} {ds : List D}, DRs K cl ι g vs ds → DRs K cl ι g (vs.take n) (ds.take n)
  | 0, _, _, _ => .nil
  | _ + 1, _, _, .nil => .nil
  | n + 1, _, _, .cons h r => .cons h (DRs.take n r)
theorem DRs.set : ∀ (n : Nat) {vs : List V} {ds : List D} {v : V} {d : D}, DRs K cl ι g vs ds → DR K cl ι g v d → DRs K cl ι g (vs.set n v) (ds.set n d)
  | _, _, _, _, _, .nil, _ => .nil
  | 0, _, _, _, _, .cons _ r, z => .cons z r
  | n + 1, _, _, _, _, .cons h r, z => .cons h (DRs.set n r z)
theorem DRs.flat : ∀ (n : Nat) {vs : List V} {ds : List D}, DRs K cl ι g vs ds → DRs K cl ι g (List.replicate n vs).flatten (List.replicate n ds).flatten
  | 0, _, _, _ => .nil
  | n + 1, vs, ds, h => by
    rw [List.replicate_succ, List.replicate_succ, List.flatten_cons, List.flatten_cons]
    exact h.append (DRs.flat n h)
theorem DRs.ints : ∀ {vs : List V} {ns : List Int}, DRs K cl ι g vs (ns.map .int) → vs = ns.map V.int
  | _, [], .nil => rfl
  | _, n :: ns, .cons h r => by
    cases h
    rw [DRs.ints r]
    rfl
theorem DRs.ofInts : ∀ (ns : List Int), DRs K cl ι g (ns.map V.int) (ns.map D.int)
  | [] => .nil
  | n :: ns => .cons (.int n) (DRs.ofInts ns)
end
/-! states -/
/-- what a dict that may change holds, in its order: by tuples of ints, by ints -/
inductive DO where
  | t (l : List (List Int × D))
  | k (l : List (Int × D))
inductive SV where
  | un
  | dat (d : D)
  | chg (l : List D)
  | dic (o : DO)
inductive SO where
  | lst (l : List D)
  | ins (c : Nat) (ks : List Str) (l : List D)
  | dead
structure S where
  r : List SV
  st : List SO
abbrev M (α : Type) : Type := S → Option (α × S)
def ret {α : Type} (a : α) : M α := fun s => some (a, s)
def bd {α β : Type} (m : M α) (f : α → M β) : M β := fun s => match m s with
  | some (a, s') => f a s'
  | none => none
def fl {α : Type} : M α := fun _ => none
def lf {α : Type} (o : Option α) : M α := fun s => match o with
  | some a => some (a, s)
  | none => none
theorem bd_some {α β : Type} {m : M α} {f : α → M β} {s s2 : S} {b : β} (h : bd m f s = some (b, s2)) : ∃ a s1, m s = some (a, s1) ∧ f a s1 = some (b, s2) := by
  unfold bd at h
  cases e : m s with
  | none =>
    rw [e] at h
    cases h
  | some q =>
    rw [e] at h
    exact ⟨q.1, q.2, rfl, h⟩
theorem lf_some {α : Type} {o : Option α} {s s2 : S} {b : α} (h : lf o s = some (b, s2)) : o = some b ∧ s2 = s := by
  unfold lf at h
  cases o with
  | none => cases h
  | some a =>
    cases h
    exact ⟨rfl, rfl⟩
/-- a dict by tuples of ints at a: its entries -/
def hashT (ks : List Int) : Int := reduceHash (Builtin.Tuple.tupleHashOf (ks.map hashInt))
def entT (x : List Int × Addr × Value) : DictEntry := ⟨hashT x.1, .ref x.2.1, x.2.2⟩
def dObj (a : Addr) (us : List (List Int × Addr × Value)) : HO := .ext fun h => (a == sysModules) = false ∧ us.length ≤ sizeLine ∧ ∃ o es ep, h.get? a = some o ∧ o.ExactDict ∧ o.data = .dict es ep ∧ es.toList = us.map entT
inductive OR (K : PySem.W.Frag) (cl : Nat → Addr) (ι : List Addr) (g : Hp) : Addr → HO → DO → Prop
  | t {a : Addr} {us : List (List Int × Addr × Value)} {vs : List V} {l : List (List Int × D)} (hk : us.map (·.1) = l.map (·.1)) (hv : Vals vs (us.map (·.2.2))) (h : DRs K cl ι g vs (l.map (·.2))) (kt : ∀ u ∈ us, DR K cl ι g (.ref u.2.1) (.tup (u.1.map D.int))) (nd : (us.map (·.1)).Nodup) : OR K cl ι g a (dObj a us) (.t l)
  | k {a : Addr} {kvs : List (Key × V)} {l : List (Int × D)} (hk : kvs.map (·.1) = l.map fun q => Sum.inl q.1) (h : DRs K cl ι g (kvs.map (·.2)) (l.map (·.2))) : OR K cl ι g a (.dK kvs) (.k l)
theorem OR.up {K : PySem.W.Frag} {cl : Nat → Addr} {ι ι' : List Addr} {g g' : Hp} {a : Addr} {h : HO} {o : DO} (l : Lt g ι g' ι') (r : OR K cl ι g a h o) : OR K cl ι' g' a h o := by
  cases r with
  | t hk hv h kt nd => exact .t hk hv (h.up l) (fun u hu => (kt u hu).up l) nd
  | k hk h => exact .k hk (h.up l)
inductive MR (K : PySem.W.Frag) (cl : Nat → Addr) (ι : List Addr) (g : Hp) : L2.St → List SV → Rl → Prop
  | nil : MR K cl ι g [] [] []
  | un {v : Option V} {σ : L2.St} {ρ : List SV} {R : Rl} (r : MR K cl ι g σ ρ R) : MR K cl ι g (v :: σ) (.un :: ρ) R
  | dat {v : V} {d : D} {σ : L2.St} {ρ : List SV} {R : Rl} (h : DR K cl ι g v d) (r : MR K cl ι g σ ρ R) : MR K cl ι g (some v :: σ) (.dat d :: ρ) R
  | chg {a : Addr} {vs : List V} {l : List D} {σ : L2.St} {ρ : List SV} {R : Rl} (h : DRs K cl ι g vs l) (r : MR K cl ι g σ ρ R) : MR K cl ι g (some (.ref a) :: σ) (.chg l :: ρ) ((a, .lst vs) :: R)
  | dic {a : Addr} {ho : HO} {o : DO} {σ : L2.St} {ρ : List SV} {R : Rl} (h : OR K cl ι g a ho o) (r : MR K cl ι g σ ρ R) : MR K cl ι g (some (.ref a) :: σ) (.dic o :: ρ) ((a, ho) :: R)
inductive TR (K : PySem.W.Frag) (cl : Nat → Addr) (ι : List Addr) (g : Hp) : List Addr → List SO → Rl → Prop
  | nil : TR K cl ι g [] [] []
  | lst {a : Addr} {vs : List V} {l : List D} {as : List Addr} {st : List SO} {R : Rl} (h : DRs K cl ι g vs l) (r : TR K cl ι g as st R) : TR K cl ι g (a :: as) (.lst l :: st) ((a, .lst vs) :: R)
  | ins {a dx : Addr} {c : Nat} {fs : List (Str × V)} {l : List D} {as : List Addr} {st : List SO} {R : Rl} (h : DRs K cl ι g (fs.map (·.2)) l) (r : TR K cl ι g as st R) : TR K cl ι g (a :: as) (.ins c (fs.map (·.1)) l :: st) ((a, .ins (cl c) dx fs) :: R)
  | dead {a : Addr} {as : List Addr} {st : List SO} {R : Rl} (r : TR K cl ι g as st R) : TR K cl ι g (a :: as) (.dead :: st) R
section
variable {K : PySem.W.Frag} {cl : Nat → Addr} {ι ι' as : List Addr} {g g' H : Hp} {σ : L2.St} {ρ : List SV} {R : Rl} {st : List SO}
theorem MR.up (l : Lt g ι g' ι') (h : MR K cl ι g σ ρ R) : MR K cl ι' g' σ ρ R := by
  induction h with
  | nil => exact .nil
  | un _ ih => exact .un ih
  | dat h _ ih => exact .dat (h.up l) ih
  | chg h _ ih => exact .chg (h.up l) ih
  | dic h _ ih => exact .dic (h.up l) ih
theorem TR.up (l : Lt g ι g' ι') (h : TR K cl ι g as st R) : TR K cl ι' g' as st R := by
  induction h with
  | nil => exact .nil
  | lst h _ ih => exact .lst (h.up l) ih
  | ins h _ ih => exact .ins (h.up l) ih
  | dead _ ih => exact .dead ih
theorem TR.length (h : TR K cl ι g as st R) : as.length = st.length := by
  induction h with
  | nil => rfl
  | lst _ _ ih => rw [List.length_cons, List.length_cons, ih]
  | ins _ _ ih => rw [List.length_cons, List.length_cons, ih]
  | dead _ ih => rw [List.length_cons, List.length_cons, ih]
theorem MR.length (h : MR K cl ι g σ ρ R) : σ.length = ρ.length := by
  induction h with
  | nil => rfl
  | un _ ih => rw [List.length_cons, List.length_cons, ih]
  | dat _ _ ih => rw [List.length_cons, List.length_cons, ih]
  | chg _ _ ih => rw [List.length_cons, List.length_cons, ih]
  | dic _ _ ih => rw [List.length_cons, List.length_cons, ih]
/-- a slot with a datum -/
theorem MR.get {n : Nat} {d : D} (h : MR K cl ι g σ ρ R) (e : ρ[n]? = some (.dat d)) : ∃ v, σ[n]? = some (some v) ∧ DR K cl ι g v d := by
  induction h generalizing n with
  | nil => cases e
  | un _ ih =>
    cases n with
    | zero => cases e
    | succ n => exact ih e
  | dat h _ ih =>
    cases n with
    | zero =>
      cases e
      exact ⟨_, rfl, h⟩
    | succ n => exact ih e
  | chg h _ ih =>
    cases n with
    | zero => cases e
    | succ n => exact ih e
  | dic h _ ih =>
    cases n with
    | zero => cases e
    | succ n => exact ih e
/-- a slot with a list that may change: its place in R; what it may become -/
theorem MR.mutAt {n : Nat} {l : List D} (h : MR K cl ι g σ ρ R) (e : ρ[n]? = some (.chg l)) : ∃ a vs R', σ[n]? = some (some (.ref a)) ∧ DRs K cl ι g vs l ∧ R.Perm ((a, .lst vs) :: R') ∧
    (∀ l2 vs2 g2 ι2, Lt g ι g2 ι2 → DRs K cl ι2 g2 vs2 l2 → ∃ R2, R2.Perm ((a, .lst vs2) :: R') ∧ MR K cl ι2 g2 σ (ρ.set n (.chg l2)) R2) ∧
    (∀ d g2 ι2, Lt g ι g2 ι2 → DR K cl ι2 g2 (.ref a) d → MR K cl ι2 g2 σ (ρ.set n (.dat d)) R') := by
  induction h generalizing n with
  | nil => cases e
  | un h0 ih =>
    cases n with
    | zero => cases e
    | succ n =>
      obtain ⟨a, vs, R', h1, h2, h3, h4, h5⟩ := ih e
      refine ⟨a, vs, R', h1, h2, h3, fun l2 vs2 g2 ι2 lt r => ?_, fun d g2 ι2 lt r => .un (h5 d g2 ι2 lt r)⟩
      obtain ⟨R2, p, m⟩ := h4 l2 vs2 g2 ι2 lt r
      exact ⟨R2, p, .un m⟩
  | dat h h0 ih =>
    cases n with
    | zero => cases e
    | succ n =>
      obtain ⟨a, vs, R', h1, h2, h3, h4, h5⟩ := ih e
      refine ⟨a, vs, R', h1, h2, h3, fun l2 vs2 g2 ι2 lt r => ?_, fun d g2 ι2 lt r => .dat (h.up lt) (h5 d g2 ι2 lt r)⟩
      obtain ⟨R2, p, m⟩ := h4 l2 vs2 g2 ι2 lt r
      exact ⟨R2, p, .dat (h.up lt) m⟩
  | @chg a0 vs0 l0 σ0 ρ0 R0 h h0 ih =>
    cases n with
    | zero =>
      cases e
      exact ⟨_, _, _, rfl, h, .refl _, fun l2 vs2 g2 ι2 lt r => ⟨_, .refl _, .chg r (h0.up lt)⟩, fun d g2 ι2 lt r => .dat r (h0.up lt)⟩
    | succ n =>
      obtain ⟨a, vs, R', h1, h2, h3, h4, h5⟩ := ih e
      refine ⟨a, vs, (a0, .lst vs0) :: R', h1, h2, (h3.cons _).trans (.swap ..), fun l2 vs2 g2 ι2 lt r => ?_, fun d g2 ι2 lt r => .chg (h.up lt) (h5 d g2 ι2 lt r)⟩
      obtain ⟨R2, p, m⟩ := h4 l2 vs2 g2 ι2 lt r
      exact ⟨(a0, .lst vs0) :: R2, (p.cons _).trans (.swap ..), .chg (h.up lt) m⟩
  | @dic a0 ho0 o0 σ0 ρ0 R0 h h0 ih =>
    cases n with
    | zero => cases e
    | succ n =>
      obtain ⟨a, vs, R', h1, h2, h3, h4, h5⟩ := ih e
      refine ⟨a, vs, (a0, ho0) :: R', h1, h2, (h3.cons _).trans (.swap ..), fun l2 vs2 g2 ι2 lt r => ?_, fun d g2 ι2 lt r => .dic (h.up lt) (h5 d g2 ι2 lt r)⟩
      obtain ⟨R2, p, m⟩ := h4 l2 vs2 g2 ι2 lt r
      exact ⟨(a0, ho0) :: R2, (p.cons _).trans (.swap ..), .dic (h.up lt) m⟩
/-- a slot with a dict that may change -/
theorem MR.dicAt {n : Nat} {o : DO} (h : MR K cl ι g σ ρ R) (e : ρ[n]? = some (.dic o)) : ∃ a ho R', σ[n]? = some (some (.ref a)) ∧ OR K cl ι g a ho o ∧ R.Perm ((a, ho) :: R') ∧
    (∀ o2 ho2 g2 ι2, Lt g ι g2 ι2 → OR K cl ι2 g2 a ho2 o2 → ∃ R2, R2.Perm ((a, ho2) :: R') ∧ MR K cl ι2 g2 σ (ρ.set n (.dic o2)) R2) := by
  induction h generalizing n with
  | nil => cases e
  | un h0 ih =>
    cases n with
    | zero => cases e
    | succ n =>
      obtain ⟨a, ho, R', h1, h2, h3, h4⟩ := ih e
      refine ⟨a, ho, R', h1, h2, h3, fun o2 ho2 g2 ι2 lt r => ?_⟩
      obtain ⟨R2, p, m⟩ := h4 o2 ho2 g2 ι2 lt r
      exact ⟨R2, p, .un m⟩
  | dat h h0 ih =>
    cases n with
    | zero => cases e
    | succ n =>
      obtain ⟨a, ho, R', h1, h2, h3, h4⟩ := ih e
      refine ⟨a, ho, R', h1, h2, h3, fun o2 ho2 g2 ι2 lt r => ?_⟩
      obtain ⟨R2, p, m⟩ := h4 o2 ho2 g2 ι2 lt r
      exact ⟨R2, p, .dat (h.up lt) m⟩
  | @chg a0 vs0 l0 σ0 ρ0 R0 h h0 ih =>
    cases n with
    | zero => cases e
    | succ n =>
      obtain ⟨a, ho, R', h1, h2, h3, h4⟩ := ih e
      refine ⟨a, ho, (a0, .lst vs0) :: R', h1, h2, (h3.cons _).trans (.swap ..), fun o2 ho2 g2 ι2 lt r => ?_⟩
      obtain ⟨R2, p, m⟩ := h4 o2 ho2 g2 ι2 lt r
      exact ⟨(a0, .lst vs0) :: R2, (p.cons _).trans (.swap ..), .chg (h.up lt) m⟩
  | @dic a0 ho0 o0 σ0 ρ0 R0 h h0 ih =>
    cases n with
    | zero =>
      cases e
      exact ⟨_, _, _, rfl, h, .refl _, fun o2 ho2 g2 ι2 lt r => ⟨_, .refl _, .dic r (h0.up lt)⟩⟩
    | succ n =>
      obtain ⟨a, ho, R', h1, h2, h3, h4⟩ := ih e
      refine ⟨a, ho, (a0, ho0) :: R', h1, h2, (h3.cons _).trans (.swap ..), fun o2 ho2 g2 ι2 lt r => ?_⟩
      obtain ⟨R2, p, m⟩ := h4 o2 ho2 g2 ι2 lt r
      exact ⟨(a0, ho0) :: R2, (p.cons _).trans (.swap ..), .dic (h.up lt) m⟩
theorem MR.dicKeep {n : Nat} {o : DO} (h : MR K cl ι g σ ρ R) (e : ρ[n]? = some (.dic o)) : ∃ a ho R', σ[n]? = some (some (.ref a)) ∧ OR K cl ι g a ho o ∧ R.Perm ((a, ho) :: R') ∧
    (∀ d g2 ι2, Lt g ι g2 ι2 → DR K cl ι2 g2 (.ref a) d → MR K cl ι2 g2 σ (ρ.set n (.dat d)) R') := by
  induction h generalizing n with
  | nil => cases e
  | un h0 ih =>
    cases n with
    | zero => cases e
    | succ n =>
      obtain ⟨a, ho, R', h1, h2, h3, h4⟩ := ih e
      refine ⟨a, ho, R', h1, h2, h3, fun d g2 ι2 lt r => ?_⟩
      have m := h4 d g2 ι2 lt r
      exact .un m
  | dat h h0 ih =>
    cases n with
    | zero => cases e
    | succ n =>
      obtain ⟨a, ho, R', h1, h2, h3, h4⟩ := ih e
      refine ⟨a, ho, R', h1, h2, h3, fun d g2 ι2 lt r => ?_⟩
      have m := h4 d g2 ι2 lt r
      exact .dat (h.up lt) m
  | @chg a0 vs0 l0 σ0 ρ0 R0 h h0 ih =>
    cases n with
    | zero => cases e
    | succ n =>
      obtain ⟨a, ho, R', h1, h2, h3, h4⟩ := ih e
      refine ⟨a, ho, (a0, .lst vs0) :: R', h1, h2, (h3.cons _).trans (.swap ..), fun d g2 ι2 lt r => ?_⟩
      have m := h4 d g2 ι2 lt r
      exact .chg (h.up lt) m
  | @dic a0 ho0 o0 σ0 ρ0 R0 h h0 ih =>
    cases n with
    | zero =>
      cases e
      exact ⟨_, _, _, rfl, h, .refl _, fun d g2 ι2 lt r => .dat r (h0.up lt)⟩
    | succ n =>
      obtain ⟨a, ho, R', h1, h2, h3, h4⟩ := ih e
      refine ⟨a, ho, (a0, ho0) :: R', h1, h2, (h3.cons _).trans (.swap ..), fun d g2 ι2 lt r => ?_⟩
      have m := h4 d g2 ι2 lt r
      exact .dic (h.up lt) m
/-- a slot is set: what was there is let go -/
theorem MR.put {n : Nat} {v : V} {d : D} (h : MR K cl ι g σ ρ R) (z : DR K cl ι g v d) : ∃ R', R'.Sublist R ∧ MR K cl ι g (σ.set n (some v)) (ρ.set n (.dat d)) R' := by
  induction h generalizing n with
  | nil => exact ⟨[], .refl _, .nil⟩
  | un h0 ih =>
    cases n with
    | zero => exact ⟨_, .refl _, .dat z h0⟩
    | succ n =>
      obtain ⟨R', p, m⟩ := ih (n := n)
      exact ⟨R', p, .un m⟩
  | dat h h0 ih =>
    cases n with
    | zero => exact ⟨_, .refl _, .dat z h0⟩
    | succ n =>
      obtain ⟨R', p, m⟩ := ih (n := n)
      exact ⟨R', p, .dat h m⟩
  | chg h h0 ih =>
    cases n with
    | zero => exact ⟨_, .cons _ (.refl _), .dat z h0⟩
    | succ n =>
      obtain ⟨R', p, m⟩ := ih (n := n)
      exact ⟨_, p.cons₂ _, .chg h m⟩
  | dic h h0 ih =>
    cases n with
    | zero => exact ⟨_, .cons _ (.refl _), .dat z h0⟩
    | succ n =>
      obtain ⟨R', p, m⟩ := ih (n := n)
      exact ⟨_, p.cons₂ _, .dic h m⟩
/-- a slot takes a new list that may change -/
theorem MR.putM {n : Nat} {a : Addr} {vs : List V} {l : List D} (h : MR K cl ι g σ ρ R) (z : DRs K cl ι g vs l) (hn : n < ρ.length) : ∃ R' R2, R'.Sublist R ∧ R2.Perm ((a, .lst vs) :: R') ∧ MR K cl ι g (σ.set n (some (.ref a))) (ρ.set n (.chg l)) R2 := by
  induction h generalizing n with
  | nil => exact absurd hn (Nat.not_lt_zero n)
  | @un v0 σ0 ρ0 R0 h0 ih =>
    cases n with
    | zero => exact ⟨_, _, .refl _, .refl _, .chg z h0⟩
    | succ n =>
      obtain ⟨R', R2, p, q, m⟩ := ih (n := n) (Nat.lt_of_succ_lt_succ hn)
      exact ⟨R', R2, p, q, .un m⟩
  | dat h h0 ih =>
    cases n with
    | zero => exact ⟨_, _, .refl _, .refl _, .chg z h0⟩
    | succ n =>
      obtain ⟨R', R2, p, q, m⟩ := ih (n := n) (Nat.lt_of_succ_lt_succ hn)
      exact ⟨R', R2, p, q, .dat h m⟩
  | chg h h0 ih =>
    cases n with
    | zero => exact ⟨_, _, .cons _ (.refl _), .refl _, .chg z h0⟩
    | succ n =>
      obtain ⟨R', R2, p, q, m⟩ := ih (n := n) (Nat.lt_of_succ_lt_succ hn)
      exact ⟨_, _, p.cons₂ _, (q.cons _).trans (.swap ..), .chg h m⟩
  | dic h h0 ih =>
    cases n with
    | zero => exact ⟨_, _, .cons _ (.refl _), .refl _, .chg z h0⟩
    | succ n =>
      obtain ⟨R', R2, p, q, m⟩ := ih (n := n) (Nat.lt_of_succ_lt_succ hn)
      exact ⟨_, _, p.cons₂ _, (q.cons _).trans (.swap ..), .dic h m⟩
/-- a slot takes a new dict that may change -/
theorem MR.putO {n : Nat} {a : Addr} {ho : HO} {o : DO} (h : MR K cl ι g σ ρ R) (z : OR K cl ι g a ho o) (hn : n < ρ.length) : ∃ R' R2, R'.Sublist R ∧ R2.Perm ((a, ho) :: R') ∧ MR K cl ι g (σ.set n (some (.ref a))) (ρ.set n (.dic o)) R2 := by
  induction h generalizing n with
  | nil => exact absurd hn (Nat.not_lt_zero n)
  | @un v0 σ0 ρ0 R0 h0 ih =>
    cases n with
    | zero => exact ⟨_, _, .refl _, .refl _, .dic z h0⟩
    | succ n =>
      obtain ⟨R', R2, p, q, m⟩ := ih (n := n) (Nat.lt_of_succ_lt_succ hn)
      exact ⟨R', R2, p, q, .un m⟩
  | dat h h0 ih =>
    cases n with
    | zero => exact ⟨_, _, .refl _, .refl _, .dic z h0⟩
    | succ n =>
      obtain ⟨R', R2, p, q, m⟩ := ih (n := n) (Nat.lt_of_succ_lt_succ hn)
      exact ⟨R', R2, p, q, .dat h m⟩
  | chg h h0 ih =>
    cases n with
    | zero => exact ⟨_, _, .cons _ (.refl _), .refl _, .dic z h0⟩
    | succ n =>
      obtain ⟨R', R2, p, q, m⟩ := ih (n := n) (Nat.lt_of_succ_lt_succ hn)
      exact ⟨_, _, p.cons₂ _, (q.cons _).trans (.swap ..), .chg h m⟩
  | dic h h0 ih =>
    cases n with
    | zero => exact ⟨_, _, .cons _ (.refl _), .refl _, .dic z h0⟩
    | succ n =>
      obtain ⟨R', R2, p, q, m⟩ := ih (n := n) (Nat.lt_of_succ_lt_succ hn)
      exact ⟨_, _, p.cons₂ _, (q.cons _).trans (.swap ..), .dic h m⟩
/-- a slot is forgotten -/
theorem MR.wipe1 {n : Nat} {w : Option V} (h : MR K cl ι g σ ρ R) : ∃ R', R'.Sublist R ∧ MR K cl ι g (σ.set n w) (ρ.set n .un) R' := by
  induction h generalizing n with
  | nil => exact ⟨[], .refl _, .nil⟩
  | un h0 ih =>
    cases n with
    | zero => exact ⟨_, .refl _, .un h0⟩
    | succ n =>
      obtain ⟨R', p, m⟩ := ih (n := n)
      exact ⟨R', p, .un m⟩
  | dat h h0 ih =>
    cases n with
    | zero => exact ⟨_, .refl _, .un h0⟩
    | succ n =>
      obtain ⟨R', p, m⟩ := ih (n := n)
      exact ⟨R', p, .dat h m⟩
  | chg h h0 ih =>
    cases n with
    | zero => exact ⟨_, .cons _ (.refl _), .un h0⟩
    | succ n =>
      obtain ⟨R', p, m⟩ := ih (n := n)
      exact ⟨_, p.cons₂ _, .chg h m⟩
  | dic h h0 ih =>
    cases n with
    | zero => exact ⟨_, .cons _ (.refl _), .un h0⟩
    | succ n =>
      obtain ⟨R', p, m⟩ := ih (n := n)
      exact ⟨_, p.cons₂ _, .dic h m⟩
/-- an object of the store: its place, what it may become -/
theorem TR.lstAt {n : Nat} {l : List D} (h : TR K cl ι g as st R) (e : st[n]? = some (.lst l)) : ∃ a vs R', as[n]? = some a ∧ DRs K cl ι g vs l ∧ R.Perm ((a, .lst vs) :: R') ∧
    (∀ l2 vs2 g2 ι2, Lt g ι g2 ι2 → DRs K cl ι2 g2 vs2 l2 → ∃ R2, R2.Perm ((a, .lst vs2) :: R') ∧ TR K cl ι2 g2 as (st.set n (.lst l2)) R2) := by
  induction h generalizing n with
  | nil => cases e
  | @lst a0 vs0 l0 as0 st0 R0 h h0 ih =>
    cases n with
    | zero =>
      cases e
      exact ⟨_, _, _, rfl, h, .refl _, fun l2 vs2 g2 ι2 lt r => ⟨_, .refl _, .lst r (h0.up lt)⟩⟩
    | succ n =>
      obtain ⟨a, vs, R', h1, h2, h3, h4⟩ := ih e
      refine ⟨a, vs, (a0, .lst vs0) :: R', h1, h2, (h3.cons _).trans (.swap ..), fun l2 vs2 g2 ι2 lt r => ?_⟩
      obtain ⟨R2, p, m⟩ := h4 l2 vs2 g2 ι2 lt r
      exact ⟨(a0, .lst vs0) :: R2, (p.cons _).trans (.swap ..), .lst (h.up lt) m⟩
  | @ins a0 dx0 c0 fs0 l0 as0 st0 R0 h h0 ih =>
    cases n with
    | zero => cases e
    | succ n =>
      obtain ⟨a, vs, R', h1, h2, h3, h4⟩ := ih e
      refine ⟨a, vs, _ :: R', h1, h2, (h3.cons _).trans (.swap ..), fun l2 vs2 g2 ι2 lt r => ?_⟩
      obtain ⟨R2, p, m⟩ := h4 l2 vs2 g2 ι2 lt r
      exact ⟨_ :: R2, (p.cons _).trans (.swap ..), .ins (h.up lt) m⟩
  | dead h0 ih =>
    cases n with
    | zero => cases e
    | succ n =>
      obtain ⟨a, vs, R', h1, h2, h3, h4⟩ := ih e
      refine ⟨a, vs, R', h1, h2, h3, fun l2 vs2 g2 ι2 lt r => ?_⟩
      obtain ⟨R2, p, m⟩ := h4 l2 vs2 g2 ι2 lt r
      exact ⟨R2, p, .dead m⟩
theorem TR.insAt {n c : Nat} {ks : List Str} {l : List D} (h : TR K cl ι g as st R) (e : st[n]? = some (.ins c ks l)) : ∃ a dx fs R', as[n]? = some a ∧ DRs K cl ι g (fs.map (·.2)) l ∧ fs.map (·.1) = ks ∧ R.Perm ((a, .ins (cl c) dx fs) :: R') ∧
    (∀ fs2 l2 g2 ι2, Lt g ι g2 ι2 → DRs K cl ι2 g2 (fs2.map (·.2)) l2 → ∃ R2, R2.Perm ((a, .ins (cl c) dx fs2) :: R') ∧ TR K cl ι2 g2 as (st.set n (.ins c (fs2.map (·.1)) l2)) R2) ∧
    (∀ g2 ι2, Lt g ι g2 ι2 → TR K cl ι2 g2 as (st.set n .dead) R') := by
  induction h generalizing n with
  | nil => cases e
  | @lst a0 vs0 l0 as0 st0 R0 h h0 ih =>
    cases n with
    | zero => cases e
    | succ n =>
      obtain ⟨a, dx, fs, R', h1, h2, h2', h3, h4, h5⟩ := ih e
      refine ⟨a, dx, fs, (a0, .lst vs0) :: R', h1, h2, h2', (h3.cons _).trans (.swap ..), fun fs2 l2 g2 ι2 lt r => ?_, fun g2 ι2 lt => .lst (h.up lt) (h5 g2 ι2 lt)⟩
      obtain ⟨R2, p, m⟩ := h4 fs2 l2 g2 ι2 lt r
      exact ⟨(a0, .lst vs0) :: R2, (p.cons _).trans (.swap ..), .lst (h.up lt) m⟩
  | @ins a0 dx0 c0 fs0 l0 as0 st0 R0 h h0 ih =>
    cases n with
    | zero =>
      cases e
      exact ⟨_, _, _, _, rfl, h, rfl, .refl _, fun fs2 l2 g2 ι2 lt r => ⟨_, .refl _, .ins r (h0.up lt)⟩, fun g2 ι2 lt => .dead (h0.up lt)⟩
    | succ n =>
      obtain ⟨a, dx, fs, R', h1, h2, h2', h3, h4, h5⟩ := ih e
      refine ⟨a, dx, fs, _ :: R', h1, h2, h2', (h3.cons _).trans (.swap ..), fun fs2 l2 g2 ι2 lt r => ?_, fun g2 ι2 lt => .ins (h.up lt) (h5 g2 ι2 lt)⟩
      obtain ⟨R2, p, m⟩ := h4 fs2 l2 g2 ι2 lt r
      exact ⟨_ :: R2, (p.cons _).trans (.swap ..), .ins (h.up lt) m⟩
  | dead h0 ih =>
    cases n with
    | zero => cases e
    | succ n =>
      obtain ⟨a, dx, fs, R', h1, h2, h2', h3, h4, h5⟩ := ih e
      refine ⟨a, dx, fs, R', h1, h2, h2', h3, fun fs2 l2 g2 ι2 lt r => ?_, fun g2 ι2 lt => .dead (h5 g2 ι2 lt)⟩
      obtain ⟨R2, p, m⟩ := h4 fs2 l2 g2 ι2 lt r
      exact ⟨R2, p, .dead m⟩
theorem TR.snocL {a : Addr} {vs : List V} {l : List D} (h : TR K cl ι g as st R) (z : DRs K cl ι g vs l) : ∃ R2, R2.Perm ((a, .lst vs) :: R) ∧ TR K cl ι g (as ++ [a]) (st ++ [.lst l]) R2 := by
  induction h with
  | nil => exact ⟨_, .refl _, .lst z .nil⟩
  | lst h h0 ih =>
    obtain ⟨R2, p, m⟩ := ih
    exact ⟨_ :: R2, (p.cons _).trans (.swap ..), .lst h m⟩
  | ins h h0 ih =>
    obtain ⟨R2, p, m⟩ := ih
    exact ⟨_ :: R2, (p.cons _).trans (.swap ..), .ins h m⟩
  | dead h0 ih =>
    obtain ⟨R2, p, m⟩ := ih
    exact ⟨R2, p, .dead m⟩
theorem TR.snocI {a dx : Addr} {c : Nat} (h : TR K cl ι g as st R) : ∃ R2, R2.Perm ((a, .ins (cl c) dx []) :: R) ∧ TR K cl ι g (as ++ [a]) (st ++ [.ins c [] []]) R2 := by
  induction h with
  | nil => exact ⟨_, .refl _, .ins (fs := []) .nil .nil⟩
  | lst h h0 ih =>
    obtain ⟨R2, p, m⟩ := ih
    exact ⟨_ :: R2, (p.cons _).trans (.swap ..), .lst h m⟩
  | ins h h0 ih =>
    obtain ⟨R2, p, m⟩ := ih
    exact ⟨_ :: R2, (p.cons _).trans (.swap ..), .ins h m⟩
  | dead h0 ih =>
    obtain ⟨R2, p, m⟩ := ih
    exact ⟨R2, p, .dead m⟩
end
/-- slots, store and heap belong together; Fr: what others may change -/
def Rel (K : PySem.W.Frag) (cl : Nat → Addr) (g : Hp) (ι : List Addr) (σ : L2.St) (s : S) (Fr : Rl) (H : Hp) : Prop :=
  ∃ Rm Rs, Sh g (Rm ++ (Rs ++ Fr)) H ∧ MR K cl ι g σ s.r Rm ∧ TR K cl ι g ι s.st Rs
section
variable {K : PySem.W.Frag} {cl : Nat → Addr} {ι : List Addr} {g H H' : Hp} {σ : L2.St} {s : S} {Fr : Rl}
theorem Rel.ext (h : Rel K cl g ι σ s Fr H) (e : Ex H H') : Rel K cl g ι σ s Fr H' := by
  obtain ⟨Rm, Rs, sh, m, t⟩ := h
  exact ⟨Rm, Rs, sh.ext e, m, t⟩
/-- a new object that stays -/
theorem Rel.add (h : Rel K cl g ι σ s Fr H) {p : Addr} {o : HO} (n : H p = none) : Rel K cl (upd g p o) ι σ s Fr (upd H p o) ∧ Lt g ι (upd g p o) ι := by
  obtain ⟨Rm, Rs, sh, m, t⟩ := h
  have q := sh.add (o := o) n
  have lt : Lt g ι (upd g p o) ι := ⟨q.2, .refl _⟩
  exact ⟨⟨Rm, Rs, q.1, m.up lt, t.up lt⟩, lt⟩
theorem Rel.ex (h : Rel K cl g ι σ s Fr H) : Ex g H := by
  obtain ⟨Rm, Rs, sh, m, t⟩ := h
  exact sh.ex
end
end Sd

namespace Sd
open PySem PySem.Spec PyProof.Rows L2
open Evl (Ex)
section
variable {X : Cx} {e : Expr} {es : List Expr} {t : TA} {pos : Pos}
/-- a tuple that was laid: known as the object that it is, which has no dict -/
theorem laidF {pins : List (Addr × Obj)} {σ : L2.St} {H : Hp} {s : Shared} {xs : List V} {us : List Value} {hh : Heap} (I : Inv X pins σ H s) (hk : ∀ b u, s.heap.get? b = some u → hh.get? b = some u) (ha : hh.get? s.heap.objs.size = some { cls := .type "tuple", data := .seq us.toArray }) (r : Vals xs us) (hz : xs.length ≤ sizeLine) (tk : Nat) :
    Inv X pins σ (upd H s.heap.objs.size (.frz { cls := .type "tuple", data := .seq us.toArray } (.tup xs))) { s with heap := hh, toks := tk } := by
  refine I.laid (t' := tk) hk (Nat.le_refl _) ?_
  exact ⟨ha, hz, us, r, _, ha, rfl, _, rfl⟩
theorem pe_tupF {k : Nat} (h : PA X es t) : PE X (.Tuple es k pos) (fun σ H Q => t σ H fun xs H1 => xs.length ≤ sizeLine ∧ ∀ p o, H1 p = none → o.dict = none → Q (.ref p) (upd H1 p (.frz o (.tup xs)))) := by
  refine ⟨fun pins s σ H Q I hq => ?_⟩
  refine wpAny_Tuple_spliced (thn (h.run pos pins s σ H _ I hq) fun us s1 ⟨xs, H1, I1, r, z, q⟩ => ⟨by rw [← r.length]; exact z, ?_⟩)
  exact ⟨.ref s1.heap.objs.size, _, laidF I1 (fun b u e => Heap.get?_push_of_some _ e) (Heap.get?_push_size _ rfl) r z s1.toks, rfl, q _ _ (I1.hok.fresh (Nat.le_refl _)) rfl⟩
theorem call_tupleF : CallR X (.type "tuple") (fun xs H Q => ∃ p ys, xs = [.ref p] ∧ ((SqL X.K H p ys ∧ ∀ l o, H l = none → o.dict = none → Q (.ref l) (upd H l (.frz o (.tup ys)))) ∨ (SqT X.K H p ys ∧ Q (.ref p) H))) := by
  intro pins s σ H xs us Q I r h
  obtain ⟨p, ys, rfl, h⟩ := h
  obtain ⟨u, rfl, rx⟩ := vals1 r
  cases rx
  rcases h with ⟨hq, q⟩ | ⟨hq, q⟩
  · obtain ⟨its, rv, pl, hz⟩ := I.list hq
    have lv := rv.length
    refine call_tuple_list pl.isList (fun h' kp => ?_) (by simp only [List.size_toArray] <;> omega)
    have J : Inv X pins σ H { s with heap := h' } := I.kept (t' := s.toks) kp
    exact ⟨.ref h'.objs.size, _, laidF J (fun b u e => Heap.get?_push_of_some _ e) (Heap.get?_push_size _ rfl) rv hz s.toks, rfl, q _ _ (J.hok.fresh (Nat.le_refl _)) rfl⟩
  · obtain ⟨its, rv, pl, _⟩ := I.tuple hq
    exact call_tuple_same pl ⟨.ref p, H, I, rfl, q⟩
theorem op_catF : OpR X (binaryOp .Add) (fun x y H Q => ∃ a b xs ys, x = .ref a ∧ y = .ref b ∧ SqT X.K H a xs ∧ SqT X.K H b ys ∧ xs.length + ys.length ≤ sizeLine ∧ (xs = [] → Q (.ref b) H) ∧ (xs ≠ [] → ys = [] → Q (.ref a) H) ∧
    (xs ≠ [] → ys ≠ [] → ∀ p o, H p = none → o.dict = none → Q (.ref p) (upd H p (.frz o (.tup (xs ++ ys)))))) := by
  intro pins s σ H x y v u Q I rx ry h
  obtain ⟨a, b, xs, ys, rfl, rfl, ha, hb, hz, q0, q1, q2⟩ := h
  cases rx
  cases ry
  obtain ⟨its, w1, p1, _⟩ := I.tuple ha
  obtain ⟨its2, w2, p2, _⟩ := I.tuple hb
  by_cases hx : xs = []
  · subst hx
    cases w1
    exact cat_tup0 p1 p2 ⟨.ref b, H, I, rfl, q0 rfl⟩
  · refine HT.cat_tup p1 p2 (fun z => hx (w1.nil_iff.mp z)) (fun z => ⟨.ref a, H, I, rfl, q1 hx (w2.nil_iff.mp z)⟩) (fun z => ?_) (by rw [← w1.length, ← w2.length]; exact hz)
    exact ⟨.ref s.heap.objs.size, _, laidF I (fun b u e => Heap.get?_push_of_some _ e) (Heap.get?_push_size _ rfl) (w1.append w2) (by rw [List.length_append]; exact hz) s.toks, rfl, q2 hx (fun k => z (w2.nil_iff.mpr k)) _ _ (I.hok.fresh (Nat.le_refl _)) rfl⟩
theorem sl_tupF : SlR X (fun x lo hi H Q => ∃ a xs, x = .ref a ∧ SqT X.K H a xs ∧ (HT.sIx xs.length 0 lo = 0 ∧ HT.sIx xs.length xs.length hi = xs.length → Q (.ref a) H) ∧
    (¬ (HT.sIx xs.length 0 lo = 0 ∧ HT.sIx xs.length xs.length hi = xs.length) → ∀ p o, H p = none → o.dict = none → Q (.ref p) (upd H p (.frz o (.tup (cutV xs lo hi)))))) := by
  intro pins s σ H x v vl vu lo hi sl Q I rx hs pl pu h
  obtain ⟨a, xs, rfl, hx, q1, q2⟩ := h
  cases rx
  obtain ⟨its, w1, ht, hz⟩ := I.tuple hx
  have ln : its.toArray.size = xs.length := by
    rw [List.size_toArray]
    exact w1.length.symm
  refine ⟨"tuple", _, PyProof.Rows.slot_tuple_getitem.lookup, ht.typeIs, ?_⟩
  by_cases hw : HT.sIx xs.length 0 lo = 0 ∧ HT.sIx xs.length xs.length hi = xs.length
  · exact getItem_tuple_whole ht hs pl pu (by rw [ln]; exact hw) ⟨.ref a, H, I, rfl, q1 hw⟩
  · refine HT.getItem_tuple_cut ht hs pl pu (by rw [ln]; exact hw) ?_ (by rw [ln]; exact hz)
    rw [ln]
    exact ⟨.ref s.heap.objs.size, _, laidF I (fun b u e => Heap.get?_push_of_some _ e) (Heap.get?_push_size _ rfl) ((w1.drop (HT.sIx xs.length 0 lo)).take (HT.sIx xs.length xs.length hi - HT.sIx xs.length 0 lo)) (Nat.le_trans (cutV_length xs lo hi) hz) s.toks, rfl, q2 hw _ _ (I.hok.fresh (Nat.le_refl _)) rfl⟩
theorem op_repF : OpR X (binaryOp .Mult) (fun x y H Q => ∃ l k xs, x = .ref l ∧ y = .int k ∧ SqT X.K H l xs ∧ xs ≠ [] ∧ 2 ≤ k ∧ k ≤ 1000 ∧ xs.length ≤ 1000 ∧ ∀ p o, H p = none → o.dict = none → Q (.ref p) (upd H p (.frz o (.tup (List.replicate k.toNat xs).flatten)))) := by
  intro pins s σ H x y v u Q I rx ry h
  obtain ⟨l, k, xs, rfl, rfl, hT, hne, h1, h2, hz, q⟩ := h
  cases rx
  obtain ⟨t, rfl⟩ := ry
  obtain ⟨its, w1, ⟨⟨cls, dd, data, sl⟩, ho, hc, n, hd⟩, _⟩ := I.tuple hT
  simp only at hc hd
  subst hc hd
  have ln : its.length = xs.length := w1.length.symm
  have hi : its.toArray.isEmpty = false := by
    cases its with
    | nil => exact absurd (List.eq_nil_of_length_eq_zero (ln.symm.trans rfl)) hne
    | cons => rfl
  have sz : its.toArray.size = xs.length := by rw [List.size_toArray, ln]
  have m1 : ((xs.length : Nat) : Int) * k ≤ 1000 * k := Int.mul_le_mul_of_nonneg_right (by omega) (by omega)
  have m2 : k.toNat * xs.length ≤ 1000 * 1000 := Nat.mul_le_mul (by omega) hz
  have fl : (List.replicate k.toNat its).flatten.length ≤ sizeLine := by
    rw [PyProof.Rows.lm_len_rep_flat, ln, sizeLine_eq]
    omega
  have fl2 : (List.replicate k.toNat xs).flatten.length ≤ sizeLine := by
    rw [PyProof.Rows.lm_len_rep_flat, sizeLine_eq]
    omega
  refine wpAny_binaryOp_repeat_ref (T := "tuple") (U := "int") (by decide) ⟨_, ho, rfl⟩ (fun s' => typeIs_int s' k t) noFill_tuple_mul F.fills_int_mul F.slot_int_rmul repeat_tuple F.slot_int_index.lookup
    (call_meets F.slot_int_rmul (typeIs_int s k t) F.entry_int_rmul (F.args_int_rmul_2 _ _) (int_rmul_tuple k t l its.toArray n dd sl)
      ⟨ho, rfl, ⟨_, ho, rfl⟩, call_meets F.slot_tuple_mul ⟨_, ho, rfl⟩ F.entry_tuple_mul (F.args_tuple_mul_2 _ _) (tuple_mulW l its.toArray n dd sl k t (by rw [decide_eq_false (by omega), decide_eq_false (by omega)] <;> rfl)
        (by rw [hi, Bool.false_or]; exact beq_eq_false_iff_ne.mpr (by omega)) (by rw [hi, Bool.or_false]; exact decide_eq_false (by omega)) (by rw [sz]; omega) (by unfold Builtin.Tuple.tupleTooMany; rw [sizeLine_eq, sz]; exact decide_eq_false (by omega)) (by rw [size_rep, List.size_toArray]; exact fl)) ⟨ho, ?_⟩⟩)
  rw [size_rep]
  exact ⟨.ref s.heap.objs.size, _, laidF I (fun b u e => Heap.get?_push_of_some _ e) (Heap.get?_push_size _ rfl) (w1.rep k.toNat) fl2 s.toks, rfl, q _ _ (I.hok.fresh (Nat.le_refl _)) rfl⟩
end
end Sd

namespace Sd
open PySem PySem.Spec PyProof.Rows L2
open Evl (Ex)
/-! enumerate of anything that begins an iterator, from 0 -/
theorem enum_new1 {v : Value} {ob : Obj} {Hs : Heap → Prop} (B : Begins v ob Hs) :
    Meets (Builtin.«enumerate.__new__» ⟨[.type "enumerate", v], []⟩) (fun _ R s => Hs s.heap ∧
      R (.ok (.ret (.ref (s.heap.push ob).objs.size)))
        { s with heap := (s.heap.push ob).push { cls := .type "enumerate", data := .fields #[.none, .bool false, .ref s.heap.objs.size, rawInt 0, .none, .none] } }) :=
  Meets.of_wp fun prog w A R s hh => by
    obtain ⟨hp, gs, dr, tks, osx⟩ := s
    obtain ⟨hb, goal⟩ := hh
    have hsub := sub_enumerate
    have it1 : ∀ {A' : Around} {E' : Value → Shared → Prop} {Q' : Value → Shared → Prop},
        Q' (.ref hp.objs.size) ⟨hp.push ob, gs, dr, tks, osx⟩ → wpAny (model prog w) A' (pyIter v) Q' E' ⟨hp, gs, dr, tks, osx⟩ :=
      fun z => B.iter prog w _ _ ⟨hp, gs, dr, tks, osx⟩ _ hb z
    wp_walk using it1
    refine wpAny_stack_any fun _ => wpAny_pure ?_
    split
    · rename_i cc _ _ _ _ _
      cases (cc == Value.type "enumerate") <;> (wp_walk using it1; exact ⟨_, rfl, goal⟩)
    · wp_walk using it1
      exact ⟨_, rfl, goal⟩
theorem enum_call1 {prog : Program} {w : World} {A : Around} {E : Value → Shared → Prop} {s : Shared} {v : Value} {ob : Obj} {Hs : Heap → Prop} {Q : Value → Shared → Prop} (B : Begins v ob Hs) (hb : Hs s.heap)
    (k : ∀ h2, IsEnum h2 (s.heap.objs.size + 1) s.heap.objs.size 0 .none → h2.get? s.heap.objs.size = some ob →
      (∀ q u, s.heap.get? q = some u → h2.get? q = some u) → Q (.ref (s.heap.objs.size + 1)) { s with heap := h2 }) :
    wpAny (model prog w) A (call (.type "enumerate") [v]) Q E s := by
  refine callType_new F.called_enumerate (by decide) (F.typeCall_enumerate_1 _) (F.newCall_enumerate_1 _) (fun z => F.args_object_init_2 z _) F.entry_enumerate_new (enum_new1 B) ⟨hb, ?_⟩
  have sz : (s.heap.push ob).objs.size = s.heap.objs.size + 1 := Heap.size_push ..
  show _ ∧ _
  rw [sz]
  have en : IsEnum ((s.heap.push ob).push { cls := .type "enumerate", data := .fields #[.none, .bool false, .ref s.heap.objs.size, rawInt 0, .none, .none] }) (s.heap.objs.size + 1) s.heap.objs.size 0 .none := by
    have z := Heap.get?_push_size (s.heap.push ob) (o := { cls := .type "enumerate", data := .fields #[.none, .bool false, .ref s.heap.objs.size, rawInt 0, .none, .none] }) rfl
    rw [sz] at z
    exact z
  exact ⟨⟨_, en, rfl⟩, k _ en (Heap.get?_push_of_some _ (Heap.get?_push_size _ B.free)) fun q u z => Heap.get?_push_of_some _ (Heap.get?_push_of_some _ z)⟩
/-- the tuple at a, each item in a new pair with its number -/
def ItE (K : PySem.W.Frag) (a : Addr) : It where
  go := fun i H => ∃ (xs : List V) (x : V), SqT K H a xs ∧ xs[i]? = some x
  yld := fun i H v H' => ∃ T x, v = .ref T ∧ H T = none ∧ H' = upd H T (.tup [.int (i : Nat), x]) ∧ ∀ xs, SqT K H a xs → xs[i]? = some x
  stop := fun i H => ∃ xs : List V, SqT K H a xs ∧ xs.length = i
theorem turnE {P : Program} {w : World} {K : PySem.W.Frag} {elts : List Expr} {kk : Nat} {tpos : Pos} (a e it : Addr) :
    Turn P w K (.Tuple elts kk tpos) (ItE K a) [e, it] e (fun i h => (∃ old, IsEnum h e it ((i : Nat) : Int) old) ∧ h.IsTupleIter it a i ∧ e ≠ it ∧ a ≠ it ∧ e ≠ a) where
  mem := by simp
  obj := fun i h st b hb => by
    obtain ⟨⟨old, he⟩, ⟨o, ho, hc, hd⟩, _⟩ := st
    have cs : b = e ∨ b = it := by simpa using hb
    rcases cs with z | z
    · subst z
      exact ⟨_, he, fun v q => nomatch q⟩
    · subst z
      exact ⟨o, ho, fun v q => by
        rw [hd] at q
        cases q⟩
  keep := fun i h h' st k => by
    obtain ⟨⟨old, he⟩, hi, n1, n2, n3⟩ := st
    exact ⟨⟨old, k e (by simp) _ he⟩, hi.at fun o q => k it (by simp) o q, n1, n2, n3⟩
  item := by
    intro X hP hw hK hc i pins s σ H E I hf st hg
    subst hP hw hK
    obtain ⟨⟨old, he⟩, hit, n1, n2, n3⟩ := st
    obtain ⟨xs, x, hq, hx⟩ := hg
    obtain ⟨its, rv, p, _⟩ := I.tuple hq
    obtain ⟨u, hu, ru⟩ := rv.get hx
    have lt1 : e < s.heap.objs.size := Heap.lt_size he
    have lt2 : it < s.heap.objs.size := by
      obtain ⟨_, q, _⟩ := hit
      exact Heap.lt_size q
    have Dr := Draws.tuple (prog := X.prog) (w := X.w) (A := X.A.in1) (I.ok.hd hc) it a n2 its.toArray
    have li : i < its.toArray.size := by
      have z := (List.getElem?_eq_some_iff.mp hu).1
      simpa using z
    refine wpAny_pyNext_enum_itemC Dr he ⟨hit, p⟩ li n1 (by simp [n1, n3]) fun x' h' tk hP ho st' hT _ hk => ?_
    have ex : x' = u := by
      have z : its[i]? = some x' := by simpa using hP
      rw [hu] at z
      exact (Option.some.inj z).symm
    subst ex
    refine ⟨_, rfl, wpAny_letOwnedTupleGo_enum (s := { s with heap := h', toks := tk + 1 }) ho fun h2 he2 sb => ?_⟩
    have hT2 : h2.get? s.heap.objs.size = some { cls := .type "tuple", data := .seq #[.int i tk, x'] } := (sb.2 _ (Nat.ne_of_gt lt1)).trans hT
    have new : ObjOk X.prog X.w (upd H s.heap.objs.size (.tup [.int (i : Nat), x])) h2 s.heap.objs.size (.tup [.int (i : Nat), x]) :=
      ⟨by show 2 ≤ sizeLine; decide, [.int i tk, x'], .cons ⟨_, rfl⟩ (.cons ru .nil), ⟨_, hT2, rfl, _, rfl⟩⟩
    have I1 : Inv X pins σ (upd H s.heap.objs.size (.tup [.int (i : Nat), x])) { s with heap := h2, toks := tk + 1 } :=
      I.turnedNew (ch := [e, it]) (fun b ob hb q => (sb.2 b (fun z => hb (by simp [z]))).trans (hk b ob (fun z => hb (by simp [z])) (fun z => hb (by simp [z])) q)) hf (Nat.le_refl _) new
    refine ⟨.ref s.heap.objs.size, _, I1, rfl, ⟨_, x, rfl, I.hok.fresh (Nat.le_refl _), rfl, fun ys hy => ?_⟩, ⟨⟨x', ?_⟩, st'.1.at fun o q => (sb.2 it (Ne.symm n1)).trans q, n1, n2, n3⟩, fun b hb => ?_⟩
    · rw [I.tuple_inj hy hq]
      exact hx
    · have e1 : ((i + 1 : Nat) : Int) = (i : Int) + 1 := by omega
      rw [e1]
      exact he2
    · have cs : b = e ∨ b = it := by simpa using hb
      have lb : b < s.heap.objs.size := by
        rcases cs with z | z
        · rw [z]
          exact lt1
        · rw [z]
          exact lt2
      rw [upd_ne (Nat.ne_of_lt lb)]
      exact (hf b hb).1
  done := by
    intro X hP hw hK hc i pins s σ H E I hf st hg
    subst hP hw hK
    obtain ⟨⟨old, he⟩, hit, n1, n2, n3⟩ := st
    obtain ⟨xs, hq, hx⟩ := hg
    obtain ⟨its, rv, p, _⟩ := I.tuple hq
    obtain ⟨f0, f1, f2, f3, f4, f5⟩ := hf it (by simp)
    have hl := rv.length
    have Dr := Draws.tuple (prog := X.prog) (w := X.w) (A := X.A.in1) (I.ok.hd hc) it a n2 its.toArray
    have hi : i = its.toArray.size := by
      simp only [List.size_toArray]
      omega
    rw [hi] at hit
    exact wpAny_pyNext_enum_endD Dr he ⟨hit, p⟩ fun h' eb => ⟨rfl, I.turned (t' := s.toks) (fun b o hb q => eb b o hb q) f0 f1 f3 f4 f5⟩
  self := fun A i s Q E st h => by
    obtain ⟨⟨_, he⟩, _⟩ := st
    exact wpAny_pyIter_enum he h
theorem pi_enumT {X : Cx} {e : Expr} {ta : TA} {p pos tpos : Pos} {elts : List Expr} {kk : Nat} (hg : Gl X "enumerate") (hm : X.mg "enumerate" = none) (ha : PA X [e] ta) (hs : starEach [e] X.env = [(false, eval e X.env)] := by rfl) :
    PI X (.Tuple elts kk tpos) (.Call (.Name "enumerate" p) [e] [] pos) (fun σ H R => ta σ H fun vs H1 => ∃ a xs, vs = [.ref a] ∧ SqT X.K H1 a xs ∧ R (ItE X.K a) H1) := by
  refine ⟨fun pins s σ H R I h => ?_⟩
  refine Call_ (ld_blt I hg hm boot_enumerate (PyProof.Rows.callWith_type1 (thn (ha.run pos pins s σ H _ I h) fun us s1 ⟨vs, H1, I1, r1, q1⟩ => ?_) hs rfl))
  obtain ⟨a, xs, rfl, hq, q⟩ := q1
  cases r1 with
  | cons r rr =>
    cases rr
    cases r
    obtain ⟨its, rv, tp, _⟩ := I1.tuple hq
    have la : a < s1.heap.objs.size := tp.lt
    refine enum_call1 (begins_tuple a its.toArray) tp fun h2 he ho hk => wpAny_pyIter_enum he ?_
    have I2 : Inv X pins σ H1 { s1 with heap := h2 } := I1.kept (t' := s1.toks) hk
    refine ⟨s1.heap.objs.size + 1, [s1.heap.objs.size + 1, s1.heap.objs.size], _, _, H1, rfl, I2, turnE a (s1.heap.objs.size + 1) s1.heap.objs.size, ⟨⟨.none, he⟩, ⟨_, ho, rfl, rfl⟩, Nat.succ_ne_self _, Nat.ne_of_lt la, Nat.ne_of_gt (Nat.lt_succ_of_lt la)⟩, fun b hb => ?_, q⟩
    have cs : b = s1.heap.objs.size + 1 ∨ b = s1.heap.objs.size := by simpa using hb
    have le : s1.heap.objs.size ≤ b := by
      rcases cs with z | z
      · rw [z]
        exact Nat.le_succ _
      · rw [z]
        exact Nat.le_refl _
    exact I1.fpOk le (I1.hok.fresh le)
end Sd

namespace Sd
open PySem PySem.Spec PyProof.Rows L2
open Evl (Ex)
def PostE (X : Cx) (cl : Nat → Addr) (g : Hp) (ι : List Addr) (σ : L2.St) (s : S) (Fr : Rl) (d : D) : VK := fun u H' =>
  ∃ g' ι', Lt g ι g' ι' ∧ Rel X.K cl g' ι' σ s Fr H' ∧ DR X.K cl ι' g' u d
def Den (X : Cx) (cl : Nat → Addr) (e : Expr) (m : M D) : Prop := ∀ s v s', m s = some (v, s') → ∀ σ g ι Fr H, Rel X.K cl g ι σ s Fr H → WE X e σ H (PostE X cl g ι σ s' Fr v)
def PostA (X : Cx) (cl : Nat → Addr) (g : Hp) (ι : List Addr) (σ : L2.St) (s : S) (Fr : Rl) (ds : List D) : List V → Hp → Prop := fun us H' =>
  ∃ g' ι', Lt g ι g' ι' ∧ Rel X.K cl g' ι' σ s Fr H' ∧ DRs X.K cl ι' g' us ds
def DenA (X : Cx) (cl : Nat → Addr) (es : List Expr) (m : M (List D)) : Prop := ∀ s v s', m s = some (v, s') → ∀ σ g ι Fr H, Rel X.K cl g ι σ s Fr H → WA X es σ H (PostA X cl g ι σ s' Fr v)
def PostT (X : Cx) (cl : Nat → Addr) (g : Hp) (ι : List Addr) (σ : L2.St) (s : S) (Fr : Rl) (b : Bool) : Bool → Hp → Prop := fun c H' =>
  c = b ∧ ∃ g' ι', Lt g ι g' ι' ∧ Rel X.K cl g' ι' σ s Fr H'
def DenT (X : Cx) (cl : Nat → Addr) (e : Expr) (m : M Bool) : Prop := ∀ s v s', m s = some (v, s') → ∀ σ g ι Fr H, Rel X.K cl g ι σ s Fr H → WT X e σ H (PostT X cl g ι σ s' Fr v)
section
variable {X : Cx} {cl : Nat → Addr} {a b c e : Expr} {es : List Expr} {pos p p' : Pos} {m m1 m2 m3 : M D} {ma : M (List D)}
theorem PostE.lt {g g' : Hp} {ι ι' : List Addr} {σ : L2.St} {s : S} {Fr : Rl} {d : D} {u : V} {H : Hp} (l : Lt g ι g' ι') (h : PostE X cl g' ι' σ s Fr d u H) : PostE X cl g ι σ s Fr d u H := by
  obtain ⟨g2, i2, l2, r, z⟩ := h
  exact ⟨g2, i2, l.trans l2, r, z⟩
/-! values -/
theorem den_int {i : Int} {k : Nat} : Den X cl (.Constant (.int i) k pos) (ret (.int i)) := fun s v s' h σ g ι Fr H r => by
  cases h
  exact .of pe_int ⟨g, ι, .refl, r, .int i⟩
theorem den_bl {t : Bool} {k : Nat} : Den X cl (.Constant (.bool t) k pos) (ret (.bl t)) := fun s v s' h σ g ι Fr H r => by
  cases h
  exact .of pe_bl ⟨g, ι, .refl, r, .bl t⟩
theorem den_non {k : Nat} : Den X cl (.Constant .none k pos) (ret .non) := fun s v s' h σ g ι Fr H r => by
  cases h
  exact .of pe_non ⟨g, ι, .refl, r, .non⟩
theorem den_str {x : Str} {k : Nat} : Den X cl (.Constant (.str x) k pos) (ret (.str x)) := fun s v s' h σ g ι Fr H r => by
  cases h
  exact .of pe_str ⟨g, ι, .refl, r, .str x⟩
/-- a slot's value; a list that may change stays from now on -/
def rd (n : Nat) : M D := fun s => match s.r[n]? with
  | some (.dat d) => some (d, s)
  | some (.chg l) => some (.lst l, { s with r := s.r.set n (.dat (.lst l)) })
  | _ => none
theorem den_var {n : Nat} {x : Str} (hN : X.N[n]? = some x) (hv : Vis X.env.scope x) (hd : (x == ("__debug__" : Str)) = false := by decide) (hcd : (x == ("__classdict__" : Str)) = false := by decide) : Den X cl (.Name x pos) (rd n) := fun s v s' h σ g ι Fr H r => by
  unfold rd at h
  obtain ⟨Rm, Rs, sh, mr, tr⟩ := r
  split at h
  · rename_i d e
    cases h
    obtain ⟨u, hu, z⟩ := mr.get e
    exact .of (pe_var hN hv hd hcd) ⟨u, hu, g, ι, .refl, ⟨Rm, Rs, sh, mr, tr⟩, z⟩
  · rename_i l e
    cases h
    obtain ⟨ad, vs, R', h1, h2, h3, h4, h5⟩ := mr.mutAt e
    have sh2 : Sh g ((ad, .lst vs) :: (R' ++ (Rs ++ Fr))) H := sh.perm (h3.append_right _)
    have k := sh2.keep
    have lt : Lt g ι (upd g ad (.lst vs)) ι := ⟨k.2, .refl _⟩
    have z : DR X.K cl ι (upd g ad (.lst vs)) (.ref ad) (.lst l) := .lst upd_same (h2.up lt)
    exact .of (pe_var hN hv hd hcd) ⟨_, h1, _, ι, lt, ⟨R', Rs, k.1, h5 _ _ _ lt z, tr.up lt⟩, z⟩
  · cases h
/-- what a module's name holds -/
def GlD (K : PySem.W.Frag) (cl : Nat → Addr) (mg : Str → Option Value) (x : Str) (d : D) : Prop := ∃ v u, mg x = some u ∧ RelV v u ∧ ∀ ι g, DR K cl ι g v d
theorem den_glob {x : Str} {d : D} (hg : Gl X x) (h : GlD X.K cl X.mg x d) (hd : (x == ("__debug__" : Str)) = false := by decide) : Den X cl (.Name x pos) (ret d) := fun s v s' e σ g ι Fr H r => by
  cases e
  obtain ⟨v, u, hm, rv, z⟩ := h
  exact .of (pe_glob hg hm rv hd) ⟨g, ι, .refl, r, z ι g⟩
/-! operators -/
def OpD (X : Cx) (cl : Nat → Addr) (f : Value → Value → Sem Value) (op : D → D → Option D) : Prop := ∃ r : R2, OpR X f r ∧ ∀ x y d1 d2 d, op d1 d2 = some d → ∀ σ s g ι Fr H, Rel X.K cl g ι σ s Fr H → DR X.K cl ι g x d1 → DR X.K cl ι g y d2 → ∀ Q : VK, (∀ u H', PostE X cl g ι σ s Fr d u H' → Q u H') → r x y H Q
theorem den_op {o : Operator} {f : D → D → Option D} (ho : OpD X cl (binaryOp o) f) (ha : Den X cl a m1) (hb : Den X cl b m2) : Den X cl (.BinOp a o b pos) (bd m1 fun x => bd m2 fun y => lf (f x y)) := fun s v s' h σ g ι Fr H r => by
  obtain ⟨x, s1, h1, e1_⟩ := bd_some h
  obtain ⟨y, s2, h2, e2_⟩ := bd_some e1_
  obtain ⟨h3, rfl⟩ := lf_some e2_
  obtain ⟨R, hr, hk⟩ := ho
  exact .of (pe_op hr WE.pe WE.pe) (WE.mono (ha s x s1 h1 σ g ι Fr H r) fun u H1 ⟨g1, i1, l1, r1, z1⟩ => WE.mono (hb s1 y s' h2 σ g1 i1 Fr H1 r1) fun w H2 ⟨g2, i2, l2, r2, z2⟩ =>
    hk u w x y v h3 σ s' g2 i2 Fr H2 r2 (z1.up l2) z2 _ fun _ _ q => q.lt (l1.trans l2))
theorem den_cmp {o : CmpOp} {f : D → D → Option D} (ho : OpD X cl (compareOp o) f) (ha : Den X cl a m1) (hb : Den X cl b m2) (hm : behindInMarks o b = false := by rfl) : Den X cl (.Compare a [o] [b] pos) (bd m1 fun x => bd m2 fun y => lf (f x y)) := fun s v s' h σ g ι Fr H r => by
  obtain ⟨x, s1, h1, e1_⟩ := bd_some h
  obtain ⟨y, s2, h2, e2_⟩ := bd_some e1_
  obtain ⟨h3, rfl⟩ := lf_some e2_
  obtain ⟨R, hr, hk⟩ := ho
  exact .of (pe_cmpR hr WE.pe WE.pe hm) (WE.mono (ha s x s1 h1 σ g ι Fr H r) fun u H1 ⟨g1, i1, l1, r1, z1⟩ => WE.mono (hb s1 y s' h2 σ g1 i1 Fr H1 r1) fun w H2 ⟨g2, i2, l2, r2, z2⟩ =>
    hk u w x y v h3 σ s' g2 i2 Fr H2 r2 (z1.up l2) z2 _ fun _ _ q => q.lt (l1.trans l2))
def isB (d : D) : Option Bool := match d with
  | .bl b => some b
  | _ => none
theorem isB_some {d : D} {b : Bool} (h : isB d = some b) : d = .bl b := by
  cases d with
  | bl c =>
    cases h
    rfl
  | _ => cases h
theorem dent_cmp {o : CmpOp} {f : D → D → Option D} (ho : OpD X cl (compareOp o) f) (ha : Den X cl a m1) (hb : Den X cl b m2) (hm : behindInMarks o b = false := by rfl) : DenT X cl (.Compare a [o] [b] pos) (bd m1 fun x => bd m2 fun y => lf ((f x y).bind isB)) := fun s v s' h σ g ι Fr H r => by
  obtain ⟨x, s1, h1, e1_⟩ := bd_some h
  obtain ⟨y, s2, h2, e2_⟩ := bd_some e1_
  obtain ⟨h3, rfl⟩ := lf_some e2_
  obtain ⟨d, h4, h5⟩ := Option.bind_eq_some_iff.mp h3
  have e := isB_some h5
  subst e
  obtain ⟨R, hr, hk⟩ := ho
  exact .of (pt_cmpR hr WE.pe WE.pe hm) (WE.mono (ha s x s1 h1 σ g ι Fr H r) fun u H1 ⟨g1, i1, l1, r1, z1⟩ => WE.mono (hb s1 y s' h2 σ g1 i1 Fr H1 r1) fun w H2 ⟨g2, i2, l2, r2, z2⟩ =>
    hk u w x y _ h4 σ s' g2 i2 Fr H2 r2 (z1.up l2) z2 _ fun _ _ ⟨g3, i3, l3, r3, z3⟩ => by
      cases z3
      exact ⟨v, rfl, rfl, g3, i3, (l1.trans l2).trans l3, r3⟩)
/-- a op b op c -/
theorem den_chain {o o' : CmpOp} {f f' : D → D → Option D} (ho : OpD X cl (compareOp o) f) (ho' : OpD X cl (compareOp o') f') (ha : Den X cl a m1) (hb : Den X cl b m2) (hc : Den X cl c m3) (hm : lastMarks [o, o'] [b, c] = false := by rfl) :
    Den X cl (.Compare a [o, o'] [b, c] pos) (bd m1 fun x => bd m2 fun y => bd (lf ((f x y).bind isB)) fun t => if t then bd m3 fun z => lf (f' y z) else ret (.bl false)) := fun s v s' h σ g ι Fr H r => by
  obtain ⟨x, s1, h1, e1_⟩ := bd_some h
  obtain ⟨y, s2, h2, e2_⟩ := bd_some e1_
  obtain ⟨t, s3, h3, e3_⟩ := bd_some e2_
  obtain ⟨k3, rfl⟩ := lf_some h3
  obtain ⟨d, h4, h5⟩ := Option.bind_eq_some_iff.mp k3
  have e := isB_some h5
  subst e
  obtain ⟨R, hr, hk⟩ := ho
  obtain ⟨R', hr', hk'⟩ := ho'
  refine .of (pe_chain hr hr' WE.pe WE.pe WE.pe hm) (WE.mono (ha s x s1 h1 σ g ι Fr H r) fun u H1 ⟨g1, i1, l1, r1, z1⟩ => WE.mono (hb s1 y s3 h2 σ g1 i1 Fr H1 r1) fun w H2 ⟨g2, i2, l2, r2, z2⟩ =>
    hk u w x y _ h4 σ s3 g2 i2 Fr H2 r2 (z1.up l2) z2 _ fun q Hq ⟨g3, i3, l3, r3, z3⟩ => ?_)
  cases z3
  refine ⟨t, rfl, ?_⟩
  cases t with
  | false =>
    rw [if_neg Bool.false_ne_true] at e3_ ⊢
    cases e3_
    exact ⟨g3, i3, (l1.trans l2).trans l3, r3, .bl false⟩
  | true =>
    rw [if_pos rfl] at e3_ ⊢
    obtain ⟨z, s4, h6, e4_⟩ := bd_some e3_
    obtain ⟨h7, rfl⟩ := lf_some e4_
    exact WE.mono (hc s3 z s' h6 σ g3 i3 Fr Hq r3) fun u3 H4 ⟨g4, i4, l4, r4, z4⟩ => hk' w u3 y z v h7 σ s' g4 i4 Fr H4 r4 (z2.up (l3.trans l4)) z4 _ fun _ _ q => q.lt (((l1.trans l2).trans l3).trans l4)
/-! and, or, not, if else: truths -/
def andM (m1 m2 : M D) : M D := bd m1 fun x => bd (lf (isB x)) fun t => if t then m2 else ret (.bl false)
def orM (m1 m2 : M D) : M D := bd m1 fun x => bd (lf (isB x)) fun t => if t then ret (.bl true) else m2
theorem den_one {o : BoolOp} (ha : Den X cl a m) : Den X cl (.BoolOp o [a] pos) m := fun s v s' h σ g ι Fr H r => .of (pe_one WE.pe) (ha s v s' h σ g ι Fr H r)
theorem den_and {rest : List Expr} (ha : Den X cl a m1) (hb : Den X cl (.BoolOp .And (b :: rest) pos) m2) : Den X cl (.BoolOp .And (a :: b :: rest) pos) (andM m1 m2) := fun s v s' h σ g ι Fr H r => by
  obtain ⟨x, s1, h1, e1_⟩ := bd_some h
  obtain ⟨t, s2, h2, e2_⟩ := bd_some e1_
  obtain ⟨k2, rfl⟩ := lf_some h2
  have e := isB_some k2
  subst e
  refine .of (pe_and WE.pe WE.pe) (WE.mono (ha s _ _ h1 σ g ι Fr H r) fun u H1 ⟨g1, i1, l1, r1, z1⟩ => ?_)
  cases z1
  refine ⟨t, rfl, ?_⟩
  cases t with
  | true =>
    rw [if_pos rfl] at e2_ ⊢
    exact WE.mono (hb _ v s' e2_ σ g1 i1 Fr H1 r1) fun _ _ q => q.lt l1
  | false =>
    rw [if_neg Bool.false_ne_true] at e2_ ⊢
    cases e2_
    exact ⟨g1, i1, l1, r1, .bl false⟩
theorem den_or {rest : List Expr} (ha : Den X cl a m1) (hb : Den X cl (.BoolOp .Or (b :: rest) pos) m2) : Den X cl (.BoolOp .Or (a :: b :: rest) pos) (orM m1 m2) := fun s v s' h σ g ι Fr H r => by
  obtain ⟨x, s1, h1, e1_⟩ := bd_some h
  obtain ⟨t, s2, h2, e2_⟩ := bd_some e1_
  obtain ⟨k2, rfl⟩ := lf_some h2
  have e := isB_some k2
  subst e
  refine .of (pe_or WE.pe WE.pe) (WE.mono (ha s _ _ h1 σ g ι Fr H r) fun u H1 ⟨g1, i1, l1, r1, z1⟩ => ?_)
  cases z1
  refine ⟨t, rfl, ?_⟩
  cases t with
  | false =>
    rw [if_neg Bool.false_ne_true] at e2_ ⊢
    exact WE.mono (hb _ v s' e2_ σ g1 i1 Fr H1 r1) fun _ _ q => q.lt l1
  | true =>
    rw [if_pos rfl] at e2_ ⊢
    cases e2_
    exact ⟨g1, i1, l1, r1, .bl true⟩
def notM (m : M D) : M D := bd m fun x => bd (lf (isB x)) fun t => ret (.bl (!t))
theorem den_not (ha : Den X cl a m) : Den X cl (.UnaryOp .Not a pos) (notM m) := fun s v s' h σ g ι Fr H r => by
  obtain ⟨x, s1, h1, e1_⟩ := bd_some h
  obtain ⟨t, s2, h2, e2_⟩ := bd_some e1_
  obtain ⟨k2, rfl⟩ := lf_some h2
  have e := isB_some k2
  subst e
  cases e2_
  refine .of (pe_not WE.pe) (WE.mono (ha s _ _ h1 σ g ι Fr H r) fun u H1 ⟨g1, i1, l1, r1, z1⟩ => ?_)
  cases z1
  exact ⟨t, rfl, g1, i1, l1, r1, .bl _⟩
def isI (d : D) : Option Int := match d with
  | .int b => some b
  | _ => none
theorem isI_some {d : D} {b : Int} (h : isI d = some b) : d = .int b := by
  cases d with
  | int c =>
    cases h
    rfl
  | _ => cases h
theorem den_neg (ha : Den X cl a m) : Den X cl (.UnaryOp .USub a pos) (bd m fun x => bd (lf (isI x)) fun i => ret (.int (-i))) := fun s v s' h σ g ι Fr H r => by
  obtain ⟨x, s1, h1, e1_⟩ := bd_some h
  obtain ⟨t, s2, h2, e2_⟩ := bd_some e1_
  obtain ⟨k2, rfl⟩ := lf_some h2
  have e := isI_some k2
  subst e
  cases e2_
  refine .of (pe_un un_neg WE.pe) (WE.mono (ha s _ _ h1 σ g ι Fr H r) fun u H1 ⟨g1, i1, l1, r1, z1⟩ => ?_)
  cases z1
  exact ⟨t, rfl, g1, i1, l1, r1, .int _⟩
theorem den_ite {mc : M Bool} (hc : DenT X cl c mc) (ha : Den X cl a m1) (hb : Den X cl b m2) : Den X cl (.IfExp c a b pos) (bd mc fun t => if t then m1 else m2) := fun s v s' h σ g ι Fr H r => by
  obtain ⟨t, s1, h1, e1_⟩ := bd_some h
  refine .of (pe_ifExp WT.pt WE.pe WE.pe) (WT.mono (hc s t s1 h1 σ g ι Fr H r) fun u H1 ⟨e, g1, i1, l1, r1⟩ => ?_)
  subst e
  cases u with
  | true =>
    rw [if_pos rfl] at e1_ ⊢
    exact WE.mono (ha _ v s' e1_ σ g1 i1 Fr H1 r1) fun _ _ q => q.lt l1
  | false =>
    rw [if_neg Bool.false_ne_true] at e1_ ⊢
    exact WE.mono (hb _ v s' e1_ σ g1 i1 Fr H1 r1) fun _ _ q => q.lt l1
/-! tests -/
theorem dent_val (ha : Den X cl a m) (he : ∀ whole, isTrue a X.env whole = (do let v ← whole; standAt a.pos; holding [v] (truthy v)) := by intro _; rfl) : DenT X cl a (bd m fun x => lf (isB x)) := fun s v s' h σ g ι Fr H r => by
  obtain ⟨x, s1, h1, e1_⟩ := bd_some h
  obtain ⟨h2, rfl⟩ := lf_some e1_
  have e := isB_some h2
  subst e
  refine .of (pt_val WE.pe he) (WE.mono (ha s _ _ h1 σ g ι Fr H r) fun u H1 ⟨g1, i1, l1, r1, z1⟩ => ?_)
  cases z1
  exact ⟨v, rfl, rfl, g1, i1, l1, r1⟩
theorem dent_not {mt : M Bool} (ha : DenT X cl a mt) : DenT X cl (.UnaryOp .Not a pos) (bd mt fun t => ret (!t)) := fun s v s' h σ g ι Fr H r => by
  obtain ⟨t, s1, h1, e1_⟩ := bd_some h
  cases e1_
  refine .of (pt_not WT.pt) (WT.mono (ha s t _ h1 σ g ι Fr H r) fun u H1 ⟨e, q⟩ => ?_)
  subst e
  exact ⟨rfl, q⟩
def andT (m1 m2 : M Bool) : M Bool := bd m1 fun t => if t then m2 else ret false
def orT (m1 m2 : M Bool) : M Bool := bd m1 fun t => if t then ret true else m2
/-- tests with and, or, from the left: as a whole -/
def DenW (X : Cx) (cl : Nat → Addr) (e : Expr) (m : M Bool) : Prop := ∀ s v s', m s = some (v, s') → ∀ σ g ι Fr H, Rel X.K cl g ι σ s Fr H → ∀ (wh : Sem Value) (pins : List (Addr × Obj)) (sh : Shared), Inv X pins σ H sh →
  wpAny (model X.prog X.w) X.A (isTrue e X.env wh) (TP X pins σ (PostT X cl g ι σ s' Fr v)) X.xe sh
theorem PostT.lt {g g' : Hp} {ι ι' : List Addr} {σ : L2.St} {s : S} {Fr : Rl} {d c : Bool} {H : Hp} (l : Lt g ι g' ι') (h : PostT X cl g' ι' σ s Fr d c H) : PostT X cl g ι σ s Fr d c H := by
  obtain ⟨e, g2, i2, l2, r⟩ := h
  exact ⟨e, g2, i2, l.trans l2, r⟩
theorem DenW.t {mt : M Bool} (h : DenW X cl e mt) : DenT X cl e mt := fun s v s' hm σ g ι Fr H r => ⟨fun pins sh I => h s v s' hm σ g ι Fr H r _ pins sh I⟩
theorem denw_and1 {mt : M Bool} (ha : DenT X cl a mt) : DenW X cl (.BoolOp .And [a] pos) mt := fun s v s' h σ g ι Fr H r wh pins sh I =>
  (pw_and1 (pos := pos) WT.pt).run wh pins sh σ H _ I (ha s v s' h σ g ι Fr H r)
theorem denw_or1 {mt : M Bool} (ha : DenT X cl a mt) : DenW X cl (.BoolOp .Or [a] pos) mt := fun s v s' h σ g ι Fr H r wh pins sh I =>
  (pw_or1 (pos := pos) WT.pt).run wh pins sh σ H _ I (ha s v s' h σ g ι Fr H r)
structure WW (X : Cx) (e : Expr) (σ : L2.St) (H : Hp) (Q : Bool → Hp → Prop) : Prop where
  run : ∀ (wh : Sem Value) (pins : List (Addr × Obj)) (s : Shared), Inv X pins σ H s → wpAny (model X.prog X.w) X.A (isTrue e X.env wh) (TP X pins σ Q) X.xe s
theorem WW.pw : PW X e (WW X e) := ⟨fun wh pins s _ _ _ I h => h.run wh pins s I⟩
theorem WW.mono {σ : L2.St} {H : Hp} {Q Q' : Bool → Hp → Prop} (h : WW X e σ H Q) (q : ∀ v H', Q v H' → Q' v H') : WW X e σ H Q' :=
  ⟨fun wh pins s I => thn (h.run wh pins s I) fun _ _ ⟨H', I', z⟩ => ⟨H', I', q _ H' z⟩⟩
theorem denw_and {rest : List Expr} {mt mu : M Bool} (ha : DenT X cl a mt) (hb : DenW X cl (.BoolOp .And (b :: rest) pos) mu) : DenW X cl (.BoolOp .And (a :: b :: rest) pos) (andT mt mu) := fun s v s' h σ g ι Fr H r wh pins sh I => by
  obtain ⟨t, s1, h1, e1_⟩ := bd_some h
  refine (pw_and (pos := pos) WT.pt WW.pw).run wh pins sh σ H _ I (WT.mono (ha s t s1 h1 σ g ι Fr H r) fun u H1 ⟨e, g1, i1, l1, r1⟩ => ?_)
  subst e
  cases u with
  | true =>
    rw [if_pos rfl] at e1_ ⊢
    exact WW.mono ⟨fun wh pins sh I => hb s1 v s' e1_ σ g1 i1 Fr H1 r1 wh pins sh I⟩ fun _ _ q => q.lt l1
  | false =>
    rw [if_neg Bool.false_ne_true] at e1_ ⊢
    cases e1_
    exact ⟨rfl, g1, i1, l1, r1⟩
theorem denw_or {rest : List Expr} {mt mu : M Bool} (ha : DenT X cl a mt) (hb : DenW X cl (.BoolOp .Or (b :: rest) pos) mu) : DenW X cl (.BoolOp .Or (a :: b :: rest) pos) (orT mt mu) := fun s v s' h σ g ι Fr H r wh pins sh I => by
  obtain ⟨t, s1, h1, e1_⟩ := bd_some h
  refine (pw_or (pos := pos) WT.pt WW.pw).run wh pins sh σ H _ I (WT.mono (ha s t s1 h1 σ g ι Fr H r) fun u H1 ⟨e, g1, i1, l1, r1⟩ => ?_)
  subst e
  cases u with
  | false =>
    rw [if_neg Bool.false_ne_true] at e1_ ⊢
    exact WW.mono ⟨fun wh pins sh I => hb s1 v s' e1_ σ g1 i1 Fr H1 r1 wh pins sh I⟩ fun _ _ q => q.lt l1
  | true =>
    rw [if_pos rfl] at e1_ ⊢
    cases e1_
    exact ⟨rfl, g1, i1, l1, r1⟩
/-! arguments, displays -/
theorem dena_nil : DenA X cl [] (ret []) := fun s v s' h σ g ι Fr H r => by
  cases h
  exact .of pa_nil ⟨g, ι, .refl, r, .nil⟩
theorem dena_cons (ha : Den X cl e m) (hr : DenA X cl es ma) (hs : starEach (e :: es) X.env = (false, eval e X.env) :: starEach es X.env := by rfl) : DenA X cl (e :: es) (bd m fun x => bd ma fun xs => ret (x :: xs)) := fun s v s' h σ g ι Fr H r => by
  obtain ⟨x, s1, h1, e1_⟩ := bd_some h
  obtain ⟨xs, s2, h2, e2_⟩ := bd_some e1_
  cases e2_
  exact .of (pa_cons WE.pe WA.pa hs) (WE.mono (ha s x s1 h1 σ g ι Fr H r) fun u H1 ⟨g1, i1, l1, r1, z1⟩ => WA.mono (hr s1 xs s' h2 σ g1 i1 Fr H1 r1) fun us H2 ⟨g2, i2, l2, r2, z2⟩ => ⟨g2, i2, l1.trans l2, r2, .cons (z1.up l2) z2⟩)
def few (l : List D) (d : D) : Option D := if l.length ≤ 100000 then some d else none
theorem few_some {l : List D} {d d' : D} (h : few l d = some d') : l.length ≤ 100000 ∧ d' = d := by
  unfold few at h
  split at h
  · cases h
    exact ⟨‹_›, rfl⟩
  · cases h
theorem den_tup {k : Nat} (ha : DenA X cl es ma) : Den X cl (.Tuple es k pos) (bd ma fun xs => lf (few xs (.tup xs))) := fun s v s' h σ g ι Fr H r => by
  obtain ⟨xs, s1, h1, e1_⟩ := bd_some h
  obtain ⟨h2, rfl⟩ := lf_some e1_
  obtain ⟨hl, rfl⟩ := few_some h2
  refine .of (pe_tupF WA.pa) (WA.mono (ha s xs s' h1 σ g ι Fr H r) fun us H1 ⟨g1, i1, l1, r1, z1⟩ => ⟨Evl.sz_of (by rw [z1.length]; exact hl), fun p o np no => ?_⟩)
  have k := r1.add (o := .frz o (.tup us)) np
  exact ⟨_, i1, l1.trans k.2, k.1, .tup (.inl (.inr ⟨o, upd_same⟩)) (.inl ⟨o, _, upd_same, no⟩) (z1.up k.2)⟩
theorem den_lst (ha : DenA X cl es ma) : Den X cl (.List es pos) (bd ma fun xs => lf (few xs (.lst xs))) := fun s v s' h σ g ι Fr H r => by
  obtain ⟨xs, s1, h1, e1_⟩ := bd_some h
  obtain ⟨h2, rfl⟩ := lf_some e1_
  obtain ⟨hl, rfl⟩ := few_some h2
  refine .of (pe_lst WA.pa) (WA.mono (ha s xs s' h1 σ g ι Fr H r) fun us H1 ⟨g1, i1, l1, r1, z1⟩ => ⟨Evl.sz_of (by rw [z1.length]; exact hl), fun p np => ?_⟩)
  have k := r1.add (o := .lst us) np
  exact ⟨_, i1, l1.trans k.2, k.1, .lst upd_same (z1.up k.2)⟩
theorem den_dict0 : Den X cl (.Dict [] [] pos) (ret (.dct [] [])) := fun s v s' h σ g ι Fr H r => by
  cases h
  refine .of pe_dnewK fun p np => ?_
  have k := r.add (o := .dK []) np
  exact ⟨_, ι, k.2, k.1, .dct upd_same rfl .nil⟩
end
end Sd

namespace Sd
open PySem PySem.Spec PyProof.Rows L2
open Evl (Ex)
section
variable {X : Cx} {cl : Nat → Addr}
theorem post_lst {g : Hp} {ι : List Addr} {σ : L2.St} {s : S} {Fr : Rl} {H : Hp} {p : Addr} {xs : List V} {ds : List D} (rl : Rel X.K cl g ι σ s Fr H) (np : H p = none) (z : DRs X.K cl ι g xs ds) : PostE X cl g ι σ s Fr (.lst ds) (.ref p) (upd H p (.lst xs)) := by
  have k := rl.add (o := .lst xs) np
  exact ⟨_, ι, k.2, k.1, .lst upd_same (z.up k.2)⟩
theorem post_tup {g : Hp} {ι : List Addr} {σ : L2.St} {s : S} {Fr : Rl} {H : Hp} {p : Addr} {o : Obj} {xs : List V} {ds : List D} (rl : Rel X.K cl g ι σ s Fr H) (np : H p = none) (no : o.dict = none) (z : DRs X.K cl ι g xs ds) : PostE X cl g ι σ s Fr (.tup ds) (.ref p) (upd H p (.frz o (.tup xs))) := by
  have k := rl.add (o := .frz o (.tup xs)) np
  exact ⟨_, ι, k.2, k.1, .tup (.inl (.inr ⟨o, upd_same⟩)) (.inl ⟨o, _, upd_same, no⟩) (z.up k.2)⟩
theorem post_of {g : Hp} {ι : List Addr} {σ : L2.St} {s : S} {Fr : Rl} {H : Hp} {v : V} {d : D} (rl : Rel X.K cl g ι σ s Fr H) (z : DR X.K cl ι g v d) : PostE X cl g ι σ s Fr d v H := ⟨g, ι, .refl, rl, z⟩
/-- an operator by two roads -/
theorem OpD.or {f : Value → Value → Sem Value} {o o' : D → D → Option D} (h : OpD X cl f o) (h' : OpD X cl f o') : OpD X cl f (fun a b => match o a b with | some d => some d | none => o' a b) := by
  obtain ⟨r, hr, k⟩ := h
  obtain ⟨r', hr', k'⟩ := h'
  refine ⟨_, OpR.or hr hr', fun x y d1 d2 d e σ s g ι Fr H rl z1 z2 Q q => ?_⟩
  cases e1 : o d1 d2 with
  | some d' =>
    simp only [e1] at e
    cases e
    exact .inl (k x y d1 d2 _ e1 σ s g ι Fr H rl z1 z2 Q q)
  | none =>
    simp only [e1] at e
    exact .inr (k' x y d1 d2 d e σ s g ι Fr H rl z1 z2 Q q)
/-- the same operator by another name -/
theorem OpD.as {f : Value → Value → Sem Value} {o o' : D → D → Option D} (h : OpD X cl f o) (e : ∀ a b d, o' a b = some d → o a b = some d) : OpD X cl f o' := by
  obtain ⟨r, hr, k⟩ := h
  exact ⟨r, hr, fun x y d1 d2 d e1 => k x y d1 d2 d (e d1 d2 d e1)⟩
def ii (f : Int → Int → Option D) : D → D → Option D
  | .int i, .int j => f i j
  | _, _ => none
theorem opd_I {f : Value → Value → Sem Value} {C : Int → Int → Prop} {k : Int → Int → Int} {o : Int → Int → Option D} (h : OpR X f (rI C fun i j => .int (k i j))) (ho : ∀ i j d, o i j = some d → C i j ∧ d = .int (k i j)) : OpD X cl f (ii o) := by
  refine ⟨_, h, fun x y d1 d2 d e σ s g ι Fr H rl z1 z2 Q q => ?_⟩
  unfold ii at e
  split at e
  · cases z1
    cases z2
    obtain ⟨c, rfl⟩ := ho _ _ _ e
    exact ⟨_, _, rfl, rfl, c, q _ _ ⟨g, ι, .refl, rl, .int _⟩⟩
  · cases e
theorem opd_I0 {f : Value → Value → Sem Value} {k : Int → Int → Int} (h : OpR X f (rI0 fun i j => .int (k i j))) : OpD X cl f (ii fun i j => some (.int (k i j))) := by
  refine ⟨_, h, fun x y d1 d2 d e σ s g ι Fr H rl z1 z2 Q q => ?_⟩
  unfold ii at e
  split at e
  · cases z1
    cases z2
    cases e
    exact ⟨_, _, rfl, rfl, q _ _ ⟨g, ι, .refl, rl, .int _⟩⟩
  · cases e
theorem opd_B0 {f : Value → Value → Sem Value} {k : Int → Int → Bool} (h : OpR X f (rI0 fun i j => .bl (k i j))) : OpD X cl f (ii fun i j => some (.bl (k i j))) := by
  refine ⟨_, h, fun x y d1 d2 d e σ s g ι Fr H rl z1 z2 Q q => ?_⟩
  unfold ii at e
  split at e
  · cases z1
    cases z2
    cases e
    exact ⟨_, _, rfl, rfl, q _ _ ⟨g, ι, .refl, rl, .bl _⟩⟩
  · cases e
def ltD : D → D → Option D := ii fun i j => some (.bl (decide (i < j)))
def leD : D → D → Option D := ii fun i j => some (.bl (decide (i ≤ j)))
def gtD : D → D → Option D := ii fun i j => some (.bl (decide (j < i)))
def geD : D → D → Option D := ii fun i j => some (.bl (decide (j ≤ i)))
theorem opd_lt : OpD X cl (compareOp .Lt) ltD := opd_B0 op_lt
theorem opd_le : OpD X cl (compareOp .LtE) leD := opd_B0 op_le
theorem opd_gt : OpD X cl (compareOp .Gt) gtD := opd_B0 op_gt
theorem opd_ge : OpD X cl (compareOp .GtE) geD := opd_B0 op_ge
def subD : D → D → Option D := ii fun i j => some (.int (i - j))
theorem opd_sub : OpD X cl (binaryOp .Sub) subD := opd_I0 op_sub
def modD : D → D → Option D := ii fun i j => if 0 < j then some (.int (i % j)) else none
theorem opd_mod : OpD X cl (binaryOp .Mod) modD := opd_I op_mod fun i j d e => by
  split at e
  · cases e
    exact ⟨‹_›, rfl⟩
  · cases e
def fdivD : D → D → Option D := ii fun i j => if 0 < j ∧ j < 1208925819614629174706176 then some (.int (i / j)) else none
theorem opd_fdiv : OpD X cl (binaryOp .FloorDiv) fdivD := opd_I op_fdivW fun i j d e => by
  split at e
  · rename_i h
    cases e
    refine ⟨wide_div (b := 80) h.1 ?_ (by decide) (by decide), rfl⟩
    have := h.2
    omega
  · cases e
def powD : D → D → Option D := ii fun i j => if 0 ≤ j ∧ j ≤ 1000000 ∧ i.natAbs < 18446744073709551616 then some (.int (i ^ j.toNat)) else none
theorem opd_pow : OpD X cl (binaryOp .Pow) powD := opd_I op_pow fun i j d e => by
  split at e
  · rename_i h
    cases e
    exact ⟨⟨h.1, h.2.1, h.2.2⟩, rfl⟩
  · cases e
/-! + -/
def catL : D → D → Option D
  | .lst a, .lst b => few (a ++ b) (.lst (a ++ b))
  | _, _ => none
theorem opd_catL : OpD X cl (binaryOp .Add) catL := by
  refine ⟨_, op_cat, fun x y d1 d2 d e σ s g ι Fr H rl z1 z2 Q q => ?_⟩
  unfold catL at e
  split at e
  · obtain ⟨hl, rfl⟩ := few_some e
    cases z1 with
    | lst h1 r1 =>
      cases z2 with
      | lst h2 r2 =>
        refine ⟨_, _, _, _, rfl, rfl, rl.ex _ _ h1, rl.ex _ _ h2, Evl.sz_of (by rw [r1.length, r2.length]; simpa using hl), fun p np => q _ _ (post_lst rl np (r1.append r2))⟩
  · cases e
def catT : D → D → Option D
  | .tup a, .tup b => few (a ++ b) (.tup (a ++ b))
  | _, _ => none
theorem opd_catT : OpD X cl (binaryOp .Add) catT := by
  refine ⟨_, op_catF, fun x y d1 d2 d e σ s g ι Fr H rl z1 z2 Q q => ?_⟩
  unfold catT at e
  split at e
  · obtain ⟨hl, rfl⟩ := few_some e
    cases z1 with
    | tup h1 n1 r1 =>
      cases z2 with
      | tup h2 n2 r2 =>
        have l1 := r1.length
        have l2 := r2.length
        refine ⟨_, _, _, _, rfl, rfl, Evl.ex_t rl.ex h1, Evl.ex_t rl.ex h2, Evl.sz_of (by rw [l1, l2]; simpa using hl), fun e1 => q _ _ ⟨g, ι, .refl, rl, ?_⟩, fun _ e2 => q _ _ ⟨g, ι, .refl, rl, ?_⟩, fun _ _ p o np no => q _ _ (post_tup rl np no (r1.append r2))⟩
        · subst e1
          cases r1
          exact .tup h2 n2 r2
        · subst e2
          cases r2
          rw [List.append_nil]
          exact .tup h1 n1 r1
  · cases e
def catS : D → D → Option D
  | .str a, .str b => if a.length + b.length ≤ 100000 then some (.str (a ++ b)) else none
  | _, _ => none
theorem opd_catS : OpD X cl (binaryOp .Add) catS := by
  refine ⟨_, op_add_str, fun x y d1 d2 d e σ s g ι Fr H rl z1 z2 Q q => ?_⟩
  unfold catS at e
  split at e
  · split at e
    · cases e
      cases z1
      cases z2
      exact ⟨_, _, rfl, rfl, Evl.sz_of ‹_›, q _ _ ⟨g, ι, .refl, rl, .str _⟩⟩
    · cases e
  · cases e
def addD : D → D → Option D
  | .int i, .int j => some (.int (i + j))
  | .lst a, .lst b => few (a ++ b) (.lst (a ++ b))
  | .tup a, .tup b => few (a ++ b) (.tup (a ++ b))
  | .str a, .str b => if a.length + b.length ≤ 100000 then some (.str (a ++ b)) else none
  | _, _ => none
theorem opd_add : OpD X cl (binaryOp .Add) addD := ((opd_I0 op_add).or (opd_catL.or (opd_catT.or opd_catS))).as fun a b d e => by
  unfold addD at e
  split at e
  · exact e
  · show (match few _ _ with | some d => some d | none => _) = _
    rw [e]
  · show (match few _ _ with | some d => some d | none => _) = _
    rw [e]
  · exact e
  · cases e
/-! * -/
def mulI : D → D → Option D := ii fun i j => if i.natAbs < 2 ^ 200 ∧ j.natAbs < 2 ^ 200 then some (.int (i * j)) else none
theorem opd_mulI : OpD X cl (binaryOp .Mult) mulI := opd_I op_mulW fun i j d e => by
  split at e
  · rename_i h
    cases e
    exact ⟨wide_mul (a := 200) (b := 200) h.1 h.2 (by decide) (by decide) (by decide), rfl⟩
  · cases e
def repL : D → D → Option D
  | .lst a, .int k => if 0 ≤ k ∧ k ≤ 1000 ∧ a.length ≤ 100 then some (.lst (List.replicate k.toNat a).flatten) else none
  | _, _ => none
theorem opd_repL : OpD X cl (binaryOp .Mult) repL := by
  refine ⟨_, op_rep, fun x y d1 d2 d e σ s g ι Fr H rl z1 z2 Q q => ?_⟩
  unfold repL at e
  split at e
  · split at e
    · rename_i a k h
      cases e
      cases z2
      cases z1 with
      | lst h1 r1 =>
        have l1 := r1.length
        refine ⟨_, _, _, rfl, rfl, rl.ex _ _ h1, by omega, by omega, ?_, fun p np => q _ _ (post_lst rl np (r1.flat _))⟩
        refine Evl.sz_of ?_
        have : a.length * k.toNat ≤ 100 * 1000 := Nat.mul_le_mul h.2.2 (by omega)
        rw [l1]
        omega
    · cases e
  · cases e
/-- a tuple once: itself -/
theorem op_repT1 : OpR X (binaryOp .Mult) (fun x y H Q => ∃ l xs, x = .ref l ∧ y = .int 1 ∧ SqT X.K H l xs ∧ Q (.ref l) H) := by
  intro pins s σ H x y v u Q I rx ry h
  obtain ⟨l, xs, rfl, rfl, hT, q⟩ := h
  cases rx
  obtain ⟨t, rfl⟩ := ry
  obtain ⟨its, r, ⟨⟨cls, dd, data, sl⟩, ho, hc, n, hd⟩, hs⟩ := I.tuple hT
  simp only at hc hd
  subst hc hd
  refine wpAny_binaryOp_repeat_ref (T := "tuple") (U := "int") (by decide) ⟨_, ho, rfl⟩ (fun s' => typeIs_int s' 1 t) noFill_tuple_mul F.fills_int_mul F.slot_int_rmul repeat_tuple F.slot_int_index.lookup
    (call_meets F.slot_int_rmul (typeIs_int s 1 t) F.entry_int_rmul (F.args_int_rmul_2 _ _) (int_rmul_tuple 1 t l its.toArray n dd sl)
      ⟨ho, rfl, ⟨_, ho, rfl⟩, call_meets F.slot_tuple_mul ⟨_, ho, rfl⟩ F.entry_tuple_mul (F.args_tuple_mul_2 _ _) (Meets.of_wp (S := fun _ R s => s.heap.get? l = some { cls := .type "tuple", dict := dd, data := .seq its.toArray n, slots := sl } ∧ R (.ok (.ret (Value.ref l))) s) fun prog w A R s h => by
        obtain ⟨hp, g, d, tk, os⟩ := s
        obtain ⟨hl, h⟩ := h
        have f1 := AutoSeq1.idx_int
        have c1 : (its.toArray.isEmpty || (1 : Int) == 1) = true := by simp
        wp_walk using wpAny_loadPart' hl
        repeat (first
          | (refine wpAny_ite_false (decide_eq_false (by decide)) ?_; wp_walk using wpAny_loadPart' hl)
          | (refine wpAny_ite_true (decide_eq_true c1) ?_; wp_walk using wpAny_loadPart' hl))
        exact ⟨_, rfl, h⟩) ⟨ho, ?_⟩⟩)
  exact ⟨.ref l, H, I, rfl, q⟩
end
end Sd

namespace Sd
open PySem PySem.Spec PyProof.Rows L2
open Evl (Ex)
/-! data as plain data -/
mutual
def toP : D → Option PyData
  | .non => some .none
  | .bl b => some (.bool b)
  | .int i => some (.int i)
  | .str x => some (.str x)
  | .tup l => match toPs l with
    | some r => some (.tuple r)
    | none => none
  | .lst l => match toPs l with
    | some r => some (.list r)
    | none => none
  | _ => none
def toPs : List D → Option (List PyData)
  | [] => some []
  | d :: r => match toP d, toPs r with
    | some a, some b => some (a :: b)
    | _, _ => none
end
mutual
theorem dp_of {K : PySem.W.Frag} {cl : Nat → Addr} {ι : List Addr} {g H : Hp} (e : Ex g H) : ∀ {v : V} {d : D} {p : PyData}, DR K cl ι g v d → toP d = some p → Dp K H v p
  | _, _, _, .non, h => by
    unfold toP at h
    cases h
    exact .non
  | _, _, _, .bl b, h => by
    unfold toP at h
    cases h
    exact .bl b
  | _, _, _, .int i, h => by
    unfold toP at h
    cases h
    exact .int i
  | _, _, _, .str x, h => by
    unfold toP at h
    cases h
    exact .str x
  | _, .tup ds, _, .tup q _ r, h => by
    unfold toP at h
    split at h
    · rename_i l e1
      cases h
      exact .tup (Evl.ex_t e q) (dps_of e r e1)
    · cases h
  | _, .lst ds, _, .lst q r, h => by
    unfold toP at h
    split at h
    · rename_i l e1
      cases h
      exact .lst (Evl.sq_of (e _ _ q)) (dps_of e r e1)
    · cases h
  | _, _, _, .scr _, h => by
    unfold toP at h
    cases h
  | _, _, _, .tupU _ _, h => by
    unfold toP at h
    cases h
  | _, _, _, .dct _ _ _, h => by
    unfold toP at h
    cases h
  | _, _, _, .ins _ _, h => by
    unfold toP at h
    cases h
  | _, _, _, .ref _, h => by
    unfold toP at h
    cases h
theorem dps_of {K : PySem.W.Frag} {cl : Nat → Addr} {ι : List Addr} {g H : Hp} (e : Ex g H) : ∀ {v : List V} {d : List D} {p : List PyData}, DRs K cl ι g v d → toPs d = some p → DpAll K H v p
  | _, _, _, .nil, h => by
    unfold toPs at h
    cases h
    exact .nil
  | _, d :: ds, _, .cons q r, h => by
    unfold toPs at h
    split at h
    · rename_i a b e1 e2
      cases h
      exact .cons (dp_of e q e1) (dps_of e r e2)
    · cases h
end
section
variable {X : Cx} {cl : Nat → Addr} {a b c e : Expr} {es : List Expr} {pos p p' : Pos} {m m1 m2 m3 : M D} {ma : M (List D)}
def repT : D → D → Option D
  | .tup a, .int k => if k = 1 then some (.tup a) else if 2 ≤ k ∧ k ≤ 1000 ∧ a.length ≤ 100 ∧ a ≠ [] then some (.tup (List.replicate k.toNat a).flatten) else none
  | _, _ => none
theorem opd_repT : OpD X cl (binaryOp .Mult) repT := by
  refine ⟨_, op_repT1.or op_repF, fun x y d1 d2 d e σ s g ι Fr H rl z1 z2 Q q => ?_⟩
  unfold repT at e
  split at e
  · split at e
    · rename_i k
      cases e
      subst k
      cases z2
      cases z1 with
      | tup h1 n1 r1 => exact .inl ⟨_, _, rfl, rfl, Evl.ex_t rl.ex h1, q _ _ (post_of rl (.tup h1 n1 r1))⟩
    · split at e
      · rename_i a k hk h
        cases e
        cases z2
        cases z1 with
        | tup h1 n1 r1 =>
          have l1 := r1.length
          refine .inr ⟨_, _, _, rfl, rfl, Evl.ex_t rl.ex h1, ?_, h.1, h.2.1, by omega, fun p o np no => q _ _ (post_tup rl np no (r1.flat _))⟩
          intro e0
          subst e0
          cases r1
          exact h.2.2.2 rfl
      · cases e
  · cases e
def mulD : D → D → Option D
  | .int i, .int j => if i.natAbs < 2 ^ 200 ∧ j.natAbs < 2 ^ 200 then some (.int (i * j)) else none
  | .lst a, .int k => if 0 ≤ k ∧ k ≤ 1000 ∧ a.length ≤ 100 then some (.lst (List.replicate k.toNat a).flatten) else none
  | .tup a, .int k => if k = 1 then some (.tup a) else if 2 ≤ k ∧ k ≤ 1000 ∧ a.length ≤ 100 ∧ a ≠ [] then some (.tup (List.replicate k.toNat a).flatten) else none
  | _, _ => none
theorem opd_mul : OpD X cl (binaryOp .Mult) mulD := (opd_mulI.or (opd_repL.or opd_repT)).as fun a b d e => by
  unfold mulD at e
  split at e
  · show (match mulI _ _ with | some d => some d | none => _) = _
    have e' : mulI (.int _) (.int _) = some d := e
    rw [e']
  · show (match repL _ _ with | some d => some d | none => _) = _
    have e' : repL (.lst _) (.int _) = some d := e
    rw [e']
  · exact e
  · cases e
/-! == and != -/
def shp (d : D) : Option PyData := (toP d).bind fun p => if SeqAt.shaped p = true then some p else none
theorem shp_some {d : D} {p : PyData} (h : shp d = some p) : toP d = some p ∧ SeqAt.shaped p = true := by
  unfold shp at h
  obtain ⟨q, h1, h2⟩ := Option.bind_eq_some_iff.mp h
  split at h2
  · cases h2
    exact ⟨h1, ‹_›⟩
  · cases h2
def eqS : D → D → Option D
  | .str a, .str b => some (.bl (decide (a = b)))
  | _, _ => none
def neS : D → D → Option D
  | .str a, .str b => some (.bl (!decide (a = b)))
  | _, _ => none
def eqP (x y : D) : Option D := (shp x).bind fun p => (shp y).bind fun q => some (.bl (PyData.eqv p q))
def neP (x y : D) : Option D := (shp x).bind fun p => (shp y).bind fun q => some (.bl (!PyData.eqv p q))
def eqD (x y : D) : Option D := match eqS x y with
  | some d => some d
  | none => eqP x y
def neD (x y : D) : Option D := match neS x y with
  | some d => some d
  | none => neP x y
theorem opd_eqS : OpD X cl (compareOp .Eq) eqS := by
  refine ⟨_, op_eq, fun x y d1 d2 d e σ s g ι Fr H rl z1 z2 Q q => ?_⟩
  unfold eqS at e
  split at e
  · cases e
    cases z1
    cases z2
    refine ⟨rfl, ?_⟩
    simp only [V.str.injEq]
    exact q _ _ (post_of rl (.bl _))
  · cases e
theorem opd_neS : OpD X cl (compareOp .NotEq) neS := by
  refine ⟨_, op_ne, fun x y d1 d2 d e σ s g ι Fr H rl z1 z2 Q q => ?_⟩
  unfold neS at e
  split at e
  · cases e
    cases z1
    cases z2
    refine ⟨rfl, ?_⟩
    simp only [V.str.injEq]
    exact q _ _ (post_of rl (.bl _))
  · cases e
theorem opd_eqP (hu : X.A.units + 64 < cLine) : OpD X cl (compareOp .Eq) eqP := by
  refine ⟨_, op_eqD hu, fun x y d1 d2 d e σ s g ι Fr H rl z1 z2 Q q => ?_⟩
  obtain ⟨p1, h1, e⟩ := Option.bind_eq_some_iff.mp e
  obtain ⟨p2, h2, e⟩ := Option.bind_eq_some_iff.mp e
  cases e
  obtain ⟨h1, s1⟩ := shp_some h1
  obtain ⟨h2, s2⟩ := shp_some h2
  exact ⟨p1, p2, dp_of rl.ex z1 h1, dp_of rl.ex z2 h2, s1, s2, q _ _ (post_of rl (.bl _))⟩
theorem opd_neP (hu : X.A.units + 64 < cLine) : OpD X cl (compareOp .NotEq) neP := by
  refine ⟨_, op_neD hu, fun x y d1 d2 d e σ s g ι Fr H rl z1 z2 Q q => ?_⟩
  obtain ⟨p1, h1, e⟩ := Option.bind_eq_some_iff.mp e
  obtain ⟨p2, h2, e⟩ := Option.bind_eq_some_iff.mp e
  cases e
  obtain ⟨h1, s1⟩ := shp_some h1
  obtain ⟨h2, s2⟩ := shp_some h2
  exact ⟨p1, p2, dp_of rl.ex z1 h1, dp_of rl.ex z2 h2, s1, s2, q _ _ (post_of rl (.bl _))⟩
theorem opd_eq (hu : X.A.units + 64 < cLine) : OpD X cl (compareOp .Eq) eqD := (opd_eqS.or (opd_eqP hu)).as fun a b d e => e
theorem opd_ne (hu : X.A.units + 64 < cLine) : OpD X cl (compareOp .NotEq) neD := (opd_neS.or (opd_neP hu)).as fun a b d e => e
/-! in -/
def rInS (K : PySem.W.Frag) (neg : Bool) : R2 := fun x y H Q => ∃ d ds t, Dp K H x d ∧ Dp K H y t ∧ (t = .list ds ∨ t = .tuple ds) ∧ SeqAt.shaped d = true ∧ SeqAt.shaped t = true ∧ Q (.bl (if neg then !ds.any fun z => PyData.eqv z d else ds.any fun z => PyData.eqv z d)) H
theorem op_inS (hu : X.A.units + 65 < cLine) : OpR X (compareOp .In) (rInS X.K false) := by
  intro pins s σ H x y v u Q I rx ry h
  obtain ⟨d, ds, t, hd, ht, ht', sd, st, q⟩ := h
  obtain ⟨as, r1⟩ := Dp.reads I d x v hd rx
  obtain ⟨bs, r2⟩ := Dp.reads I t y u ht ry
  rcases ht' with rfl | rfl
  · exact SeqAt.in_list_reads r2 r1 (SeqAt.canLay_of_shaped st) (SeqAt.canLay_of_shaped sd) (room_in_shaped sd hu) ⟨.bl _, H, I, rfl, q⟩
  · exact SeqAt.in_tuple_reads r2 r1 (SeqAt.canLay_of_shaped st) (SeqAt.canLay_of_shaped sd) (room_in_shaped sd hu) ⟨.bl _, H, I, rfl, q⟩
theorem op_notInS (hu : X.A.units + 65 < cLine) : OpR X (compareOp .NotIn) (rInS X.K true) := by
  intro pins s σ H x y v u Q I rx ry h
  obtain ⟨d, ds, t, hd, ht, ht', sd, st, q⟩ := h
  obtain ⟨as, r1⟩ := Dp.reads I d x v hd rx
  obtain ⟨bs, r2⟩ := Dp.reads I t y u ht ry
  rcases ht' with rfl | rfl
  · exact SeqAt.notIn_list_reads r2 r1 (SeqAt.canLay_of_shaped st) (SeqAt.canLay_of_shaped sd) (room_in_shaped sd hu) ⟨.bl _, H, I, rfl, q⟩
  · exact SeqAt.notIn_tuple_reads r2 r1 (SeqAt.canLay_of_shaped st) (SeqAt.canLay_of_shaped sd) (room_in_shaped sd hu) ⟨.bl _, H, I, rfl, q⟩
def itemsP : PyData → Option (List PyData)
  | .list l => some l
  | .tuple l => some l
  | _ => none
theorem itemsP_some {t : PyData} {l : List PyData} (h : itemsP t = some l) : t = .list l ∨ t = .tuple l := by
  cases t <;> cases h
  · exact .inl rfl
  · exact .inr rfl
def inD (x y : D) : Option D := (shp x).bind fun p => (shp y).bind fun t => (itemsP t).bind fun l => some (.bl (l.any fun z => PyData.eqv z p))
def notInD (x y : D) : Option D := (shp x).bind fun p => (shp y).bind fun t => (itemsP t).bind fun l => some (.bl (!l.any fun z => PyData.eqv z p))
theorem opd_in (hu : X.A.units + 65 < cLine) : OpD X cl (compareOp .In) inD := by
  refine ⟨_, op_inS hu, fun x y d1 d2 d e σ s g ι Fr H rl z1 z2 Q q => ?_⟩
  obtain ⟨p1, h1, e⟩ := Option.bind_eq_some_iff.mp e
  obtain ⟨p2, h2, e⟩ := Option.bind_eq_some_iff.mp e
  obtain ⟨l, h3, e⟩ := Option.bind_eq_some_iff.mp e
  cases e
  obtain ⟨h1, s1⟩ := shp_some h1
  obtain ⟨h2, s2⟩ := shp_some h2
  exact ⟨p1, l, p2, dp_of rl.ex z1 h1, dp_of rl.ex z2 h2, itemsP_some h3, s1, s2, q _ _ (post_of rl (.bl _))⟩
theorem opd_notIn (hu : X.A.units + 65 < cLine) : OpD X cl (compareOp .NotIn) notInD := by
  refine ⟨_, op_notInS hu, fun x y d1 d2 d e σ s g ι Fr H rl z1 z2 Q q => ?_⟩
  obtain ⟨p1, h1, e⟩ := Option.bind_eq_some_iff.mp e
  obtain ⟨p2, h2, e⟩ := Option.bind_eq_some_iff.mp e
  obtain ⟨l, h3, e⟩ := Option.bind_eq_some_iff.mp e
  cases e
  obtain ⟨h1, s1⟩ := shp_some h1
  obtain ⟨h2, s2⟩ := shp_some h2
  exact ⟨p1, l, p2, dp_of rl.ex z1 h1, dp_of rl.ex z2 h2, itemsP_some h3, s1, s2, q _ _ (post_of rl (.bl _))⟩
/-! is -/
def isNo : D → Bool
  | .non => true
  | _ => false
def isD : D → D → Option D
  | x, .non => some (.bl (isNo x))
  | .bl a, .bl b => some (.bl (decide (a = b)))
  | _, _ => none
def isNotD : D → D → Option D
  | x, .non => some (.bl (!isNo x))
  | .bl a, .bl b => some (.bl (!decide (a = b)))
  | _, _ => none
theorem isNo_eq {K : PySem.W.Frag} {ι : List Addr} {g : Hp} {v : V} {d : D} (h : DR K cl ι g v d) : decide (v = .non) = isNo d := by
  cases h <;> first | rfl | exact decide_eq_false (fun z => nomatch z)
theorem opd_is : OpD X cl (compareOp .Is) isD := by
  refine ⟨_, op_isN.or op_isBl, fun x y d1 d2 d e σ s g ι Fr H rl z1 z2 Q q => ?_⟩
  unfold isD at e
  split at e
  · cases e
    cases z2
    refine .inl ⟨rfl, ?_⟩
    rw [isNo_eq z1]
    exact q _ _ (post_of rl (.bl _))
  · cases e
    cases z1
    cases z2
    exact .inr ⟨_, _, rfl, rfl, q _ _ (post_of rl (.bl _))⟩
  · cases e
theorem opd_isNot : OpD X cl (compareOp .IsNot) isNotD := by
  refine ⟨_, op_notN.or op_notBl, fun x y d1 d2 d e σ s g ι Fr H rl z1 z2 Q q => ?_⟩
  unfold isNotD at e
  split at e
  · cases e
    cases z2
    refine .inl ⟨rfl, ?_⟩
    rw [isNo_eq z1]
    exact q _ _ (post_of rl (.bl _))
  · cases e
    cases z1
    cases z2
    exact .inr ⟨_, _, rfl, rfl, q _ _ (post_of rl (.bl _))⟩
  · cases e
/-! x[i] -/
theorem DRs.atI {K : PySem.W.Frag} {ι : List Addr} {g : Hp} {xs : List V} {ds : List D} {i : Int} {d : D} (h : DRs K cl ι g xs ds) (e : atI ds i = some d) : ∃ v, L2.atI xs i = some v ∧ DR K cl ι g v d := by
  unfold L2.atI at e ⊢
  obtain ⟨j, h1, h2⟩ := Option.bind_eq_some_iff.mp e
  obtain ⟨v, h3, z⟩ := h.at h2
  exact ⟨v, by rw [h.length, h1]; exact h3, z⟩
/-- what stands in a list, a tuple, an object of the store -/
def seqM (x : D) : M (List D) := fun s => match x with
  | .tup l => some (l, s)
  | .lst l => some (l, s)
  | .ref k => match s.st[k]? with
    | some (.lst l) => some (l, s)
    | _ => none
  | _ => none
/-- a value by which a list or tuple is read -/
def SqV (K : PySem.W.Frag) (cl : Nat → Addr) (ι : List Addr) (g H : Hp) (u : V) (l : List D) : Prop := ∃ a xs, u = .ref a ∧ (SqL K H a xs ∨ SqT K H a xs) ∧ DRs K cl ι g xs l
theorem seqM_some {s s' : S} {x : D} {l : List D} (h : seqM x s = some (l, s')) : s' = s ∧ ∀ {K : PySem.W.Frag} {g H : Hp} {ι : List Addr} {σ : L2.St} {Fr : Rl} {u : V}, Rel K cl g ι σ s Fr H → DR K cl ι g u x → SqV K cl ι g H u l := by
  unfold seqM at h
  split at h
  · cases h
    refine ⟨rfl, fun rl z => ?_⟩
    cases z with
    | tup q _ r => exact ⟨_, _, rfl, .inr (Evl.ex_t rl.ex q), r⟩
  · cases h
    refine ⟨rfl, fun rl z => ?_⟩
    cases z with
    | lst q r => exact ⟨_, _, rfl, .inl (Evl.sq_of (rl.ex _ _ q)), r⟩
  · split at h
    · rename_i k l0 e
      cases h
      refine ⟨rfl, fun rl z => ?_⟩
      cases z with
      | ref hk =>
        obtain ⟨Rm, Rs, sh, mr, tr⟩ := rl
        obtain ⟨a, vs, R', h1, h2, h3, _⟩ := tr.lstAt e
        rw [hk] at h1
        cases h1
        have sh2 := sh.perm ((h3.append_right _).append_left Rm)
        exact ⟨_, _, rfl, .inl (Evl.sq_of (sh2.at_ _ (List.mem_append_right _ (List.mem_cons_self ..)))), h2⟩
    · cases h
  · cases h
theorem den_ix (ha : Den X cl a m1) (hb : Den X cl b m2) (hs : PlainIx b) : Den X cl (.Subscript a b pos) (bd m1 fun x => bd m2 fun i => bd (lf (isI i)) fun k => bd (seqM x) fun l => lf (atI l k)) := fun s v s' h σ g ι Fr H r => by
  obtain ⟨x, s1, h1, e1_⟩ := bd_some h
  obtain ⟨i, s2, h2, e2_⟩ := bd_some e1_
  obtain ⟨k, s3, h3, e3_⟩ := bd_some e2_
  obtain ⟨l, s4, h4, e4_⟩ := bd_some e3_
  obtain ⟨k3, rfl⟩ := lf_some h3
  have ei := isI_some k3
  subst ei
  obtain ⟨rfl, hq⟩ := seqM_some (cl := cl) h4
  obtain ⟨h5, rfl⟩ := lf_some e4_
  refine .of (pe_ix (ix_list.or ix_tup) WE.pe WE.pe hs) (WE.mono (ha s x s1 h1 σ g ι Fr H r) fun u H1 ⟨g1, i1, l1, r1, z1⟩ => WE.mono (hb s1 _ _ h2 σ g1 i1 Fr H1 r1) fun w H2 ⟨g2, i2, l2, r2, z2⟩ => ?_)
  cases z2
  obtain ⟨ad, xs, rfl, sq, rr⟩ := hq r2 (z1.up l2)
  obtain ⟨y, hy, zy⟩ := rr.atI h5
  rcases sq with sq | sq
  · exact .inl ⟨_, _, _, y, rfl, rfl, sq, hy, g2, i2, l1.trans l2, r2, zy⟩
  · exact .inr ⟨_, _, _, y, rfl, rfl, sq, hy, g2, i2, l1.trans l2, r2, zy⟩
/-- what stands in a slot's list or tuple, without letting it stay -/
def slotM (n : Nat) : M (List D) := fun s => match s.r[n]? with
  | some (.chg l) => some (l, s)
  | some (.dat x) => seqM x s
  | _ => none
theorem slotM_some {n : Nat} {s s' : S} {l : List D} (h : slotM n s = some (l, s')) : s' = s ∧ ∀ {K : PySem.W.Frag} {g H : Hp} {ι : List Addr} {σ : L2.St} {Fr : Rl}, Rel K cl g ι σ s Fr H → ∃ u, σ[n]? = some (some u) ∧ SqV K cl ι g H u l := by
  unfold slotM at h
  split at h
  · rename_i l0 e
    cases h
    refine ⟨rfl, fun rl => ?_⟩
    obtain ⟨Rm, Rs, sh, mr, tr⟩ := rl
    obtain ⟨a, vs, R', h1, h2, h3, _⟩ := mr.mutAt e
    have sh2 := sh.perm (h3.append_right _)
    exact ⟨_, h1, _, _, rfl, .inl (Evl.sq_of (sh2.at_ _ (List.mem_cons_self ..))), h2⟩
  · rename_i x e
    obtain ⟨rfl, hq⟩ := seqM_some (cl := cl) h
    refine ⟨rfl, fun rl => ?_⟩
    have rl0 := rl
    obtain ⟨Rm, Rs, sh, mr, tr⟩ := rl
    obtain ⟨u, hu, z⟩ := mr.get e
    exact ⟨u, hu, hq rl0 z⟩
  · cases h
def hasS (n : Nat) : M Unit := fun s => match s.r[n]? with
  | some (.chg _) => some ((), s)
  | some (.dat _) => some ((), s)
  | _ => none
theorem hasS_some {n : Nat} {s s' : S} {u : Unit} (h : hasS n s = some (u, s')) : s' = s ∧ ∀ {K : PySem.W.Frag} {g H : Hp} {ι : List Addr} {σ : L2.St} {Fr : Rl}, Rel K cl g ι σ s Fr H → ∃ v, σ[n]? = some (some v) := by
  unfold hasS at h
  split at h
  · rename_i l e
    cases h
    refine ⟨rfl, fun rl => ?_⟩
    obtain ⟨Rm, Rs, sh, mr, tr⟩ := rl
    obtain ⟨a, vs, R', h1, _⟩ := mr.mutAt e
    exact ⟨_, h1⟩
  · rename_i l e
    cases h
    refine ⟨rfl, fun rl => ?_⟩
    obtain ⟨Rm, Rs, sh, mr, tr⟩ := rl
    obtain ⟨u, hu, z⟩ := mr.get e
    exact ⟨u, hu⟩
  · cases h
/-- x[i], x a slot that isn't let stay -/
theorem den_ixN {n : Nat} {x : Str} (hN : X.N[n]? = some x) (hv : Vis X.env.scope x) (hb : Den X cl b m2) (hs : PlainIx b) (hd : (x == ("__debug__" : Str)) = false := by decide) (hcd : (x == ("__classdict__" : Str)) = false := by decide) :
    Den X cl (.Subscript (.Name x p) b pos) (bd (hasS n) fun _ => bd m2 fun i => bd (lf (isI i)) fun k => bd (slotM n) fun l => lf (atI l k)) := fun s v s' h σ g ι Fr H r => by
  obtain ⟨_, s1, h1, e1_⟩ := bd_some h
  obtain ⟨i, s2, h2, e2_⟩ := bd_some e1_
  obtain ⟨k, s3, h3, e3_⟩ := bd_some e2_
  obtain ⟨l, s4, h4, e4_⟩ := bd_some e3_
  obtain ⟨rfl, hh⟩ := hasS_some (cl := cl) h1
  obtain ⟨u, hu⟩ := hh r
  obtain ⟨k3, rfl⟩ := lf_some h3
  have ei := isI_some k3
  subst ei
  obtain ⟨rfl, hq⟩ := slotM_some (cl := cl) h4
  obtain ⟨h5, rfl⟩ := lf_some e4_
  refine .of (pe_ix (ix_list.or ix_tup) (pe_var hN hv hd hcd) WE.pe hs) ⟨u, hu, WE.mono (hb _ _ _ h2 σ g ι Fr H r) fun w H2 ⟨g2, i2, l2, r2, z2⟩ => ?_⟩
  cases z2
  obtain ⟨u2, hu2, ad, xs, e2, sq, rr⟩ := hq r2
  rw [hu] at hu2
  cases hu2
  subst e2
  obtain ⟨y, hy, zy⟩ := rr.atI h5
  rcases sq with sq | sq
  · exact .inl ⟨_, _, _, y, rfl, rfl, sq, hy, g2, i2, l2, r2, zy⟩
  · exact .inr ⟨_, _, _, y, rfl, rfl, sq, hy, g2, i2, l2, r2, zy⟩
/-! slices -/
def cutD (l : List D) (lo hi : Option Int) : List D := (l.drop (HT.sIx l.length 0 lo)).take (HT.sIx l.length l.length hi - HT.sIx l.length 0 lo)
theorem DRs.cut {K : PySem.W.Frag} {ι : List Addr} {g : Hp} {xs : List V} {ds : List D} (h : DRs K cl ι g xs ds) (lo hi : Option Int) : DRs K cl ι g (cutV xs lo hi) (cutD ds lo hi) := by
  unfold cutV cutD
  rw [h.length]
  exact (h.drop _).take _
def slD (x : D) (lo hi : Option Int) : Option D := match x with
  | .tup l => some (.tup (cutD l lo hi))
  | .lst l => some (.lst (cutD l lo hi))
  | .scr l => some (.lst (cutD (l.map D.int) lo hi))
  | _ => none
/-- one end of a slice -/
def DenO (X : Cx) (cl : Nat → Addr) (e : Option Expr) (mo : M (Option Int)) : Prop := match e with
  | none => mo = ret none
  | some e => ∃ m, Den X cl e m ∧ mo = bd m fun i => bd (lf (isI i)) fun k => ret (some k)
theorem deno_none : DenO X cl none (ret none) := rfl
theorem deno_some (h : Den X cl e m) : DenO X cl (some e) (bd m fun i => bd (lf (isI i)) fun k => ret (some k)) := ⟨m, h, rfl⟩
structure WO (X : Cx) (e : Option Expr) (σ : L2.St) (H : Hp) (Q : Option Int → Hp → Prop) : Prop where
  ex : ∃ t : TO, PO X e t ∧ t σ H Q
theorem WO.po {e : Option Expr} : PO X e (WO X e) := ⟨fun pins s σ H Q I h => by
  obtain ⟨t, p, q⟩ := h.ex
  exact p.run pins s σ H Q I q⟩
theorem DenO.wo {e : Option Expr} {mo : M (Option Int)} (h : DenO X cl e mo) {s s' : S} {o : Option Int} (hm : mo s = some (o, s')) {σ : L2.St} {g : Hp} {ι : List Addr} {Fr : Rl} {H : Hp} (r : Rel X.K cl g ι σ s Fr H) {Q : Option Int → Hp → Prop}
    (q : ∀ H' g' ι', Lt g ι g' ι' → Rel X.K cl g' ι' σ s' Fr H' → Q o H') : WO X e σ H Q := by
  cases e with
  | none =>
    have h : mo = ret none := h
    subst h
    cases hm
    exact ⟨_, po_none, q H g ι .refl r⟩
  | some e =>
    obtain ⟨m, hd, rfl⟩ := h
    obtain ⟨x, s1, h1, hm⟩ := bd_some hm
    obtain ⟨k, s2, h2, hm⟩ := bd_some hm
    obtain ⟨k2, rfl⟩ := lf_some h2
    have ei := isI_some k2
    subst ei
    cases hm
    refine ⟨_, po_some WE.pe, WE.mono (hd s _ _ h1 σ g ι Fr H r) fun u H1 ⟨g1, i1, l1, r1, z1⟩ => ?_⟩
    cases z1
    exact ⟨_, rfl, q H1 g1 i1 l1 r1⟩
theorem den_sl {lo hi : Option Expr} {ml mh : M (Option Int)} {p2 : Pos} (ha : Den X cl a m1) (hl : DenO X cl lo ml) (hh : DenO X cl hi mh) : Den X cl (.Subscript a (.Slice lo hi none p2) pos) (bd m1 fun x => bd ml fun i => bd mh fun j => lf (slD x i j)) := fun s v s' h σ g ι Fr H r => by
  obtain ⟨x, s1, h1, e1_⟩ := bd_some h
  obtain ⟨i, s2, h2, e2_⟩ := bd_some e1_
  obtain ⟨j, s3, h3, e3_⟩ := bd_some e2_
  obtain ⟨h4, rfl⟩ := lf_some e3_
  refine .of (pe_slice (SlR.or sl_list sl_tupF) WE.pe WO.po WO.po) (WE.mono (ha s x s1 h1 σ g ι Fr H r) fun u H1 ⟨g1, i1, l1, r1, z1⟩ => hl.wo h2 r1 fun H2 g2 i2 l2 r2 => hh.wo h3 r2 fun H3 g3 i3 l3 r3 => ?_)
  have z := z1.up (l2.trans l3)
  have L := (l1.trans l2).trans l3
  unfold slD at h4
  split at h4
  · cases h4
    cases z with
    | tup q nq rr =>
      refine .inr ⟨_, _, rfl, Evl.ex_t r3.ex q, fun e => ⟨g3, i3, L, r3, .tup q nq ?_⟩, fun _ p o np no => (post_tup r3 np no (rr.cut i j)).lt L⟩
      unfold cutD
      rw [← rr.length, e.1, e.2, List.drop_zero, Nat.sub_zero, rr.length, List.take_length]
      exact rr
  · cases h4
    cases z with
    | lst q rr => exact .inl ⟨_, _, rfl, Evl.sq_of (r3.ex _ _ q), fun p np => (post_lst r3 np (rr.cut i j)).lt L⟩
  · cases h4
    cases z with
    | scr q => exact .inl ⟨_, _, rfl, Evl.ex_l r3.ex q, fun p np => (post_lst r3 np ((DRs.ofInts _).cut i j)).lt L⟩
  · cases h4
end
end Sd

namespace Sd
open PySem PySem.Spec PyProof.Rows L2
open Evl (Ex)
section
variable {X : Cx} {cl : Nat → Addr} {a b c e : Expr} {es : List Expr} {pos p p' : Pos} {m m1 m2 m3 : M D} {ma : M (List D)}
/-! built-in calls on values -/
def CaD (X : Cx) (cl : Nat → Addr) (f : Value) (o : List D → Option D) : Prop := ∃ r : List V → Hp → VK → Prop, CallR X f r ∧ ∀ vs ds d, o ds = some d → ∀ σ s g ι Fr H, Rel X.K cl g ι σ s Fr H → DRs X.K cl ι g vs ds → ∀ Q : VK, (∀ u H', PostE X cl g ι σ s Fr d u H' → Q u H') → r vs H Q
theorem den_cb {id : String} {x : Str} {o : List D → Option D} (hc : CaD X cl (.builtin id) o) (hg : Gl X x) (hm : X.mg x = none) (hv : bootBuiltins x = some (.builtin id)) (ha : DenA X cl (e :: es) ma) (hn : x ≠ "__name__" := by decide) (hdb : (x == ("__debug__" : Str)) = false := by decide)
    (he : starEach (e :: es) X.env = (false, eval e X.env) :: starEach es X.env := by rfl) (hpl : (backTo pos (starEach es X.env)).any (·.1) = false := by rfl) : Den X cl (.Call (.Name x p) (e :: es) [] pos) (bd ma fun ds => lf (o ds)) := fun s v s' h σ g ι Fr H r => by
  obtain ⟨ds, s1, h1, e1_⟩ := bd_some h
  obtain ⟨h2, rfl⟩ := lf_some e1_
  obtain ⟨R, hr, hk⟩ := hc
  exact .of (pe_callB hr hg hm hv WA.pa hn hdb he hpl) (WA.mono (ha s ds _ h1 σ g ι Fr H r) fun us H1 ⟨g1, i1, l1, r1, z1⟩ => hk us ds v h2 σ _ g1 i1 Fr H1 r1 z1 _ fun _ _ q => q.lt l1)
theorem den_cty {T : String} {x : Str} {o : List D → Option D} (hc : CaD X cl (.type T) o) (hg : Gl X x) (hm : X.mg x = none) (hv : bootBuiltins x = some (.type T)) (ha : DenA X cl (e :: es) ma) (hn : x ≠ "__name__" := by decide) (hdb : (x == ("__debug__" : Str)) = false := by decide)
    (he : starEach (e :: es) X.env = (false, eval e X.env) :: starEach es X.env := by rfl) (hpl : (backTo pos (starEach es X.env)).any (·.1) = false := by rfl) : Den X cl (.Call (.Name x p) (e :: es) [] pos) (bd ma fun ds => lf (o ds)) := fun s v s' h σ g ι Fr H r => by
  obtain ⟨ds, s1, h1, e1_⟩ := bd_some h
  obtain ⟨h2, rfl⟩ := lf_some e1_
  obtain ⟨R, hr, hk⟩ := hc
  exact .of (pe_callTy hr hg hm hv WA.pa hn hdb he hpl) (WA.mono (ha s ds _ h1 σ g ι Fr H r) fun us H1 ⟨g1, i1, l1, r1, z1⟩ => hk us ds v h2 σ _ g1 i1 Fr H1 r1 z1 _ fun _ _ q => q.lt l1)
theorem drs1 {K : PySem.W.Frag} {ι : List Addr} {g : Hp} {vs : List V} {d : D} (h : DRs K cl ι g vs [d]) : ∃ v, vs = [v] ∧ DR K cl ι g v d := by
  cases h with
  | cons h1 h =>
    cases h
    exact ⟨_, rfl, h1⟩
theorem drs2 {K : PySem.W.Frag} {ι : List Addr} {g : Hp} {vs : List V} {d d2 : D} (h : DRs K cl ι g vs [d, d2]) : ∃ v v2, vs = [v, v2] ∧ DR K cl ι g v d ∧ DR K cl ι g v2 d2 := by
  cases h with
  | cons h1 h =>
    obtain ⟨v2, rfl, h2⟩ := drs1 h
    exact ⟨_, _, rfl, h1, h2⟩
def absF : List D → Option D
  | [.int i] => some (.int (if i < 0 then -i else i))
  | _ => none
theorem ca_abs : CaD X cl (.builtin "abs") absF := by
  refine ⟨_, call_abs, fun vs ds d e σ s g ι Fr H rl z Q q => ?_⟩
  unfold absF at e
  split at e
  · cases e
    obtain ⟨v, rfl, zz⟩ := drs1 z
    cases zz
    exact ⟨_, rfl, q _ _ (post_of rl (.int _))⟩
  · cases e
def intF : List D → Option D
  | [.int i] => some (.int i)
  | [.bl k] => some (.int (if k then 1 else 0))
  | _ => none
theorem ca_int : CaD X cl (.type "int") intF := by
  refine ⟨_, call_int1, fun vs ds d e σ s g ι Fr H rl z Q q => ?_⟩
  unfold intF at e
  split at e
  · cases e
    obtain ⟨v, rfl, zz⟩ := drs1 z
    cases zz
    exact .inl ⟨_, rfl, q _ _ (post_of rl (.int _))⟩
  · cases e
    obtain ⟨v, rfl, zz⟩ := drs1 z
    cases zz
    exact .inr ⟨_, rfl, q _ _ (post_of rl (.int _))⟩
  · cases e
def tupleF : List D → Option D
  | [.lst l] => some (.tup l)
  | [.tup l] => some (.tup l)
  | _ => none
theorem ca_tuple : CaD X cl (.type "tuple") tupleF := by
  refine ⟨_, call_tupleF, fun vs ds d e σ s g ι Fr H rl z Q q => ?_⟩
  unfold tupleF at e
  split at e
  · cases e
    obtain ⟨v, rfl, zz⟩ := drs1 z
    cases zz with
    | lst h r => exact ⟨_, _, rfl, .inl ⟨Evl.sq_of (rl.ex _ _ h), fun l o nl no => q _ _ (post_tup rl nl no r)⟩⟩
  · cases e
    obtain ⟨v, rfl, zz⟩ := drs1 z
    cases zz with
    | tup h n r => exact ⟨_, _, rfl, .inr ⟨Evl.ex_t rl.ex h, q _ _ (post_of rl (.tup h n r))⟩⟩
  · cases e
def listF : List D → Option D
  | [.lst l] => some (.lst l)
  | [.tup l] => some (.lst l)
  | _ => none
theorem ca_list : CaD X cl (.type "list") listF := by
  refine ⟨_, call_list_of, fun vs ds d e σ s g ι Fr H rl z Q q => ?_⟩
  unfold listF at e
  split at e
  · cases e
    obtain ⟨v, rfl, zz⟩ := drs1 z
    cases zz with
    | lst h r => exact ⟨_, _, rfl, .inl (Evl.sq_of (rl.ex _ _ h)), fun l nl => q _ _ (post_lst rl nl r)⟩
  · cases e
    obtain ⟨v, rfl, zz⟩ := drs1 z
    cases zz with
    | tup h _ r => exact ⟨_, _, rfl, .inr (Evl.ex_t rl.ex h), fun l nl => q _ _ (post_lst rl nl r)⟩
  · cases e
/-- all ints -/
def isIs : List D → Option (List Int)
  | [] => some []
  | .int i :: r => match isIs r with
    | some l => some (i :: l)
    | none => none
  | _ => none
theorem isIs_some : ∀ {l : List D} {ns : List Int}, isIs l = some ns → l = ns.map D.int
  | [], ns, h => by
    unfold isIs at h
    cases h
    rfl
  | d :: r, ns, h => by
    unfold isIs at h
    split at h
    · rename_i e
      cases e
    · rename_i i r' e
      cases e
      split at h
      · rename_i l e
        cases h
        rw [isIs_some e]
        rfl
      · cases h
    · cases h
theorem isIs_map (ns : List Int) : isIs (ns.map D.int) = some ns := by
  induction ns with
  | nil => rfl
  | cons n r ih =>
    show isIs (.int n :: r.map D.int) = _
    unfold isIs
    rw [ih]
def isBs : List D → Option (List Bool)
  | [] => some []
  | .bl i :: r => match isBs r with
    | some l => some (i :: l)
    | none => none
  | _ => none
theorem isBs_some : ∀ {l : List D} {ns : List Bool}, isBs l = some ns → l = ns.map D.bl
  | [], ns, h => by
    unfold isBs at h
    cases h
    rfl
  | d :: r, ns, h => by
    unfold isBs at h
    split at h
    · rename_i e
      cases e
    · rename_i i r' e
      cases e
      split at h
      · rename_i l e
        cases h
        rw [isBs_some e]
        rfl
      · cases h
    · cases h
theorem isBs_map (ns : List Bool) : isBs (ns.map D.bl) = some ns := by
  induction ns with
  | nil => rfl
  | cons n r ih =>
    show isBs (.bl n :: r.map D.bl) = _
    unfold isBs
    rw [ih]
theorem DRs.bools {K : PySem.W.Frag} {ι : List Addr} {g : Hp} : ∀ {vs : List V} {ns : List Bool}, DRs K cl ι g vs (ns.map .bl) → vs = ns.map V.bl
  | _, [], .nil => rfl
  | _, n :: ns, .cons h r => by
    cases h
    rw [DRs.bools r]
    rfl
def allF : List D → Option D
  | [.lst l] => (isBs l).bind fun bs => some (.bl (bs.all id))
  | _ => none
theorem ca_all (hc : X.calm = true) : CaD X cl (.builtin "all") allF := by
  refine ⟨_, cr_all hc, fun vs ds d e σ s g ι Fr H rl z Q q => ?_⟩
  unfold allF at e
  split at e
  · obtain ⟨bs, h1, e⟩ := Option.bind_eq_some_iff.mp e
    cases e
    obtain ⟨v, rfl, zz⟩ := drs1 z
    cases zz with
    | lst h r =>
      have e2 := isBs_some h1
      subst e2
      rw [r.bools] at h
      exact ⟨_, bs, rfl, Evl.sq_of (rl.ex _ _ h), q _ _ (post_of rl (.bl _))⟩
  · cases e
def anyF : List D → Option D
  | [.lst l] => (isBs l).bind fun bs => some (.bl (bs.any id))
  | _ => none
theorem ca_any (hc : X.calm = true) : CaD X cl (.builtin "any") anyF := by
  refine ⟨_, cr_any hc, fun vs ds d e σ s g ι Fr H rl z Q q => ?_⟩
  unfold anyF at e
  split at e
  · obtain ⟨bs, h1, e⟩ := Option.bind_eq_some_iff.mp e
    cases e
    obtain ⟨v, rfl, zz⟩ := drs1 z
    cases zz with
    | lst h r =>
      have e2 := isBs_some h1
      subst e2
      rw [r.bools] at h
      exact ⟨_, bs, rfl, Evl.sq_of (rl.ex _ _ h), q _ _ (post_of rl (.bl _))⟩
  · cases e
/-- the greatest, the least of some ints -/
def gr : List Int → Option Int
  | [] => none
  | [a] => some a
  | a :: b :: r => match gr (b :: r) with
    | some m => some (if a < m then m else a)
    | none => none
theorem gr_spec : ∀ {l : List Int} {m : Int}, gr l = some m → m ∈ l ∧ ∀ y ∈ l, y ≤ m
  | [], m, h => by
    unfold gr at h
    cases h
  | [a], m, h => by
    unfold gr at h
    cases h
    simp
  | a :: b :: r, m, h => by
    unfold gr at h
    split at h
    · rename_i m' e
      obtain ⟨h1, h2⟩ := gr_spec e
      cases h
      split
      · refine ⟨List.mem_cons_of_mem _ h1, fun y hy => ?_⟩
        rcases List.mem_cons.mp hy with rfl | hy
        · omega
        · exact h2 y hy
      · refine ⟨List.mem_cons_self .., fun y hy => ?_⟩
        rcases List.mem_cons.mp hy with rfl | hy
        · omega
        · have := h2 y hy
          omega
    · cases h
def lea : List Int → Option Int
  | [] => none
  | [a] => some a
  | a :: b :: r => match lea (b :: r) with
    | some m => some (if m < a then m else a)
    | none => none
theorem lea_spec : ∀ {l : List Int} {m : Int}, lea l = some m → m ∈ l ∧ ∀ y ∈ l, m ≤ y
  | [], m, h => by
    unfold lea at h
    cases h
  | [a], m, h => by
    unfold lea at h
    cases h
    simp
  | a :: b :: r, m, h => by
    unfold lea at h
    split at h
    · rename_i m' e
      obtain ⟨h1, h2⟩ := lea_spec e
      cases h
      split
      · refine ⟨List.mem_cons_of_mem _ h1, fun y hy => ?_⟩
        rcases List.mem_cons.mp hy with rfl | hy
        · omega
        · exact h2 y hy
      · refine ⟨List.mem_cons_self .., fun y hy => ?_⟩
        rcases List.mem_cons.mp hy with rfl | hy
        · omega
        · have := h2 y hy
          omega
    · cases h
def maxF : List D → Option D
  | [.int i, .int j] => some (.int (if j > i then j else i))
  | [.lst l] => (isIs l).bind fun ns => (gr ns).bind fun m => some (.int m)
  | _ => none
theorem ca_max (hc : X.calm = true) : CaD X cl (.builtin "max") maxF := by
  refine ⟨_, (call_max2 hc).or (cr_max hc), fun vs ds d e σ s g ι Fr H rl z Q q => ?_⟩
  unfold maxF at e
  split at e
  · cases e
    obtain ⟨v, w, rfl, z1, z2⟩ := drs2 z
    cases z1
    cases z2
    exact .inl ⟨_, _, rfl, q _ _ (post_of rl (.int _))⟩
  · obtain ⟨ns, h1, e⟩ := Option.bind_eq_some_iff.mp e
    obtain ⟨m, h2, e⟩ := Option.bind_eq_some_iff.mp e
    cases e
    obtain ⟨v, rfl, zz⟩ := drs1 z
    cases zz with
    | lst h r =>
      have e2 := isIs_some h1
      subst e2
      rw [r.ints] at h
      obtain ⟨k1, k2⟩ := gr_spec h2
      refine .inr ⟨_, ns, rfl, Evl.sq_of (rl.ex _ _ h), List.length_pos_of_mem k1, fun m' h3 h4 => ?_⟩
      have : m' = m := Int.le_antisymm (k2 m' h3) (h4 m k1)
      subst this
      exact q _ _ (post_of rl (.int _))
  · cases e
def minF : List D → Option D
  | [.int i, .int j] => some (.int (if j < i then j else i))
  | [.lst l] => (isIs l).bind fun ns => (lea ns).bind fun m => some (.int m)
  | _ => none
theorem ca_min (hc : X.calm = true) : CaD X cl (.builtin "min") minF := by
  refine ⟨_, (call_min2 hc).or (cr_min hc), fun vs ds d e σ s g ι Fr H rl z Q q => ?_⟩
  unfold minF at e
  split at e
  · cases e
    obtain ⟨v, w, rfl, z1, z2⟩ := drs2 z
    cases z1
    cases z2
    exact .inl ⟨_, _, rfl, q _ _ (post_of rl (.int _))⟩
  · obtain ⟨ns, h1, e⟩ := Option.bind_eq_some_iff.mp e
    obtain ⟨m, h2, e⟩ := Option.bind_eq_some_iff.mp e
    cases e
    obtain ⟨v, rfl, zz⟩ := drs1 z
    cases zz with
    | lst h r =>
      have e2 := isIs_some h1
      subst e2
      rw [r.ints] at h
      obtain ⟨k1, k2⟩ := lea_spec h2
      refine .inr ⟨_, ns, rfl, Evl.sq_of (rl.ex _ _ h), List.length_pos_of_mem k1, fun m' h3 h4 => ?_⟩
      have : m' = m := Int.le_antisymm (h4 m k1) (k2 m' h3)
      subst this
      exact q _ _ (post_of rl (.int _))
  · cases e
theorem cr_sumT (hc : X.calm = true) : CallR X (.builtin "sum") (fun vs H Q => ∃ (a : Addr) (ns : List Int), vs = [V.ref a] ∧ SqT X.K H a (ns.map V.int) ∧ Q (.int ns.sum) H) := by
  intro pins s σ H vs us Q I r h
  obtain ⟨a, ns, rfl, hs, q⟩ := h
  obtain ⟨its, rv, ht, _⟩ := I.tuple hs
  rw [Vals.ref1 r]
  obtain ⟨xs, ex⟩ := rv.ints.allInts.items
  have hn : numsOf (intItems xs).toList = ns := by
    rw [← ex]
    exact rv.ints.numsOf
  rw [nums_intItems] at hn
  rw [ex] at ht
  refine PySem.W.ktm_sumG (I.ok.hd hc) ht fun h' tk t' hk => ?_
  rw [preSum_eq, List.take_of_length_le (by simp), hn]
  exact ⟨.int _, H, I.kept hk, ⟨_, rfl⟩, q⟩
def sumF : List D → Option D
  | [.lst l] => (isIs l).bind fun ns => some (.int ns.sum)
  | [.tup l] => (isIs l).bind fun ns => some (.int ns.sum)
  | _ => none
theorem ca_sum (hc : X.calm = true) : CaD X cl (.builtin "sum") sumF := by
  refine ⟨_, (cr_sum hc).or (cr_sumT hc), fun vs ds d e σ s g ι Fr H rl z Q q => ?_⟩
  unfold sumF at e
  split at e
  · obtain ⟨ns, h1, e⟩ := Option.bind_eq_some_iff.mp e
    cases e
    obtain ⟨v, rfl, zz⟩ := drs1 z
    cases zz with
    | lst h r =>
      have e2 := isIs_some h1
      subst e2
      rw [r.ints] at h
      exact .inl ⟨_, ns, rfl, Evl.sq_of (rl.ex _ _ h), q _ _ (post_of rl (.int _))⟩
  · obtain ⟨ns, h1, e⟩ := Option.bind_eq_some_iff.mp e
    cases e
    obtain ⟨v, rfl, zz⟩ := drs1 z
    cases zz with
    | tup h _ r =>
      have e2 := isIs_some h1
      subst e2
      rw [r.ints] at h
      exact .inr ⟨_, ns, rfl, Evl.ex_t rl.ex h, q _ _ (post_of rl (.int _))⟩
  · cases e
/-! len -/
def lenF : List D → Option D
  | [.tup l] => some (.int l.length)
  | [.lst l] => some (.int l.length)
  | [.scr l] => some (.int l.length)
  | _ => none
theorem ca_len : CaD X cl (.builtin "len") lenF := by
  refine ⟨_, call_len_seq, fun vs ds d e σ s g ι Fr H rl z Q q => ?_⟩
  unfold lenF at e
  split at e
  · cases e
    obtain ⟨v, rfl, zz⟩ := drs1 z
    cases zz with
    | tup h _ r => exact ⟨_, _, rfl, .inr (Evl.ex_t rl.ex h), q _ _ (post_of rl (by rw [r.length]; exact .int _))⟩
  · cases e
    obtain ⟨v, rfl, zz⟩ := drs1 z
    cases zz with
    | lst h r => exact ⟨_, _, rfl, .inl (Evl.sq_of (rl.ex _ _ h)), q _ _ (post_of rl (by rw [r.length]; exact .int _))⟩
  · cases e
    obtain ⟨v, rfl, zz⟩ := drs1 z
    cases zz with
    | scr h => exact ⟨_, _, rfl, .inl (Evl.ex_l rl.ex h), q _ _ (post_of rl (by rw [List.length_map]; exact .int _))⟩
  · cases e
/-- len(x), x a slot that isn't let stay -/
theorem den_lenN {n : Nat} {x : Str} (hN : X.N[n]? = some x) (hv : Vis X.env.scope x) (hg : Gl X "len") (hm : X.mg "len" = none) (hd : (x == ("__debug__" : Str)) = false := by decide) (hcd : (x == ("__classdict__" : Str)) = false := by decide)
    (hs : starEach [.Name x p'] X.env = (false, eval (.Name x p') X.env) :: starEach [] X.env := by rfl) (hpl : (backTo pos (starEach [] X.env)).any (·.1) = false := by rfl) : Den X cl (.Call (.Name "len" p) [.Name x p'] [] pos) (bd (slotM n) fun l => ret (.int l.length)) := fun s v s' h σ g ι Fr H r => by
  obtain ⟨l, s1, h1, e1_⟩ := bd_some h
  obtain ⟨rfl, hq⟩ := slotM_some (cl := cl) h1
  cases e1_
  obtain ⟨u, hu, ad, xs, rfl, sq, rr⟩ := hq r
  refine .of (pe_callB call_len_seq hg hm PySem.boot_len (pa_cons (pe_var hN hv hd hcd) pa_nil hs) (by decide) (by decide) hs hpl) ⟨_, hu, ad, xs, rfl, sq, g, ι, .refl, r, ?_⟩
  rw [rr.length]
  exact .int _
/-! x == [], x != [], x a slot that isn't let stay -/
theorem op_eqNil (hu : X.A.units < cLine) : OpR X (compareOp .Eq) (fun x y H Q => ∃ l b xs, x = .ref l ∧ y = .ref b ∧ SqL X.K H l xs ∧ SqL X.K H b [] ∧ Q (.bl xs.isEmpty) H) := by
  intro pins s σ H x y v u Q I rx ry hh
  obtain ⟨l, b, xs, rfl, rfl, h1, h2, q⟩ := hh
  cases rx
  cases ry
  obtain ⟨its, rv, p1, _⟩ := I.list h1
  obtain ⟨its2, rv2, p2, _⟩ := I.list h2
  cases rv2
  cases rv with
  | nil => exact SeqAt.eq_listAt (e := fun _ => true) p1.isList p2.isList rfl hu (fun j h1 _ => absurd h1 (Nat.not_lt_zero j)) ⟨.bl true, H, I, rfl, q⟩
  | cons r rr => exact SeqAt.eq_list_lengthsAt p1.isList p2.isList (by simp) hu ⟨.bl false, H, I, rfl, q⟩
/-- a list that stays, as what may be compared with [] -/
def nilM (x : D) : M Bool := fun s => match x with
  | .lst l => some (l.isEmpty, s)
  | .ref k => match s.st[k]? with
    | some (.lst l) => some (l.isEmpty, s)
    | _ => none
  | _ => none
theorem op_neNil (hu : X.A.units < cLine) : OpR X (compareOp .NotEq) (fun x y H Q => ∃ l b xs, x = .ref l ∧ y = .ref b ∧ SqL X.K H l xs ∧ SqL X.K H b [] ∧ Q (.bl (!xs.isEmpty)) H) := by
  intro pins s σ H x y v u Q I rx ry hh
  obtain ⟨l, b, xs, rfl, rfl, h1, h2, q⟩ := hh
  cases rx
  cases ry
  obtain ⟨its, rv, p1, _⟩ := I.list h1
  obtain ⟨its2, rv2, p2, _⟩ := I.list h2
  cases rv2
  cases rv with
  | nil => exact SeqAt.RcNeAt.lists (e := fun _ => true) p1.isList p2.isList rfl hu (fun j h1 _ => absurd h1 (Nat.not_lt_zero j)) _ _ _ _ ⟨.bl false, H, I, rfl, q⟩
  | cons r rr => exact SeqAt.RcNeAt.lists_lengths p1.isList p2.isList (by simp) hu _ _ _ _ ⟨.bl true, H, I, rfl, q⟩
theorem empty_of {K : PySem.W.Frag} {ι : List Addr} {g : Hp} {xs : List V} {l : List D} (h : DRs K cl ι g xs l) : xs.isEmpty = l.isEmpty := by
  cases h <;> rfl
theorem nilM_some {s s' : S} {x : D} {t : Bool} (h : nilM x s = some (t, s')) : s' = s ∧ ∀ {K : PySem.W.Frag} {g H : Hp} {ι : List Addr} {σ : L2.St} {Fr : Rl} {u : V}, Rel K cl g ι σ s Fr H → DR K cl ι g u x → ∃ a xs, u = .ref a ∧ SqL K H a xs ∧ xs.isEmpty = t := by
  unfold nilM at h
  split at h
  · cases h
    refine ⟨rfl, fun r z => ?_⟩
    cases z with
    | lst hh rr => exact ⟨_, _, rfl, Evl.sq_of (r.ex _ _ hh), empty_of rr⟩
  · split at h
    · rename_i k l0 e
      cases h
      refine ⟨rfl, fun rl z => ?_⟩
      cases z with
      | ref hk =>
        obtain ⟨Rm, Rs, sh, mr, tr⟩ := rl
        obtain ⟨a, vs, R', h1, h2, h3, _⟩ := tr.lstAt e
        rw [hk] at h1
        cases h1
        have sh2 := sh.perm ((h3.append_right _).append_left Rm)
        exact ⟨_, _, rfl, Evl.sq_of (sh2.at_ _ (List.mem_append_right _ (List.mem_cons_self ..))), empty_of h2⟩
    · cases h
  · cases h
theorem den_nil (ha : Den X cl a m) {o : CmpOp} {k : Bool → Bool} (ho : OpR X (compareOp o) (fun x y H Q => ∃ l b xs, x = .ref l ∧ y = .ref b ∧ SqL X.K H l xs ∧ SqL X.K H b [] ∧ Q (.bl (k xs.isEmpty)) H)) (hm : behindInMarks o (.List [] p) = false := by rfl) : Den X cl (.Compare a [o] [.List [] p] pos) (bd m fun x => bd (nilM x) fun t => ret (.bl (k t))) := fun s v s' h σ g ι Fr H r => by
  obtain ⟨x, s1, h1, e1_⟩ := bd_some h
  obtain ⟨t, s2, h2, e2_⟩ := bd_some e1_
  cases e2_
  obtain ⟨rfl, hq⟩ := nilM_some (cl := cl) h2
  refine .of (pe_cmpR ho WE.pe (pe_lst pa_nil) hm) (WE.mono (ha s x _ h1 σ g ι Fr H r) fun u H1 ⟨g1, i1, l1, r1, z1⟩ => ⟨Evl.sz_of (by simp), fun ad np => ?_⟩)
  have kk := r1.add (o := .lst []) np
  obtain ⟨a, xs, rfl, sq, et⟩ := hq kk.1 (z1.up kk.2)
  refine ⟨_, _, xs, rfl, rfl, sq, Evl.sq_of upd_same, _, i1, l1.trans kk.2, kk.1, ?_⟩
  rw [et]
  exact .bl _
theorem den_eqNil (hu : X.A.units < cLine) (ha : Den X cl a m) : Den X cl (.Compare a [.Eq] [.List [] p] pos) (bd m fun x => bd (nilM x) fun t => ret (.bl t)) := den_nil (k := fun t => t) ha (op_eqNil hu)
theorem den_neNil (hu : X.A.units < cLine) (ha : Den X cl a m) : Den X cl (.Compare a [.NotEq] [.List [] p] pos) (bd m fun x => bd (nilM x) fun t => ret (.bl (!t))) := den_nil (k := fun t => !t) ha (op_neNil hu)
theorem dent_nil (ha : Den X cl a m) {o : CmpOp} {k : Bool → Bool} (ho : OpR X (compareOp o) (fun x y H Q => ∃ l b xs, x = .ref l ∧ y = .ref b ∧ SqL X.K H l xs ∧ SqL X.K H b [] ∧ Q (.bl (k xs.isEmpty)) H)) (hm : behindInMarks o (.List [] p) = false := by rfl) : DenT X cl (.Compare a [o] [.List [] p] pos) (bd m fun x => bd (nilM x) fun t => ret (k t)) := fun s v s' h σ g ι Fr H r => by
  obtain ⟨x, s1, h1, e1_⟩ := bd_some h
  obtain ⟨t, s2, h2, e2_⟩ := bd_some e1_
  cases e2_
  obtain ⟨rfl, hq⟩ := nilM_some (cl := cl) h2
  refine .of (pt_cmpR ho WE.pe (pe_lst pa_nil) hm) (WE.mono (ha s x _ h1 σ g ι Fr H r) fun u H1 ⟨g1, i1, l1, r1, z1⟩ => ⟨Evl.sz_of (by simp), fun ad np => ?_⟩)
  have kk := r1.add (o := .lst []) np
  obtain ⟨a, xs, rfl, sq, et⟩ := hq kk.1 (z1.up kk.2)
  refine ⟨_, _, xs, rfl, rfl, sq, Evl.sq_of upd_same, k t, by rw [et], rfl, _, i1, l1.trans kk.2, kk.1⟩
theorem dent_eqNil (hu : X.A.units < cLine) (ha : Den X cl a m) : DenT X cl (.Compare a [.Eq] [.List [] p] pos) (bd m fun x => bd (nilM x) fun t => ret t) := dent_nil (k := fun t => t) ha (op_eqNil hu)
theorem dent_neNil (hu : X.A.units < cLine) (ha : Den X cl a m) : DenT X cl (.Compare a [.NotEq] [.List [] p] pos) (bd m fun x => bd (nilM x) fun t => ret (!t)) := dent_nil (k := fun t => !t) ha (op_neNil hu)
end
end Sd

namespace Sd
open PySem PySem.Spec PyProof.Rows L2
open Evl (Ex)
/-! what is shown as a text -/
mutual
def rok : PyData → Bool
  | .none => true
  | .bool _ => true
  | .int i => decide (i.natAbs < 10 ^ 40)
  | .str x => x.cps.toList.all fun c => decide (c < 16 ^ 8)
  | .list l => roks l
  | .tuple l => roks l
  | .dict _ => false
def roks : List PyData → Bool
  | [] => true
  | x :: r => rok x && roks r
end
theorem ten40 : (10 : Nat) ^ 40 < 2 ^ 140 := by decide
theorem log_of {n : Nat} (h : n < 10 ^ 40) : n.log2 < 1920 := by
  have h2 : n < 2 ^ 140 := Nat.lt_trans h ten40
  have := PySem.Flt.log2_lt_of (by decide : 0 < 140) h2
  omega
mutual
theorem rok_all : ∀ p : PyData, rok p = true → p.leavesShort 50 = true ∧ p.showable = true ∧ p.hasDict = false
  | .none, _ => ⟨by simp [PyData.leavesShort], by simp [PyData.showable], by simp [PyData.hasDict]⟩
  | .bool b, _ => ⟨by simp [PyData.leavesShort], by simp [PyData.showable], by simp [PyData.hasDict]⟩
  | .int i, h => by
    unfold rok at h
    have h := of_decide_eq_true h
    have e := int_text_length_le10 (a := i) (k := 40) (by decide) h
    have e2 := log_of h
    refine ⟨?_, by simp [PyData.showable, e2], by simp [PyData.hasDict]⟩
    simp only [PyData.leavesShort, PyData.shown]
    refine decide_eq_true ?_
    show (Str.ofString (toString i)).length ≤ 50
    rw [PySem.ofString_length]
    omega
  | .str x, h => by
    unfold rok at h
    exact ⟨by simpa [PyData.leavesShort] using h, by simp [PyData.showable], by simp [PyData.hasDict]⟩
  | .list l, h => by
    unfold rok at h
    obtain ⟨a, b, c⟩ := roks_all l h
    exact ⟨by simpa [PyData.leavesShort] using a, by simpa [PyData.showable] using b, by simpa [PyData.hasDict] using c⟩
  | .tuple l, h => by
    unfold rok at h
    obtain ⟨a, b, c⟩ := roks_all l h
    exact ⟨by simpa [PyData.leavesShort] using a, by simpa [PyData.showable] using b, by simpa [PyData.hasDict] using c⟩
  | .dict l, h => by
    unfold rok at h
    cases h
theorem roks_all : ∀ l : List PyData, roks l = true → PyData.leavesShortAll 50 l = true ∧ PyData.showableAll l = true ∧ PyData.hasDictAll l = false
  | [], _ => ⟨by simp [PyData.leavesShortAll], by simp [PyData.showableAll], by simp [PyData.hasDictAll]⟩
  | x :: r, h => by
    unfold roks at h
    rw [Bool.and_eq_true] at h
    obtain ⟨a, b, c⟩ := rok_all x h.1
    obtain ⟨a2, b2, c2⟩ := roks_all r h.2
    exact ⟨by simp [PyData.leavesShortAll, a, a2], by simp [PyData.showableAll, b, b2], by simp [PyData.hasDictAll, c, c2]⟩
end
def canR (p : PyData) : Bool := rok p && decide (p.weight ≤ 100000) && decide (p.depth ≤ 60)
theorem canR_len {p : PyData} (h : canR p = true) : p.shown.length ≤ sizeLine := by
  unfold canR at h
  simp only [Bool.and_eq_true, decide_eq_true_eq] at h
  have := PyData.shown_le 50 (by decide) p (rok_all p h.1.1).1
  rw [sizeLine_eq]
  have := h.1.2
  omega
def reprF : List D → Option D
  | [d] => (toP d).bind fun p => if canR p = true then some (.str p.shown) else none
  | _ => none
section
variable {X : Cx} {cl : Nat → Addr} {a b c e : Expr} {es : List Expr} {pos p p' : Pos} {m m1 m2 m3 : M D} {ma : M (List D)}
theorem call_reprP (hg : X.A.guards = some []) (hu : X.A.units + 64 < cLine) : CallR X (.builtin "repr") (fun xs H Q => ∃ x d, xs = [x] ∧ Dp X.K H x d ∧ canR d = true ∧ Q (.str d.shown) H) := by
  intro pins s σ H xs us Q I r h
  obtain ⟨x, d, rfl, hd, hr, q⟩ := h
  obtain ⟨u, rfl, ru⟩ := vals1 r
  have hz := canR_len hr
  have hr0 := hr
  unfold canR at hr
  simp only [Bool.and_eq_true, decide_eq_true_eq] at hr
  obtain ⟨_, hs, hn⟩ := rok_all d hr.1.1
  obtain ⟨as, rd⟩ := Dp.reads I d x u hd ru
  have fin : ∀ h' t tk, (∀ b o, s.heap.get? b = some o → h'.get? b = some o) → EP X pins σ Q (.str d.shown t) { s with heap := h', toks := tk } := fun h' t tk hk => ⟨.str _, H, I.kept hk, ⟨_, rfl⟩, q⟩
  cases rd with
  | none => exact PySem.P.repr_of_none (fin _ _ _ fun _ _ e => e)
  | bool b => exact PySem.P.repr_of_bool (fin _ _ _ fun _ _ e => e)
  | int i t => exact PySem.P.repr_of_int (by simpa [PyData.showable] using hs) (fin _ _ _ fun _ _ e => e)
  | str y t => exact PySem.P.repr_of_str (fin _ _ _ fun _ _ e => e) hz
  | list h1 h2 h3 h4 => exact repr_of_reads' (Reads.list h1 h2 h3 h4) hs (fun e => by rw [hn] at e; cases e) hg (by omega) (fun _ _ e => e) (fun h' t tk hk => fin h' t tk hk) hz
  | tuple h1 h2 h3 h4 => exact repr_of_reads' (Reads.tuple h1 h2 h3 h4) hs (fun e => by rw [hn] at e; cases e) hg (by omega) (fun _ _ e => e) (fun h' t tk hk => fin h' t tk hk) hz
  | dict h1 h2 h3 h4 h5 =>
    have := hr.1.1
    unfold rok at this
    cases this
theorem ca_repr (hg : X.A.guards = some []) (hu : X.A.units + 64 < cLine) : CaD X cl (.builtin "repr") reprF := by
  refine ⟨_, call_reprP hg hu, fun vs ds d e σ s g ι Fr H rl z Q q => ?_⟩
  unfold reprF at e
  split at e
  · obtain ⟨pd, h1, e⟩ := Option.bind_eq_some_iff.mp e
    split at e
    · cases e
      obtain ⟨v, rfl, zz⟩ := drs1 z
      exact ⟨v, pd, rfl, dp_of rl.ex zz h1, ‹_›, q _ _ (post_of rl (.str _))⟩
    · cases e
  · cases e
/-! isinstance -/
def tyD : D → Option String
  | .non => some "NoneType"
  | .bl _ => some "bool"
  | .int _ => some "int"
  | .str _ => some "str"
  | .tup _ => some "tuple"
  | .tupU _ => some "tuple"
  | .lst _ => some "list"
  | .scr _ => some "list"
  | .dct _ _ => some "dict"
  | _ => none
theorem ty_of {K : PySem.W.Frag} {ι : List Addr} {g H : Hp} {v : V} {d : D} {t : String} (e : Ex g H) (h : DR K cl ι g v d) (ht : tyD d = some t) : TyX K H v (.type t) := by
  cases h with
  | non => cases ht; exact .base .non
  | bl b => cases ht; exact .base (.bl b)
  | int i => cases ht; exact .base (.int i)
  | str x => cases ht; exact .base (.str x)
  | lst h r => cases ht; exact .base (.lst (e _ _ h))
  | scr h =>
    cases ht
    rcases Evl.ex_l e h with (h | ⟨o, h⟩) | ⟨o, its, n, hk, hc, _⟩
    · exact .base (.lst h)
    · exact .base (.frz h)
    · exact .kList hk hc
  | tup h _ r =>
    cases ht
    rcases Evl.ex_t e h with (h | ⟨o, h⟩) | ⟨o, its, n, hk, hc, _⟩
    · exact .base (.tup h)
    · exact .fTuple h
    · exact .kTuple hk hc
  | tupU h r =>
    cases ht
    rcases Evl.ex_t e h with (h | ⟨o, h⟩) | ⟨o, its, n, hk, hc, _⟩
    · exact .base (.tup h)
    · exact .fTuple h
    · exact .kTuple hk hc
  | dct h _ _ => cases ht; exact .base (.dK (e _ _ h))
  | ins h r => cases ht
  | ref h => cases ht
def isiI : D → Option Bool
  | .tupU _ => none
  | .int _ => some true
  | .bl _ => some true
  | .ins _ _ _ => none
  | .ref _ => none
  | _ => some false
def isiB : D → Option Bool
  | .tupU _ => none
  | .bl _ => some true
  | .ins _ _ _ => none
  | .ref _ => none
  | _ => some false
def isiT : D → Option Bool
  | .tupU _ => none
  | .tup _ => some true
  | .ins _ _ _ => none
  | .ref _ => none
  | _ => some false
/-- what an isinstance tells -/
def Isi (T : String) (f : D → Option Bool) : Prop := ∀ d b, f d = some b → ∃ t, tyD d = some t ∧ kitB t T = some b
theorem isi_int : Isi "int" isiI := fun d b h => by
  cases d <;> cases h
  · exact ⟨_, rfl, by decide +kernel⟩
  · exact ⟨_, rfl, by decide +kernel⟩
  · exact ⟨_, rfl, by decide +kernel⟩
  · exact ⟨_, rfl, by decide +kernel⟩
  · exact ⟨_, rfl, by decide +kernel⟩
  · exact ⟨_, rfl, by decide +kernel⟩
  · exact ⟨_, rfl, by decide +kernel⟩
  · exact ⟨_, rfl, by decide +kernel⟩
theorem isi_bool : Isi "bool" isiB := fun d b h => by
  cases d <;> cases h
  · exact ⟨_, rfl, by decide +kernel⟩
  · exact ⟨_, rfl, by decide +kernel⟩
  · exact ⟨_, rfl, by decide +kernel⟩
  · exact ⟨_, rfl, by decide +kernel⟩
  · exact ⟨_, rfl, by decide +kernel⟩
  · exact ⟨_, rfl, by decide +kernel⟩
  · exact ⟨_, rfl, by decide +kernel⟩
  · exact ⟨_, rfl, by decide +kernel⟩
theorem isi_tuple : Isi "tuple" isiT := fun d b h => by
  cases d <;> cases h
  · exact ⟨_, rfl, by decide +kernel⟩
  · exact ⟨_, rfl, by decide +kernel⟩
  · exact ⟨_, rfl, by decide +kernel⟩
  · exact ⟨_, rfl, by decide +kernel⟩
  · exact ⟨_, rfl, by decide +kernel⟩
  · exact ⟨_, rfl, by decide +kernel⟩
  · exact ⟨_, rfl, by decide +kernel⟩
  · exact ⟨_, rfl, by decide +kernel⟩
theorem den_isi {T : String} {f : D → Option Bool} {x : Str} (hf : Isi T f) (mi : X.mg "isinstance" = none) (mT : X.mg x = none) (hi : Gl X "isinstance") (hT : Gl X x) (hv : bootBuiltins x = some (.type T)) (za : Den X cl a m) (hx : x ≠ "__name__" := by decide) (hxd : (x == ("__debug__" : Str)) = false := by decide)
    (he : starEach [a, .Name x p'] X.env = (false, eval a X.env) :: starEach [.Name x p'] X.env := by rfl) (he2 : starEach [.Name x p'] X.env = (false, eval (.Name x p') X.env) :: starEach [] X.env := by rfl) (hpl : (backTo pos (starEach [.Name x p'] X.env)).any (·.1) = false := by rfl) :
    Den X cl (.Call (.Name "isinstance" p) [a, .Name x p'] [] pos) (bd m fun d => bd (lf (f d)) fun t => ret (.bl t)) := fun s v s' h σ g ι Fr H r => by
  obtain ⟨d, s1, h1, e1_⟩ := bd_some h
  obtain ⟨t, s2, h2, e2_⟩ := bd_some e1_
  obtain ⟨k2, rfl⟩ := lf_some h2
  cases e2_
  obtain ⟨tn, h3, h4⟩ := hf d t k2
  refine .of (pe_callB call_isi hi mi boot_isinstance (pa_cons WE.pe (pa_cons (pe_bltn (v := .ty T) hT mT hv rfl hx hxd) pa_nil he2) he) (by decide) (by decide) he hpl) (WE.mono (za s d _ h1 σ g ι Fr H r) fun u H1 ⟨g1, i1, l1, r1, z1⟩ => ?_)
  exact ⟨u, .ty T, _, _, t, rfl, .ty T, ty_of r1.ex z1 h3, kit_ty h4, g1, i1, l1, r1, .bl t⟩
end
end Sd

namespace Sd
open PySem PySem.Spec PyProof.Rows L2
open Evl (Ex)
/-! what is walked -/
def Yd (K : PySem.W.Frag) (cl : Nat → Addr) (ι : List Addr) (g : Hp) (ds : List D) : Nat → Hp → V → Hp → Prop := fun i H v H' =>
  ∃ d, ds[i]? = some d ∧ ((H' = H ∧ DR K cl ι g v d) ∨ ∃ T xs l, H T = none ∧ H' = upd H T (.tup xs) ∧ v = .ref T ∧ d = .tupU l ∧ DRs K cl ι g xs l)
def DenI (X : Cx) (cl : Nat → Addr) (tg iter : Expr) (mi : M (List D)) : Prop := ∀ s ds s', mi s = some (ds, s') → ∀ σ g ι Fr H, Rel X.K cl g ι σ s Fr H → ∀ R : It → Hp → Prop,
  (∀ J g1 ι1 H1, Lt g ι g1 ι1 → Rel X.K cl g1 ι1 σ s' Fr H1 → Walk J ds.length (fun H' => Ex g1 H') (Yd X.K cl ι1 g1 ds) → R J H1) → WI X tg iter σ H R
/-- what was given is known: a state with it -/
theorem Yd.rel {K : PySem.W.Frag} {cl : Nat → Addr} {ι ι' : List Addr} {g g' H H' : Hp} {ds : List D} {i : Nat} {v : V} {σ : L2.St} {s : S} {Fr : Rl} (y : Yd K cl ι g ds i H v H') (l : Lt g ι g' ι') (r : Rel K cl g' ι' σ s Fr H) :
    ∃ d g2, ds[i]? = some d ∧ Lt g' ι' g2 ι' ∧ Rel K cl g2 ι' σ s Fr H' ∧ DR K cl ι' g2 v d := by
  obtain ⟨d, hd, h⟩ := y
  rcases h with ⟨rfl, z⟩ | ⟨T, xs, ls, nT, rfl, rfl, rfl, z⟩
  · exact ⟨d, g', hd, .refl, r, z.up l⟩
  · have k := r.add (o := .tup xs) nT
    exact ⟨_, _, hd, k.2, k.1, .tupU (Evl.st_of upd_same) (z.up (l.trans k.2))⟩
section
variable {X : Cx} {cl : Nat → Addr} {a b c e tg iter elt : Expr} {es : List Expr} {pos p p' pt : Pos} {m m1 m2 m3 : M D} {ma : M (List D)} {elts : List Expr} {kk : Nat}
def itM (x : D) : M (List D) := fun s => match x with
  | .tup l => some (l, s)
  | .lst l => some (l, s)
  | _ => none
theorem deni_seq (ha : Den X cl a m) : DenI X cl tg a (bd m itM) := fun s ds s' h σ g ι Fr H r R q => by
  obtain ⟨x, s1, h1, e1_⟩ := bd_some h
  unfold itM at e1_
  split at e1_
  · cases e1_
    refine .of (pi_tup WE.pe) (WE.mono (ha s _ _ h1 σ g ι Fr H r) fun u H1 ⟨g1, i1, l1, r1, z1⟩ => ?_)
    cases z1 with
    | @tup ad xs _ sq _ t =>
      refine ⟨ad, rfl, ⟨xs, Evl.ex_t r1.ex sq⟩, q _ g1 i1 H1 l1 r1 ?_⟩
      rw [← t.length]
      refine (walk_tup (K := X.K) (a := ad) (xs := xs)).mono (fun H' e => Evl.ex_t e sq) fun i H' v H2 _ e yy => ?_
      obtain ⟨rfl, hx⟩ := yy
      obtain ⟨d, hd, hz⟩ := t.get hx
      exact ⟨d, hd, .inl ⟨rfl, hz⟩⟩
  · cases e1_
    refine .of (pi_list WE.pe) (WE.mono (ha s _ _ h1 σ g ι Fr H r) fun u H1 ⟨g1, i1, l1, r1, z1⟩ => ?_)
    cases z1 with
    | @lst ad xs _ sq t =>
      refine ⟨ad, rfl, ⟨xs, Evl.sq_of (r1.ex _ _ sq)⟩, q _ g1 i1 H1 l1 r1 ?_⟩
      rw [← t.length]
      refine (walk_list (K := X.K) (a := ad) (xs := xs)).mono (fun H' e => Evl.sq_of (e _ _ sq)) fun i H' v H2 _ e yy => ?_
      obtain ⟨rfl, hx⟩ := yy
      obtain ⟨d, hd, hz⟩ := t.get hx
      exact ⟨d, hd, .inl ⟨rfl, hz⟩⟩
  · cases e1_
def rangeL (lo : Int) (n : Nat) : List D := (List.range n).map fun i => .int (lo + (i : Nat))
def rng1 (x : D) : Option (List D) := match x with
  | .int n => if n.natAbs < 1000000 then some (rangeL 0 n.toNat) else none
  | _ => none
theorem rangeL_len (lo : Int) (n : Nat) : (rangeL lo n).length = n := by simp [rangeL]
theorem rangeL_at {lo : Int} {n i : Nat} (h : i < n) : (rangeL lo n)[i]? = some (.int (lo + (i : Nat))) := by simp [rangeL, h]
theorem deni_range1 (hg : Gl X "range") (hm : X.mg "range" = none) (ha : Den X cl a m) (hs : starEach [a] X.env = (false, eval a X.env) :: starEach [] X.env := by rfl) (hs2 : starEach [a] X.env = [(false, eval a X.env)] := by rfl) :
    DenI X cl tg (.Call (.Name "range" p) [a] [] pos) (bd m fun x => lf (rng1 x)) := fun s ds s' h σ g ι Fr H r R q => by
  obtain ⟨x, s1, h1, e1_⟩ := bd_some h
  obtain ⟨h2, rfl⟩ := lf_some e1_
  unfold rng1 at h2
  split at h2
  · split at h2
    · rename_i n hn
      cases h2
      refine .of (pi_range1 hg hm (pa_cons WE.pe pa_nil hs) hs2) (WE.mono (ha s _ _ h1 σ g ι Fr H r) fun u H1 ⟨g1, i1, l1, r1, z1⟩ => ?_)
      cases z1
      refine ⟨n, rfl, by omega, by omega, q _ g1 i1 H1 l1 r1 ?_⟩
      rw [rangeL_len]
      refine (walk_range (lo := 0) (n := n.toNat)).mono (fun _ _ => trivial) fun i H' v H2 hi e yy => ?_
      obtain ⟨rfl, rfl⟩ := yy
      exact ⟨.int (0 + (i : Nat)), rangeL_at hi, .inl ⟨rfl, .int _⟩⟩
    · cases h2
  · cases h2
def rng2 (x y : D) : Option (List D) := match x, y with
  | .int i, .int j => if i.natAbs < 1000000 ∧ j.natAbs < 1000000 then some (rangeL i (j - i).toNat) else none
  | _, _ => none
theorem deni_range2 (hg : Gl X "range") (hm : X.mg "range" = none) (ha : Den X cl a m1) (hb : Den X cl b m2) (hs : starEach [a, b] X.env = (false, eval a X.env) :: starEach [b] X.env := by rfl) (hs1 : starEach [b] X.env = (false, eval b X.env) :: starEach [] X.env := by rfl)
    (hs2 : starEach [a, b] X.env = [(false, eval a X.env), (false, eval b X.env)] := by rfl) (hs3 : starEach [b] X.env = [(false, eval b X.env)] := by rfl) :
    DenI X cl tg (.Call (.Name "range" p) [a, b] [] pos) (bd m1 fun x => bd m2 fun y => lf (rng2 x y)) := fun s ds s' h σ g ι Fr H r R q => by
  obtain ⟨x, s1, h1, e1_⟩ := bd_some h
  obtain ⟨y, s2, h2, e2_⟩ := bd_some e1_
  obtain ⟨h3, rfl⟩ := lf_some e2_
  unfold rng2 at h3
  split at h3
  · split at h3
    · rename_i i j hn
      cases h3
      refine .of (pi_range2 hg hm (pa_cons WE.pe (pa_cons WE.pe pa_nil hs1) hs) hs2 hs3) (WE.mono (ha s _ _ h1 σ g ι Fr H r) fun u H1 ⟨g1, i1, l1, r1, z1⟩ => WE.mono (hb s1 _ _ h2 σ g1 i1 Fr H1 r1) fun u2 H2 ⟨g2, i2, l2, r2, z2⟩ => ?_)
      cases z1
      cases z2
      refine ⟨i, j, rfl, ⟨by omega, by omega, by omega, by omega⟩, q _ g2 i2 H2 (l1.trans l2) r2 ?_⟩
      rw [rangeL_len]
      refine (walk_range (lo := i) (n := (j - i).toNat)).mono (fun _ _ => trivial) fun k H' v H2 hi e yy => ?_
      obtain ⟨rfl, rfl⟩ := yy
      exact ⟨.int (i + (k : Nat)), rangeL_at hi, .inl ⟨rfl, .int _⟩⟩
    · cases h3
  · cases h3
/-- enumerate -/
def numD (l : List D) : List D := l.zipIdx.map fun q => .tupU [.int (q.2 : Nat), q.1]
theorem numD_at {l : List D} {i : Nat} {d : D} (h : l[i]? = some d) : (numD l)[i]? = some (.tupU [.int (i : Nat), d]) := by
  unfold numD
  rw [List.getElem?_map, List.getElem?_zipIdx, h]
  simp
theorem numD_len (l : List D) : (numD l).length = l.length := by simp [numD]
theorem deni_enum (hg : Gl X "enumerate") (hm : X.mg "enumerate" = none) (ha : Den X cl a m) (hs : starEach [a] X.env = (false, eval a X.env) :: starEach [] X.env := by rfl) (hs2 : starEach [a] X.env = [(false, eval a X.env)] := by rfl) :
    DenI X cl (.Tuple elts kk pt) (.Call (.Name "enumerate" p) [a] [] pos) (bd m fun x => bd (itM x) fun l => ret (numD l)) := fun s ds s' h σ g ι Fr H r R q => by
  obtain ⟨x, s1, h1, e1_⟩ := bd_some h
  obtain ⟨l, s2, h2, e2_⟩ := bd_some e1_
  cases e2_
  unfold itM at h2
  split at h2
  · cases h2
    refine .of (pi_enumT hg hm (pa_cons WE.pe pa_nil hs) hs2) (WE.mono (ha s _ _ h1 σ g ι Fr H r) fun u H1 ⟨g1, i1, l1, r1, z1⟩ => ?_)
    cases z1 with
    | @tup ad xs _ sq _ t =>
      refine ⟨ad, xs, rfl, Evl.ex_t r1.ex sq, q _ g1 i1 H1 l1 r1 ?_⟩
      rw [numD_len, ← t.length]
      refine ⟨fun i H' hi e => ⟨xs, xs[i], Evl.ex_t e sq, by simp [hi]⟩, fun H' e => ⟨xs, Evl.ex_t e sq, rfl⟩, fun i H' v H2 hi e yy => ?_⟩
      obtain ⟨T, x, rfl, nT, rfl, hx⟩ := yy
      obtain ⟨d, hd, hz⟩ := t.get (hx xs (Evl.ex_t e sq))
      exact ⟨_, numD_at hd, .inr ⟨T, _, _, nT, rfl, rfl, rfl, .cons (.int _) (.cons hz .nil)⟩⟩
  · cases h2
    refine .of (pi_enum hg hm (pa_cons WE.pe pa_nil hs) hs2) (WE.mono (ha s _ _ h1 σ g ι Fr H r) fun u H1 ⟨g1, i1, l1, r1, z1⟩ => ?_)
    cases z1 with
    | @lst ad xs _ sq t =>
      refine ⟨ad, xs, rfl, Evl.sq_of (r1.ex _ _ sq), q _ g1 i1 H1 l1 r1 ?_⟩
      rw [numD_len, ← t.length]
      refine (walk_enum (K := X.K) (a := ad) (xs := xs)).mono (fun H' e => Evl.sq_of (e _ _ sq)) fun i H' v H2 hi e yy => ?_
      obtain ⟨T, x, x2, rfl, nT, rfl, e1, hx⟩ := yy
      cases e1
      obtain ⟨d, hd, hz⟩ := t.get hx
      exact ⟨_, numD_at hd, .inr ⟨T, _, _, nT, rfl, rfl, rfl, .cons (.int _) (.cons hz .nil)⟩⟩
  · cases h2
/-- zip of two tuples -/
def zipD (x y : D) : Option (List D) := match x, y with
  | .tup l, .tup k => some (List.zipWith (fun a b => .tupU [a, b]) l k)
  | _, _ => none
theorem deni_zip (hg : Gl X "zip") (hm : X.mg "zip" = none) (ha : Den X cl a m1) (hb : Den X cl b m2) (hs : starEach [a, b] X.env = (false, eval a X.env) :: starEach [b] X.env := by rfl) (hs2 : starEach [b] X.env = (false, eval b X.env) :: starEach [] X.env := by rfl) (hpl : (backTo pos (starEach [b] X.env)).any (·.1) = false := by rfl) :
    DenI X cl (.Tuple elts kk pt) (.Call (.Name "zip" p) [a, b] [] pos) (bd m1 fun x => bd m2 fun y => lf (zipD x y)) := fun s ds s' h σ g ι Fr H r R q => by
  obtain ⟨x, s1, h1, e1_⟩ := bd_some h
  obtain ⟨y, s2, h2, e2_⟩ := bd_some e1_
  obtain ⟨h3, rfl⟩ := lf_some e2_
  unfold zipD at h3
  split at h3
  · cases h3
    refine .of (RZ.pi_zipA hg hm (pa_cons WE.pe (pa_cons WE.pe pa_nil hs2) hs) hs hpl) (WE.mono (ha s _ _ h1 σ g ι Fr H r) fun u H1 ⟨g1, i1, l1, r1, z1⟩ => WE.mono (hb s1 _ _ h2 σ g1 i1 Fr H1 r1) fun u2 H2 ⟨g2, i2, l2, r2, z2⟩ => ?_)
    have z1 := z1.up l2
    cases z1 with
    | @tup ad xs _ sq _ t =>
      cases z2 with
      | @tup ad2 xs2 _ sq2 _ t2 =>
        refine ⟨ad, ad2, xs, xs2, rfl, .inr ⟨Evl.ex_t r2.ex sq, Evl.ex_t r2.ex sq2, q _ g2 i2 H2 (l1.trans l2) r2 ?_⟩⟩
        rw [List.length_zipWith, ← t.length, ← t2.length]
        refine ⟨fun i H' hi e => ⟨xs, xs2, xs[i]'(by omega), xs2[i]'(by omega), Evl.ex_t e sq, Evl.ex_t e sq2, by simp [show i < xs.length by omega], by simp [show i < xs2.length by omega]⟩, fun H' e => ⟨xs, xs2, Evl.ex_t e sq, Evl.ex_t e sq2, by omega⟩, fun i H' v H2 hi e yy => ?_⟩
        obtain ⟨T, x, x2, rfl, nT, rfl, hx, hx2⟩ := yy
        obtain ⟨d, hd, hz⟩ := t.get (hx xs (Evl.ex_t e sq))
        obtain ⟨d2, hd2, hz2⟩ := t2.get (hx2 xs2 (Evl.ex_t e sq2))
        refine ⟨.tupU [d, d2], ?_, .inr ⟨T, _, _, nT, rfl, rfl, rfl, .cons hz (.cons hz2 .nil)⟩⟩
        rw [List.getElem?_zipWith, hd, hd2]
  · cases h3
/-! targets -/
def TgD (X : Cx) (cl : Nat → Addr) (tg : Expr) (own : List Nat) (tgg : TG) (ts : D → M Unit) : Prop := PG X tg tgg ∧ ∀ d s s', ts d s = some ((), s') → ∀ σ g ι Fr H v, Rel X.K cl g ι σ s Fr H → DR X.K cl ι g v d →
  ∃ σ', Rel X.K cl g ι σ' s' Fr H ∧ (∀ Q : L2.St → Hp → Prop, Q σ' H → tgg v σ H Q) ∧ (∀ vs, (∀ n ∈ own, n ∈ vs) → wipe σ' vs = wipe σ vs)
def TgsD (X : Cx) (cl : Nat → Addr) (tg : List Expr) (own : List Nat) (tgg : TGs) (ts : List D → M Unit) : Prop := PGs X tg tgg ∧ ∀ d s s', ts d s = some ((), s') → ∀ σ g ι Fr H v, Rel X.K cl g ι σ s Fr H → DRs X.K cl ι g v d →
  ∃ σ', Rel X.K cl g ι σ' s' Fr H ∧ (∀ Q : L2.St → Hp → Prop, Q σ' H → tgg v σ H Q) ∧ (∀ vs, (∀ n ∈ own, n ∈ vs) → wipe σ' vs = wipe σ vs)
def st (n : Nat) (d : D) : M Unit := fun s => some ((), { s with r := s.r.set n (.dat d) })
theorem Rel.set {K : PySem.W.Frag} {ι : List Addr} {g H : Hp} {σ : L2.St} {s : S} {Fr : Rl} {n : Nat} {v : V} {d : D} (r : Rel K cl g ι σ s Fr H) (z : DR K cl ι g v d) : Rel K cl g ι (σ.set n (some v)) { s with r := s.r.set n (.dat d) } Fr H := by
  obtain ⟨Rm, Rs, sh, mr, tr⟩ := r
  obtain ⟨R', p, m⟩ := mr.put (n := n) z
  exact ⟨R', Rs, sh.sub (p.append_right _), m, tr⟩
theorem wipe_get (σ : L2.St) : ∀ (vs : List Nat) (j : Nat), (wipe σ vs)[j]? = if j ∈ vs then (σ[j]?).map (fun _ => none) else σ[j]?
  | [], j => by simp [wipe]
  | v :: vs, j => by
    show ((wipe σ vs).set v none)[j]? = _
    rw [List.getElem?_set, wipe_get σ vs j]
    by_cases e : v = j
    · subst e
      rw [if_pos rfl, if_pos (List.mem_cons_self ..), wipe_length]
      by_cases hl : v < σ.length
      · rw [if_pos hl, List.getElem?_eq_getElem hl]
        rfl
      · rw [if_neg hl, List.getElem?_eq_none (by omega)]
        rfl
    · rw [if_neg e]
      have : (j ∈ v :: vs) ↔ j ∈ vs := by
        rw [List.mem_cons]
        exact ⟨fun h => h.resolve_left fun z => e z.symm, .inr⟩
      simp only [this]
theorem wipe_set {σ : L2.St} {vs : List Nat} {i : Nat} {x : Option V} (h : i ∈ vs) : wipe (σ.set i x) vs = wipe σ vs := by
  apply List.ext_getElem?
  intro j
  rw [wipe_get, wipe_get]
  by_cases hj : j ∈ vs
  · rw [if_pos hj, if_pos hj, List.getElem?_set]
    by_cases e : i = j
    · subst e
      rw [if_pos rfl]
      by_cases hl : i < σ.length
      · rw [if_pos hl, List.getElem?_eq_getElem hl]
        rfl
      · rw [if_neg hl, List.getElem?_eq_none (by omega)]
    · rw [if_neg e]
  · rw [if_neg hj, if_neg hj, List.getElem?_set_ne]
    intro e
    exact hj (e ▸ h)
theorem wipe_wipe {σ : L2.St} {vs : List Nat} : wipe (wipe σ vs) vs = wipe σ vs := by
  apply List.ext_getElem?
  intro j
  rw [wipe_get, wipe_get]
  by_cases hj : j ∈ vs
  · rw [if_pos hj, if_pos hj]
    cases σ[j]? <;> rfl
  · rw [if_neg hj, if_neg hj]
theorem tg_name {n : Nat} {x : Str} (hp : PG X (.Name x p) (gName n)) : TgD X cl (.Name x p) [n] (gName n) (st n) := ⟨hp, fun d s s' h σ g ι Fr H v r z => by
  cases h
  exact ⟨_, r.set z, fun Q q => q, fun vs hv => wipe_set (hv n (List.mem_cons_self ..))⟩⟩
def tsN (l : List D) : M Unit := match l with
  | [] => ret ()
  | _ => fl
def tsC (t : D → M Unit) (u : List D → M Unit) (l : List D) : M Unit := match l with
  | [] => fl
  | d :: r => bd (t d) fun _ => u r
theorem tgs_nil : TgsD X cl [] [] gNil tsN := ⟨pgs_nil, fun d s s' h σ g ι Fr H v r z => by
  cases z with
  | nil =>
    cases h
    exact ⟨σ, r, fun Q q => ⟨rfl, q⟩, fun _ _ => rfl⟩
  | cons _ _ => cases h⟩
theorem tgs_cons {o1 o2 : List Nat} {g1 : TG} {g2 : TGs} {t : D → M Unit} {u : List D → M Unit} (h1 : TgD X cl a o1 g1 t) (h2 : TgsD X cl es o2 g2 u) (hs : (assignEach (a :: es) X.env).map (·.2) = assign a X.env :: (assignEach es X.env).map (·.2) := by rfl) :
    TgsD X cl (a :: es) (o1 ++ o2) (gCons g1 g2) (tsC t u) := ⟨pgs_cons h1.1 h2.1 hs, fun d s s' h σ g ι Fr H v r z => by
  cases z with
  | nil => cases h
  | cons z1 z2 =>
    obtain ⟨w, s1, k1, k2⟩ := bd_some h
    obtain ⟨σ1, r1, q1, w1⟩ := h1.2 _ _ _ k1 σ g ι Fr H _ r z1
    obtain ⟨σ2, r2, q2, w2⟩ := h2.2 _ _ _ k2 σ1 g ι Fr H _ r1 z2
    exact ⟨σ2, r2, fun Q q => ⟨_, _, rfl, q1 _ (q2 _ q)⟩, fun vs hv => (w2 vs fun n hn => hv n (List.mem_append_right _ hn)).trans (w1 vs fun n hn => hv n (List.mem_append_left _ hn))⟩⟩
def tsT (n : Nat) (u : List D → M Unit) (d : D) : M Unit := match d with
  | .tup l => if l.length = n then u l else fl
  | .tupU l => if l.length = n then u l else fl
  | _ => fl
theorem tg_tup {o o' : List Nat} {k n : Nat} {g2 : TGs} {u : List D → M Unit} {K' : W.Frag} (hK : X.K = K') (hc : X.calm = true) (h : TgsD X cl es o' g2 u) (ho : o' = o := by rfl) (hn : (assignEach es X.env).length = n := by rfl) (hst : (assignEach es X.env).findIdx? (·.1) = none := by rfl) :
    TgD X cl (.Tuple es k p) o (gTup K' n g2) (tsT n u) := by
 subst hK
 exact ⟨pg_tup hc h.1 hn hst, fun d s s' hm σ g ι Fr H v r z => by
  unfold tsT at hm
  split at hm
  · split at hm
    · cases z with
      | tup sq _ rr =>
        obtain ⟨σ', r', q', w'⟩ := h.2 _ _ _ hm σ g ι Fr H _ r rr
        exact ⟨σ', r', fun Q q => ⟨_, _, rfl, Evl.ex_t r.ex sq, by rw [rr.length]; assumption, q' _ q⟩, ho ▸ w'⟩
    · cases hm
  · split at hm
    · cases z with
      | tupU sq rr =>
        obtain ⟨σ', r', q', w'⟩ := h.2 _ _ _ hm σ g ι Fr H _ r rr
        exact ⟨σ', r', fun Q q => ⟨_, _, rfl, Evl.ex_t r.ex sq, by rw [rr.length]; assumption, q' _ q⟩, ho ▸ w'⟩
    · cases hm
  · cases hm⟩
/-! comprehensions -/
def DenTs (X : Cx) (cl : Nat → Addr) (ifs : List Expr) (m : M Bool) : Prop := ∀ s v s', m s = some (v, s') → ∀ σ g ι Fr H, Rel X.K cl g ι σ s Fr H → WTs X ifs σ H (PostT X cl g ι σ s' Fr v)
theorem dents_nil : DenTs X cl [] (ret true) := fun s v s' h σ g ι Fr H r => by
  cases h
  exact .of pts_nil ⟨rfl, g, ι, .refl, r⟩
theorem dents_one {mt : M Bool} (h : DenT X cl c mt) : DenTs X cl [c] mt := fun s v s' hm σ g ι Fr H r => .of (pts_one WT.pt) (h s v s' hm σ g ι Fr H r)
abbrev Bk (X : Cx) (scope : Scope) (s : Shared) (H : Hp) (C : Addr) (cel : List (Str × Addr)) (fp : List Addr) : Cx := X.blk s H scope (compEnvC scope cel C X.env) fp
def BE (X : Cx) (scope : Scope) (e : Expr) : TE := fun σ H Q => ∀ (s : Shared) (H0 : Hp) (C : Addr) (cel : List (Str × Addr)) (fp : List Addr), WE (Bk X scope s H0 C cel fp) e σ H Q
def BTs (X : Cx) (scope : Scope) (es : List Expr) : TT := fun σ H Q => ∀ (s : Shared) (H0 : Hp) (C : Addr) (cel : List (Str × Addr)) (fp : List Addr), WTs (Bk X scope s H0 C cel fp) es σ H Q
def wpS (own : List Nat) (s : S) : S := { s with r := own.foldl (fun r n => r.set n .un) s.r }
def lcGo (own : List Nat) (ts : D → M Unit) (mc : M Bool) (me : M D) : List D → List D → M (List D)
  | [], acc => ret acc
  | d :: r, acc => fun s => (bd (ts d) fun _ => bd mc fun t => if t then bd me fun x => lcGo own ts mc me r (acc ++ [x]) else lcGo own ts mc me r acc) (wpS own s)
theorem Rel.wp {K : PySem.W.Frag} {ι : List Addr} {g H : Hp} {Fr : Rl} : ∀ (own : List Nat) {σ : L2.St} {s : S}, Rel K cl g ι σ s Fr H → Rel K cl g ι (wipe σ own) (wpS own s) Fr H := fun own => by
  have key : ∀ (own : List Nat) (σ : L2.St) (r : List SV) (st : List SO), Rel K cl g ι σ ⟨r, st⟩ Fr H → ∃ σ', Rel K cl g ι σ' ⟨own.foldl (fun r n => r.set n .un) r, st⟩ Fr H ∧ ∀ j, σ'[j]? = if j ∈ own then (σ[j]?).map (fun _ => none) else σ[j]? := fun own => by
    induction own with
    | nil => exact fun σ r st h => ⟨σ, h, fun j => by simp⟩
    | cons n own ih =>
      intro σ r st h
      obtain ⟨Rm, Rs, sh, mr, tr⟩ := h
      obtain ⟨R', p, m⟩ := mr.wipe1 (n := n) (w := none)
      obtain ⟨σ', h', hj⟩ := ih (σ.set n none) (r.set n .un) st ⟨R', Rs, sh.sub (p.append_right _), m, tr⟩
      refine ⟨σ', h', fun j => ?_⟩
      rw [hj j, List.getElem?_set]
      by_cases e : n = j
      · subst e
        rw [if_pos rfl, if_pos (List.mem_cons_self ..)]
        by_cases hl : n < σ.length
        · rw [if_pos hl, List.getElem?_eq_getElem hl]
          split <;> rfl
        · rw [if_neg hl, List.getElem?_eq_none (by omega)]
          split <;> rfl
      · rw [if_neg e]
        have : (j ∈ n :: own) ↔ j ∈ own := by
          rw [List.mem_cons]
          exact ⟨fun h => h.resolve_left fun z => e z.symm, .inr⟩
        simp only [this]
  intro σ s h
  obtain ⟨σ', h', hj⟩ := key own σ s.r s.st h
  have e : σ' = wipe σ own := by
    apply List.ext_getElem?
    intro j
    rw [hj, wipe_get]
  subst e
  exact h'
/-- the slots of the block as they were -/
def rst : List Nat → List SV → List SV → Option (List SV)
  | [], _, r => some r
  | n :: own, r1, r => match r1[n]? with
    | some .un => rst own r1 (r.set n .un)
    | some (.dat d) => rst own r1 (r.set n (.dat d))
    | _ => none
theorem Rel.rst {K : PySem.W.Frag} {ι : List Addr} {g H : Hp} {Fr : Rl} {σ : L2.St} {r1 : List SV} {R1 : Rl} (m1 : MR K cl ι g σ r1 R1) : ∀ (own : List Nat) {σa : L2.St} {r r' : List SV} {st : List SO}, Rel K cl g ι σa ⟨r, st⟩ Fr H → Sd.rst own r1 r = some r' → (∀ j, j ∉ own → σa[j]? = σ[j]?) → σa.length = σ.length → Rel K cl g ι σ ⟨r', st⟩ Fr H
  | [], σa, r, r', st, h, e, hj, hl => by
    unfold Sd.rst at e
    cases e
    have e : σa = σ := List.ext_getElem? fun j => hj j (by simp)
    subst e
    exact h
  | n :: own, σa, r, r', st, h, e, hj, hl => by
    unfold Sd.rst at e
    obtain ⟨Rm, Rs, sh, mr, tr⟩ := h
    split at e
    · rename_i e1
      obtain ⟨R', p, m⟩ := mr.wipe1 (n := n) (w := (σ[n]?).getD none)
      refine Rel.rst m1 own (σa := σa.set n ((σ[n]?).getD none)) ⟨R', Rs, sh.sub (p.append_right _), m, tr⟩ e (fun j hjo => ?_) (by simp [hl])
      rw [List.getElem?_set]
      by_cases ej : n = j
      · subst ej
        rw [if_pos rfl]
        by_cases hlt : n < σ.length
        · rw [if_pos (by omega), List.getElem?_eq_getElem hlt]
          rfl
        · rw [if_neg (by omega), List.getElem?_eq_none (by omega)]
      · rw [if_neg ej]
        exact hj j fun z => (List.mem_cons.mp z).elim (fun q => ej q.symm) hjo
    · rename_i d e1
      obtain ⟨v, hv, z⟩ := m1.get e1
      obtain ⟨R', p, m⟩ := mr.put (n := n) z
      refine Rel.rst m1 own (σa := σa.set n (some v)) ⟨R', Rs, sh.sub (p.append_right _), m, tr⟩ e (fun j hjo => ?_) (by simp [hl])
      rw [List.getElem?_set]
      by_cases ej : n = j
      · subst ej
        have hlt := (List.getElem?_eq_some_iff.mp hv).1
        rw [if_pos rfl, if_pos (by omega), hv]
      · rw [if_neg ej]
        exact hj j fun z => (List.mem_cons.mp z).elim (fun q => ej q.symm) hjo
    · cases e
def lcM (own : List Nat) (ts : D → M Unit) (mc : M Bool) (me : M D) (mi : M (List D)) : M (List D) := bd mi fun ds => if ds.length ≤ 100000 then fun s1 => (match lcGo own ts mc me ds [] s1 with
  | some (l, s2) => (match rst own s1.r (wpS own s2).r with
    | some r => some (l, ⟨r, s2.st⟩)
    | none => none)
  | none => none) else fl
end
end Sd

namespace Sd
open PySem PySem.Spec PyProof.Rows L2
open Evl (Ex)
section
variable {X : Cx} {cl : Nat → Addr} {a b c e tg iter elt : Expr} {es ifs : List Expr} {pos p p' pt : Pos} {m m1 m2 m3 me : M D} {ma mi : M (List D)} {mc : M Bool} {elts : List Expr} {kk : Nat}
theorem Rel.fr {K : PySem.W.Frag} {ι : List Addr} {g H : Hp} {Fr : Rl} {σ : L2.St} {s : S} {q : Addr} {o o' : HO} (r : Rel K cl g ι σ s ((q, o) :: Fr) H) : H q = some o ∧ Rel K cl g ι σ s ((q, o') :: Fr) (upd H q o') := by
  obtain ⟨Rm, Rs, sh, mr, tr⟩ := r
  have hp : ∀ o : HO, (Rm ++ (Rs ++ (q, o) :: Fr)).Perm ((q, o) :: (Rm ++ (Rs ++ Fr))) := fun o => by
    have h1 : (Rs ++ (q, o) :: Fr).Perm ((q, o) :: (Rs ++ Fr)) := List.perm_middle
    exact (h1.append_left Rm).trans List.perm_middle
  have sh2 := sh.perm (hp o)
  exact ⟨sh2.head, Rm, Rs, (sh2.put (o' := o')).perm (hp o').symm, mr, tr⟩
/-- an object of the frame becomes what stays -/
theorem Rel.frKeep {K : PySem.W.Frag} {ι : List Addr} {g H : Hp} {Fr : Rl} {σ : L2.St} {s : S} {q : Addr} {o : HO} (r : Rel K cl g ι σ s ((q, o) :: Fr) H) : Rel K cl (upd g q o) ι σ s Fr H ∧ Lt g ι (upd g q o) ι := by
  obtain ⟨Rm, Rs, sh, mr, tr⟩ := r
  have hp : (Rm ++ (Rs ++ (q, o) :: Fr)).Perm ((q, o) :: (Rm ++ (Rs ++ Fr))) := by
    have h1 : (Rs ++ (q, o) :: Fr).Perm ((q, o) :: (Rs ++ Fr)) := List.perm_middle
    exact (h1.append_left Rm).trans List.perm_middle
  have k := (sh.perm hp).keep
  have lt : Lt g ι (upd g q o) ι := ⟨k.2, .refl _⟩
  exact ⟨⟨Rm, Rs, k.1, mr.up lt, tr.up lt⟩, lt⟩
theorem Rel.newFr {K : PySem.W.Frag} {ι : List Addr} {g H : Hp} {Fr : Rl} {σ : L2.St} {s : S} {q : Addr} {o : HO} (r : Rel K cl g ι σ s Fr H) (n : H q = none) : Rel K cl g ι σ s ((q, o) :: Fr) (upd H q o) := by
  obtain ⟨Rm, Rs, sh, mr, tr⟩ := r
  have hp : (Rm ++ (Rs ++ (q, o) :: Fr)).Perm ((q, o) :: (Rm ++ (Rs ++ Fr))) := by
    have h1 : (Rs ++ (q, o) :: Fr).Perm ((q, o) :: (Rs ++ Fr)) := List.perm_middle
    exact (h1.append_left Rm).trans List.perm_middle
  exact ⟨Rm, Rs, (sh.new (o := o) n).perm hp.symm, mr, tr⟩
theorem wpS_wpS (own : List Nat) (s : S) : wpS own (wpS own s) = wpS own s := by
  unfold wpS
  have key : ∀ (own : List Nat) (r : List SV), ∀ j, (own.foldl (fun r n => r.set n .un) r)[j]? = if j ∈ own then (r[j]?).map (fun _ => SV.un) else r[j]? := fun own => by
    induction own with
    | nil => intro r j; simp
    | cons n own ih =>
      intro r j
      rw [List.foldl_cons, ih, List.getElem?_set]
      by_cases e : n = j
      · subst e
        rw [if_pos rfl, if_pos (List.mem_cons_self ..)]
        by_cases hl : n < r.length
        · rw [if_pos hl, List.getElem?_eq_getElem hl]
          split <;> rfl
        · rw [if_neg hl, List.getElem?_eq_none (by omega)]
          split <;> rfl
      · rw [if_neg e]
        have : (j ∈ n :: own) ↔ j ∈ own := by
          rw [List.mem_cons]
          exact ⟨fun h => h.resolve_left fun z => e z.symm, .inr⟩
        simp only [this]
  congr 1
  apply List.ext_getElem?
  intro j
  rw [key, key]
  by_cases hj : j ∈ own
  · rw [if_pos hj, if_pos hj]
    cases s.r[j]? <;> rfl
  · rw [if_neg hj, if_neg hj]
/-- the walk of a comprehension -/
theorem lc_core {J : It} {scope : Scope} {own : List Nat} {tgg : TG} {ts : D → M Unit} {ds l : List D} {g1 H1 : Hp} {ι1 : List Addr} {σ : L2.St} {s1 s2 : S} {Fr : Rl} {D1 : Addr} {Qd : Hp → Prop} (w : Walk J ds.length (fun H' => Ex g1 H') (Yd X.K cl ι1 g1 ds)) (r1 : Rel X.K cl g1 ι1 σ s1 Fr H1) (nD : H1 D1 = none) (hl : ds.length ≤ 100000)
    (htg : ∀ d s s', ts d s = some ((), s') → ∀ σ g ι Fr H v, Rel X.K cl g ι σ s Fr H → DR X.K cl ι g v d → ∃ σ', Rel X.K cl g ι σ' s' Fr H ∧ (∀ Q : L2.St → Hp → Prop, Q σ' H → tgg v σ H Q) ∧ (∀ vs, (∀ n ∈ own, n ∈ vs) → wipe σ' vs = wipe σ vs))
    (ht : ∀ (s : Shared) (H : Hp) (C : Addr) (cel : List (Str × Addr)) (fp : List Addr), DenTs (Bk X scope s H C cel fp) cl ifs mc) (he : ∀ (s : Shared) (H : Hp) (C : Addr) (cel : List (Str × Addr)) (fp : List Addr), Den (Bk X scope s H C cel fp) cl elt me)
    (hm : lcGo own ts mc me ds [] s1 = some (l, s2))
    (hd : ∀ acc g' ι' H', Lt g1 ι1 g' ι' → Rel X.K cl g' ι' (wipe σ own) (wpS own s2) ((D1, .lst acc) :: Fr) H' → DRs X.K cl ι' g' acc l → Qd H') :
    ∃ W : Nat → Nat → Hp → Prop, (∃ m, W 0 m (upd H1 D1 (.lst []))) ∧ ∀ i m H, W i m H →
      (J.stop i H ∧ Qd H) ∨ (J.go i H ∧ ∃ Nx : Hp → Prop, (∀ H', Nx H' → ∃ m', m' < m ∧ W (i + 1) m' H') ∧ ∀ x H', J.yld i H x H' → tgg x (wipe σ own) H' fun σ2 H2 => wipe σ2 own = wipe σ own ∧ BTs X scope ifs σ2 H2 fun b H3 =>
        if b = true then BE X scope elt σ2 H3 fun y H4 => ∃ acc, H4 D1 = some (.lst acc) ∧ acc.length < sizeLine ∧ Nx (upd H4 D1 (.lst (acc ++ [y]))) else Nx H3) := by
  refine lc_it w (fun i H' => ∃ (accV : List V) (accD : List D) (g' : Hp) (ι' : List Addr) (si : S), Lt g1 ι1 g' ι' ∧ Rel X.K cl g' ι' (wipe σ own) (wpS own si) ((D1, .lst accV) :: Fr) H' ∧ DRs X.K cl ι' g' accV accD ∧ lcGo own ts mc me (ds.drop i) accD si = some (l, s2) ∧ accV.length ≤ i)
    ⟨[], [], g1, ι1, s1, .refl, (r1.newFr nD).wp own, .nil, hm, Nat.le_refl _⟩ (fun i H' _ ⟨accV, accD, g', ι', si, lt, r, _⟩ => lt.e.trans r.ex) (fun i v H' H2 hi ⟨accV, accD, g', ι', si, lt, r, hA, hgo, hle⟩ yy => ?_) (fun H' ⟨accV, accD, g', ι', si, lt, r, hA, hgo, hle⟩ => ?_)
  · obtain ⟨d, g2, hdi, l2, r2, z2⟩ := yy.rel lt r
    have hdr : ds.drop i = d :: ds.drop (i + 1) := by
      have e := List.getElem?_eq_some_iff.mp hdi
      rw [List.drop_eq_getElem_cons e.1, e.2]
    rw [hdr] at hgo
    obtain ⟨_, sa, k1, hgo⟩ := bd_some (show (bd (ts d) fun _ => bd mc fun t => if t then bd me fun x => lcGo own ts mc me (ds.drop (i + 1)) (accD ++ [x]) else lcGo own ts mc me (ds.drop (i + 1)) accD) (wpS own si) = some (l, s2) from hgo)
    obtain ⟨t, sb, k2, hgo⟩ := bd_some hgo
    obtain ⟨σ2, r3, q3, w3⟩ := htg d _ _ k1 _ _ _ _ _ _ r2 z2
    have hw : wipe σ2 own = wipe σ own := (w3 own fun _ h => h).trans wipe_wipe
    refine q3 _ ⟨hw, fun sx Hx C cel fp => WTs.mono (ht sx Hx C cel fp sa t sb k2 σ2 g2 ι' _ H2 r3) fun u H3 ⟨eu, g4, i4, l4, r4⟩ => ?_⟩
    subst eu
    cases u with
    | false =>
      rw [if_neg Bool.false_ne_true] at hgo ⊢
      refine ⟨accV, accD, g4, i4, sb, (lt.trans l2).trans l4, ?_, hA.up (l2.trans l4), hgo, by omega⟩
      rw [← hw]
      exact r4.wp own
    | true =>
      rw [if_pos rfl] at hgo ⊢
      obtain ⟨x, sc, k3, hgo⟩ := bd_some hgo
      intro sx Hx C cel fp
      refine WE.mono (he sx Hx C cel fp sb x sc k3 σ2 g4 i4 _ H3 r4) fun y H4 ⟨g5, i5, l5, r5, z5⟩ => ?_
      have f := r5.fr (o' := .lst (accV ++ [y]))
      refine ⟨accV, f.1, Nat.lt_of_le_of_lt (show accV.length ≤ 100000 by omega) (by rw [sizeLine_eq]; decide), accV ++ [y], accD ++ [x], g5, i5, sc, ((lt.trans l2).trans l4).trans l5, ?_, (hA.up ((l2.trans l4).trans l5)).snoc z5, hgo, by rw [List.length_append]; show accV.length + 1 ≤ i + 1; omega⟩
      rw [← hw]
      exact f.2.wp own
  · rw [List.drop_length] at hgo
    cases hgo
    exact hd accV g' ι' H' lt r hA
theorem lc_done {own : List Nat} {ts : D → M Unit} {ds l : List D} {s1 s' : S} (h : (match lcGo own ts mc me ds [] s1 with | some (l, s2) => (match rst own s1.r (wpS own s2).r with | some r => some (l, (⟨r, s2.st⟩ : S)) | none => none) | none => none) = some (l, s')) :
    ∃ s2, lcGo own ts mc me ds [] s1 = some (l, s2) ∧ rst own s1.r (wpS own s2).r = some s'.r ∧ s'.st = s2.st := by
  split at h
  · rename_i l0 s2 e
    split at h
    · rename_i r er
      cases h
      exact ⟨s2, e, er, rfl⟩
    · cases h
  · cases h
/-- behind a comprehension the slots are as they were -/
theorem lc_back {own : List Nat} {g1 g' H' : Hp} {ι1 ι' : List Addr} {σ : L2.St} {s1 s2 s' : S} {Fr Fr' : Rl} {H1 : Hp} (r1 : Rel X.K cl g1 ι1 σ s1 Fr' H1) (lt : Lt g1 ι1 g' ι') (r : Rel X.K cl g' ι' (wipe σ own) (wpS own s2) Fr H') (hr : rst own s1.r (wpS own s2).r = some s'.r) (hs : s'.st = s2.st) : Rel X.K cl g' ι' σ s' Fr H' := by
  obtain ⟨Rm, Rs, _, mr, _⟩ := r1
  have r2 : Rel X.K cl g' ι' (wipe σ own) ⟨(wpS own s2).r, s2.st⟩ Fr H' := r
  have q := Rel.rst (mr.up lt) own r2 hr (fun j hj => by rw [wipe_get, if_neg hj]) (wipe_length σ own)
  have e : s' = ⟨s'.r, s2.st⟩ := by rw [← hs]
  rw [e]
  exact q
theorem den_lc {scope : Scope} {own : List (Str × Nat)} {o : List Nat} {tgg : TG} {ts : D → M Unit} (hc : X.calm = true) (hN : X.N.Nodup) (ok : BlkOk X.N X.env.scope scope own)
    (htg : ∀ (s : Shared) (H : Hp) (C : Addr) (cel : List (Str × Addr)) (fp : List Addr), TgD (Bk X scope s H C cel fp) cl tg (own.map (·.2)) tgg ts) (hi : DenI X cl tg iter mi)
    (ht : ∀ (s : Shared) (H : Hp) (C : Addr) (cel : List (Str × Addr)) (fp : List Addr), DenTs (Bk X scope s H C cel fp) cl ifs mc) (he : ∀ (s : Shared) (H : Hp) (C : Addr) (cel : List (Str × Addr)) (fp : List Addr), Den (Bk X scope s H C cel fp) cl elt me)
    (ho : own.map (·.2) = o := by rfl) (hs : ∀ x, foldedSetIterable iter X.env x = pure x := by intro _; rfl) :
    Den X cl (.ListComp elt [⟨tg, iter, ifs, 0⟩] scope pos) (bd (lcM o ts mc me mi) fun l => ret (.lst l)) := fun s v s' h σ g ι Fr H r => by
  subst ho
  obtain ⟨l, s3, h1, e1_⟩ := bd_some h
  cases e1_
  obtain ⟨ds, s1, h2, h3⟩ := bd_some h1
  split at h3
  · rename_i hl
    obtain ⟨s2, k1, k2, k3⟩ := lc_done h3
    refine .of (pe_lc (own := own) (g := tgg) (tt := BTs X scope ifs) (te := BE X scope elt) hc hN WI.pi ok (fun s H C cel fp => (htg s H C cel fp).1) (fun s H C cel fp => ⟨fun pins s' σ H' Q I e1_ => (e1_ s H C cel fp).run pins s' I⟩) (fun s H C cel fp => ⟨fun pins s' σ H' Q I e1_ => (e1_ s H C cel fp).run pins s' I⟩) hs)
      (hi s ds s1 h2 σ g ι Fr H r _ fun J g1 ι1 H1 l1 r1 w D1 nD => lc_core (own := own.map (·.2)) (scope := scope) (ifs := ifs) (elt := elt) (mc := mc) (me := me) (tgg := tgg) (ts := ts) w r1 nD hl (fun d s s' => (htg X.s_0 H 0 [] []).2 d s s') ht he k1 fun acc g' ι' H' lt rr z => ?_)
    have kk := (lc_back r1 lt rr k2 k3).frKeep
    exact ⟨_, ι', (l1.trans lt).trans kk.2, kk.1, .lst upd_same (z.up kk.2)⟩
  · cases h3
end
end Sd

namespace Sd
open PySem PySem.Spec PyProof.Rows L2
open Evl (Ex)
inductive Fl where
  | nx
  | rt (d : D)
  | bk
  | ct
def PostS (X : Cx) (cl : Nat → Addr) (g : Hp) (ι : List Addr) (Fr : Rl) (f : Fl) (s : S) (E : Ends) : Prop := match f with
  | .nx => ∀ σ' g' ι' H', Lt g ι g' ι' → Rel X.K cl g' ι' σ' s Fr H' → E.nx σ' H'
  | .bk => ∀ σ' g' ι' H', Lt g ι g' ι' → Rel X.K cl g' ι' σ' s Fr H' → E.bk σ' H'
  | .ct => ∀ σ' g' ι' H', Lt g ι g' ι' → Rel X.K cl g' ι' σ' s Fr H' → E.ct σ' H'
  | .rt d => ∀ v σ' g' ι' H', Lt g ι g' ι' → Rel X.K cl g' ι' σ' s Fr H' → DR X.K cl ι' g' v d → E.rt v H'
def DenS (X : Cx) (cl : Nat → Addr) (b : List Stmt) (m : M Fl) : Prop := ∀ s f s', m s = some (f, s') → ∀ σ g ι Fr H, Rel X.K cl g ι σ s Fr H → ∀ E : Ends, PostS X cl g ι Fr f s' E → WS X b E σ H
structure W1 (X : Cx) (t : Stmt) (E : Ends) (σ : L2.St) (H : Hp) : Prop where
  ex : ∃ q : TS, PS X t q ∧ q E σ H
def Den1 (X : Cx) (cl : Nat → Addr) (t : Stmt) (m : M Fl) : Prop := ∀ s f s', m s = some (f, s') → ∀ σ g ι Fr H, Rel X.K cl g ι σ s Fr H → ∀ E : Ends, PostS X cl g ι Fr f s' E → W1 X t E σ H
section
variable {X : Cx} {cl : Nat → Addr} {a b c e tg iter elt : Expr} {es ifs : List Expr} {pos p p' pt : Pos} {m m1 m2 m3 me : M D} {ma mi : M (List D)} {mc : M Bool} {elts : List Expr} {kk : Nat} {t : Stmt} {rest sa sb : List Stmt} {ms ms2 mb : M Fl}
theorem W1.ps : PS X t (W1 X t) := ⟨fun pins s σ H E I h => by
  obtain ⟨q, p, k⟩ := h.ex
  exact p.run pins s σ H E I k⟩
theorem PostS.lt {g g' : Hp} {ι ι' : List Addr} {Fr : Rl} {f : Fl} {s : S} {E : Ends} (l : Lt g ι g' ι') (h : PostS X cl g ι Fr f s E) : PostS X cl g' ι' Fr f s E := by
  cases f with
  | nx => exact fun σ' g2 i2 H' l2 => h σ' g2 i2 H' (l.trans l2)
  | bk => exact fun σ' g2 i2 H' l2 => h σ' g2 i2 H' (l.trans l2)
  | ct => exact fun σ' g2 i2 H' l2 => h σ' g2 i2 H' (l.trans l2)
  | rt d => exact fun v σ' g2 i2 H' l2 => h v σ' g2 i2 H' (l.trans l2)
def sq (m1 m2 : M Fl) : M Fl := bd m1 fun f => match f with
  | .nx => m2
  | f => ret f
theorem dens_nil : DenS X cl [] (ret .nx) := fun s f s' h σ g ι Fr H r E q => by
  cases h
  exact .of pss_nil (q σ g ι H .refl r)
theorem dens_cons (h1 : Den1 X cl t ms) (h2 : DenS X cl rest ms2) : DenS X cl (t :: rest) (sq ms ms2) := fun s f s' h σ g ι Fr H r E q => by
  obtain ⟨f1, s1, k1, e1_⟩ := bd_some h
  refine .of (pss_cons W1.ps WS.ps) (h1 s f1 s1 k1 σ g ι Fr H r _ ?_)
  cases f1 with
  | nx => exact fun σ' g' ι' H' l r' => h2 s1 f s' e1_ σ' g' ι' Fr H' r' E (q.lt l)
  | bk =>
    cases e1_
    exact q
  | ct =>
    cases e1_
    exact q
  | rt d =>
    cases e1_
    exact q
/-- the last one -/
theorem dens_last (h1 : Den1 X cl t ms) : DenS X cl [t] ms := fun s f s' h σ g ι Fr H r E q => by
  refine .of (pss_cons W1.ps WS.ps) (h1 s f s' h σ g ι Fr H r _ ?_)
  cases f with
  | nx => exact fun σ' g' ι' H' l r' => .of pss_nil (q σ' g' ι' H' l r')
  | bk => exact q
  | ct => exact q
  | rt d => exact q
def rtM (m : M D) : M Fl := bd m fun d => ret (.rt d)
theorem den_ret (ha : Den X cl a m) : Den1 X cl (.Return (some a) pos) (rtM m) := fun s f s' h σ g ι Fr H r E q => by
  obtain ⟨d, s1, k1, e1_⟩ := bd_some h
  cases e1_
  exact ⟨_, ps_ret WE.pe, WE.mono (ha s d _ k1 σ g ι Fr H r) fun u H1 ⟨g1, i1, l1, r1, z1⟩ => q u σ g1 i1 H1 l1 r1 z1⟩
theorem den_retN : Den1 X cl (.Return none pos) (ret (.rt .non)) := fun s f s' h σ g ι Fr H r E q => by
  cases h
  exact ⟨_, ps_retN, q .non σ g ι H .refl r .non⟩
theorem den_pass : Den1 X cl (.Pass pos) (ret .nx) := fun s f s' h σ g ι Fr H r E q => by
  cases h
  exact ⟨_, ps_pass, q σ g ι H .refl r⟩
theorem den_brk : Den1 X cl (.Break pos) (ret .bk) := fun s f s' h σ g ι Fr H r E q => by
  cases h
  exact ⟨_, ps_break, q σ g ι H .refl r⟩
theorem den_cnt : Den1 X cl (.Continue pos) (ret .ct) := fun s f s' h σ g ι Fr H r E q => by
  cases h
  exact ⟨_, ps_continue, q σ g ι H .refl r⟩
/-- x = e -/
def asM (n : Nat) (m : M D) : M Fl := bd m fun d => bd (st n d) fun _ => ret .nx
theorem den_set {n : Nat} {x : Str} (hN : X.N.Nodup) (hi : X.N[n]? = some x) (hx : Loc X.env.scope x) (ha : Den X cl a m) (hs : swapsWith a (some (.Name x p)) pos.line X.env = pure false := by rfl) (hf : X.fn x = true ∨ X.env.scope.names.lookup x = some .local) :
    Den1 X cl (.Assign [.Name x p] a pos) (asM n m) := fun s f s' h σ g ι Fr H r E q => by
  obtain ⟨d, s1, k1, e1_⟩ := bd_some h
  cases e1_
  exact ⟨_, ps_set hN hi hx WE.pe hs hf, WE.mono (ha s d _ k1 σ g ι Fr H r) fun u H1 ⟨g1, i1, l1, r1, z1⟩ => q _ g1 i1 H1 l1 (r1.set z1)⟩
/-- target = e -/
def tgM (ts : D → M Unit) (m : M D) : M Fl := bd m fun d => bd (ts d) fun _ => ret .nx
theorem den_asg {o : List Nat} {tgg : TG} {ts : D → M Unit} (ht : TgD X cl tg o tgg ts) (ha : Den X cl a m) (hs : swapsWithSole [tg] a pos.line X.env = pure false := by rfl) (hw : swappedStores [tg] a X.env = pure none := by rfl) (h1 : (assignEach [tg] X.env).map (·.2) = [assign tg X.env] := by rfl) :
    Den1 X cl (.Assign [tg] a pos) (tgM ts m) := fun s f s' h σ g ι Fr H r E q => by
  obtain ⟨d, s1, k1, e1_⟩ := bd_some h
  obtain ⟨_, s2, k2, e2_⟩ := bd_some e1_
  cases e2_
  refine ⟨_, ps_asg WE.pe ht.1 hs hw h1, WE.mono (ha s d _ k1 σ g ι Fr H r) fun u H1 ⟨g1, i1, l1, r1, z1⟩ => ?_⟩
  obtain ⟨σ', r', q', _⟩ := ht.2 d _ _ k2 σ g1 i1 Fr H1 u r1 z1
  exact q' _ (q σ' g1 i1 H1 l1 r')
/-- a slot takes a new list that may change -/
def stL (n : Nat) (l : List D) : M Unit := fun s => if n < s.r.length then some ((), { s with r := s.r.set n (.chg l) }) else none
theorem Rel.setL {K : PySem.W.Frag} {ι : List Addr} {g H : Hp} {σ : L2.St} {s : S} {Fr : Rl} {n : Nat} {ad : Addr} {vs : List V} {l : List D} (r : Rel K cl g ι σ s ((ad, .lst vs) :: Fr) H) (z : DRs K cl ι g vs l) (hn : n < s.r.length) : Rel K cl g ι (σ.set n (some (.ref ad))) { s with r := s.r.set n (.chg l) } Fr H := by
  obtain ⟨Rm, Rs, sh, mr, tr⟩ := r
  obtain ⟨R', R2, p, q, m⟩ := mr.putM (n := n) (a := ad) z hn
  have hp : (Rm ++ (Rs ++ (ad, .lst vs) :: Fr)).Perm ((ad, .lst vs) :: (Rm ++ (Rs ++ Fr))) := by
    have h1 : (Rs ++ (ad, HO.lst vs) :: Fr).Perm ((ad, .lst vs) :: (Rs ++ Fr)) := List.perm_middle
    exact (h1.append_left Rm).trans List.perm_middle
  have sh2 := (sh.perm hp).sub ((p.append_right (Rs ++ Fr)).cons₂ (ad, HO.lst vs))
  exact ⟨R2, Rs, sh2.perm (q.append_right (Rs ++ Fr)).symm, m, tr⟩
def asL (n : Nat) (ma : M (List D)) : M Fl := bd ma fun l => bd (stL n l) fun _ => ret .nx
/-- x = [..] -/
theorem den_setDsp {n : Nat} {x : Str} {p2 : Pos} (hN : X.N.Nodup) (hi : X.N[n]? = some x) (hx : Loc X.env.scope x) (ha : DenA X cl es ma) (hf : X.fn x = true ∨ X.env.scope.names.lookup x = some .local) (hs : swapsWith (.List es p2) (some (.Name x p)) pos.line X.env = pure false := by rfl) :
    Den1 X cl (.Assign [.Name x p] (.List es p2) pos) (bd ma fun l => if l.length ≤ 100000 then bd (stL n l) fun _ => ret .nx else fl) := fun s f s' h σ g ι Fr H r E q => by
  obtain ⟨l, s1, k1, e1_⟩ := bd_some h
  split at e1_
  · rename_i hl
    obtain ⟨_, s2, k2, e2_⟩ := bd_some e1_
    cases e2_
    unfold stL at k2
    split at k2
    · rename_i hn
      cases k2
      refine ⟨_, ps_set hN hi hx (pe_lst WA.pa) hs hf, WA.mono (ha s l _ k1 σ g ι Fr H r) fun us H1 ⟨g1, i1, l1, r1, z1⟩ => ⟨Evl.sz_of (by rw [z1.length]; exact hl), fun ad np => ?_⟩⟩
      exact q _ g1 i1 _ l1 ((r1.newFr np).setL z1 hn)
    · cases k2
  · cases e1_
/-- x = [elt for ..] on one row, x a local -/
theorem den_setLc {n : Nat} {y : Str} {py spos : Pos} {scope : Scope} {own : List (Str × Nat)} {o : List Nat} {tgg : TG} {ts : D → M Unit} (hc : X.calm = true) (hN : X.N.Nodup) (hy : X.N[n]? = some y) (hyl : X.env.scope.names.lookup y = some .local)
    (hsw : swapsWith (.ListComp elt [⟨tg, iter, ifs, 0⟩] scope pos) (some (.Name y py)) spos.line X.env = pure true) (ok : BlkOk X.N X.env.scope scope own)
    (htg : ∀ (s : Shared) (H : Hp) (C : Addr) (cel : List (Str × Addr)) (fp : List Addr), TgD (Bk X scope s H C cel fp) cl tg (own.map (·.2)) tgg ts) (hi : DenI X cl tg iter mi)
    (ht : ∀ (s : Shared) (H : Hp) (C : Addr) (cel : List (Str × Addr)) (fp : List Addr), DenTs (Bk X scope s H C cel fp) cl ifs mc) (he : ∀ (s : Shared) (H : Hp) (C : Addr) (cel : List (Str × Addr)) (fp : List Addr), Den (Bk X scope s H C cel fp) cl elt me)
    (ho : own.map (·.2) = o := by rfl) (hs : ∀ x, foldedSetIterable iter X.env x = pure x := by intro _; rfl) :
    Den1 X cl (.Assign [.Name y py] (.ListComp elt [⟨tg, iter, ifs, 0⟩] scope pos) spos) (asL n (lcM o ts mc me mi)) := fun s f s' h σ g ι Fr H r E q => by
  subst ho
  obtain ⟨l, s3, h1, e1_⟩ := bd_some h
  obtain ⟨_, s4, h4, e2_⟩ := bd_some e1_
  cases e2_
  obtain ⟨ds, s1, h2, h3⟩ := bd_some h1
  unfold stL at h4
  split at h4
  · rename_i hn
    cases h4
    split at h3
    · rename_i hl
      obtain ⟨s2, k1, k2, k3⟩ := lc_done h3
      refine ⟨_, ps_setLc (own := own) (g := tgg) (tt := BTs X scope ifs) (te := BE X scope elt) hc hN hy hyl hsw WI.pi ok (fun s H C cel fp => (htg s H C cel fp).1) (fun s H C cel fp => ⟨fun pins s' σ H' Q I e2_ => (e2_ s H C cel fp).run pins s' I⟩) (fun s H C cel fp => ⟨fun pins s' σ H' Q I e2_ => (e2_ s H C cel fp).run pins s' I⟩) hs,
        (hi s ds s1 h2 σ g ι Fr H r _ fun J g1 ι1 H1 l1 r1 w D1 nD => lc_core (own := own.map (·.2)) (scope := scope) (ifs := ifs) (elt := elt) (mc := mc) (me := me) (tgg := tgg) (ts := ts) w r1 nD hl (fun d s s' => (htg X.s_0 H 0 [] []).2 d s s') ht he k1 fun acc g' ι' H' lt rr z => ?_)⟩
      exact q _ g' ι' H' (l1.trans lt) ((lc_back r1 lt rr k2 k3).setL z hn)
    · cases h3
  · cases h4
/-- x = [..] where the list stays: y = e as a value -/
theorem den_setLcD {n : Nat} {y : Str} {py spos : Pos} {scope : Scope} {own : List (Str × Nat)} {o : List Nat} {tgg : TG} {ts : D → M Unit} (hc : X.calm = true) (hN : X.N.Nodup) (hy : X.N[n]? = some y) (hyl : X.env.scope.names.lookup y = some .local)
    (hsw : swapsWith (.ListComp elt [⟨tg, iter, ifs, 0⟩] scope pos) (some (.Name y py)) spos.line X.env = pure true) (ok : BlkOk X.N X.env.scope scope own)
    (htg : ∀ (s : Shared) (H : Hp) (C : Addr) (cel : List (Str × Addr)) (fp : List Addr), TgD (Bk X scope s H C cel fp) cl tg (own.map (·.2)) tgg ts) (hi : DenI X cl tg iter mi)
    (ht : ∀ (s : Shared) (H : Hp) (C : Addr) (cel : List (Str × Addr)) (fp : List Addr), DenTs (Bk X scope s H C cel fp) cl ifs mc) (he : ∀ (s : Shared) (H : Hp) (C : Addr) (cel : List (Str × Addr)) (fp : List Addr), Den (Bk X scope s H C cel fp) cl elt me)
    (ho : own.map (·.2) = o := by rfl) (hs : ∀ x, foldedSetIterable iter X.env x = pure x := by intro _; rfl) :
    Den1 X cl (.Assign [.Name y py] (.ListComp elt [⟨tg, iter, ifs, 0⟩] scope pos) spos) (asM n (bd (lcM o ts mc me mi) fun l => ret (.lst l))) := fun s f s' h σ g ι Fr H r E q => by
  subst ho
  obtain ⟨d0, s3, h0, e1_⟩ := bd_some h
  obtain ⟨l, s4, h1, h4⟩ := bd_some h0
  cases h4
  obtain ⟨_, s5, h5, e2_⟩ := bd_some e1_
  cases e2_
  cases h5
  obtain ⟨ds, s1, h2, h3⟩ := bd_some h1
  split at h3
  · rename_i hl
    obtain ⟨s2, k1, k2, k3⟩ := lc_done h3
    refine ⟨_, ps_setLc (own := own) (g := tgg) (tt := BTs X scope ifs) (te := BE X scope elt) hc hN hy hyl hsw WI.pi ok (fun s H C cel fp => (htg s H C cel fp).1) (fun s H C cel fp => ⟨fun pins s' σ H' Q I e2_ => (e2_ s H C cel fp).run pins s' I⟩) (fun s H C cel fp => ⟨fun pins s' σ H' Q I e2_ => (e2_ s H C cel fp).run pins s' I⟩) hs,
      (hi s ds s1 h2 σ g ι Fr H r _ fun J g1 ι1 H1 l1 r1 w D1 nD => lc_core (own := own.map (·.2)) (scope := scope) (ifs := ifs) (elt := elt) (mc := mc) (me := me) (tgg := tgg) (ts := ts) w r1 nD hl (fun d s s' => (htg X.s_0 H 0 [] []).2 d s s') ht he k1 fun acc g' ι' H' lt rr z => ?_)⟩
    have kk := (lc_back r1 lt rr k2 k3).frKeep
    exact q _ _ ι' H' ((l1.trans lt).trans kk.2) (kk.1.set (.lst upd_same (z.up kk.2)))
  · cases h3
/-! if, for, while -/
def ifM (mc : M Bool) (m1 m2 : M Fl) : M Fl := bd mc fun t => if t then m1 else m2
theorem den_if (hc : DenT X cl c mc) (h1 : DenS X cl sa ms) (h2 : DenS X cl sb ms2) : Den1 X cl (.If c sa sb pos) (ifM mc ms ms2) := fun s f s' h σ g ι Fr H r E q => by
  obtain ⟨t, s1, k1, e1_⟩ := bd_some h
  refine ⟨_, ps_if WT.pt WS.ps WS.ps, WT.mono (hc s t s1 k1 σ g ι Fr H r) fun u H1 ⟨eu, g1, i1, l1, r1⟩ => ?_⟩
  subst eu
  cases u with
  | true =>
    rw [if_pos rfl] at e1_ ⊢
    exact h1 s1 f s' e1_ σ g1 i1 Fr H1 r1 E (q.lt l1)
  | false =>
    rw [if_neg Bool.false_ne_true] at e1_ ⊢
    exact h2 s1 f s' e1_ σ g1 i1 Fr H1 r1 E (q.lt l1)
def forGo (ts : D → M Unit) (mb : M Fl) : List D → M Fl
  | [] => ret .nx
  | d :: r => bd (ts d) fun _ => bd mb fun f => match f with
    | .nx => forGo ts mb r
    | .ct => forGo ts mb r
    | .bk => ret .nx
    | .rt x => ret (.rt x)
def forM (ts : D → M Unit) (mi : M (List D)) (mb : M Fl) : M Fl := bd mi fun ds => forGo ts mb ds
theorem den_for {o : List Nat} {tgg : TG} {ts : D → M Unit} (hp : PassesOwn (model X.prog X.w) X.A X.env X.xe) (hc : X.calm = true) (htg : TgD X cl tg o tgg ts) (hi : DenI X cl tg iter mi) (hb : DenS X cl sa mb)
    (hs : ∀ x, foldedSetIterable iter X.env x = pure x := by intro _; rfl) : Den1 X cl (.For tg iter sa [] pos) (forM ts mi mb) := fun s f s' h σ g ι Fr H r E q => by
  obtain ⟨ds, s1, k1, e1_⟩ := bd_some h
  refine ⟨_, ps_for hp hc WI.pi htg.1 WS.ps hs, hi s ds s1 k1 σ g ι Fr H r _ fun J g1 ι1 H1 l1 r1 w => ?_⟩
  refine for_it w (fun i σ' H' => ∃ g' ι' si, Lt g1 ι1 g' ι' ∧ Rel X.K cl g' ι' σ' si Fr H' ∧ forGo ts mb (ds.drop i) si = some (f, s')) ⟨g1, ι1, s1, .refl, r1, e1_⟩ (fun i σ' H' _ ⟨g', ι', si, lt, r, _⟩ => lt.e.trans r.ex) (fun i v σ' H' H2 hi ⟨g', ι', si, lt, r, hgo⟩ yy => ?_) fun σ' H' ⟨g', ι', si, lt, r, hgo⟩ => ?_
  · obtain ⟨d, g2, hdi, l2, r2, z2⟩ := yy.rel lt r
    have hdr : ds.drop i = d :: ds.drop (i + 1) := by
      have e := List.getElem?_eq_some_iff.mp hdi
      rw [List.drop_eq_getElem_cons e.1, e.2]
    rw [hdr] at hgo
    unfold forGo at hgo
    obtain ⟨_, sa', k2, hgo⟩ := bd_some hgo
    obtain ⟨f2, sb', k3, hgo⟩ := bd_some hgo
    obtain ⟨σ2, r3, q3, _⟩ := htg.2 d _ _ k2 _ _ _ _ _ _ r2 z2
    refine q3 _ (hb sa' f2 sb' k3 σ2 g2 ι' Fr H2 r3 _ ?_)
    cases f2 with
    | nx => exact fun σ3 g3 i3 H3 l3 r4 => ⟨g3, i3, sb', (lt.trans l2).trans l3, r4, hgo⟩
    | ct => exact fun σ3 g3 i3 H3 l3 r4 => ⟨g3, i3, sb', (lt.trans l2).trans l3, r4, hgo⟩
    | bk =>
      cases hgo
      exact fun σ3 g3 i3 H3 l3 r4 => q σ3 g3 i3 H3 (((l1.trans lt).trans l2).trans l3) r4
    | rt x =>
      cases hgo
      exact fun v σ3 g3 i3 H3 l3 r4 z => q v σ3 g3 i3 H3 (((l1.trans lt).trans l2).trans l3) r4 z
  · rw [List.drop_length] at hgo
    unfold forGo at hgo
    cases hgo
    exact q σ' g' ι' H' (l1.trans lt) r
def whGo (mc : M Bool) (mb : M Fl) : Nat → M Fl
  | 0 => fl
  | n + 1 => bd mc fun t => if t then bd mb fun f => (match f with
    | .nx => whGo mc mb n
    | .ct => whGo mc mb n
    | .bk => ret .nx
    | .rt x => ret (.rt x)) else ret .nx
theorem den_while {n : Nat} (hp : PassesOwn (model X.prog X.w) X.A X.env X.xe) (hc : DenT X cl c mc) (hb : DenS X cl sa mb) : Den1 X cl (.While c sa [] pos) (whGo mc mb n) := fun s f s' h σ g ι Fr H r E q => by
  refine ⟨_, ps_while hp WT.pt WS.ps, fun k σ' H' => ∃ g' ι' si, Lt g ι g' ι' ∧ Rel X.K cl g' ι' σ' si Fr H' ∧ whGo mc mb k si = some (f, s'), ⟨n, g, ι, s, .refl, r, h⟩, fun k σ' H' ⟨g', ι', si, lt, r', hgo⟩ => ?_⟩
  cases k with
  | zero => cases hgo
  | succ k =>
    unfold whGo at hgo
    obtain ⟨t, s1, k1, hgo⟩ := bd_some hgo
    refine WT.mono (hc si t s1 k1 σ' g' ι' Fr H' r') fun u H1 ⟨eu, g1, i1, l1, r1⟩ => ?_
    subst eu
    cases u with
    | false =>
      rw [if_neg Bool.false_ne_true] at hgo
      cases hgo
      exact iteF (q σ' g1 i1 H1 (lt.trans l1) r1)
    | true =>
      rw [if_pos rfl] at hgo
      obtain ⟨f2, s2, k2, hgo⟩ := bd_some hgo
      refine iteT ⟨fun σ3 H3 => ∃ g3 ι3 s3, Lt g ι g3 ι3 ∧ Rel X.K cl g3 ι3 σ3 s3 Fr H3 ∧ whGo mc mb k s3 = some (f, s'), fun σ3 H3 w => ⟨k, Nat.lt_succ_self k, w⟩, hb s1 f2 s2 k2 σ' g1 i1 Fr H1 r1 _ ?_⟩
      cases f2 with
      | nx => exact fun σ3 g3 i3 H3 l3 r4 => ⟨g3, i3, s2, (lt.trans l1).trans l3, r4, hgo⟩
      | ct => exact fun σ3 g3 i3 H3 l3 r4 => ⟨g3, i3, s2, (lt.trans l1).trans l3, r4, hgo⟩
      | bk =>
        cases hgo
        exact fun σ3 g3 i3 H3 l3 r4 => q σ3 g3 i3 H3 ((lt.trans l1).trans l3) r4
      | rt x =>
        cases hgo
        exact fun v σ3 g3 i3 H3 l3 r4 z => q v σ3 g3 i3 H3 ((lt.trans l1).trans l3) r4 z
end
end Sd

namespace Sd
open PySem PySem.Spec PyProof.Rows L2
open Evl (Ex)
/-! defs that are called where nothing is being shown: room, and no guard -/
structure RoomG (k : Nat) (A : Around) : Prop where
  r : Room k A
  g : A.guards = some []
theorem RoomG.mono {j k : Nat} {A : Around} (h : RoomG k A) (e : j ≤ k) : RoomG j A := ⟨h.r.mono e, h.g⟩
theorem RoomG.deeper {k : Nat} {A : Around} (h : RoomG (k + 1) A) (env : Env) : RoomG k (A.deeper env) := ⟨h.r.deeper env, h.g⟩
theorem RoomG.make {k : Nat} {A : Around} (h : RoomG (k + 1) A) (C : Addr) (us : List Value) (kw : List (Str × Value)) : RoomG k (A.under (.builtin "type.__call__" ⟨.ref C :: us, kw⟩)) := ⟨h.r.make C us kw, by
  have e : (A.under (.builtin "type.__call__" ⟨.ref C :: us, kw⟩)).guards = pushGuards (Code.builtin "type.__call__" ⟨.ref C :: us, kw⟩).guards A.guards := rfl
  have e2 : (Code.builtin "type.__call__" ⟨.ref C :: us, kw⟩).guards = [] := by
    have e3 : (guardIds.contains "type.__call__") = false := by decide
    show (if guardIds.contains "type.__call__" = true then _ else []) = []
    rw [e3]
    rfl
  rw [e, e2]
  exact h.g⟩
theorem RoomG.u {k : Nat} {A : Around} (h : RoomG k A) : A.units + 64 < cLine := h.r.units
theorem RoomG.u1 {k : Nat} {A : Around} (h : RoomG k A) : A.units + 65 < cLine := by
  have := h.r.un
  omega
theorem RoomG.u0 {k : Nat} {A : Around} (h : RoomG k A) : A.units < cLine := by
  have := h.u1
  omega
structure FnG (P : Program) (w : World) (K : PySem.W.Frag) (mg : Str → Option Value) (base : Heap) (CX : CXT) (k : Nat) (fa : Addr) (fd : FuncData) (ps : List Str) (sp : Sp) : Prop where
  ln : ∀ vs H Q E, sp vs H Q E → vs.length = ps.length
  go : ∀ (A : Around) (o : List Env) (s : Shared) (H : Hp) (args : Args) (us : List Value) (vs : List V) (Q : VK) (E : XK), RoomG k A → Env0 P w K mg base A o s H → BindsTo s fd args (ps.zip us) → Vals vs us → sp vs H Q E → codeAny (model P w) A (.call (.ref fa) args) (CR CX o P w H s Q E) s
theorem FnG.mono {P : Program} {w : World} {K : PySem.W.Frag} {mg : Str → Option Value} {base : Heap} {CX : CXT} {j k : Nat} {fa : Addr} {fd : FuncData} {ps : List Str} {sp : Sp} (F : FnG P w K mg base CX j fa fd ps sp) (h : j ≤ k) : FnG P w K mg base CX k fa fd ps sp :=
  ⟨F.ln, fun A o s H args us vs Q E hr => F.go A o s H args us vs Q E (hr.mono h)⟩
/-- a def by its body -/
theorem fng_of {CX : CXT} {P : Program} {w : World} {K : PySem.W.Frag} {mg : Str → Option Value} {base : Heap} {k : Nat} {fa : Addr} {x qual : Str} {t : Stmt} {fd : FuncData} {N ps : List Str} {sp : Sp} (F : Fun K x qual t fa fd) (sc : FnScope N ps (defScope t)) (ln : ∀ vs H Q E, sp vs H Q E → vs.length = ps.length)
    (bdy : ∀ (cdv : Value) (A : Around) (o : List Env) (s : Shared) (H : Hp) (vs : List V) (Q : VK) (E : XK), RoomG k (A.deeper (envOfC qual (defScope t) s.heap.objs.size fa cdv)) → sp vs H Q E →
      WS (cxOf CX P w K mg base N qual (defScope t) fa cdv A o s H E) (defBody t) { nx := fun _ H' => Q .non H', rt := Q } (start N vs) H) : FnG P w K mg base CX (k + 1) fa fd ps sp := by
  obtain ⟨oc, od, kV, doc, pm, an, cdv, ct, osl, rfl, lk, hcd⟩ := F.ex
  refine ⟨ln, fun A o s H args us vs Q E hr e0 hb hv hsp => ?_⟩
  have kin : K.In s.heap := e0.mod.kin.keeps fun q u z => (e0.bs q u z).1
  have nl : s.heap.NoLimit := e0.mod.nolimit.keeps fun q u z => (e0.bs q u z).1
  refine codeAny_call_function hr.r.depth (kin _ _ lk) rfl sc.co sc.gen rfl (PySem.W.codeRec_of kin hcd) (hb _ _ _ _ ?_)
  refine wpAny_newFunctionEnv_cells sc.kind (fun ⟨n, u⟩ hy => ?_) fun env he s1 ic => ?_
  · rcases sc.par n (List.of_mem_zip hy).1 with z | z
    · exact Or.inl z
    · exact Or.inr ⟨z, PySem.W.cellsFrom_some _ _ _ (Or.inl z)⟩
  · subst he
    refine ⟨nl.keeps ic.toInCall.keep, codeAny_func ?_⟩
    have I := inv_start (CX := CX) (E := E) sc hr.r.hd e0 (ln _ _ _ _ hsp) hv ic
    refine wpAny_mono ((bdy cdv A o s H vs Q E (hr.deeper _) hsp).run [] s1 I) (fun fl s' hs => ?_) fun _ _ z => z
    cases fl with
    | ret u =>
      obtain ⟨v, σ', H', J, rv, q⟩ := hs
      exact ⟨v, H', J.os, J.bare, J.base, J.hok, rv, q⟩
    | next =>
      obtain ⟨σ', H', J, q⟩ := hs
      exact ⟨V.non, H', J.os, J.bare, J.base, J.hok, rfl, q⟩
    | brk =>
      obtain ⟨_, _, _, q⟩ := hs
      exact q.elim
    | cont =>
      obtain ⟨_, _, _, q⟩ := hs
      exact q.elim
section
variable {X : Cx} {CX : CXT} {k : Nat} {fa : Addr} {fd : FuncData} {ps : List Str} {sp : Sp} {E : XK}
theorem go_fn {pins : List (Addr × Obj)} {σ : L2.St} {H : Hp} {s : Shared} {Q : VK} {us : List Value} {vs : List V} (F : FnG X.prog X.w X.K X.mg X.base CX k fa fd ps sp) (hr : RoomG k X.A) (hb : Binds X.K fd ps []) (hx : Passes CX X E) (I : Inv X pins σ H s) (r : Vals vs us) (h : sp vs H Q E) :
    wpAny (model X.prog X.w) X.A (call (.ref fa) us) (EP X pins σ Q) X.xe s := by
  have hl : us.length = ps.length := by rw [← r.length]; exact F.ln _ _ _ _ h
  have b := hb s us I.kIn (by rw [List.append_nil]; exact hl)
  rw [List.append_nil] at b
  refine wpAny_call (codeAny_mono (F.go X.A X.stack s H ⟨us, []⟩ us vs Q E hr I.env0 b r h) fun res s' hq => ?_)
  cases res with
  | error e => exact hx pins σ H s e s' I hq
  | ok fl =>
    cases fl with
    | ret u => exact I.after hq
    | _ => exact hq.elim
end
/-! a def's meaning -/
abbrev Mn := List D → List SO → Option (D × List SO)
def spF (K : PySem.W.Frag) (cl : Nat → Addr) (f : Mn) : Sp := fun vs H Q _ => ∃ g ι st Fr ds d st', (∃ Rs, Sh g (Rs ++ Fr) H ∧ TR K cl ι g ι st Rs) ∧ DRs K cl ι g vs ds ∧ f ds st = some (d, st') ∧
  ∀ v g' ι' H', Lt g ι g' ι' → (∃ Rs', Sh g' (Rs' ++ Fr) H' ∧ TR K cl ι' g' ι' st' Rs') → DR K cl ι' g' v d → Q v H'
def entry (n : Nat) (ds : List D) : List SV := ds.map SV.dat ++ List.replicate (n - ds.length) SV.un
def runD (np n : Nat) (mb : M Fl) : Mn := fun ds st => if ds.length = np then (match mb ⟨entry n ds, st⟩ with
  | some (.rt d, s') => some (d, s'.st)
  | some (.nx, s') => some (.non, s'.st)
  | _ => none) else none
structure At (K : PySem.W.Frag) (mg : Str → Option Value) (x : Str) (t : Stmt) : Prop where
  ex : ∃ f fd, Fun K x x t f fd ∧ mg x = some (.ref f)
structure FD (P : Program) (w : World) (K : PySem.W.Frag) (mg : Str → Option Value) (base : Heap) (cl : Nat → Addr) (k : Nat) (x : Str) (f : Mn) : Prop where
  ex : ∃ fa fd ps, FnG P w K mg base CX0 k fa fd ps (spF K cl f) ∧ mg x = some (.ref fa) ∧ PySem.W.keepIn K (.ref fa) = true ∧ Binds K fd ps []
abbrev Cf (P : Program) (w : World) (K : PySem.W.Frag) (mg : Str → Option Value) (base : Heap) (N : List Str) (x : Str) (t : Stmt) (f : Addr) (cdv : Value) (A : Around) (o : List Env) (s : Shared) (H : Hp) (E : XK) : Cx :=
  (cxOf CX0 P w K mg base N x (defScope t) f cdv A o s H E).nox
theorem WS.nox {X : Cx} {b : List Stmt} {E : Ends} {σ : L2.St} {H : Hp} (h : WS X.nox b E σ H) : WS X b E σ H := .of (PSs.nox (X := X) (WS.ps (X := X.nox))) h
theorem mr_start {K : PySem.W.Frag} {cl : Nat → Addr} {ι : List Addr} {g : Hp} : ∀ {vs : List V} {ds : List D} (n : Nat), DRs K cl ι g vs ds → MR K cl ι g (vs.map some ++ List.replicate n none) (ds.map SV.dat ++ List.replicate n SV.un) []
  | _, _, n, .nil => by
    show MR K cl ι g (List.replicate n none) (List.replicate n SV.un) []
    induction n with
    | zero => exact .nil
    | succ n ih => exact .un ih
  | _, _, n, .cons h r => .dat h (mr_start n r)
section
variable {P : Program} {w : World} {K : PySem.W.Frag} {mg : Str → Option Value} {base : Heap} {cl : Nat → Addr}
theorem runD_some {np n : Nat} {mb : M Fl} {ds : List D} {st st' : List SO} {d : D} (h : runD np n mb ds st = some (d, st')) : ds.length = np ∧ ∃ f s', mb ⟨entry n ds, st⟩ = some (f, s') ∧ s'.st = st' ∧ ((f = .rt d) ∨ (f = .nx ∧ d = .non)) := by
  unfold runD at h
  split at h
  · rename_i hl
    refine ⟨hl, ?_⟩
    split at h
    · rename_i d' s' e
      cases h
      exact ⟨_, _, e, rfl, .inl rfl⟩
    · rename_i s' e
      cases h
      exact ⟨_, _, e, rfl, .inr ⟨rfl, rfl⟩⟩
    · cases h
  · cases h
/-- the body at its entry -/
theorem run_body {X : Cx} {mb : M Fl} {t : List Stmt} {np n : Nat} {vs : List V} {H : Hp} {Q : VK} {E : XK} {f : Mn} (hf : f = runD np n mb) (hn : X.N.length = n) (hb : DenS X cl t mb) (h : spF X.K cl f vs H Q E) : WS X t { nx := fun _ H' => Q .non H', rt := Q } (start X.N vs) H := by
  subst hf
  obtain ⟨g, ι, st, Fr, ds, d, st', ⟨Rs, sh, tr⟩, z, hm, q⟩ := h
  obtain ⟨hl, f, s', e, es, hf⟩ := runD_some hm
  have r : Rel X.K cl g ι (start X.N vs) ⟨entry n ds, st⟩ Fr H := by
    refine ⟨[], Rs, sh, ?_, tr⟩
    unfold L2.start entry
    rw [hn, z.length]
    exact mr_start _ z
  refine hb _ f s' e _ g ι Fr H r _ ?_
  have fin : ∀ {v : V} {σ' : L2.St} {g' : Hp} {ι' : List Addr} {H' : Hp}, Lt g ι g' ι' → Rel X.K cl g' ι' σ' s' Fr H' → DR X.K cl ι' g' v d → Q v H' := fun {v σ' g' ι' H'} l r' z' => by
    obtain ⟨Rm, Rs', sh', _, tr'⟩ := r'
    rw [es] at tr'
    exact q v g' ι' H' l ⟨Rs', sh'.sub (List.sublist_append_right ..), tr'⟩ z'
  rcases hf with rfl | ⟨rfl, rfl⟩
  · exact fun v σ' g' ι' H' l r' z' => fin l r' z'
  · exact fun σ' g' ι' H' l r' => fin l r' .non
theorem FD.mk' {x : Str} {t : Stmt} {N ps : List Str} {k np n : Nat} {mb : M Fl} (a : At K mg x t) (sc : FnScope N ps (defScope t))
    (hb : ∀ (kV doc pm : Value) (an : Option Addr) (cdv ct : Value) (us : List Value), us.length = ps.length → bindArgs (PySem.W.fnOf x x (defArgs t) (defBody t) (defScope t) .none kV doc pm an cdv ct) ⟨us, []⟩ = pure (ps.zip us))
    (bdy : ∀ (f : Addr) (cdv : Value) (A : Around) (o : List Env) (s : Shared) (H : Hp) (E : XK), RoomG k (A.deeper (envOfC x (defScope t) s.heap.objs.size f cdv)) → DenS (Cf P w K mg base N x t f cdv A o s H E) cl (defBody t) mb)
    (hp : ps.length = np := by rfl) (hn : N.length = n := by rfl) : FD P w K mg base cl (k + 1) x (runD np n mb) := by
  obtain ⟨f, fd, Fu, hm⟩ := a.ex
  refine ⟨f, fd, ps, fng_of Fu sc (fun vs H Q E h => ?_) (fun cdv A o s H vs Q E hr h => ?_), hm, Fu.kp, Fu.binds hb⟩
  · obtain ⟨g, ι, st, Fr, ds, d, st', _, z, hm, _⟩ := h
    rw [z.length, (runD_some hm).1, hp]
  · exact WS.nox (run_body (X := Cf P w K mg base N x t f cdv A o s H E) rfl hn (bdy f cdv A o s H E hr) h)
theorem FD.mono {j k : Nat} {x : Str} {f : Mn} (G : FD P w K mg base cl j x f) (h : j ≤ k) : FD P w K mg base cl k x f := by
  obtain ⟨fa, fd, ps, G, r⟩ := G.ex
  exact ⟨fa, fd, ps, G.mono h, r⟩
end
section
variable {X : Cx} {cl : Nat → Addr} {a b c e o : Expr} {es : List Expr} {pos p apos : Pos} {m mo : M D} {ma : M (List D)}
def callM (f : Mn) (ds : List D) : M D := fun s => match f ds s.st with
  | some (d, st') => some (d, ⟨s.r, st'⟩)
  | none => none
theorem call_sp {f : Mn} {ds : List D} {s s' : S} {d : D} (h : callM f ds s = some (d, s')) {σ : L2.St} {g H : Hp} {ι : List Addr} {Fr : Rl} {vs : List V} (r : Rel X.K cl g ι σ s Fr H) (z : DRs X.K cl ι g vs ds) {Q : VK} (q : ∀ u H', PostE X cl g ι σ s' Fr d u H' → Q u H') {E : XK} : spF X.K cl f vs H Q E := by
  unfold callM at h
  split at h
  · rename_i d' st' e
    cases h
    obtain ⟨Rm, Rs, sh, mr, tr⟩ := r
    have hp : ∀ Rs : Rl, (Rm ++ (Rs ++ Fr)).Perm (Rs ++ (Rm ++ Fr)) := fun Rs => by
      rw [← List.append_assoc, ← List.append_assoc]
      exact List.perm_append_comm.append_right Fr
    exact ⟨g, ι, s.st, Rm ++ Fr, ds, d, st', ⟨Rs, sh.perm (hp Rs), tr⟩, z, e, fun v g' ι' H' l ⟨Rs', sh', tr'⟩ z' => q v H' ⟨g', ι', l, ⟨Rm, Rs', sh'.perm (hp Rs').symm, mr.up l, tr'⟩, z'⟩⟩
  · cases h
theorem den_call {k : Nat} {x : Str} {f : Mn} (G : FD X.prog X.w X.K X.mg X.base cl k x f) (hr : RoomG k X.A) (hg : Gl X x) (ha : DenA X cl (e :: es) ma)
    (hdb : (x == ("__debug__" : Str)) = false := by decide) (he : starEach (e :: es) X.env = (false, eval e X.env) :: starEach es X.env := by rfl) (hpl : (backTo pos (starEach es X.env)).any (·.1) = false := by rfl) :
    Den X cl (.Call (.Name x p) (e :: es) [] pos) (bd ma fun ds => callM f ds) := fun s v s' h σ g ι Fr H r => by
  obtain ⟨ds, s1, h1, e1_⟩ := bd_some h
  obtain ⟨fa, fd, ps, G, hm, hk, hb⟩ := G.ex
  have pe : PE X (.Call (.Name x p) (e :: es) [] pos) (fun σ H Q => WA X (e :: es) σ H fun vs H1 => spF X.K cl f vs H1 Q E0) := by
    refine ⟨fun pins sh σ H Q I hq => wpAny_Call_Name_kw (ld_glob I hg hm ?_ hdb)⟩
    refine PySem.W.callWith_K (h₀ := X.base) I.ok.mod.kin hk (thn (hq.run pos pins sh I) fun us s1 ⟨vs, H1, I1, rv, q⟩ => ⟨I1.kIn, ?_⟩) he hpl
    exact go_fn G hr hb pass0 I1 rv q
  exact .of pe (WA.mono (ha s ds s1 h1 σ g ι Fr H r) fun us H1 ⟨g1, i1, l1, r1, z1⟩ => call_sp e1_ r1 z1 fun _ _ q => q.lt l1)
/-! objects -/
/-- what class an object is of; no own name hides this one -/
def insC (c : Nat) (x : Str) (d : D) : M Unit := fun s => match d with
  | .ins c' ks _ => if c' = c ∧ ks.contains x = false then some ((), s) else none
  | .ref k => (match s.st[k]? with
    | some (.ins c' ks _) => if c' = c ∧ ks.contains x = false then some ((), s) else none
    | _ => none)
  | _ => none
theorem lookup_none {α : Type} {x : Str} : ∀ {fs : List (Str × α)}, (fs.map (·.1)).contains x = false → fs.lookup x = none
  | [], _ => rfl
  | (k, v) :: r, h => by
    rw [List.map_cons, List.contains_cons, Bool.or_eq_false_iff] at h
    rw [List.lookup_cons, h.1]
    exact lookup_none h.2
theorem insC_some {c : Nat} {x : Str} {d : D} {s s' : S} {u : Unit} (h : insC c x d s = some (u, s')) : s' = s ∧ ∀ {K : PySem.W.Frag} {g H : Hp} {ι : List Addr} {σ : L2.St} {Fr : Rl} {v : V}, Rel K cl g ι σ s Fr H → DR K cl ι g v d → ∃ a dx fs, v = .ref a ∧ H a = some (.ins (cl c) dx fs) ∧ fs.lookup x = none := by
  unfold insC at h
  split at h
  · split at h
    · rename_i hc
      cases h
      refine ⟨rfl, fun rl z => ?_⟩
      cases z with
      | @ins a dx c0 fs ds hg rr =>
        obtain ⟨rfl, hk⟩ := hc
        exact ⟨a, dx, fs, rfl, rl.ex _ _ hg, lookup_none hk⟩
    · cases h
  · split at h
    · split at h
      · rename_i k c' ks l e hc
        cases h
        refine ⟨rfl, fun rl z => ?_⟩
        cases z with
        | ref hk =>
          obtain ⟨Rm, Rs, sh, mr, tr⟩ := rl
          obtain ⟨a, dx, fs, R', h1, h2, h2', h3, _⟩ := tr.insAt e
          rw [hk] at h1
          cases h1
          obtain ⟨rfl, hk⟩ := hc
          subst h2'
          have sh2 := sh.perm ((h3.append_right _).append_left Rm)
          exact ⟨_, dx, fs, rfl, sh2.at_ _ (List.mem_append_right _ (List.mem_cons_self ..)), lookup_none hk⟩
      · cases h
    · cases h
  · cases h
/-- a method's meaning -/
structure FM (P : Program) (w : World) (K : PySem.W.Frag) (mg : Str → Option Value) (base : Heap) (cl : Nat → Addr) (k : Nat) (c : Nat) (x : Str) (f : Mn) : Prop where
  ex : ∃ fa fd ps, FnG P w K mg base CX0 k fa fd ps (spF K cl f) ∧ Meth K (cl c) x fa ∧ Binds K fd ps []
theorem den_meth {k c : Nat} {x : Str} {f : Mn} {pl : Sem Bool} (G : FM X.prog X.w X.K X.mg X.base cl k c x f) (cc : Cls X.K (cl c)) (hr : RoomG k X.A) (ho : Den X cl o mo) (ha : DenA X cl (e :: es) ma)
    (hst : starEach (e :: es) X.env = (false, eval e X.env) :: starEach es X.env := by rfl) (hpl : (backTo pos (starEach es X.env)).any (·.1) = false := by rfl)
    (ht : eval (.Call (.Attribute o x apos) (e :: es) [] pos) X.env = (do
      let ov ← eval o X.env
      standAt apos.atName
      let (f, first) ← holding [ov] (getMethod ov x pl)
      callWith pos f first (backTo pos (starEach (e :: es) X.env)) (backToKw pos (keywordEach [] X.env))) := by rfl) :
    Den X cl (.Call (.Attribute o x apos) (e :: es) [] pos) (bd mo fun d => bd (insC c x d) fun _ => bd ma fun ds => callM f (d :: ds)) := fun s v s' h σ g ι Fr H r => by
  obtain ⟨d, s1, h1, e1_⟩ := bd_some h
  obtain ⟨_, s2, h2, e2_⟩ := bd_some e1_
  obtain ⟨ds, s3, h3, e3_⟩ := bd_some e2_
  obtain ⟨rfl, hi⟩ := insC_some (cl := cl) h2
  obtain ⟨fa, fd, ps, G, hm, hb⟩ := G.ex
  have pe : PE X (.Call (.Attribute o x apos) (e :: es) [] pos) (fun σ H Q => WE X o σ H fun u H1 => ∃ ad dx fs, u = .ref ad ∧ H1 ad = some (.ins (cl c) dx fs) ∧ fs.lookup x = none ∧ WA X (e :: es) σ H1 fun vs H2 => spF X.K cl f (u :: vs) H2 Q E0) := by
    refine ⟨fun pins sh σ H Q I hq => PySem.W.methodCall_KW (pl := pl) (thn (hq.run pins sh I) fun ov s1 ⟨u, H1, I1, ru, ad, dx, fs, eu, ea, l, q⟩ => ?_) ht⟩
    subst eu
    obtain rfl : ov = Value.ref ad := ru
    refine getmeth_ok I1 ea cc hm l ?_
    refine PySem.W.callWith_K (first := [.ref ad]) (h₀ := X.base) I.ok.mod.kin hm.kp (thn (q.run pos pins s1 I1) fun us s2 ⟨vs, H2, I2, rv, q2⟩ => ⟨I2.kIn, ?_⟩) hst hpl
    exact go_fn (us := .ref ad :: us) (vs := .ref ad :: vs) G hr hb pass0 I2 (.cons rfl rv) q2
  refine .of pe (WE.mono (ho s d _ h1 σ g ι Fr H r) fun u H1 ⟨g1, i1, l1, r1, z1⟩ => ?_)
  obtain ⟨ad, dx, fs, rfl, hH, hl⟩ := hi r1 z1
  exact ⟨ad, dx, fs, rfl, hH, hl, WA.mono (ha _ ds s3 h3 σ g1 i1 Fr H1 r1) fun us H2 ⟨g2, i2, l2, r2, z2⟩ => call_sp e3_ r2 (.cons (z1.up l2) z2) fun _ _ q => q.lt (l1.trans l2)⟩
theorem den_meth0 {k c : Nat} {x : Str} {f : Mn} {pl : Sem Bool} (G : FM X.prog X.w X.K X.mg X.base cl k c x f) (cc : Cls X.K (cl c)) (hr : RoomG k X.A) (ho : Den X cl o mo)
    (ht : eval (.Call (.Attribute o x apos) [] [] pos) X.env = (do
      let ov ← eval o X.env
      standAt apos.atName
      let (f, first) ← holding [ov] (getMethod ov x pl)
      callWith pos f first (backTo pos (starEach [] X.env)) (backToKw pos (keywordEach [] X.env))) := by rfl) :
    Den X cl (.Call (.Attribute o x apos) [] [] pos) (bd mo fun d => bd (insC c x d) fun _ => callM f [d]) := fun s v s' h σ g ι Fr H r => by
  obtain ⟨d, s1, h1, e1_⟩ := bd_some h
  obtain ⟨_, s2, h2, e2_⟩ := bd_some e1_
  obtain ⟨rfl, hi⟩ := insC_some (cl := cl) h2
  obtain ⟨fa, fd, ps, G, hm, hb⟩ := G.ex
  have pe : PE X (.Call (.Attribute o x apos) [] [] pos) (fun σ H Q => WE X o σ H fun u H1 => ∃ ad dx fs, u = .ref ad ∧ H1 ad = some (.ins (cl c) dx fs) ∧ fs.lookup x = none ∧ spF X.K cl f [u] H1 Q E0) := by
    refine ⟨fun pins sh σ H Q I hq => PySem.W.methodCall_KW (pl := pl) (thn (hq.run pins sh I) fun ov s1 ⟨u, H1, I1, ru, ad, dx, fs, eu, ea, l, q⟩ => ?_) ht⟩
    subst eu
    obtain rfl : ov = Value.ref ad := ru
    refine getmeth_ok I1 ea cc hm l ?_
    exact PySem.W.callWith_K0 (first := [.ref ad]) I1.kIn hm.kp (go_fn (us := [.ref ad]) (vs := [.ref ad]) G hr hb pass0 I1 (.cons rfl .nil) q)
  refine .of pe (WE.mono (ho s d _ h1 σ g ι Fr H r) fun u H1 ⟨g1, i1, l1, r1, z1⟩ => ?_)
  obtain ⟨ad, dx, fs, rfl, hH, hl⟩ := hi r1 z1
  exact ⟨ad, dx, fs, rfl, hH, hl, call_sp e2_ r1 (.cons z1 .nil) fun _ _ q => q.lt l1⟩
end
end Sd

namespace Sd
open PySem PySem.Spec PyProof.Rows L2
open Evl (Ex)
/-! lists that may change: a slot's own, or one of the store -/
def mutS (n : Nat) (s : S) : Option (List D) := match s.r[n]? with
  | some (.chg l) => some l
  | some (.dat (.ref k)) => (match s.st[k]? with
    | some (.lst l) => some l
    | _ => none)
  | _ => none
def putS (n : Nat) (l : List D) (s : S) : S := match s.r[n]? with
  | some (.chg _) => { s with r := s.r.set n (.chg l) }
  | some (.dat (.ref k)) => { s with st := s.st.set k (.lst l) }
  | _ => s
theorem mutS_some {cl : Nat → Addr} {n : Nat} {s : S} {l : List D} (h : mutS n s = some l) {K : PySem.W.Frag} {g H : Hp} {ι : List Addr} {σ : L2.St} {Fr : Rl} (r : Rel K cl g ι σ s Fr H) :
    ∃ a vs, σ[n]? = some (some (.ref a)) ∧ H a = some (.lst vs) ∧ DRs K cl ι g vs l ∧ ∀ vs2 l2, DRs K cl ι g vs2 l2 → Rel K cl g ι σ (putS n l2 s) Fr (upd H a (.lst vs2)) := by
  unfold mutS at h
  obtain ⟨Rm, Rs, sh, mr, tr⟩ := r
  split at h
  · rename_i l0 e
    cases h
    obtain ⟨a, vs, R', h1, h2, h3, h4, _⟩ := mr.mutAt e
    have sh2 := sh.perm (h3.append_right _)
    refine ⟨a, vs, h1, sh2.head, h2, fun vs2 l2 z => ?_⟩
    obtain ⟨R2, p, m⟩ := h4 l2 vs2 g ι .refl z
    unfold putS
    rw [e]
    exact ⟨R2, Rs, (sh2.put (o' := .lst vs2)).perm (p.append_right _).symm, m, tr⟩
  · rename_i k e
    split at h
    · rename_i l0 e2
      cases h
      obtain ⟨u, hu, z⟩ := mr.get e
      cases z with
      | @ref a _ hk =>
        obtain ⟨a', vs, R', h1, h2, h3, h4⟩ := tr.lstAt e2
        rw [hk] at h1
        cases h1
        have hp : ∀ o : HO, (Rm ++ (((a, o) :: R') ++ Fr)).Perm ((a, o) :: (Rm ++ (R' ++ Fr))) := fun o => List.perm_middle
        have sh2 := (sh.perm ((h3.append_right Fr).append_left Rm)).perm (hp _)
        refine ⟨a, vs, hu, sh2.head, h2, fun vs2 l2 z => ?_⟩
        obtain ⟨R2, p, m⟩ := h4 l2 vs2 g ι .refl z
        unfold putS
        rw [e]
        exact ⟨Rm, R2, ((sh2.put (o' := .lst vs2)).perm (hp _).symm).perm ((p.append_right Fr).append_left Rm).symm, mr, m⟩
    · cases h
  · cases h
section
variable {X : Cx} {cl : Nat → Addr} {a b c e o v : Expr} {es : List Expr} {pos p pa p' apos : Pos} {m mo m1 m2 : M D} {ma : M (List D)}
/-- x.append(e) -/
def appM (n : Nat) (m : M D) : M Fl := fun s => match mutS n s with
  | none => none
  | some _ => (match m s with
    | none => none
    | some (d, s1) => (match mutS n s1 with
      | none => none
      | some l => if l.length < 100000 then some (.nx, putS n (l ++ [d]) s1) else none))
theorem den_app {n : Nat} {x : Str} {px : Pos} (hN : X.N[n]? = some x) (hv : Vis X.env.scope x) (he : Den X cl e m) (hd : (x == ("__debug__" : Str)) = false := by decide) (hcd : (x == ("__classdict__" : Str)) = false := by decide)
    (hbase : attributeBase (.Name x px) "append" X.env (eval (.Name x px) X.env) = eval (.Name x px) X.env := by rfl)
    (hfew : ((backTo p (starEach [e] X.env)).all (fun x => !x.1) && (backToKw p (keywordEach [] X.env)).all (fun x => x.1.isSome) && decide ([e].length + ([] : List Keyword).length + (if ([] : List Keyword).isEmpty then 0 else 1) < 30)) = true := by rfl)
    (hline : (pa.endLine == p.line) = true := by rfl) (hs : starEach [e] X.env = (false, eval e X.env) :: starEach [] X.env := by rfl) (hplain : (backTo p (starEach [] X.env)).any (·.1) = false := by rfl)
    (hsw : swapsWith (.Call (.Attribute (.Name x px) "append" pa) [e] [] p) none pos.line X.env = pure false := by rfl) : Den1 X cl (.Expr (.Call (.Attribute (.Name x px) "append" pa) [e] [] p) pos) (appM n m) := fun s f s' h σ g ι Fr H r E q => by
  unfold appM at h
  split at h
  · cases h
  · rename_i l0 e0
    split at h
    · cases h
    · rename_i d s1 k1
      split at h
      · cases h
      · rename_i l1 e1
        split at h
        · rename_i hl
          cases h
          obtain ⟨ad, vs, hσ, hH, _, _⟩ := mutS_some e0 r
          refine ⟨_, ps_expr (pe_bm PySem.F.plainAttrs_list PySem.F.slot_list_append PySem.F.type_list_append mt_append (pe_var hN hv hd hcd) (pa_cons WE.pe pa_nil hs) hbase hfew hline hs hplain) hsw, _, hσ, Or.inl ⟨rfl, vs, Evl.sq_of hH⟩, WE.mono (he s d s1 k1 σ g ι Fr H r) fun u H1 ⟨g1, i1, lt1, r1, z1⟩ => ?_⟩
          obtain ⟨ad2, vs2, hσ2, hH2, rr, k⟩ := mutS_some e1 r1
          rw [hσ] at hσ2
          cases hσ2
          refine ⟨ad, vs2, u, rfl, rfl, hH2, Evl.sz_lt (by rw [rr.length]; exact hl), q σ g1 i1 _ lt1 (k _ _ (rr.snoc z1))⟩
        · cases h
/-- x[i] = e -/
def setM (n : Nat) (mv mi : M D) : M Fl := bd mv fun d => fun s => match mutS n s with
  | none => none
  | some _ => (bd mi fun i => bd (lf (isI i)) fun k => fun s1 => match mutS n s1 with
    | none => none
    | some l => (match ixN l.length k with
      | none => none
      | some j => some (.nx, putS n (l.set j d) s1))) s
theorem den_setIx {n : Nat} {x : Str} {px : Pos} (hN : X.N[n]? = some x) (hv : Vis X.env.scope x) (he : Den X cl e m1) (hb : Den X cl b m2) (hd : (x == ("__debug__" : Str)) = false := by decide) (hcd : (x == ("__classdict__" : Str)) = false := by decide)
    (ha : ∀ v, assign (.Subscript (.Name x px) b pa) X.env v = (do
      let ov ← holding [v] (eval (.Name x px) X.env)
      let iv ← holding [v, ov] (eval b X.env)
      standAt pa
      holding [v, ov, iv] (setItem ov iv v)
      release [v, ov, iv] []) := by intro _; rfl)
    (hs : swapsWithSole [.Subscript (.Name x px) b pa] e pos.line X.env = pure false := by rfl) (hw : swappedStores [.Subscript (.Name x px) b pa] e X.env = pure none := by rfl) (h1 : (assignEach [.Subscript (.Name x px) b pa] X.env).map (·.2) = [assign (.Subscript (.Name x px) b pa) X.env] := by rfl) :
    Den1 X cl (.Assign [.Subscript (.Name x px) b pa] e pos) (setM n m1 m2) := fun s f s' h σ g ι Fr H r E q => by
  obtain ⟨d, s1, k1, e1_⟩ := bd_some h
  split at e1_
  · cases e1_
  · rename_i l0 e0
    obtain ⟨i, s2, k2, e2_⟩ := bd_some e1_
    obtain ⟨k, s3, k3, e3_⟩ := bd_some e2_
    obtain ⟨k3', rfl⟩ := lf_some k3
    have ei := isI_some k3'
    subst ei
    split at e3_
    · cases e3_
    · rename_i l1 e1
      split at e3_
      · cases e3_
      · rename_i j ej
        cases e3_
        refine ⟨_, ps_asg WE.pe (pg_sub (pe_var hN hv hd hcd) WE.pe set_list ha) hs hw h1, WE.mono (he s d s1 k1 σ g ι Fr H r) fun u H1 ⟨g1, i1, lt1, r1, z1⟩ => ?_⟩
        obtain ⟨ad, vs, hσ, hH, _, _⟩ := mutS_some e0 r1
        refine ⟨_, hσ, WE.mono (hb s1 _ _ k2 σ g1 i1 Fr H1 r1) fun w H2 ⟨g2, i2, lt2, r2, z2⟩ => ?_⟩
        cases z2
        obtain ⟨ad2, vs2, hσ2, hH2, rr, kk⟩ := mutS_some e1 r2
        rw [hσ] at hσ2
        cases hσ2
        exact ⟨ad, vs2, k, j, rfl, rfl, hH2, by rw [rr.length]; exact ej, q σ g2 i2 _ (lt1.trans lt2) (kk _ _ (rr.set j (z1.up lt2)))⟩
/-- x.pop() -/
def popM (n : Nat) : M D := fun s => match mutS n s with
  | none => none
  | some l => (match l.getLast? with
    | none => none
    | some d => some (d, putS n l.dropLast s))
theorem DRs.dropLast {K : PySem.W.Frag} {ι : List Addr} {g : Hp} {vs : List V} {ds : List D} (h : DRs K cl ι g vs ds) : DRs K cl ι g vs.dropLast ds.dropLast := by
  rw [List.dropLast_eq_take, List.dropLast_eq_take, h.length]
  exact h.take _
theorem den_pop {n : Nat} {x : Str} {px : Pos} (hN : X.N[n]? = some x) (hv : Vis X.env.scope x) (hd : (x == ("__debug__" : Str)) = false := by decide) (hcd : (x == ("__classdict__" : Str)) = false := by decide)
    (hbase : attributeBase (.Name x px) "pop" X.env (eval (.Name x px) X.env) = eval (.Name x px) X.env := by rfl) (hline : (pa.endLine == p.line) = true := by rfl) : Den X cl (.Call (.Attribute (.Name x px) "pop" pa) [] [] p) (popM n) := fun s v s' h σ g ι Fr H r => by
  unfold popM at h
  split at h
  · cases h
  · rename_i l e0
    split at h
    · cases h
    · rename_i d e1
      cases h
      obtain ⟨ad, vs, hσ, hH, rr, k⟩ := mutS_some e0 r
      have e2 : l[l.length - 1]? = some v := by rw [← List.getLast?_eq_getElem?]; exact e1
      obtain ⟨u, hu, z⟩ := rr.at e2
      refine .of (pe_bm0 PySem.F.plainAttrs_list PySem.F.slot_list_pop PySem.F.type_list_pop mt_pop (pe_var hN hv hd hcd) hbase hline) ⟨_, hσ, Or.inl ⟨rfl, vs, Evl.sq_of hH⟩, ad, vs, u, rfl, rfl, hH, by rw [rr.length]; exact hu, g, ι, .refl, k _ _ rr.dropLast, z⟩
/-- x.pop(i) -/
def popIM (n : Nat) (mi : M D) : M D := fun s => match mutS n s with
  | none => none
  | some _ => (bd mi fun i => bd (lf (isI i)) fun k => fun s1 => match mutS n s1 with
    | none => none
    | some l => if 0 ≤ k ∧ k < l.length ∧ l.length ≤ 100000 then (match l[k.toNat]? with
      | none => none
      | some d => some (d, putS n (l.eraseIdx k.toNat) s1)) else none) s
theorem DRs.erase {K : PySem.W.Frag} {ι : List Addr} {g : Hp} : ∀ (n : Nat) {vs : List V} {ds : List D}, DRs K cl ι g vs ds → DRs K cl ι g (vs.eraseIdx n) (ds.eraseIdx n)
  | _, _, _, .nil => by simpa using DRs.nil
  | 0, _, _, .cons _ r => r
  | n + 1, _, _, .cons h r => .cons h (DRs.erase n r)
theorem den_popI {n : Nat} {x : Str} {px : Pos} (hN : X.N[n]? = some x) (hv : Vis X.env.scope x) (he : Den X cl e m) (hd : (x == ("__debug__" : Str)) = false := by decide) (hcd : (x == ("__classdict__" : Str)) = false := by decide)
    (hbase : attributeBase (.Name x px) "pop" X.env (eval (.Name x px) X.env) = eval (.Name x px) X.env := by rfl)
    (hfew : ((backTo p (starEach [e] X.env)).all (fun x => !x.1) && (backToKw p (keywordEach [] X.env)).all (fun x => x.1.isSome) && decide ([e].length + ([] : List Keyword).length + (if ([] : List Keyword).isEmpty then 0 else 1) < 30)) = true := by rfl)
    (hline : (pa.endLine == p.line) = true := by rfl) (hs : starEach [e] X.env = (false, eval e X.env) :: starEach [] X.env := by rfl) (hplain : (backTo p (starEach [] X.env)).any (·.1) = false := by rfl) : Den X cl (.Call (.Attribute (.Name x px) "pop" pa) [e] [] p) (popIM n m) := fun s v s' h σ g ι Fr H r => by
  unfold popIM at h
  split at h
  · cases h
  · rename_i l0 e0
    obtain ⟨i, s2, k2, e1_⟩ := bd_some h
    obtain ⟨k, s3, k3, e2_⟩ := bd_some e1_
    obtain ⟨k3', rfl⟩ := lf_some k3
    have ei := isI_some k3'
    subst ei
    split at e2_
    · cases e2_
    · rename_i l e1
      split at e2_
      · rename_i hk
        split at e2_
        · cases e2_
        · rename_i d e2
          cases e2_
          obtain ⟨ad, vs, hσ, hH, _, _⟩ := mutS_some e0 r
          refine .of (pe_bm PySem.F.plainAttrs_list PySem.F.slot_list_pop PySem.F.type_list_pop mt_popAt (pe_var hN hv hd hcd) (pa_cons WE.pe pa_nil hs) hbase hfew hline hs hplain) ⟨_, hσ, Or.inl ⟨rfl, vs, Evl.sq_of hH⟩, WE.mono (he s _ _ k2 σ g ι Fr H r) fun w H2 ⟨g2, i2, lt2, r2, z2⟩ => ?_⟩
          cases z2
          obtain ⟨ad2, vs2, hσ2, hH2, rr, kk⟩ := mutS_some e1 r2
          rw [hσ] at hσ2
          cases hσ2
          obtain ⟨u, hu, z⟩ := rr.at e2
          have hl := rr.length
          refine ⟨ad, vs2, k, k.toNat, u, rfl, rfl, hH2, by omega, by omega, ?_, hu, g2, i2, lt2, kk _ _ (rr.erase _), z⟩
          exact seqIndex_of hk.1 (by omega)
      · cases e2_
/-- x[i].pop(0), x[i] a list of the store -/
def popZ (x : D) : M D := fun s => match x with
  | .ref k => (match s.st[k]? with
    | some (.lst (d :: l)) => some (d, { s with st := s.st.set k (.lst l) })
    | _ => none)
  | _ => none
theorem den_popZ {k : Nat} {pz : Pos} (ho : Den X cl o mo)
    (hbase : attributeBase o "pop" X.env (eval o X.env) = eval o X.env := by rfl)
    (hfew : ((backTo p (starEach [.Constant (.int 0) k pz] X.env)).all (fun x => !x.1) && (backToKw p (keywordEach [] X.env)).all (fun x => x.1.isSome) && decide ([Expr.Constant (.int 0) k pz].length + ([] : List Keyword).length + (if ([] : List Keyword).isEmpty then 0 else 1) < 30)) = true := by rfl)
    (hline : (pa.endLine == p.line) = true := by rfl) (hs : starEach [.Constant (.int 0) k pz] X.env = (false, eval (.Constant (.int 0) k pz) X.env) :: starEach [] X.env := by rfl) (hplain : (backTo p (starEach [] X.env)).any (·.1) = false := by rfl) :
    Den X cl (.Call (.Attribute o "pop" pa) [.Constant (.int 0) k pz] [] p) (bd mo popZ) := fun s v s' h σ g ι Fr H r => by
  obtain ⟨x, s1, k1, e1_⟩ := bd_some h
  unfold popZ at e1_
  split at e1_
  · split at e1_
    · rename_i j d l e
      cases e1_
      refine .of (pe_bm PySem.F.plainAttrs_list PySem.F.slot_list_pop PySem.F.type_list_pop mt_popAt WE.pe (pa_cons pe_int pa_nil hs) hbase hfew hline hs hplain) (WE.mono (ho s _ s1 k1 σ g ι Fr H r) fun u H1 ⟨g1, i1, lt1, r1, z1⟩ => ?_)
      cases z1 with
      | @ref ad _ hk =>
        obtain ⟨Rm, Rs, sh, mr, tr⟩ := r1
        obtain ⟨a', vs, R', h1, h2, h3, h4⟩ := tr.lstAt e
        rw [hk] at h1
        cases h1
        have hp : ∀ o : HO, (Rm ++ (((ad, o) :: R') ++ Fr)).Perm ((ad, o) :: (Rm ++ (R' ++ Fr))) := fun o => List.perm_middle
        have sh2 := (sh.perm ((h3.append_right Fr).append_left Rm)).perm (hp _)
        cases h2 with
        | @cons v0 vs0 _ _ z0 rr =>
          obtain ⟨R2, p2, m2⟩ := h4 l vs0 g1 i1 .refl rr
          refine ⟨Or.inl ⟨rfl, _, Evl.sq_of sh2.head⟩, ad, _, 0, 0, v0, rfl, rfl, sh2.head, by decide, by decide, ?_, rfl, g1, i1, lt1, ⟨Rm, R2, ((sh2.put (o' := .lst vs0)).perm (hp _).symm).perm ((p2.append_right Fr).append_left Rm).symm, mr, m2⟩, z0⟩
          unfold seqIndex?
          simp
    · cases e1_
  · cases e1_
end
end Sd

namespace Sd
open PySem PySem.Spec PyProof.Rows L2
open Evl (Ex)
section
variable {X : Cx} {cl : Nat → Addr} {a b c e o v : Expr} {es : List Expr} {pos p pa p' apos : Pos} {m mo m1 m2 : M D} {ma : M (List D)}
/-! into the store -/
/-- a slot's list goes to the store -/
def mvS (n : Nat) : M D := fun s => match s.r[n]? with
  | some (.chg l) => some (.ref s.st.length, ⟨s.r.set n (.dat (.ref s.st.length)), s.st ++ [.lst l]⟩)
  | _ => none
theorem den_mv {n : Nat} {x : Str} (hN : X.N[n]? = some x) (hv : Vis X.env.scope x) (hd : (x == ("__debug__" : Str)) = false := by decide) (hcd : (x == ("__classdict__" : Str)) = false := by decide) : Den X cl (.Name x pos) (mvS n) := fun s v s' h σ g ι Fr H r => by
  unfold mvS at h
  split at h
  · rename_i l e
    cases h
    obtain ⟨Rm, Rs, sh, mr, tr⟩ := r
    obtain ⟨ad, vs, R', h1, h2, h3, h4, h5⟩ := mr.mutAt e
    have lt : Lt g ι g (ι ++ [ad]) := ⟨Evl.Ex.refl g, .snoc ι ad⟩
    have hk : (ι ++ [ad])[s.st.length]? = some ad := by
      rw [← tr.length, List.getElem?_append_right (Nat.le_refl _), Nat.sub_self]
      rfl
    obtain ⟨R2, p2, t2⟩ := (tr.up lt).snocL (a := ad) (h2.up lt)
    have z : DR X.K cl (ι ++ [ad]) g (.ref ad) (.ref s.st.length) := .ref hk
    refine .of (pe_var hN hv hd hcd) ⟨_, h1, g, ι ++ [ad], lt, ⟨R', R2, sh.perm ?_, h5 _ _ _ lt z, t2⟩, z⟩
    refine (h3.append_right _).trans ?_
    refine List.Perm.trans ?_ ((p2.append_right Fr).append_left R').symm
    exact List.perm_middle.symm
  · cases h
/-- a list display in the store -/
def lstS (xs : List D) : M D := fun s => if xs.length ≤ 100000 then some (.ref s.st.length, ⟨s.r, s.st ++ [.lst xs]⟩) else none
theorem den_lstS (ha : DenA X cl es ma) : Den X cl (.List es pos) (bd ma lstS) := fun s v s' h σ g ι Fr H r => by
  obtain ⟨xs, s1, h1, e1_⟩ := bd_some h
  unfold lstS at e1_
  split at e1_
  · rename_i hl
    cases e1_
    refine .of (pe_lst WA.pa) (WA.mono (ha s xs s1 h1 σ g ι Fr H r) fun us H1 ⟨g1, i1, l1, r1, z1⟩ => ⟨Evl.sz_of (by rw [z1.length]; exact hl), fun ad np => ?_⟩)
    obtain ⟨Rm, Rs, sh, mr, tr⟩ := r1
    have lt : Lt g1 i1 g1 (i1 ++ [ad]) := ⟨Evl.Ex.refl g1, .snoc i1 ad⟩
    have hk : (i1 ++ [ad])[s1.st.length]? = some ad := by
      rw [← tr.length, List.getElem?_append_right (Nat.le_refl _), Nat.sub_self]
      rfl
    obtain ⟨R2, p2, t2⟩ := (tr.up lt).snocL (a := ad) (z1.up lt)
    refine ⟨g1, i1 ++ [ad], l1.trans lt, ⟨Rm, R2, (sh.new np).perm ?_, mr.up lt, t2⟩, .ref hk⟩
    refine List.Perm.trans ?_ ((p2.append_right Fr).append_left Rm).symm
    exact List.perm_middle.symm
  · cases e1_
/-! attributes -/
def lkD : List Str → List D → Str → Option D
  | k :: ks, d :: ds, x => if k = x then some d else lkD ks ds x
  | _, _, _ => none
theorem lkD_some {K : PySem.W.Frag} {ι : List Addr} {g : Hp} {x : Str} {d : D} : ∀ {fs : List (Str × V)} {ds : List D}, DRs K cl ι g (fs.map (·.2)) ds → lkD (fs.map (·.1)) ds x = some d → ∃ v, fs.lookup x = some v ∧ DR K cl ι g v d
  | [], _, _, h => by cases h
  | (k, v) :: r, d0 :: ds0, .cons z zs, h => by
    have h : (if k = x then some d0 else lkD (r.map (·.1)) ds0 x) = some d := h
    rw [List.lookup_cons]
    split at h
    · rename_i e
      cases h
      have e : k = x := e
      subst e
      rw [beq_self_eq_true]
      exact ⟨v, rfl, z⟩
    · rename_i e
      have e2 : (x == k) = false := beq_eq_false_iff_ne.mpr fun q => e q.symm
      rw [e2]
      exact lkD_some zs h
def fldM (c : Nat) (x : Str) (d : D) : M D := fun s => match d with
  | .ins c' ks l => if c' = c then (match lkD ks l x with
    | some v => some (v, s)
    | none => none) else none
  | .ref k => (match s.st[k]? with
    | some (.ins c' ks l) => if c' = c then (match lkD ks l x with
      | some v => some (v, s)
      | none => none) else none
    | _ => none)
  | _ => none
theorem den_fld {c : Nat} {x : Str} (cc : Cls X.K (cl c)) (na : NoAttr X.K (cl c) x) (ho : Den X cl o mo) (hb : attributeBase o x X.env (eval o X.env) = eval o X.env := by rfl) : Den X cl (.Attribute o x pos) (bd mo (fldM c x)) := fun s v s' h σ g ι Fr H r => by
  obtain ⟨d, s1, h1, e1_⟩ := bd_some h
  refine .of (pe_fld WE.pe hb) (WE.mono (ho s d s1 h1 σ g ι Fr H r) fun u H1 ⟨g1, i1, l1, r1, z1⟩ => ?_)
  unfold fldM at e1_
  split at e1_
  · split at e1_
    · rename_i hc
      split at e1_
      · rename_i w e
        cases e1_
        cases z1 with
        | @ins ad dx c0 fs ds hg rr =>
          subst hc
          obtain ⟨y, hy, z⟩ := lkD_some rr e
          exact ⟨ad, _, dx, fs, y, rfl, r1.ex _ _ hg, cc, na, hy, g1, i1, l1, r1, z⟩
      · cases e1_
    · cases e1_
  · split at e1_
    · split at e1_
      · rename_i k c' ks l e0 hc
        split at e1_
        · rename_i w e
          cases e1_
          cases z1 with
          | @ref ad _ hk =>
            have r1' := r1
            obtain ⟨Rm, Rs, sh, mr, tr⟩ := r1
            obtain ⟨a', dx, fs, R', h1, h2, h2', h3, _⟩ := tr.insAt e0
            rw [hk] at h1
            cases h1
            subst hc
            subst h2'
            obtain ⟨y, hy, z⟩ := lkD_some h2 e
            have sh2 := sh.perm ((h3.append_right Fr).append_left Rm)
            exact ⟨ad, _, dx, fs, y, rfl, sh2.at_ _ (List.mem_append_right _ (List.mem_cons_self ..)), cc, na, hy, g1, i1, l1, r1', z⟩
        · cases e1_
      · cases e1_
    · cases e1_
  · cases e1_
/-- o.x = e -/
def putK (x : Str) (d : D) : List Str → List D → List Str × List D
  | k :: ks, y :: ds => if k = x then (k :: ks, d :: ds) else ((k :: (putK x d ks ds).1), (y :: (putK x d ks ds).2))
  | _, _ => ([x], [d])
theorem putK_some {K : PySem.W.Frag} {ι : List Addr} {g : Hp} {x : Str} {d : D} {u : V} (zu : DR K cl ι g u d) : ∀ {fs : List (Str × V)} {ds : List D}, DRs K cl ι g (fs.map (·.2)) ds → (putK x d (fs.map (·.1)) ds).1 = (putF x u fs).map (·.1) ∧ DRs K cl ι g ((putF x u fs).map (·.2)) (putK x d (fs.map (·.1)) ds).2
  | [], _, .nil => ⟨rfl, .cons zu .nil⟩
  | (k, v) :: r, d0 :: ds0, .cons z zs => by
    unfold putF
    have q : putK x d (((k, v) :: r).map (·.1)) (d0 :: ds0) = if k = x then (k :: r.map (·.1), d :: ds0) else ((k :: (putK x d (r.map (·.1)) ds0).1), (d0 :: (putK x d (r.map (·.1)) ds0).2)) := rfl
    rw [q]
    by_cases e : k = x
    · rw [if_pos e, if_pos e]
      exact ⟨rfl, .cons zu zs⟩
    · rw [if_neg e, if_neg e]
      have ih := putK_some (x := x) zu zs
      exact ⟨by rw [List.map_cons, ← ih.1], .cons z ih.2⟩
def sfM (c : Nat) (x : Str) (mv mo : M D) : M Fl := bd mv fun d => bd mo fun y => fun s => match y with
  | .ref k => (match s.st[k]? with
    | some (.ins c' ks l) => if c' = c ∧ ks.length < 1000 then some (.nx, { s with st := s.st.set k (.ins c (putK x d ks l).1 (putK x d ks l).2) }) else none
    | _ => none)
  | _ => none
theorem den_setF {c : Nat} {x : Str} (cc : Cls X.K (cl c)) (na : NoAttr X.K (cl c) x) (hv : Den X cl v m1) (ho : Den X cl o mo) (hs : swapsWith v (some (.Attribute o x p')) pos.line X.env = pure false := by rfl) : Den1 X cl (.Assign [.Attribute o x p'] v pos) (sfM c x m1 mo) := fun s f s' h σ g ι Fr H r E q => by
  obtain ⟨d, s1, k1, e1_⟩ := bd_some h
  obtain ⟨y, s2, k2, e2_⟩ := bd_some e1_
  refine ⟨_, ps_fld WE.pe WE.pe hs, WE.mono (hv s d s1 k1 σ g ι Fr H r) fun u H1 ⟨g1, i1, l1, r1, z1⟩ => WE.mono (ho s1 y s2 k2 σ g1 i1 Fr H1 r1) fun w H2 ⟨g2, i2, l2, r2, z2⟩ => ?_⟩
  split at e2_
  · split at e2_
    · split at e2_
      · rename_i k c' ks l e0 hc
        cases e2_
        obtain ⟨rfl, hlen⟩ := hc
        cases z2 with
        | @ref ad _ hk =>
          obtain ⟨Rm, Rs, sh, mr, tr⟩ := r2
          obtain ⟨a', dx, fs, R', h1, h2, h2', h3, h4, _⟩ := tr.insAt e0
          rw [hk] at h1
          cases h1
          subst h2'
          have hp : ∀ o : HO, (Rm ++ (((ad, o) :: R') ++ Fr)).Perm ((ad, o) :: (Rm ++ (R' ++ Fr))) := fun o => List.perm_middle
          have sh2 := (sh.perm ((h3.append_right Fr).append_left Rm)).perm (hp _)
          have pk := putK_some (x := x) (z1.up l2) h2
          obtain ⟨R2, p2, t2⟩ := h4 _ _ g2 i2 .refl pk.2
          refine ⟨ad, _, dx, fs, rfl, sh2.head, cc, na, by simpa using hlen, q σ g2 i2 _ (l1.trans l2) ⟨Rm, R2, ((sh2.put (o' := .ins _ dx _)).perm (hp _).symm).perm ((p2.append_right Fr).append_left Rm).symm, mr, ?_⟩⟩
          rw [pk.1]
          exact t2
      · cases e2_
    · cases e2_
  · cases e2_
/-! a new object -/
structure FN (P : Program) (w : World) (K : PySem.W.Frag) (mg : Str → Option Value) (base : Heap) (cl : Nat → Addr) (k : Nat) (c : Nat) (x : Str) (f : Mn) : Prop where
  ex : ∃ fa fd ps, FnG P w K mg base CX0 k fa fd ps (spF K cl f) ∧ Mk K (cl c) fa ∧ mg x = some (.ref (cl c)) ∧ Binds K fd ps []
def mkM (c : Nat) (f : Mn) (ds : List D) : M D := fun s => match f (.ref s.st.length :: ds) (s.st ++ [.ins c [] []]) with
  | some (.non, st') => (match st'[s.st.length]? with
    | some (.ins c' ks l) => if c' = c then some (.ins c ks l, ⟨s.r, st'.set s.st.length .dead⟩) else none
    | _ => none)
  | _ => none
theorem go_make {C fa : Addr} {fd : FuncData} {ps : List Str} {k : Nat} {sp : Sp} {pins : List (Addr × Obj)} {σ : L2.St} {H : Hp} {s : Shared} {Q : VK} {us : List Value} {vs : List V} (mk : Mk X.K C fa) (F : FnG X.prog X.w X.K X.mg X.base CX0 k fa fd ps sp) (hr : RoomG (k + 1) X.A) (hb : Binds X.K fd ps []) (I : Inv X pins σ H s) (r : Vals vs us)
    (h : ∀ x dx, H x = none → H dx = none → dx ≠ x → sp (.ref x :: vs) (upd (upd H dx (.own x)) x (.ins C dx [])) (fun v H2 => v = .non ∧ Q (.ref x) H2) E0) : wpAny (model X.prog X.w) X.A (call (.ref C) us) (EP X pins σ Q) X.xe s := by
  have nw := h (s.heap.objs.size + 1) s.heap.objs.size (I.hok.fresh (Nat.le_succ _)) (I.hok.fresh (Nat.le_refl _)) (Nat.ne_of_lt (Nat.lt_succ_self _))
  have J := Inv.made (C := C) I
  have rr : Vals (V.ref (s.heap.objs.size + 1) :: vs) (Value.ref (s.heap.objs.size + 1) :: us) := .cons rfl r
  have hl : (Value.ref (s.heap.objs.size + 1) :: us).length = ps.length := by
    rw [← rr.length]
    exact F.ln _ _ _ _ nw
  have bb := hb { s with heap := (s.heap.push PySem.W.emptyDict).push (PySem.W.instObj C s.heap.objs.size) } (Value.ref (s.heap.objs.size + 1) :: us) J.kIn (by rw [List.append_nil]; exact hl)
  rw [List.append_nil] at bb
  refine wpAny_call (make_map (f := fa) I.kIn mk.makes mk.init (beq_iff_eq.mp mk.fn) (codeAny_mono (F.go _ X.stack _ _ ⟨Value.ref (s.heap.objs.size + 1) :: us, []⟩ _ _ _ E0 (hr.make C us []) (J.env0.make C us []) bb rr nw) fun res s' hq => ?_))
  cases res with
  | error e => exact hq.elim
  | ok fl =>
    cases fl with
    | ret u =>
      obtain ⟨v, H', J3, rv, ev, q3⟩ := J.after hq
      subst ev
      exact ⟨rv, V.ref (s.heap.objs.size + 1), H', J3, rfl, q3⟩
    | _ => exact hq.elim
theorem mk_sp {c : Nat} {f : Mn} {ds : List D} {s s' : S} {d : D} (h : mkM c f ds s = some (d, s')) {σ : L2.St} {g H : Hp} {ι : List Addr} {Fr : Rl} {vs : List V} (r : Rel X.K cl g ι σ s Fr H) (z : DRs X.K cl ι g vs ds) {Q : VK} (q : ∀ u H', PostE X cl g ι σ s' Fr d u H' → Q u H') {E : XK} :
    ∀ x dx, H x = none → H dx = none → dx ≠ x → spF X.K cl f (.ref x :: vs) (upd (upd H dx (.own x)) x (.ins (cl c) dx [])) (fun v H2 => v = .non ∧ Q (.ref x) H2) E := by
  intro x dx nx nd ne
  unfold mkM at h
  split at h
  · rename_i st' e
    split at h
    · rename_i c' ks l e2
      split at h
      · rename_i hc
        cases h
        subst hc
        have r2 := r.ext (Evl.Ex.new (o := .own x) nd)
        have nx2 : (upd H dx (.own x)) x = none := by rw [upd_ne ne.symm]; exact nx
        obtain ⟨Rm, Rs, sh, mr, tr⟩ := r2
        have lt : Lt g ι g (ι ++ [x]) := ⟨Evl.Ex.refl g, .snoc ι x⟩
        have hk : (ι ++ [x])[s.st.length]? = some x := by
          rw [← tr.length, List.getElem?_append_right (Nat.le_refl _), Nat.sub_self]
          rfl
        obtain ⟨R2, p2, t2⟩ := (tr.up lt).snocI (a := x) (dx := dx) (c := c')
        have hp : ∀ Rs : Rl, (Rm ++ (Rs ++ Fr)).Perm (Rs ++ (Rm ++ Fr)) := fun Rs => by
          rw [← List.append_assoc, ← List.append_assoc]
          exact List.perm_append_comm.append_right Fr
        have sh3 : Sh g (R2 ++ (Rm ++ Fr)) (upd (upd H dx (.own x)) x (.ins (cl c') dx [])) := by
          refine ((sh.new (o := .ins (cl c') dx []) nx2).perm ?_)
          refine List.Perm.trans ((hp Rs).cons _) ?_
          exact (p2.append_right (Rm ++ Fr)).symm
        refine ⟨g, ι ++ [x], s.st ++ [.ins c' [] []], Rm ++ Fr, .ref s.st.length :: ds, .non, st', ⟨R2, sh3, t2⟩, .cons (.ref hk) (z.up lt), e, fun v g' ι' H' l' ⟨Rs', sh', tr'⟩ z' => ?_⟩
        cases z'
        refine ⟨rfl, ?_⟩
        obtain ⟨a', dx', fs, R', h1, h2, h2', h3, _, h5⟩ := tr'.insAt e2
        rw [l'.p _ _ hk] at h1
        cases h1
        subst h2'
        have sh4 : Sh g' ((x, .ins (cl c') dx' fs) :: (Rm ++ (R' ++ Fr))) H' := by
          refine sh'.perm ((h3.append_right (Rm ++ Fr)).trans ?_)
          show ((x, HO.ins (cl c') dx' fs) :: (R' ++ (Rm ++ Fr))).Perm _
          exact (hp R').symm.cons _
        have kk := sh4.keep
        have lk : Lt g' ι' (upd g' x (.ins (cl c') dx' fs)) ι' := ⟨kk.2, .refl _⟩
        exact q _ _ ⟨_, ι', (lt.trans l').trans lk, ⟨Rm, R', kk.1, mr.up ((lt.trans l').trans lk), h5 _ _ lk⟩, .ins upd_same (h2.up lk)⟩
      · cases h
    · cases h
  · cases h
theorem den_make {k c : Nat} {x : Str} {f : Mn} (G : FN X.prog X.w X.K X.mg X.base cl k c x f) (hr : RoomG (k + 1) X.A) (hg : Gl X x) (ha : DenA X cl (e :: es) ma)
    (hdb : (x == ("__debug__" : Str)) = false := by decide) (he : starEach (e :: es) X.env = (false, eval e X.env) :: starEach es X.env := by rfl) (hpl : (backTo pos (starEach es X.env)).any (·.1) = false := by rfl) :
    Den X cl (.Call (.Name x p) (e :: es) [] pos) (bd ma (mkM c f)) := fun s v s' h σ g ι Fr H r => by
  obtain ⟨ds, s1, h1, e1_⟩ := bd_some h
  obtain ⟨fa, fd, ps, G, mk, hm, hb⟩ := G.ex
  have pe : PE X (.Call (.Name x p) (e :: es) [] pos) (fun σ H Q => WA X (e :: es) σ H fun vs H1 => ∀ y dx, H1 y = none → H1 dx = none → dx ≠ y → spF X.K cl f (.ref y :: vs) (upd (upd H1 dx (.own y)) y (.ins (cl c) dx [])) (fun v H2 => v = .non ∧ Q (.ref y) H2) E0) := by
    refine ⟨fun pins sh σ H Q I hq => wpAny_Call_Name_kw (ld_glob I hg hm ?_ hdb)⟩
    refine PySem.W.callWith_K (h₀ := X.base) I.ok.mod.kin mk.kp (thn (hq.run pos pins sh I) fun us s1 ⟨vs, H1, I1, rv, q⟩ => ⟨I1.kIn, ?_⟩) he hpl
    exact go_make mk G hr hb I1 rv q
  exact .of pe (WA.mono (ha s ds s1 h1 σ g ι Fr H r) fun us H1 ⟨g1, i1, l1, r1, z1⟩ => mk_sp e1_ r1 z1 fun _ _ q => q.lt l1)
/-! more -/
/-- a statement that isn't come to -/
theorem den_never {t : Stmt} : Den1 X cl t fl := fun s f s' h => by cases h
theorem den_neverE : Den X cl e fl := fun s f s' h => by cases h
/-- an expression whose value is let go -/
theorem den_expr (ha : Den X cl a m) (hs : swapsWith a none pos.line X.env = pure false := by rfl) : Den1 X cl (.Expr a pos) (bd m fun _ => ret .nx) := fun s f s' h σ g ι Fr H r E q => by
  obtain ⟨d, s1, k1, e1_⟩ := bd_some h
  cases e1_
  exact ⟨_, ps_expr WE.pe hs, WE.mono (ha s d _ k1 σ g ι Fr H r) fun u H1 ⟨g1, i1, l1, r1, z1⟩ => q σ g1 i1 H1 l1 r1⟩
/-- t.index(k), t.count(k): ints of a tuple -/
theorem ty_tup : L2.TyOk X "tuple" (fun x H => ∃ ad, x = .ref ad ∧ NoD X.K H ad) := by
  intro pins σ H s x v I rx ⟨ad, ex, hn⟩
  subst ex
  obtain rfl : v = Value.ref ad := rx
  rcases hn with ⟨o, u, hH, hd⟩ | ⟨o, hk, hc, hd⟩
  · obtain ⟨ho, _, _, _, o2, ho2, hc2, _⟩ := (show ObjOk X.prog X.w H s.heap ad (.frz o (.tup u)) from I.hok ad _ hH)
    rw [ho] at ho2
    cases ho2
    exact ⟨⟨o, ho, hc2⟩, fun b hb => by cases hb; exact ⟨o, ho, hd⟩⟩
  · have ho := I.kIn ad o hk
    exact ⟨⟨o, ho, hc⟩, fun b hb => by cases hb; exact ⟨o, ho, hd⟩⟩
theorem mt_tidx : MtR X "tuple.index" (fun x xs H Q => ∃ (ad : Addr) (ns : List Int) (k : Int), x = .ref ad ∧ xs = [.int k] ∧ SqT X.K H ad (ns.map V.int) ∧ k ∈ ns ∧ Q (.int (ns.idxOf k : Nat)) H) := by
  intro pins s σ H x xs v us Q I rx rxs h
  obtain ⟨ad, ns, k, rfl, rfl, hs, hk, q⟩ := h
  cases rx
  obtain ⟨u, rfl, ru⟩ := vals1 rxs
  obtain ⟨t, rfl⟩ := ru
  obtain ⟨its, rv, ht, _⟩ := I.tuple hs
  exact PySem.SeqAt.tuple_index_ints ht rv.ints hk ⟨.int _, H, I.tok _, ⟨_, rfl⟩, q⟩
def idxM (d k : D) : Option D := match d, k with
  | .tup l, .int k => (isIs l).bind fun ns => if k ∈ ns then some (.int (ns.idxOf k : Nat)) else none
  | _, _ => none
theorem den_tidx (ho : Den X cl o mo) (he : Den X cl e m)
    (hbase : attributeBase o "index" X.env (eval o X.env) = eval o X.env := by rfl)
    (hfew : ((backTo p (starEach [e] X.env)).all (fun x => !x.1) && (backToKw p (keywordEach [] X.env)).all (fun x => x.1.isSome) && decide ([e].length + ([] : List Keyword).length + (if ([] : List Keyword).isEmpty then 0 else 1) < 30)) = true := by rfl)
    (hline : (pa.endLine == p.line) = true := by rfl) (hs : starEach [e] X.env = (false, eval e X.env) :: starEach [] X.env := by rfl) (hplain : (backTo p (starEach [] X.env)).any (·.1) = false := by rfl) :
    Den X cl (.Call (.Attribute o "index" pa) [e] [] p) (bd mo fun d => bd m fun k => lf (idxM d k)) := fun s v s' h σ g ι Fr H r => by
  obtain ⟨d, s1, h1, e1_⟩ := bd_some h
  obtain ⟨k, s2, h2, e2_⟩ := bd_some e1_
  obtain ⟨h3, rfl⟩ := lf_some e2_
  unfold idxM at h3
  split at h3
  · obtain ⟨ns, h4, h5⟩ := Option.bind_eq_some_iff.mp h3
    split at h5
    · rename_i hk
      cases h5
      have e2 := isIs_some h4
      subst e2
      refine .of (pe_mG ty_tup PySem.F.plainAttrs_tuple PySem.F.slot_tuple_index PySem.F.type_tuple_index mt_tidx WE.pe (pa_cons WE.pe pa_nil hs) hbase hfew hline hs hplain) (WE.mono (ho s _ s1 h1 σ g ι Fr H r) fun u H1 ⟨g1, i1, l1, r1, z1⟩ => ?_)
      cases z1 with
      | @tup ad xs _ sq nd rr =>
        have ex := rr.ints
        subst ex
        refine ⟨⟨ad, rfl, NoD.up r1.ex nd⟩, WE.mono (he s1 _ _ h2 σ g1 i1 Fr H1 r1) fun w H2 ⟨g2, i2, l2, r2, z2⟩ => ?_⟩
        cases z2
        exact ⟨ad, ns, _, rfl, rfl, Evl.ex_t (l2.e.trans r2.ex) sq, hk, g2, i2, l1.trans l2, r2, .int _⟩
    · cases h5
  · cases h3
end
end Sd

namespace Sd
open PySem PySem.Spec PyProof.Rows L2
open Evl (Ex)
section
variable {X : Cx} {cl : Nat → Addr} {a b c e o v : Expr} {es : List Expr} {pos p pa p' apos : Pos} {m mo m1 m2 m3 : M D} {ma : M (List D)}
/-- a op b op c as a test -/
theorem dent_chain {op op' : CmpOp} {f f' : D → D → Option D} (ho : OpD X cl (compareOp op) f) (ho' : OpD X cl (compareOp op') f') (ha : Den X cl a m1) (hb : Den X cl b m2) (hc : Den X cl c m3) (hm : lastMarks [op, op'] [b, c] = false := by rfl) :
    DenT X cl (.Compare a [op, op'] [b, c] pos) (bd m1 fun x => bd m2 fun y => bd (lf ((f x y).bind isB)) fun t => if t then bd m3 fun z => lf ((f' y z).bind isB) else ret false) := fun s v s' h σ g ι Fr H r => by
  obtain ⟨x, s1, h1, e1_⟩ := bd_some h
  obtain ⟨y, s2, h2, e2_⟩ := bd_some e1_
  obtain ⟨t, s3, h3, e3_⟩ := bd_some e2_
  obtain ⟨k3, rfl⟩ := lf_some h3
  obtain ⟨d, h4, h5⟩ := Option.bind_eq_some_iff.mp k3
  have e := isB_some h5
  subst e
  obtain ⟨R, hr, hk⟩ := ho
  obtain ⟨R', hr', hk'⟩ := ho'
  refine .of (pt_chain hr hr' WE.pe WE.pe WE.pe hm) (WE.mono (ha s x s1 h1 σ g ι Fr H r) fun u H1 ⟨g1, i1, l1, r1, z1⟩ => WE.mono (hb s1 y _ h2 σ g1 i1 Fr H1 r1) fun w H2 ⟨g2, i2, l2, r2, z2⟩ =>
    hk u w x y _ h4 σ _ g2 i2 Fr H2 r2 (z1.up l2) z2 _ fun q Hq ⟨g3, i3, l3, r3, z3⟩ => ?_)
  cases z3
  refine ⟨t, rfl, ?_⟩
  cases t with
  | false =>
    rw [if_neg Bool.false_ne_true] at e3_ ⊢
    cases e3_
    exact ⟨false, rfl, rfl, g3, i3, (l1.trans l2).trans l3, r3⟩
  | true =>
    rw [if_pos rfl] at e3_ ⊢
    obtain ⟨z, s4, h6, e4_⟩ := bd_some e3_
    obtain ⟨h7, rfl⟩ := lf_some e4_
    obtain ⟨d2, h8, h9⟩ := Option.bind_eq_some_iff.mp h7
    have e := isB_some h9
    subst e
    exact WE.mono (hc _ z _ h6 σ g3 i3 Fr Hq r3) fun u3 H4 ⟨g4, i4, l4, r4, z4⟩ => hk' w u3 y z _ h8 σ _ g4 i4 Fr H4 r4 (z2.up (l3.trans l4)) z4 _ fun q5 H5 ⟨g5, i5, l5, r5, z5⟩ => by
      cases z5
      exact ⟨v, rfl, rfl, g5, i5, ((((l1.trans l2).trans l3).trans l4).trans l5), r5⟩
/-- {k: v} with written ints -/
theorem den_dict1 {i : Int} {j j2 : Nat} {i2 : Int} : Den X cl (.Dict [some (.Constant (.int i) j p)] [.Constant (.int i2) j2 p'] pos) (ret (.dct [i] [.int i2])) := fun s v s' h σ g ι Fr H r => by
  cases h
  refine .of (pe_disp (pps_cons pe_int pe_int pps_nil) rfl rfl (by simp) (by simp)) fun ad np => ?_
  refine ⟨upd_same, [(.inl i, .int i2)], rfl, by simp, ?_⟩
  have k := (r.newFr (o := .dK []) np).fr (o' := .dK (mergeK [] [(.inl i, .int i2)]))
  have kk := k.2.frKeep
  exact ⟨_, ι, kk.2, kk.1, .dct upd_same rfl (.cons (.int _) .nil)⟩
/-- list(range(a, b)), tuple(range(a, b)) -/
def rgD (x y : D) : Option (List D) := match x, y with
  | .int i, .int j => if (-1000 < i ∧ i < 1000) ∧ (-1000 < j ∧ j < 1000) then some (rangeL i (j - i).toNat) else none
  | _, _ => none
theorem rg_drs {K : PySem.W.Frag} {ι : List Addr} {g : Hp} (i j : Int) : DRs K cl ι g (rgV i j) (rangeL i (j - i).toNat) := by
  unfold rgV rangeL
  generalize List.range (j - i).toNat = l
  induction l with
  | nil => exact .nil
  | cons x r ih => exact .cons (.int _) ih
theorem den_lstRg {pr ppos : Pos} (hc : X.calm = true) (hl : Gl X "list") (ml : X.mg "list" = none) (hg : Gl X "range") (hm : X.mg "range" = none) (ha : Den X cl a m1) (hb : Den X cl b m2)
    (hs : starEach [a, b] X.env = (false, eval a X.env) :: starEach [b] X.env := by rfl) (hs2 : starEach [b] X.env = (false, eval b X.env) :: starEach [] X.env := by rfl) (hpl : (backTo ppos (starEach [b] X.env)).any (·.1) = false := by rfl)
    (na : starEach [.Call (.Name "range" pr) [a, b] [] ppos] X.env = (false, eval (.Call (.Name "range" pr) [a, b] [] ppos) X.env) :: starEach [] X.env := by rfl) :
    Den X cl (.Call (.Name "list" p) [.Call (.Name "range" pr) [a, b] [] ppos] [] pos) (bd m1 fun x => bd m2 fun y => bd (lf (rgD x y)) fun l => ret (.lst l)) := fun s v s' h σ g ι Fr H r => by
  obtain ⟨x, s1, h1, e1_⟩ := bd_some h
  obtain ⟨y, s2, h2, e2_⟩ := bd_some e1_
  obtain ⟨l, s3, h3, e3_⟩ := bd_some e2_
  obtain ⟨k3, rfl⟩ := lf_some h3
  cases e3_
  unfold rgD at k3
  split at k3
  · split at k3
    · rename_i i j hn
      cases k3
      refine .of (pe_listRg hc hl ml (prg_2 hg hm WE.pe WE.pe hs hs2 hpl) na) (WE.mono (ha s _ _ h1 σ g ι Fr H r) fun u H1 ⟨g1, i1, l1, r1, z1⟩ => WE.mono (hb s1 _ _ h2 σ g1 i1 Fr H1 r1) fun w H2 ⟨g2, i2, l2, r2, z2⟩ => ?_)
      cases z1
      cases z2
      exact ⟨i, j, rfl, rfl, ⟨by omega, by omega, by omega, by omega, by omega⟩, fun q nq => (post_lst r2 nq (rg_drs i j)).lt (l1.trans l2)⟩
    · cases k3
  · cases k3
end
end Sd
namespace Sd
open PySem PySem.Spec PyProof.Rows L2
open Evl (Ex)
theorem b_int : bootBuiltins "int" = some (.type "int") := by decide +kernel
theorem b_bool : bootBuiltins "bool" = some (.type "bool") := by decide +kernel
theorem b_tuple : bootBuiltins "tuple" = some (.type "tuple") := by decide +kernel
theorem b_list : bootBuiltins "list" = some (.type "list") := by decide +kernel
theorem b_abs : bootBuiltins "abs" = some (.builtin "abs") := by decide +kernel
theorem b_max : bootBuiltins "max" = some (.builtin "max") := by decide +kernel
theorem b_min : bootBuiltins "min" = some (.builtin "min") := by decide +kernel
theorem b_sum : bootBuiltins "sum" = some (.builtin "sum") := by decide +kernel
theorem b_all : bootBuiltins "all" = some (.builtin "all") := by decide +kernel
theorem b_any : bootBuiltins "any" = some (.builtin "any") := by decide +kernel
theorem b_repr : bootBuiltins "repr" = some (.builtin "repr") := by decide +kernel
section
variable {P : Program} {w : World} {K : PySem.W.Frag} {mg : Str → Option Value} {base : Heap} {cl : Nat → Addr}
theorem FM.mk' {x qual : Str} {t : Stmt} {N ps : List Str} {k np n : Nat} {mb : M Fl} {fa : Addr} {fd : FuncData} (Fu : Fun K x qual t fa fd) (sc : FnScope N ps (defScope t))
    (hb : ∀ (kV doc pm : Value) (an : Option Addr) (cdv ct : Value) (us : List Value), us.length = ps.length → bindArgs (PySem.W.fnOf x qual (defArgs t) (defBody t) (defScope t) .none kV doc pm an cdv ct) ⟨us, []⟩ = pure (ps.zip us))
    (bdy : ∀ (cdv : Value) (A : Around) (o : List Env) (s : Shared) (H : Hp) (E : XK), RoomG k (A.deeper (envOfC qual (defScope t) s.heap.objs.size fa cdv)) → DenS (Cf P w K mg base N qual t fa cdv A o s H E) cl (defBody t) mb)
    (hp : ps.length = np := by rfl) (hn : N.length = n := by rfl) : FnG P w K mg base CX0 (k + 1) fa fd ps (spF K cl (runD np n mb)) ∧ Binds K fd ps [] := by
  refine ⟨fng_of Fu sc (fun vs H Q E h => ?_) (fun cdv A o s H vs Q E hr h => ?_), Fu.binds hb⟩
  · obtain ⟨g, ι, st, Fr, ds, d, st', _, z, hm, _⟩ := h
    rw [z.length, (runD_some hm).1, hp]
  · exact WS.nox (run_body (X := Cf P w K mg base N qual t fa cdv A o s H E) rfl hn (bdy cdv A o s H E hr) h)
/-! the head -/
theorem at_mk {h : Heap} {x : Str} {t : Stmt} {f : Addr} {oc : Value} {od an : Option Addr} {osl : Array (Option Value)} {kV doc pm cdv ct : Value} (X : K.In h) (G : h.Ns mainGlobals mg) (a : PySem.W.nsIn K mainGlobals x = some (some (.ref f)))
    (l : K.lookup f = some ⟨oc, od, .func (PySem.W.fnOf x x (defArgs t) (defBody t) (defScope t) .none kV doc pm an cdv ct), osl⟩) (c : PySem.W.codeIn K cdv x = true) (k : PySem.W.keepIn K (.ref f) = true) : At K mg x t :=
  ⟨f, _, fun_mk l c k, PySem.W.mg_of X G a⟩
theorem int_mk {h : Heap} {x : Str} {i : Int} {t : Tok} (X : K.In h) (G : h.Ns mainGlobals mg) (a : PySem.W.nsIn K mainGlobals x = some (some (.int i t))) : GlD K cl mg x (.int i) := ⟨.int i, _, PySem.W.mg_of X G a, ⟨t, rfl⟩, fun _ _ => .int i⟩
/-- a method of a class: its def, and that the class finds it -/
structure Mt (K : PySem.W.Frag) (C : Addr) (x qual : Str) (t : Stmt) : Prop where
  ex : ∃ fa fd, Fun K x qual t fa fd ∧ Meth K C x fa
theorem mt_mk {x qual : Str} {t : Stmt} {C f : Addr} {oc : Value} {od an : Option Addr} {osl : Array (Option Value)} {kV doc pm cdv ct : Value} (a : PySem.W.findIn K (.ref C) x = some (some (.ref f))) (i : PySem.W.isFn K (.ref f) = true)
    (l : K.lookup f = some ⟨oc, od, .func (PySem.W.fnOf x qual (defArgs t) (defBody t) (defScope t) .none kV doc pm an cdv ct), osl⟩) (c : PySem.W.codeIn K cdv qual = true) (k : PySem.W.keepIn K (.ref f) = true) : Mt K C x qual t :=
  ⟨f, _, fun_mk l c k, a, i, k⟩
structure Nt (K : PySem.W.Frag) (mg : Str → Option Value) (C : Addr) (x qual : Str) (t : Stmt) : Prop where
  ex : ∃ fa fd, Fun K "__init__" qual t fa fd ∧ Mk K C fa ∧ mg x = some (.ref C)
theorem nt_mk {h : Heap} {x qual : Str} {t : Stmt} {C f : Addr} {oc : Value} {od an : Option Addr} {osl : Array (Option Value)} {kV doc pm cdv ct : Value} (X : K.In h) (G : h.Ns mainGlobals mg) (ac : PySem.W.nsIn K mainGlobals x = some (some (.ref C))) (a : PySem.W.findIn K (.ref C) "__init__" = some (some (.ref f))) (i : PySem.W.isFn K (.ref f) = true)
    (l : K.lookup f = some ⟨oc, od, .func (PySem.W.fnOf "__init__" qual (defArgs t) (defBody t) (defScope t) .none kV doc pm an cdv ct), osl⟩) (c : PySem.W.codeIn K cdv qual = true) (k : PySem.W.keepIn K (.ref f) = true) (mk : PySem.W.makesIn K C = true) (kc : PySem.W.keepIn K (.ref C) = true) : Nt K mg C x qual t :=
  ⟨f, _, fun_mk l c k, ⟨mk, a, i, kc⟩, PySem.W.mg_of X G ac⟩
theorem Mt.fm {C : Nat} {x qual : Str} {t : Stmt} {k : Nat} {f : Mn} {ps : List Str} (m : Mt K (cl C) x qual t) (h : ∀ {fa : Addr} {fd : FuncData}, Fun K x qual t fa fd → FnG P w K mg base CX0 k fa fd ps (spF K cl f) ∧ Binds K fd ps []) : FM P w K mg base cl k C x f := by
  obtain ⟨fa, fd, Fu, me⟩ := m.ex
  exact ⟨fa, fd, ps, (h Fu).1, me, (h Fu).2⟩
theorem Nt.fn {C : Nat} {x qual : Str} {t : Stmt} {k : Nat} {f : Mn} {ps : List Str} (m : Nt K mg (cl C) x qual t) (h : ∀ {fa : Addr} {fd : FuncData}, Fun K "__init__" qual t fa fd → FnG P w K mg base CX0 k fa fd ps (spF K cl f) ∧ Binds K fd ps []) : FN P w K mg base cl k C x f := by
  obtain ⟨fa, fd, Fu, mk, me⟩ := m.ex
  exact ⟨fa, fd, ps, (h Fu).1, mk, me, (h Fu).2⟩
/-- the law called from the top -/
theorem law_go {mb : Str → Option Value} {k : Nat} {fa a : Addr} {fd : FuncData} {x : Str} {sp : Sp} {s1 : Shared} {vs : List Value} {ns : List Int} (KX : K.In s1.heap) (hns : s1.heap.Ns mainGlobals mg) (hb : s1.heap.Ns builtinsNs mb) (hbb : ∀ x : Str, x ≠ "__name__" → mb x = bootBuiltins x) (hlim : s1.heap.NoLimit) (hg : s1.gens = #[])
    (ha : s1.heap.get? a = some { cls := .type "list", data := .seq vs.toArray }) (hi : IntsAre vs ns) (hl : ns.length ≤ sizeLine) (hr : RoomG k callerA) (F : ∀ base : Heap, K.In base → base.Ns mainGlobals mg → FnG P w K mg base CX0 k fa fd [x] sp) (hbind : ∀ (s : Shared) (u : Value), BindsTo s fd ⟨[u], []⟩ [(x, u)])
    (hsp : ∀ H : Hp, Only H → SqL K H a (ns.map V.int) → sp [.ref a] H (fun v _ => v = .bl true) fun _ _ _ => False) :
    codeAny (model P w) callerA (.call (.ref fa) ⟨[.ref a], []⟩) (fun r s' => r = .ok (.ret (.bool true)) ∧ OldK s1.heap s'.heap ∧ s'.os = s1.os ∧ AllBare s'.gens) s1 := by
  have rv := vals_ints hi
  have go : ∀ H : Hp, Only H → SqL K H a (ns.map V.int) → HOk P w H s1.heap → (∀ b, H b ≠ none → b = a) → (H a ≠ none → K.lookup a = none) →
      codeAny (model P w) callerA (.call (.ref fa) ⟨[.ref a], []⟩) (fun r s' => r = .ok (.ret (.bool true)) ∧ OldK s1.heap s'.heap ∧ s'.os = s1.os ∧ AllBare s'.gens) s1 := by
    intro H hO hS hok hA hK
    have dictFree : ∀ {b : Addr} {o : Obj} {es : Array DictEntry} {ep : Nat}, s1.heap.get? b = some o → o.data = .dict es ep → H b = none := fun {b o es ep} q d => by
      cases hb : H b with
      | none => rfl
      | some u =>
        obtain rfl : b = a := hA b (by rw [hb]; exact Option.some_ne_none u)
        rw [ha] at q
        cases q
        cases d
    have nsT : ∀ {b : Addr} {m : Str → Option Value}, s1.heap.Ns b m → (hidT s1.heap H).Ns b m := fun {b m} ⟨o, es, ep, q, d, r⟩ => ⟨o, es, ep, hidT_get q (dictFree q d), d, r⟩
    have kin : K.In (hidT s1.heap H) := fun b o q => hidT_get (KX b o q) (by
      cases hb : H b with
      | none => rfl
      | some u =>
        obtain rfl : b = a := hA b (by rw [hb]; exact Option.some_ne_none u)
        rw [hK (by rw [hb]; exact Option.some_ne_none u)] at q
        cases q)
    obtain ⟨mc, c1, c2⟩ := hlim
    have env : Env0 P w K mg (hidT s1.heap H) callerA [] s1 H := ⟨rfl, ⟨kin, nsT hns, ⟨mb, nsT hb, hbb⟩, ⟨mc, nsT c1, c2⟩⟩, fun b o q => of_hidT q, Nat.le_of_eq (hidT_size _ _), trivial, (fun b z => by cases z), hok, .of_eq hg⟩
    refine codeAny_mono ((F _ kin (nsT hns)).go callerA [] s1 H ⟨[.ref a], []⟩ [.ref a] [.ref a] _ _ hr env (hbind s1 (.ref a)) (.cons rfl .nil) (hsp H hO hS)) fun r s' h => ?_
    cases r with
    | error e => exact h.elim
    | ok fl =>
      cases fl with
      | ret u =>
        obtain ⟨v, H', os, bare, un, hok', r', q⟩ := h
        have ev : v = .bl true := q
        subst ev
        obtain rfl : u = Value.bool true := r'
        refine ⟨rfl, OldK.of_keep fun b o e => ?_, os, bare⟩
        cases hb : H b with
        | none => exact un.keep b o e hb (fun z => by cases z) (fun z => by cases z)
        | some u =>
          rcases hO b with z | ⟨ob, xs, z⟩
          · rw [hb] at z
            cases z
          · obtain ⟨e1, _⟩ := hok b _ z
            obtain ⟨e2, _⟩ := hok' b _ (un.frzs b ob _ z)
            rw [e] at e1
            cases e1
            exact e2
      | _ => exact h.elim
  cases hk : K.lookup a with
  | some o =>
    have q := KX a o hk
    rw [ha] at q
    cases q
    refine go (fun _ => none) (fun _ => .inl rfl) (.inr ⟨_, vs.toArray, _, hk, rfl, rfl, rfl, by rw [List.size_toArray, hi.length]; exact hl, by simpa using rv⟩) (fun b u z => by cases z) (fun b z => absurd rfl z) fun z => absurd rfl z
  | none =>
    refine go (upd (fun _ => none) a (.frz { cls := .type "list", data := .seq vs.toArray } (.lst (ns.map V.int)))) (fun b => ?_) (.inl (.inr ⟨_, upd_same⟩)) (fun b u z => ?_) (fun b z => ?_) fun _ => hk
    · by_cases e : b = a
      · subst e
        exact .inr ⟨_, _, upd_same⟩
      · exact .inl (upd_ne e)
    · by_cases e : b = a
      · subst e
        rw [upd_same] at z
        cases z
        exact ⟨ha, by rw [List.length_map]; exact hl, vs, _, rv, ha⟩
      · rw [upd_ne e] at z
        cases z
    · by_cases e : b = a
      · exact e
      · exact absurd (upd_ne e) z
theorem callerG {k : Nat} (h : Room k callerA) : RoomG k callerA := ⟨h, rfl⟩
/-- the goal that the head leaves -/
theorem walkG {l : PySem.W.OpenLaw} {n k : Nat} {q : Program} {loose : List Str} {XP : (Str → Option Value) → Heap → Prop} {YP : World → Heap → Prop} {d : DefRec} {K : Params → PySem.W.Frag} {x : Str} {f : Mn}
    (hn : l.most = some n) (hn2 : n ≤ sizeLine) (hdf : d.params.defaults = []) (hr : Room k callerA) (hY : ∀ (w : World) (h : Heap), YP w h → (K w.params).In h)
    (F : ∀ (w : World) (mg : Str → Option Value) (fa : Addr) (h : Heap), (K w.params).In h → h.Ns mainGlobals mg → mg d.name = some (.ref fa) → ∃ fd : FuncData, (∀ (s : Shared) (u : Value), BindsTo s fd ⟨[u], []⟩ [(x, u)]) ∧
      ∃ cl : Nat → Addr, ∀ base : Heap, (K w.params).In base → base.Ns mainGlobals mg → FnG l.prog w (K w.params) mg base CX0 k fa fd [x] (spF (K w.params) cl f))
    (hf : ∀ ns : List Int, ns.length ≤ n → ∃ st', f [.scr ns] [] = some (.bl true, st')) : PySem.W.WalkO q loose XP YP l.row.toRowW d [] (fun f vs => PySem.call f vs) := by
  refine Att.attach_call hn hdf fun w s0 s1 mg mb fa o pm cd doc a vs ns G Y ho hd hcd hmg hobj hints hlen hg => ?_
  have KX := hY w _ Y
  obtain ⟨fd, hb, cl, hF⟩ := F w mg fa _ KX G.T.g hmg
  refine law_go KX G.T.g G.T.b G.T.builtins G.T.nolimit hg hobj hints (Nat.le_trans hlen hn2) (callerG hr) hF hb fun H hO hS => ?_
  obtain ⟨st', e⟩ := hf ns hlen
  refine ⟨H, [], [], [], [.scr ns], .bl true, st', ⟨[], ⟨Evl.Ex.refl H, (fun _ z => nomatch z), (fun _ z => nomatch z), .nil⟩, .nil⟩, .cons (.scr hS) .nil, e, fun v g' ι' H' _ _ z => ?_⟩
  cases z
  rfl
end
end Sd

namespace Sd
open PySem PySem.Spec PyProof.Rows L2
open Evl (Ex)
section
variable {X : Cx} {cl : Nat → Addr} {a b c e o : Expr} {es : List Expr} {pos p p' pa kpos : Pos} {m m1 m2 mo : M D} {ma mz : M (List D)} {kws : List Keyword} {nm : Option Str}
/-! a class called with keywords -/
structure WK (X : Cx) (kws : List Keyword) (σ : L2.St) (H : Hp) (Q : List V → Hp → Prop) : Prop where
  run : ∀ (pos : Pos) (pins : List (Addr × Obj)) (s : Shared), Inv X pins σ H s → wpAny (model X.prog X.w) X.A (evalAll ((backToKw pos (keywordEach kws X.env)).map (·.2))) (AP X pins σ Q) X.xe s
theorem WK.of {t : TA} {σ : L2.St} {H : Hp} {Q : List V → Hp → Prop} (k : PK X kws t) (h : t σ H Q) : WK X kws σ H Q := ⟨fun pos pins s I => k.run pos pins s σ H Q I h⟩
theorem WK.pk : PK X kws (WK X kws) := ⟨fun pos pins s _ _ _ I h => h.run pos pins s I⟩
theorem WK.mono {σ : L2.St} {H : Hp} {Q Q' : List V → Hp → Prop} (h : WK X kws σ H Q) (q : ∀ v H', Q v H' → Q' v H') : WK X kws σ H Q' :=
  ⟨fun pos pins s I => thn (h.run pos pins s I) fun _ _ ⟨v, H', I', r, z⟩ => ⟨v, H', I', r, q v H' z⟩⟩
def DenK (X : Cx) (cl : Nat → Addr) (kws : List Keyword) (m : M (List D)) : Prop := ∀ s v s', m s = some (v, s') → ∀ σ g ι Fr H, Rel X.K cl g ι σ s Fr H → WK X kws σ H (PostA X cl g ι σ s' Fr v)
theorem denk_nil : DenK X cl [] (ret []) := fun s v s' h σ g ι Fr H r => by
  cases h
  exact .of pk_nil ⟨g, ι, .refl, r, .nil⟩
theorem denk_cons (ha : Den X cl a m) (hr : DenK X cl kws mz) : DenK X cl (⟨nm, a, kpos⟩ :: kws) (bd m fun x => bd mz fun xs => ret (x :: xs)) := fun s v s' h σ g ι Fr H r => by
  obtain ⟨x, s1, h1, e1_⟩ := bd_some h
  obtain ⟨xs, s2, h2, e2_⟩ := bd_some e1_
  cases e2_
  exact .of (pk_cons WE.pe WK.pk) (WE.mono (ha s x s1 h1 σ g ι Fr H r) fun u H1 ⟨g1, i1, l1, r1, z1⟩ => WK.mono (hr s1 xs _ h2 σ g1 i1 Fr H1 r1) fun us H2 ⟨g2, i2, l2, r2, z2⟩ => ⟨g2, i2, l1.trans l2, r2, .cons (z1.up l2) z2⟩)
theorem go_makeK {C fa : Addr} {fd : FuncData} {ps ks : List Str} {k n : Nat} {sp : Sp} {gP : List Value → List Value → List Value} {gV : List V → List V → List V} {pins : List (Addr × Obj)} {σ : L2.St} {H : Hp} {s : Shared} {Q : VK} {us ws : List Value} {vs zs : List V} (mk : Mk X.K C fa) (F : FnG X.prog X.w X.K X.mg X.base CX0 k fa fd ps sp) (hr : RoomG (k + 1) X.A)
    (hb : KBn X.K fd ps (n + 1) ks gP gV) (I : Inv X pins σ H s) (r : Vals vs us) (rz : Vals zs ws) (l1 : vs.length = n) (l2 : zs.length = ks.length)
    (h : ∀ x dx, H x = none → H dx = none → dx ≠ x → sp (gV (.ref x :: vs) zs) (upd (upd H dx (.own x)) x (.ins C dx [])) (fun v H2 => v = .non ∧ Q (.ref x) H2) E0) : wpAny (model X.prog X.w) X.A (call (.ref C) us (ks.zip ws)) (EP X pins σ Q) X.xe s := by
  have nw := h (s.heap.objs.size + 1) s.heap.objs.size (I.hok.fresh (Nat.le_succ _)) (I.hok.fresh (Nat.le_refl _)) (Nat.ne_of_lt (Nat.lt_succ_self _))
  have J := Inv.made (C := C) I
  have rr : Vals (V.ref (s.heap.objs.size + 1) :: vs) (Value.ref (s.heap.objs.size + 1) :: us) := .cons rfl r
  have n1 : (Value.ref (s.heap.objs.size + 1) :: us).length = n + 1 := by
    rw [List.length_cons, ← r.length, l1]
  have bb := hb.to { s with heap := (s.heap.push PySem.W.emptyDict).push (PySem.W.instObj C s.heap.objs.size) } (Value.ref (s.heap.objs.size + 1) :: us) ws J.kIn n1 (rz.length.symm.trans l2)
  refine wpAny_call (make_map (f := fa) I.kIn mk.makes mk.init (beq_iff_eq.mp mk.fn) (codeAny_mono (F.go _ X.stack _ _ ⟨Value.ref (s.heap.objs.size + 1) :: us, ks.zip ws⟩ _ _ _ E0 (hr.make C us (ks.zip ws)) (J.env0.make C us (ks.zip ws)) bb (hb.rel rr rz) nw) fun res s' hq => ?_))
  cases res with
  | error e => exact hq.elim
  | ok fl =>
    cases fl with
    | ret u =>
      obtain ⟨v, H', J3, rv, ev, q3⟩ := J.after hq
      subst ev
      exact ⟨rv, V.ref (s.heap.objs.size + 1), H', J3, rfl, q3⟩
    | _ => exact hq.elim
/-- a class whose __init__ takes n values and the keywords ks; gD: all of its parameters behind self -/
structure FK (P : Program) (w : World) (K : PySem.W.Frag) (mg : Str → Option Value) (base : Heap) (cl : Nat → Addr) (k c : Nat) (x : Str) (n : Nat) (ks : List Str) (gD : List D → List D → List D) (f : Mn) : Prop where
  ex : ∃ (fa : Addr) (fd : FuncData) (ps : List Str) (gP : List Value → List Value → List Value) (gV hV : List V → List V → List V), FnG P w K mg base CX0 k fa fd ps (spF K cl f) ∧ Mk K (cl c) fa ∧ mg x = some (.ref (cl c)) ∧ KBn K fd ps (n + 1) ks gP gV ∧ (∀ y vs zs, gV (.ref y :: vs) zs = .ref y :: hV vs zs) ∧
    ∀ ι g vs zs ds es, DRs K cl ι g vs ds → DRs K cl ι g zs es → DRs K cl ι g (hV vs zs) (gD ds es)
theorem den_makeK {k cn n : Nat} {x : Str} {ks : List Str} {gD : List D → List D → List D} {f : Mn} (G : FK X.prog X.w X.K X.mg X.base cl k cn x n ks gD f) (hr : RoomG (k + 1) X.A) (hg : Gl X x) (ha : DenA X cl (e :: es) ma) (hk : DenK X cl kws mz)
    (hall : (backToKw pos (keywordEach kws X.env)).all (·.1.isSome) = true := by rfl) (hks : (backToKw pos (keywordEach kws X.env)).filterMap (·.1) = ks := by rfl) (hdb : (x == ("__debug__" : Str)) = false := by decide)
    (he : starEach (e :: es) X.env = (false, eval e X.env) :: starEach es X.env := by rfl) (hpl : ((backTo pos (starEach (e :: es) X.env)).any (·.1) || (backToKw pos (keywordEach kws X.env)).any (·.1.isNone)) = false := by rfl) :
    Den X cl (.Call (.Name x p) (e :: es) kws pos) (bd ma fun ds => bd mz fun zs => if ds.length = n ∧ zs.length = ks.length then mkM cn f (gD ds zs) else fl) := fun s v s' h σ g ι Fr H r => by
  obtain ⟨ds, s1, h1, e1_⟩ := bd_some h
  obtain ⟨zs, s2, h2, e2_⟩ := bd_some e1_
  split at e2_
  · rename_i hl
    obtain ⟨fa, fd, ps, gP, gV, hV, G, mk, hm, hb, hg1, hg2⟩ := G.ex
    have pe : PE X (.Call (.Name x p) (e :: es) kws pos) (fun σ H Q => WA X (e :: es) σ H fun vs H1 => WK X kws σ H1 fun ws H2 => vs.length = n ∧ ws.length = ks.length ∧ ∀ y dx, H2 y = none → H2 dx = none → dx ≠ y → spF X.K cl f (.ref y :: hV vs ws) (upd (upd H2 dx (.own y)) y (.ins (cl cn) dx [])) (fun v H3 => v = .non ∧ Q (.ref y) H3) E0) := by
      refine ⟨fun pins sh σ H Q I hq => wpAny_Call_Name_kw (ld_glob I hg hm ?_ hdb)⟩
      refine PySem.W.callWith_KW (h₀ := X.base) I.ok.mod.kin mk.kp hall (thn (hq.run pos pins sh I) fun us s1 ⟨vs, H1, I1, r, q⟩ => ?_) hpl he
      refine thn (q.run pos pins s1 I1) fun ws s2 ⟨zs, H2, I2, rz, l1, l2, q2⟩ => ⟨I2.kIn, ?_⟩
      rw [hks]
      exact go_makeK mk G hr hb I2 r rz l1 l2 fun y dx n1 n2 n3 => by rw [hg1]; exact q2 y dx n1 n2 n3
    refine .of pe (WA.mono (ha s ds s1 h1 σ g ι Fr H r) fun us H1 ⟨g1, i1, l1, r1, z1⟩ => WK.mono (hk s1 zs s2 h2 σ g1 i1 Fr H1 r1) fun ws H2 ⟨g2, i2, l2, r2, z2⟩ => ⟨?_, ?_, ?_⟩)
    · rw [z1.length]
      exact hl.1
    · rw [z2.length]
      exact hl.2
    · exact mk_sp e2_ r2 (hg2 _ _ _ _ _ _ (z1.up l2) z2) fun _ _ q => q.lt (l1.trans l2)
  · cases e2_
/-- a def by its body alone (how it binds is told elsewhere) -/
theorem FG.mk' {P : Program} {w : World} {K : PySem.W.Frag} {mg : Str → Option Value} {base : Heap} {x qual : Str} {t : Stmt} {N ps : List Str} {k np n : Nat} {mb : M Fl} {fa : Addr} {fd : FuncData} (Fu : Fun K x qual t fa fd) (sc : FnScope N ps (defScope t))
    (bdy : ∀ (cdv : Value) (A : Around) (o : List Env) (s : Shared) (H : Hp) (E : XK), RoomG k (A.deeper (envOfC qual (defScope t) s.heap.objs.size fa cdv)) → DenS (Cf P w K mg base N qual t fa cdv A o s H E) cl (defBody t) mb)
    (hp : ps.length = np := by rfl) (hn : N.length = n := by rfl) : FnG P w K mg base CX0 (k + 1) fa fd ps (spF K cl (runD np n mb)) := by
  refine fng_of Fu sc (fun vs H Q E h => ?_) (fun cdv A o s H vs Q E hr h => ?_)
  · obtain ⟨g, ι, st, Fr, ds, d, st', _, z, hm, _⟩ := h
    rw [z.length, (runD_some hm).1, hp]
  · exact WS.nox (run_body (X := Cf P w K mg base N qual t fa cdv A o s H E) rfl hn (bdy cdv A o s H E hr) h)
end
end Sd

namespace Sd
open PySem PySem.Spec PyProof.Rows L2
open Evl (Ex)
/-! comprehensions with two generators -/
theorem walk_any {J : It} {n : Nat} {G : Hp → Prop} {Y : Nat → Hp → V → Hp → Prop} (w : Walk J n G Y) {B : V → Hp → (Hp → Prop) → Prop} {H0 : Hp} {Qd : Hp → Prop} (Pv : Nat → Hp → Prop) (h0 : Pv 0 H0) (hG : ∀ i H, i ≤ n → Pv i H → G H) (hs : ∀ i x H H', i < n → Pv i H → Y i H x H' → B x H' (Pv (i + 1))) (hd : ∀ H, Pv n H → Qd H) :
    ∃ W : Nat → Nat → Hp → Prop, (∃ m, W 0 m H0) ∧ ∀ i m H, W i m H → (J.stop i H ∧ Qd H) ∨ (J.go i H ∧ ∃ Nx : Hp → Prop, (∀ H', Nx H' → ∃ m', m' < m ∧ W (i + 1) m' H') ∧ ∀ x H', J.yld i H x H' → B x H' Nx) := by
  refine ⟨fun i m H => m + i = n ∧ Pv i H, ⟨n, rfl, h0⟩, fun i m H ⟨hm, hp⟩ => ?_⟩
  have g0 := hG i H (by omega) hp
  by_cases hlt : i < n
  · exact .inr ⟨w.goes i H hlt g0, Pv (i + 1), fun H' hp' => ⟨m - 1, by omega, by omega, hp'⟩, fun x H' yy => hs i x H H' hlt hp (w.yields i H x H' hlt g0 yy)⟩
  · have ei : i = n := by omega
    subst ei
    exact .inl ⟨w.stops H g0, hd H hp⟩
/-- the inner rows are walked for each of the outer -/
def lc2Go (own own1 : List Nat) (ts : D → M Unit) (mc : M Bool) (mi1 : M (List D)) (ts1 : D → M Unit) (mc1 : M Bool) (me : M D) : List D → List D → M (List D)
  | [], acc => ret acc
  | d :: r, acc => fun s => (bd (ts d) fun _ => bd mc fun t => if t then bd mi1 fun ds1 => if ds1.length ≤ 100000 ∧ acc.length ≤ 100000 then bd (lcGo own1 ts1 mc1 me ds1 acc) fun acc' => lc2Go own own1 ts mc mi1 ts1 mc1 me r acc' else fl else lc2Go own own1 ts mc mi1 ts1 mc1 me r acc) (wpS own s)
def lc2M (own own1 : List Nat) (ts : D → M Unit) (mc : M Bool) (mi1 : M (List D)) (ts1 : D → M Unit) (mc1 : M Bool) (me : M D) (mi : M (List D)) : M (List D) := bd mi fun ds => fun s1 => (match lc2Go own own1 ts mc mi1 ts1 mc1 me ds [] s1 with
  | some (l, s2) => (match rst own s1.r (wpS own s2).r with
    | some r => some (l, ⟨r, s2.st⟩)
    | none => none)
  | none => none)
section
variable {X : Cx} {cl : Nat → Addr} {a b c e tg iter elt tg1 iter1 : Expr} {es ifs ifs1 : List Expr} {pos p p' pt : Pos} {m m1 m2 m3 me : M D} {ma mi mi1 : M (List D)} {mc mc1 : M Bool}
def BI (X : Cx) (scope : Scope) (tg iter : Expr) : TI := fun σ H R => ∀ (s : Shared) (H0 : Hp) (C : Addr) (cel : List (Str × Addr)) (fp : List Addr), WI (Bk X scope s H0 C cel fp) tg iter σ H R
/-- one walk that adds to a list of the frame -/
theorem lc_add {J : It} {scope : Scope} {own : List Nat} {tgg : TG} {ts : D → M Unit} {ds l accD0 : List D} {accV0 : List V} {g1 H1 : Hp} {ι1 : List Addr} {σ : L2.St} {s1 s2 : S} {Fr : Rl} {D1 : Addr} {Qd : Hp → Prop} (w : Walk J ds.length (fun H' => Ex g1 H') (Yd X.K cl ι1 g1 ds)) (r1 : Rel X.K cl g1 ι1 (wipe σ own) (wpS own s1) ((D1, .lst accV0) :: Fr) H1) (z1 : DRs X.K cl ι1 g1 accV0 accD0) (hl : ds.length ≤ 100000 ∧ accD0.length ≤ 100000)
    (htg : ∀ d s s', ts d s = some ((), s') → ∀ σ g ι Fr H v, Rel X.K cl g ι σ s Fr H → DR X.K cl ι g v d → ∃ σ', Rel X.K cl g ι σ' s' Fr H ∧ (∀ Q : L2.St → Hp → Prop, Q σ' H → tgg v σ H Q) ∧ (∀ vs, (∀ n ∈ own, n ∈ vs) → wipe σ' vs = wipe σ vs))
    (ht : ∀ (s : Shared) (H : Hp) (C : Addr) (cel : List (Str × Addr)) (fp : List Addr), DenTs (Bk X scope s H C cel fp) cl ifs mc) (he : ∀ (s : Shared) (H : Hp) (C : Addr) (cel : List (Str × Addr)) (fp : List Addr), Den (Bk X scope s H C cel fp) cl elt me)
    (hm : lcGo own ts mc me ds accD0 s1 = some (l, s2))
    (hd : ∀ acc g' ι' H', Lt g1 ι1 g' ι' → Rel X.K cl g' ι' (wipe σ own) (wpS own s2) ((D1, .lst acc) :: Fr) H' → DRs X.K cl ι' g' acc l → Qd H') :
    ∃ W : Nat → Nat → Hp → Prop, (∃ m, W 0 m H1) ∧ ∀ i m H, W i m H →
      (J.stop i H ∧ Qd H) ∨ (J.go i H ∧ ∃ Nx : Hp → Prop, (∀ H', Nx H' → ∃ m', m' < m ∧ W (i + 1) m' H') ∧ ∀ x H', J.yld i H x H' → tgg x (wipe σ own) H' fun σ2 H2 => wipe σ2 own = wipe σ own ∧ BTs X scope ifs σ2 H2 fun b H3 =>
        if b = true then BE X scope elt σ2 H3 fun y H4 => ∃ acc, H4 D1 = some (.lst acc) ∧ acc.length < sizeLine ∧ Nx (upd H4 D1 (.lst (acc ++ [y]))) else Nx H3) := by
  refine walk_any w (fun i H' => ∃ (accV : List V) (accD : List D) (g' : Hp) (ι' : List Addr) (si : S), Lt g1 ι1 g' ι' ∧ Rel X.K cl g' ι' (wipe σ own) (wpS own si) ((D1, .lst accV) :: Fr) H' ∧ DRs X.K cl ι' g' accV accD ∧ lcGo own ts mc me (ds.drop i) accD si = some (l, s2) ∧ accV.length ≤ 100000 + i)
    ⟨accV0, accD0, g1, ι1, s1, .refl, r1, z1, hm, by rw [z1.length]; omega⟩ (fun i H' _ ⟨accV, accD, g', ι', si, lt, r, _⟩ => lt.e.trans r.ex) (fun i v H' H2 hi ⟨accV, accD, g', ι', si, lt, r, hA, hgo, hle⟩ yy => ?_) (fun H' ⟨accV, accD, g', ι', si, lt, r, hA, hgo, hle⟩ => ?_)
  · obtain ⟨d, g2, hdi, l2, r2, z2⟩ := yy.rel lt r
    have hdr : ds.drop i = d :: ds.drop (i + 1) := by
      have e := List.getElem?_eq_some_iff.mp hdi
      rw [List.drop_eq_getElem_cons e.1, e.2]
    rw [hdr] at hgo
    obtain ⟨_, sa, k1, hgo⟩ := bd_some (show (bd (ts d) fun _ => bd mc fun t => if t then bd me fun x => lcGo own ts mc me (ds.drop (i + 1)) (accD ++ [x]) else lcGo own ts mc me (ds.drop (i + 1)) accD) (wpS own si) = some (l, s2) from hgo)
    obtain ⟨t, sb, k2, hgo⟩ := bd_some hgo
    obtain ⟨σ2, r3, q3, w3⟩ := htg d _ _ k1 _ _ _ _ _ _ r2 z2
    have hw : wipe σ2 own = wipe σ own := (w3 own fun _ h => h).trans wipe_wipe
    refine q3 _ ⟨hw, fun sx Hx C cel fp => WTs.mono (ht sx Hx C cel fp sa t sb k2 σ2 g2 ι' _ H2 r3) fun u H3 ⟨eu, g4, i4, l4, r4⟩ => ?_⟩
    subst eu
    cases u with
    | false =>
      rw [if_neg Bool.false_ne_true] at hgo ⊢
      refine ⟨accV, accD, g4, i4, sb, (lt.trans l2).trans l4, ?_, hA.up (l2.trans l4), hgo, by omega⟩
      rw [← hw]
      exact r4.wp own
    | true =>
      rw [if_pos rfl] at hgo ⊢
      obtain ⟨x, sc, k3, hgo⟩ := bd_some hgo
      intro sx Hx C cel fp
      refine WE.mono (he sx Hx C cel fp sb x sc k3 σ2 g4 i4 _ H3 r4) fun y H4 ⟨g5, i5, l5, r5, z5⟩ => ?_
      have f := r5.fr (o' := .lst (accV ++ [y]))
      refine ⟨accV, f.1, Nat.lt_of_le_of_lt (show accV.length ≤ 200000 by omega) (by rw [sizeLine_eq]; decide), accV ++ [y], accD ++ [x], g5, i5, sc, ((lt.trans l2).trans l4).trans l5, ?_, (hA.up ((l2.trans l4).trans l5)).snoc z5, hgo, by rw [List.length_append]; show accV.length + 1 ≤ 100000 + (i + 1); omega⟩
      rw [← hw]
      exact f.2.wp own
  · rw [List.drop_length] at hgo
    cases hgo
    exact hd accV g' ι' H' lt r hA
theorem wpS_get (own : List Nat) : ∀ (r : List SV) (j : Nat), (own.foldl (fun r n => r.set n .un) r)[j]? = if j ∈ own then (r[j]?).map (fun _ => SV.un) else r[j]? := by
  induction own with
  | nil => intro r j; simp
  | cons n own ih =>
    intro r j
    rw [List.foldl_cons, ih, List.getElem?_set]
    by_cases e : n = j
    · subst e
      rw [if_pos rfl, if_pos (List.mem_cons_self ..)]
      by_cases hl : n < r.length
      · rw [if_pos hl, List.getElem?_eq_getElem hl]
        split <;> rfl
      · rw [if_neg hl, List.getElem?_eq_none (by omega)]
        split <;> rfl
    · rw [if_neg e]
      have : (j ∈ n :: own) ↔ j ∈ own := by
        rw [List.mem_cons]
        exact ⟨fun h => h.resolve_left fun z => e z.symm, .inr⟩
      simp only [this]
theorem wpS_sub {own own1 : List Nat} (h : ∀ n ∈ own1, n ∈ own) (s : S) : wpS own (wpS own1 s) = wpS own s := by
  unfold wpS
  congr 1
  apply List.ext_getElem?
  intro j
  rw [wpS_get, wpS_get, wpS_get]
  by_cases hj : j ∈ own
  · rw [if_pos hj, if_pos hj]
    split
    · cases s.r[j]? <;> rfl
    · rfl
  · rw [if_neg hj, if_neg hj, if_neg fun z => hj (h j z)]
theorem wipe_sub {own own1 : List Nat} (h : ∀ n ∈ own1, n ∈ own) (σ : L2.St) : wipe (wipe σ own1) own = wipe σ own := by
  apply List.ext_getElem?
  intro j
  rw [wipe_get, wipe_get, wipe_get]
  by_cases hj : j ∈ own
  · rw [if_pos hj, if_pos hj]
    split
    · cases σ[j]? <;> rfl
    · rfl
  · rw [if_neg hj, if_neg hj, if_neg fun z => hj (h j z)]
theorem lc2_done {own own1 : List Nat} {ts ts1 : D → M Unit} {ds l : List D} {s1 s' : S} (h : (match lc2Go own own1 ts mc mi1 ts1 mc1 me ds [] s1 with | some (l, s2) => (match rst own s1.r (wpS own s2).r with | some r => some (l, (⟨r, s2.st⟩ : S)) | none => none) | none => none) = some (l, s')) :
    ∃ s2, lc2Go own own1 ts mc mi1 ts1 mc1 me ds [] s1 = some (l, s2) ∧ rst own s1.r (wpS own s2).r = some s'.r ∧ s'.st = s2.st := by
  split at h
  · rename_i l0 s2 e
    split at h
    · rename_i r er
      cases h
      exact ⟨s2, e, er, rfl⟩
    · cases h
  · cases h
theorem den_lc2 {scope : Scope} {own : List (Str × Nat)} {o o1 vs1 : List Nat} {tgg tgg1 : TG} {ts ts1 : D → M Unit} (hc : X.calm = true) (hN : X.N.Nodup) (ok : BlkOk X.N X.env.scope scope own)
    (htg : ∀ (s : Shared) (H : Hp) (C : Addr) (cel : List (Str × Addr)) (fp : List Addr), TgD (Bk X scope s H C cel fp) cl tg o1 tgg ts) (hi : DenI X cl tg iter mi)
    (ht : ∀ (s : Shared) (H : Hp) (C : Addr) (cel : List (Str × Addr)) (fp : List Addr), DenTs (Bk X scope s H C cel fp) cl ifs mc)
    (htg1 : ∀ (s : Shared) (H : Hp) (C : Addr) (cel : List (Str × Addr)) (fp : List Addr), TgD (Bk X scope s H C cel fp) cl tg1 vs1 tgg1 ts1) (hi1 : ∀ (s : Shared) (H : Hp) (C : Addr) (cel : List (Str × Addr)) (fp : List Addr), DenI (Bk X scope s H C cel fp) cl tg1 iter1 mi1)
    (ht1 : ∀ (s : Shared) (H : Hp) (C : Addr) (cel : List (Str × Addr)) (fp : List Addr), DenTs (Bk X scope s H C cel fp) cl ifs1 mc1) (he : ∀ (s : Shared) (H : Hp) (C : Addr) (cel : List (Str × Addr)) (fp : List Addr), Den (Bk X scope s H C cel fp) cl elt me)
    (ho : own.map (·.2) = o := by rfl) (h1 : ∀ n ∈ o1, n ∈ o := by decide) (hv : ∀ n ∈ vs1, n ∈ o := by decide) (hs : ∀ x, foldedSetIterable iter X.env x = pure x := by intro _; rfl) (hs1 : ∀ env x, foldedSetIterable iter1 env x = pure x := by intro _ _; rfl) :
    Den X cl (.ListComp elt [⟨tg, iter, ifs, 0⟩, ⟨tg1, iter1, ifs1, 0⟩] scope pos) (bd (lc2M o vs1 ts mc mi1 ts1 mc1 me mi) fun l => ret (.lst l)) := fun s v s' h σ g ι Fr H r => by
  subst ho
  obtain ⟨l, s3, hm, e1_⟩ := bd_some h
  cases e1_
  obtain ⟨ds, s1, h2, h3⟩ := bd_some hm
  obtain ⟨s2, k1, k2, k3⟩ := lc2_done h3
  refine .of (pe_lc2 (own := own) (vs1 := vs1) (g := tgg) (tt := BTs X scope ifs) (wi1 := BI X scope tg1 iter1) (g1 := tgg1) (tt1 := BTs X scope ifs1) (te := BE X scope elt) hc hN WI.pi ok hv (fun s H C cel fp => (htg s H C cel fp).1) (fun s H C cel fp => ⟨fun pins s' σ H' Q I q => (q s H C cel fp).run pins s' I⟩) (fun s H C cel fp => ⟨fun pins s' σ H' Q I q => (q s H C cel fp).run pins s' I⟩) (fun s H C cel fp => (htg1 s H C cel fp).1) (fun s H C cel fp => ⟨fun pins s' σ H' Q I q => (q s H C cel fp).run pins s' I⟩) (fun s H C cel fp => ⟨fun pins s' σ H' Q I q => (q s H C cel fp).run pins s' I⟩) hs hs1)
    (hi s ds s1 h2 σ g ι Fr H r _ fun J g1 ι1 H1 l1 r1 w D1 nD => ?_)
  refine walk_any w (fun i H' => ∃ (accV : List V) (accD : List D) (g' : Hp) (ι' : List Addr) (si : S), Lt g1 ι1 g' ι' ∧ Rel X.K cl g' ι' (wipe σ (own.map (·.2))) (wpS (own.map (·.2)) si) ((D1, .lst accV) :: Fr) H' ∧ DRs X.K cl ι' g' accV accD ∧ lc2Go (own.map (·.2)) vs1 ts mc mi1 ts1 mc1 me (ds.drop i) accD si = some (l, s2))
    ⟨[], [], g1, ι1, s1, .refl, (r1.newFr nD).wp _, .nil, k1⟩ (fun i H' _ ⟨accV, accD, g', ι', si, lt, r, _⟩ => lt.e.trans r.ex) (fun i v H' H2 hlt ⟨accV, accD, g', ι', si, lt, r, hA, hgo⟩ yy => ?_) (fun H' ⟨accV, accD, g', ι', si, lt, r, hA, hgo⟩ => ?_)
  · obtain ⟨d, g2, hdi, l2, r2, z2⟩ := yy.rel lt r
    have hdr : ds.drop i = d :: ds.drop (i + 1) := by
      have e := List.getElem?_eq_some_iff.mp hdi
      rw [List.drop_eq_getElem_cons e.1, e.2]
    rw [hdr] at hgo
    unfold lc2Go at hgo
    obtain ⟨_, sa, q1, hgo⟩ := bd_some hgo
    obtain ⟨t, sb, q2, hgo⟩ := bd_some hgo
    obtain ⟨σ2, r3, q3, w3⟩ := (htg X.s_0 H 0 [] []).2 d _ _ q1 _ _ _ _ _ _ r2 z2
    have hw : wipe σ2 (own.map (·.2)) = wipe σ (own.map (·.2)) := (w3 _ h1).trans wipe_wipe
    refine q3 _ ⟨hw, fun sx Hx C cel fp => WTs.mono (ht sx Hx C cel fp sa t sb q2 σ2 g2 ι' _ H2 r3) fun u H3 ⟨eu, g4, i4, l4, r4⟩ => ?_⟩
    subst eu
    cases u with
    | false =>
      rw [if_neg Bool.false_ne_true] at hgo ⊢
      refine ⟨accV, accD, g4, i4, sb, (lt.trans l2).trans l4, ?_, hA.up (l2.trans l4), hgo⟩
      rw [← hw]
      exact r4.wp _
    | true =>
      rw [if_pos rfl] at hgo ⊢
      obtain ⟨ds1, sc, q4, hgo⟩ := bd_some hgo
      split at hgo
      · rename_i hl
        obtain ⟨acc', sd, q5, hgo⟩ := bd_some hgo
        intro sx Hx C cel fp
        refine hi1 sx Hx C cel fp sb ds1 sc q4 σ2 g4 i4 _ H3 r4 _ fun J1 g5 i5 H5 l5 r5 w5 => ?_
        refine lc_add (scope := scope) (mc := mc1) (me := me) (ts := ts1) w5 (r5.wp vs1) (hA.up ((l2.trans l4).trans l5)) hl (fun d s s' => (htg1 X.s_0 H 0 [] []).2 d s s') ht1 he q5 fun acc g6 i6 H6 l6 r6 z6 => ?_
        refine ⟨acc, acc', g6, i6, sd, (((lt.trans l2).trans l4).trans l5).trans l6, ?_, z6, hgo⟩
        have r7 := r6.wp (own.map (·.2))
        rw [wipe_sub hv, wpS_sub hv, hw] at r7
        exact r7
      · cases hgo
  · rw [List.drop_length] at hgo
    cases hgo
    have kk := (lc_back r1 lt r k2 k3).frKeep
    exact ⟨_, ι', (l1.trans lt).trans kk.2, kk.1, .lst upd_same (hA.up kk.2)⟩
end
end Sd

namespace Sd
open PySem PySem.Spec PyProof.Rows L2
open Evl (Ex)
/-! ints in order -/
def insI (a : Int) : List Int → List Int
  | [] => [a]
  | b :: l => if a ≤ b then a :: b :: l else b :: insI a l
def srtI : List Int → List Int
  | [] => []
  | a :: l => insI a (srtI l)
theorem insI_perm (a : Int) : ∀ l, (insI a l).Perm (a :: l)
  | [] => .refl _
  | b :: l => by
    unfold insI
    split
    · exact .refl _
    · exact ((insI_perm a l).cons b).trans (.swap a b l)
theorem srtI_perm : ∀ l, (srtI l).Perm l
  | [] => .refl _
  | a :: l => (insI_perm a _).trans ((srtI_perm l).cons a)
theorem insI_up (a : Int) : ∀ {l : List Int}, l.Pairwise (· ≤ ·) → (insI a l).Pairwise (· ≤ ·)
  | [], _ => by simp [insI]
  | b :: l, h => by
    obtain ⟨h1, h2⟩ := List.pairwise_cons.mp h
    unfold insI
    split
    · rename_i hab
      refine List.pairwise_cons.mpr ⟨fun x hx => ?_, h⟩
      rcases List.mem_cons.mp hx with rfl | hx
      · exact hab
      · exact Int.le_trans hab (h1 x hx)
    · rename_i hab
      refine List.pairwise_cons.mpr ⟨fun x hx => ?_, insI_up a h2⟩
      rcases List.mem_cons.mp ((insI_perm a l).mem_iff.mp hx) with rfl | hx
      · omega
      · exact h1 x hx
theorem srtI_up : ∀ l, (srtI l).Pairwise (· ≤ ·)
  | [] => .nil
  | a :: l => insI_up a (srtI_up l)
theorem up_uniq : ∀ {k l : List Int}, k.Perm l → k.Pairwise (· ≤ ·) → l.Pairwise (· ≤ ·) → k = l
  | [], l, p, _, _ => (List.nil_perm.mp p).symm
  | a :: k, [], p, _, _ => absurd p.length_eq (by simp)
  | a :: k, b :: l, p, hk, hl => by
    obtain ⟨h1, h2⟩ := List.pairwise_cons.mp hk
    obtain ⟨h3, h4⟩ := List.pairwise_cons.mp hl
    have e : a = b := by
      rcases List.mem_cons.mp (p.mem_iff.mp (List.mem_cons_self ..)) with e | ha
      · exact e
      · rcases List.mem_cons.mp (p.symm.mem_iff.mp (List.mem_cons_self ..)) with e | hb
        · exact e.symm
        · exact Int.le_antisymm (h1 b hb) (h3 a ha)
    subst e
    rw [up_uniq p.cons_inv h2 h4]
/-! sorted(t), min(t) of tuples of ints -/
section
variable {prog : Program} {w : World} {A : Around} {E : Value → Shared → Prop} {s : Shared}
theorem collectT {t : Addr} {vs : List Value} {Q : List Value → Shared → Prop} (ht : s.heap.IsTuple t vs.toArray) (hz : vs.length ≤ sizeLine)
    (fin : Q vs { s with heap := (s.heap.push (seqObj "list" #[] 0)).update s.heap.objs.size (Obj.mapSeq (· ++ vs.toArray)) }) : wpAny (model prog w) A (collect (.ref t)) Q E s := by
  obtain ⟨ob, h1, h2, nn, h3⟩ := id ht
  unfold collect
  refine wpAny_bind (wpAny_runValue (codeAny_builtin entry_proto_collect' (?_ : wpAny _ _ (do again (.builtin "list.__iadd__" ⟨[← newList [], .ref t], []⟩)) _ _ s)))
  refine wpAny_bind (wpAny_newList (wpAny_pure ⟨Code.quiet_builtin _ (by decide +kernel), codeAny_builtin entry_list_iadd' (?_ : wpAny _ _ (Builtin.List.listExtendWith (.ref s.heap.objs.size) (.ref t) (.ref s.heap.objs.size)) _ _ { s with heap := s.heap.push (seqObj "list" #[] 0) })⟩))
  unfold Builtin.List.listExtendWith
  have h4 : (s.heap.push (seqObj "list" #[] 0)).get? t = some ob := Heap.get?_push_of_some _ h1
  refine wpAny_bind (wpAny_typeOf (T := "tuple") ⟨ob, h4, h2⟩ ?_)
  have tt : (Value.type "tuple" == Value.type "tuple") = true := rfl
  rw [if_pos (by rw [tt]; simp)]
  refine wpAny_bind (listItems_at h4 h3 (wpAny_bind (listItems_at (xs := #[]) (n := 0) (Heap.get?_push_size _ rfl) rfl ?_)))
  rw [if_neg (by simp)]
  refine wpAny_bind (listUpdate_at (xs := #[]) (n := 0) (Heap.get?_push_size _ rfl) rfl (wpAny_pure ?_) (Nat.zero_le _) (by show (#[] ++ vs.toArray).size ≤ sizeLine + 1; simp only [Array.size_append, List.size_toArray, List.length_nil]; omega))
  refine (?_ : wpAny (model prog w) A (load s.heap.objs.size >>= fun o => match o.data with | .seq xs _ => pure xs.toList | _ => unsupported "internal:collect") Q E { s with heap := (s.heap.push (seqObj "list" #[] 0)).update s.heap.objs.size (Obj.mapSeq (· ++ vs.toArray)) })
  refine wpAny_bind (wpAny_load (get?_update_seq (Heap.get?_push_size _ rfl) _) (?_ : wpAny _ _ (pure ((#[] : Array Value) ++ vs.toArray).toList) Q E _))
  rw [show ((#[] : Array Value) ++ vs.toArray).toList = vs by simp]
  exact wpAny_pure fin
open SrtO in
theorem sortedT {t : Addr} {vs : List Value} {ns : List Int} {Q : Value → Shared → Prop} (ht : s.heap.IsTuple t vs.toArray) (hI : IntsAre vs ns) (hz : vs.length ≤ sizeLine)
    (h : ∀ out : List Value, Srtd ltIv out → Stb ltIv out vs → Q (.ref (s.heap.objs.size + 1)) { s with heap := sortedAll s.heap vs out.toArray }) : wpAny (model prog w) A (call (.builtin "sorted") [.ref t]) Q E s := by
  refine Calls.call_function_entry kind_sorted plain_sorted entry_sorted (args_sorted1 _) ?_
  unfold Builtin.«sorted»
  refine wpAny_bind (m := checkCount "sorted" 1 1 _) (wpAny_pure (wpAny_bind (collectT ht hz (wpAny_bind (wpAny_newList ?_ hz)))))
  have z1 : ((s.heap.push (seqObj "list" #[] 0)).update s.heap.objs.size (Obj.mapSeq (· ++ vs.toArray))).objs.size = s.heap.objs.size + 1 := by rw [Heap.size_update, size_push']
  have g1 : (((s.heap.push (seqObj "list" #[] 0)).update s.heap.objs.size (Obj.mapSeq (· ++ vs.toArray))).push (seqObj "list" vs.toArray 0)).get? (s.heap.objs.size + 1) = some (seqObj "list" vs.toArray 0) := by rw [← z1]; exact Heap.get?_push_size _ rfl
  refine (?_ : wpAny _ _ _ _ _ { s with heap := ((s.heap.push (seqObj "list" #[] 0)).update s.heap.objs.size (Obj.mapSeq (· ++ vs.toArray))).push (seqObj "list" vs.toArray 0) })
  rw [z1]
  refine wpAny_bind (wpAny_holding (wpAny_call_entry slot_list_sort ⟨_, g1, rfl⟩ entry_list_sort (list_sort_ord swo_int g1 hz (fun h2 => ints_sortable hI h2) fun out hs hb => ⟨_, rfl, ?_⟩) (args_list_sort _)))
  exact wpAny_pure ⟨_, rfl, h out hs hb⟩
theorem minTup {t : Addr} {xs : Array (Int × Tok)} {Q : Value → Shared → Prop} (hh : A.handled = none) (ht : s.heap.IsTuple t (intItems xs)) (hne : 0 < xs.size)
    (h : ∀ v h' tk, (intItems xs)[argBest (fun i j => decide (numAt xs i < numAt xs j)) (xs.size - 1)]? = some v → (∀ b o, s.heap.get? b = some o → h'.get? b = some o) → Q v { s with heap := h', toks := tk }) : wpAny (model prog w) A (call (.builtin "min") [.ref t]) Q E s := by
  obtain ⟨o, ho, hc, n, hd⟩ := id ht
  have hnt : t ≠ s.heap.objs.size := Nat.ne_of_lt (Heap.lt_size ho)
  refine call_min_walk (wpAny_pyIter_tuple ht ?_)
  refine ⟨_, _, _, _, _, _, _, rfl, Walks.tuple (A := A.in1) hh _ t hnt (intItems xs), ⟨⟨_, Heap.get?_push_size _ rfl, rfl, rfl⟩, ht.push _⟩, fun b hb => ?_, by simpa [intItems] using hne, CmpOf.ints_lt (numAt xs) (fun _ _ => intItems_at), fun v h' tk hP hk => h v h' tk (by simpa [intItems] using hP) fun b o e => hk b o (fun hb => absurd (Heap.lt_size e) ((List.mem_singleton.mp hb) ▸ Nat.lt_irrefl _)) (Heap.get?_push_of_some _ e)⟩
  rcases List.mem_cons.mp hb with rfl | hb
  · exact Heap.lt_size (Heap.get?_push_size _ rfl)
  · obtain rfl := List.mem_singleton.mp hb
    exact Heap.lt_size (Heap.get?_push_of_some _ ho)
end
section
variable {X : Cx} {cl : Nat → Addr} {a b c e : Expr} {es : List Expr} {pos p p' : Pos} {m m1 m2 m3 : M D} {ma : M (List D)}
theorem cr_sortedTu : CallR X (.builtin "sorted") (fun vs H Q => ∃ (a : Addr) (ns : List Int), vs = [V.ref a] ∧ SqT X.K H a (ns.map V.int) ∧ ∀ (ns' : List Int) (p : Addr), ns'.Perm ns → ns'.Pairwise (· ≤ ·) → H p = none → Q (.ref p) (upd H p (.lst (ns'.map V.int)))) := by
  intro pins s σ H vs us Q I r h
  obtain ⟨a, ns, rfl, hs, q⟩ := h
  obtain ⟨its, rv, ht, hz⟩ := I.tuple hs
  rw [Vals.ref1 r]
  refine sortedT ht rv.ints (by rw [← rv.length]; exact hz) fun out h1 h2 => ?_
  obtain ⟨k1, k2, k3⟩ := SrtO.ints_out rv.ints h1 h2
  obtain ⟨ep, he'⟩ := PyProof.Rows.sortedAll_at s.heap its out.toArray
  have hl : ((out.map SrtO.iv).map V.int).length ≤ sizeLine := by
    rw [List.length_map] at hz ⊢
    rw [k2.length_eq]
    exact hz
  refine ⟨.ref _, upd H (s.heap.objs.size + 1) (.lst ((out.map SrtO.iv).map V.int)), I.laid (t' := s.toks) (fun _ _ => PyProof.Rows.sortedAll_old) (Nat.le_succ _) ⟨hl, out, ep, vals_of_ints k1, he'⟩, rfl, q _ _ k2 k3 ?_⟩
  exact I.hok.fresh (Nat.le_succ _)
def srtF : List D → Option D
  | [.lst l] => (isIs l).bind fun ns => some (.lst ((srtI ns).map .int))
  | [.tup l] => (isIs l).bind fun ns => some (.lst ((srtI ns).map .int))
  | _ => none
theorem drs_ints {K : PySem.W.Frag} {ι : List Addr} {g : Hp} : ∀ ns : List Int, DRs K cl ι g (ns.map V.int) (ns.map D.int)
  | [] => .nil
  | n :: r => .cons (.int n) (drs_ints r)
theorem ca_sorted : CaD X cl (.builtin "sorted") srtF := by
  refine ⟨_, cr_sortedI.or cr_sortedTu, fun vs ds d e σ s g ι Fr H rl z Q q => ?_⟩
  unfold srtF at e
  split at e
  · obtain ⟨ns, h1, e⟩ := Option.bind_eq_some_iff.mp e
    cases e
    obtain ⟨v, rfl, zz⟩ := drs1 z
    cases zz with
    | lst h r =>
      have e2 := isIs_some h1
      subst e2
      rw [r.ints] at h
      refine .inl ⟨_, ns, rfl, Evl.sq_of (rl.ex _ _ h), fun ns' p hp hu np => ?_⟩
      have := up_uniq (hp.trans (srtI_perm ns).symm) hu (srtI_up ns)
      subst this
      exact q _ _ (post_lst rl np (drs_ints _))
  · obtain ⟨ns, h1, e⟩ := Option.bind_eq_some_iff.mp e
    cases e
    obtain ⟨v, rfl, zz⟩ := drs1 z
    cases zz with
    | tup h _ r =>
      have e2 := isIs_some h1
      subst e2
      rw [r.ints] at h
      refine .inr ⟨_, ns, rfl, Evl.ex_t rl.ex h, fun ns' p hp hu np => ?_⟩
      have := up_uniq (hp.trans (srtI_perm ns).symm) hu (srtI_up ns)
      subst this
      exact q _ _ (post_lst rl np (drs_ints _))
  · cases e
theorem cr_minTu (hc : X.calm = true) : CallR X (.builtin "min") (fun vs H Q => ∃ (a : Addr) (ns : List Int), vs = [V.ref a] ∧ SqT X.K H a (ns.map V.int) ∧ 0 < ns.length ∧ ∀ m, m ∈ ns → (∀ y, y ∈ ns → m ≤ y) → Q (.int m) H) := by
  intro pins s σ H vs us Q I r h
  obtain ⟨a, ns, rfl, hs, hne, q⟩ := h
  obtain ⟨its, rv, ht, _⟩ := I.tuple hs
  rw [Vals.ref1 r]
  obtain ⟨xs, ex⟩ := rv.ints.allInts.items
  have hn : numsOf (intItems xs).toList = ns := by
    rw [← ex]
    exact rv.ints.numsOf
  rw [nums_intItems] at hn
  subst hn
  rw [ex] at ht
  refine minTup (I.ok.hd hc) ht (by simpa using hne) fun v h' tk hv hk => ?_
  obtain ⟨tt, rfl⟩ := intItems_at hv
  obtain ⟨h1, h2⟩ := argBest_lt (numAt xs) (xs.size - 1)
  have hx : 0 < xs.size := by simpa using hne
  refine ⟨.int _, H, I.kept hk, ⟨_, rfl⟩, q _ ?_ fun y hy => ?_⟩
  · rw [numAt_eq]
    exact PySem.getD_mem (by rw [List.length_map, Array.length_toList]; omega)
  · obtain ⟨j, hj, rfl⟩ := mem_getD hy
    rw [List.length_map, Array.length_toList] at hj
    rw [← numAt_eq]
    exact h2 j (by omega)
def minG : List D → Option D
  | [.tup l] => (isIs l).bind fun ns => (lea ns).bind fun m => some (.int m)
  | ds => minF ds
theorem ca_minG (hc : X.calm = true) : CaD X cl (.builtin "min") minG := by
  obtain ⟨R, hr, hk⟩ := ca_min (X := X) (cl := cl) hc
  refine ⟨_, (cr_minTu hc).or hr, fun vs ds d e σ s g ι Fr H rl z Q q => ?_⟩
  unfold minG at e
  split at e
  · obtain ⟨ns, h1, e⟩ := Option.bind_eq_some_iff.mp e
    obtain ⟨m, h2, e⟩ := Option.bind_eq_some_iff.mp e
    cases e
    obtain ⟨v, rfl, zz⟩ := drs1 z
    cases zz with
    | tup h _ r =>
      have e2 := isIs_some h1
      subst e2
      rw [r.ints] at h
      obtain ⟨k1, k2⟩ := lea_spec h2
      refine .inl ⟨_, ns, rfl, Evl.ex_t rl.ex h, List.length_pos_of_mem k1, fun m' h3 h4 => ?_⟩
      have : m' = m := Int.le_antisymm (h4 m k1) (k2 m' h3)
      subst this
      exact q _ _ (post_of rl (.int _))
  · exact .inr (hk vs _ d e σ s g ι Fr H rl z Q q)
/-! x, y = a, b -/
def parM (i j : Nat) (m : M (List D)) : M Fl := bd m fun xs => match xs with
  | [v, w] => bd (st i v) fun _ => bd (st j w) fun _ => ret .nx
  | _ => fl
theorem den_par {i j : Nat} {x y : Str} {px py pt pt2 : Pos} {kt k2 : Nat} (hc : X.calm = true) (hN : X.N.Nodup) (hi : X.N[i]? = some x) (hj : X.N[j]? = some y) (hij : i ≠ j) (hx : X.env.scope.names.lookup x = some .local) (hy : X.env.scope.names.lookup y = some .local) (ha : DenA X cl [a, b] ma)
    (hw : swappedStores [.Tuple [.Name x px, .Name y py] kt pt] (.Tuple [a, b] k2 pt2) X.env = pure (some [x, y])) (hs : swapsWithSole [.Tuple [.Name x px, .Name y py] kt pt] (.Tuple [a, b] k2 pt2) pos.line X.env = pure false := by rfl) :
    Den1 X cl (.Assign [.Tuple [.Name x px, .Name y py] kt pt] (.Tuple [a, b] k2 pt2) pos) (parM i j ma) := fun s f s' h σ g ι Fr H r E q => by
  obtain ⟨l, s1, k1, e1_⟩ := bd_some h
  split at e1_
  · rename_i v w
    cases e1_
    refine ⟨_, ps_par hc hN hi hj hij hx hy WA.pa hw hs, WA.mono (ha s _ _ k1 σ g ι Fr H r) fun us H1 ⟨g1, i1, l1, r1, z1⟩ => ?_⟩
    obtain ⟨v1, v2, rfl, z2, z3⟩ := drs2 z1
    exact ⟨v1, v2, rfl, q _ g1 i1 H1 l1 ((r1.set z2).set z3)⟩
  · cases e1_
/-! x = list(e), changed later -/
def lsD : List D → Option (List D)
  | [.lst l] => some l
  | [.tup l] => some l
  | _ => none
theorem den_setList {n : Nat} {x : Str} {pf : Pos} (hN : X.N.Nodup) (hi : X.N[n]? = some x) (hx : Loc X.env.scope x) (hg : Gl X "list") (hm : X.mg "list" = none) (hv : bootBuiltins "list" = some (.type "list")) (ha : DenA X cl [e] ma) (hf : X.fn x = true ∨ X.env.scope.names.lookup x = some .local)
    (he : starEach [e] X.env = (false, eval e X.env) :: starEach [] X.env := by rfl) (hpl : (backTo p' (starEach [] X.env)).any (·.1) = false := by rfl) (hs : swapsWith (.Call (.Name "list" pf) [e] [] p') (some (.Name x p)) pos.line X.env = pure false := by rfl) :
    Den1 X cl (.Assign [.Name x p] (.Call (.Name "list" pf) [e] [] p') pos) (asL n (bd ma fun ds => lf (lsD ds))) := fun s f s' h σ g ι Fr H r E q => by
  obtain ⟨l, s3, h1, e1_⟩ := bd_some h
  obtain ⟨_, s4, h4, e2_⟩ := bd_some e1_
  cases e2_
  obtain ⟨ds, s1, h2, h3⟩ := bd_some h1
  obtain ⟨h3, rfl⟩ := lf_some h3
  unfold stL at h4
  split at h4
  · rename_i hn
    cases h4
    refine ⟨_, ps_set hN hi hx (pe_callTy call_list_of hg hm hv WA.pa (by decide) (by decide) he hpl) hs hf, WA.mono (ha s ds _ h2 σ g ι Fr H r) fun us H1 ⟨g1, i1, l1, r1, z1⟩ => ?_⟩
    unfold lsD at h3
    split at h3
    · cases h3
      obtain ⟨v, rfl, zz⟩ := drs1 z1
      cases zz with
      | lst h r' => exact ⟨_, _, rfl, .inl (Evl.sq_of (r1.ex _ _ h)), fun ad np => q _ g1 i1 _ l1 ((r1.newFr np).setL r' hn)⟩
    · cases h3
      obtain ⟨v, rfl, zz⟩ := drs1 z1
      cases zz with
      | tup h _ r' => exact ⟨_, _, rfl, .inr (Evl.ex_t r1.ex h), fun ad np => q _ g1 i1 _ l1 ((r1.newFr np).setL r' hn)⟩
    · cases h3
  · cases h4
theorem b_sorted : bootBuiltins "sorted" = some (.builtin "sorted") := by decide +kernel
end
end Sd

namespace Sd
open PySem PySem.Spec PyProof.Rows L2
open Evl (Ex)
/-! classes with keyword-only parameters that have defaults -/
section
variable {P : Program} {w : World} {K : PySem.W.Frag} {mg : Str → Option Value} {base : Heap} {cl : Nat → Addr}
/-- an empty tuple of the fragment -/
structure EmT (K : PySem.W.Frag) (a : Addr) : Prop where
  ex : ∃ (o : Obj) (n : Nat), K.lookup a = some o ∧ o.cls = .type "tuple" ∧ o.data = .seq #[] n ∧ o.dict = none
theorem EmT.dr {a : Addr} (h : EmT K a) {ι : List Addr} {g : Hp} : DR K cl ι g (.ref a) (.tup []) := by
  obtain ⟨o, n, h1, h2, h3, h4⟩ := h.ex
  exact .tup (xs := []) (.inr ⟨o, #[], n, h1, h2, h3, Nat.zero_le _, .nil⟩) (.inr ⟨o, h1, h2, h4⟩) .nil
theorem emt_mk {a : Addr} {n : Nat} {sl : Array (Option Value)} (l : K.lookup a = some ⟨.type "tuple", none, .seq #[] n, sl⟩) : EmT K a := ⟨_, n, l, rfl, rfl, rfl⟩
structure NtK (K : PySem.W.Frag) (mg : Str → Option Value) (C : Addr) (x qual : Str) (t : Stmt) (kws : List (Str × V)) : Prop where
  ex : ∃ fa fd, Fun K "__init__" qual t fa fd ∧ FunD K "__init__" qual (defArgs t) (defBody t) (defScope t) [] kws fa fd ∧ Mk K C fa ∧ mg x = some (.ref C)
theorem ntk_mk {h : Heap} {x qual : Str} {t : Stmt} {C f Dd : Addr} {oc : Value} {od an : Option Addr} {osl : Array (Option Value)} {doc pm cdv ct : Value} {kws : List (Str × V)} (X : K.In h) (G : h.Ns mainGlobals mg) (hq : ∀ q ∈ kws, ∃ u, PySem.W.nsIn K Dd q.1 = some (some u) ∧ RelV q.2 u) (ac : PySem.W.nsIn K mainGlobals x = some (some (.ref C))) (a : PySem.W.findIn K (.ref C) "__init__" = some (some (.ref f))) (i : PySem.W.isFn K (.ref f) = true)
    (l : K.lookup f = some ⟨oc, od, .func (PySem.W.fnOf "__init__" qual (defArgs t) (defBody t) (defScope t) .none (.ref Dd) doc pm an cdv ct), osl⟩) (c : PySem.W.codeIn K cdv qual = true) (k : PySem.W.keepIn K (.ref f) = true) (mk : PySem.W.makesIn K C = true) (kc : PySem.W.keepIn K (.ref C) = true) : NtK K mg C x qual t kws :=
  ⟨f, _, fun_mk l c k, ⟨⟨oc, od, .none, .ref Dd, doc, pm, an, cdv, ct, osl, rfl, l, c, .inl ⟨rfl, rfl⟩, .inr ⟨Dd, rfl, hq⟩⟩, k⟩, ⟨mk, a, i, kc⟩, PySem.W.mg_of X G ac⟩
theorem kw_one {Dd ta : Addr} {b : Str} (q : PySem.W.nsIn K Dd b = some (some (.ref ta))) : ∀ p ∈ [(b, V.ref ta)], ∃ u, PySem.W.nsIn K Dd p.1 = some (some u) ∧ RelV p.2 u := fun p hp => by
  obtain rfl := List.mem_singleton.mp hp
  exact ⟨_, q, rfl⟩
theorem kw_two {Dd ta : Addr} {a b : Str} (q1 : PySem.W.nsIn K Dd a = some (some .none)) (q : PySem.W.nsIn K Dd b = some (some (.ref ta))) : ∀ p ∈ [(a, V.non), (b, V.ref ta)], ∃ u, PySem.W.nsIn K Dd p.1 = some (some u) ∧ RelV p.2 u := fun p hp => by
  rcases List.mem_cons.mp hp with rfl | hp
  · exact ⟨_, q1, rfl⟩
  · obtain rfl := List.mem_singleton.mp hp
    exact ⟨_, q, rfl⟩
theorem NtK.fk {C k n : Nat} {x qual : Str} {t : Stmt} {kws ma mb : List (Str × V)} {f : Mn} {ps ks : List Str} {A B : List D} (m : NtK K mg (cl C) x qual t kws) (hG : ∀ {fa : Addr} {fd : FuncData}, Fun K "__init__" qual t fa fd → FnG P w K mg base CX0 k fa fd ps (spF K cl f)) (hk : kws ≠ []) (hms : ∀ q ∈ ma ++ mb, q ∈ kws)
    (dA : ∀ ι g, DRs K cl ι g (ma.map (·.2)) A) (dB : ∀ ι g, DRs K cl ι g (mb.map (·.2)) B)
    (h : ∀ (Dd : Addr) (doc pm : Value) (an : Option Addr) (cdv ct : Value) (us mv ws : List Value), us.length = n + 1 → mv.length = (ma ++ mb).length → ws.length = ks.length → KwChain Dd (((ma ++ mb).map (·.1)).zip mv) (bindArgs (PySem.W.fnOf "__init__" qual (defArgs t) (defBody t) (defScope t) .none (.ref Dd) doc pm an cdv ct) ⟨us, ks.zip ws⟩) (ps.zip (us ++ (mv.take ma.length ++ (ws ++ mv.drop ma.length))))) :
    FK P w K mg base cl k C x n ks (fun ds es => ds ++ (A ++ (es ++ B))) f := by
  obtain ⟨fa, fd, Fu, F, mk, me⟩ := m.ex
  obtain ⟨mv, kb⟩ := F.kbinds0 (ps := ps) (n + 1) ks (ma ++ mb) (fun us mv ws => us ++ (mv.take ma.length ++ (ws ++ mv.drop ma.length))) hk hms (fun r1 r2 r3 => r1.append ((r2.take _).append (r3.append (r2.drop _)))) h
  refine ⟨fa, fd, ps, _, _, fun vs zs => vs ++ (ma.map (·.2) ++ (zs ++ mb.map (·.2))), hG Fu, mk, me, kb, fun y vs zs => ?_, fun ι g vs zs ds es z1 z2 => z1.append ((dA ι g).append (z2.append (dB ι g)))⟩
  have e1 : ((ma ++ mb).map (·.2)).take ma.length = ma.map (·.2) := by
    rw [List.map_append, List.take_left' (by simp)]
  have e2 : ((ma ++ mb).map (·.2)).drop ma.length = mb.map (·.2) := by
    rw [List.map_append, List.drop_left' (by simp)]
  show V.ref y :: vs ++ _ = _
  rw [e1, e2]
  rfl
end
end Sd

namespace Sd
open PySem PySem.Spec PyProof.Rows L2
open Evl (Ex)
section
variable {X : Cx} {cl : Nat → Addr} {a b c e o : Expr} {es : List Expr} {pos p p' pa : Pos} {m m1 m2 m3 mo : M D} {ma : M (List D)}
/-! t.count(k) -/
theorem mt_tcount : MtR X "tuple.count" (fun x xs H Q => ∃ (ad : Addr) (ns : List Int) (k : Int), x = .ref ad ∧ xs = [.int k] ∧ SqT X.K H ad (ns.map V.int) ∧ Q (.int (ns.count k : Nat)) H) := by
  intro pins s σ H x xs v us Q I rx rxs h
  obtain ⟨ad, ns, k, rfl, rfl, hs, q⟩ := h
  cases rx
  obtain ⟨u, rfl, ru⟩ := vals1 rxs
  obtain ⟨t, rfl⟩ := ru
  obtain ⟨its, rv, ⟨⟨cls, dd, data, sl⟩, ho, hc, n, hd⟩, hz⟩ := I.tuple hs
  simp only at hc hd
  subst hc hd
  have hi := rv.ints
  refine call_meets PySem.F.slot_tuple_count ⟨_, ho, rfl⟩ PySem.F.entry_tuple_count (PySem.F.args_tuple_count_2 _ _) (SeqAt.tuple_countAt ad its.toArray n dd sl (.int k t) (eqk k)) ⟨ho, fun y hy => (eqk_gives hi y (by simpa using hy)).at _ _, ?_⟩
  have ec : its.toArray.toList.countP (eqk k) = ns.count k := eqk_count hi
  refine ⟨.int (ns.count k : Nat), H, I.tok _, ⟨s.toks, ?_⟩, q⟩
  show Value.int ((its.toArray.toList.countP (eqk k) : Nat) : Int) s.toks = _
  rw [ec]
def cntM (d k : D) : Option D := match d, k with
  | .tup l, .int k => (isIs l).bind fun ns => some (.int (ns.count k : Nat))
  | _, _ => none
theorem den_tcnt (ho : Den X cl o mo) (he : Den X cl e m)
    (hbase : attributeBase o "count" X.env (eval o X.env) = eval o X.env := by rfl)
    (hfew : ((backTo p (starEach [e] X.env)).all (fun x => !x.1) && (backToKw p (keywordEach [] X.env)).all (fun x => x.1.isSome) && decide ([e].length + ([] : List Keyword).length + (if ([] : List Keyword).isEmpty then 0 else 1) < 30)) = true := by rfl)
    (hline : (pa.endLine == p.line) = true := by rfl) (hs : starEach [e] X.env = (false, eval e X.env) :: starEach [] X.env := by rfl) (hplain : (backTo p (starEach [] X.env)).any (·.1) = false := by rfl) :
    Den X cl (.Call (.Attribute o "count" pa) [e] [] p) (bd mo fun d => bd m fun k => lf (cntM d k)) := fun s v s' h σ g ι Fr H r => by
  obtain ⟨d, s1, h1, e1_⟩ := bd_some h
  obtain ⟨k, s2, h2, e2_⟩ := bd_some e1_
  obtain ⟨h3, rfl⟩ := lf_some e2_
  unfold cntM at h3
  split at h3
  · obtain ⟨ns, h4, h5⟩ := Option.bind_eq_some_iff.mp h3
    cases h5
    have e2 := isIs_some h4
    subst e2
    refine .of (pe_mG ty_tup PySem.F.plainAttrs_tuple PySem.F.slot_tuple_count PySem.F.type_tuple_count mt_tcount WE.pe (pa_cons WE.pe pa_nil hs) hbase hfew hline hs hplain) (WE.mono (ho s _ s1 h1 σ g ι Fr H r) fun u H1 ⟨g1, i1, l1, r1, z1⟩ => ?_)
    cases z1 with
    | @tup ad xs _ sq nd rr =>
      have ex := rr.ints
      subst ex
      refine ⟨⟨ad, rfl, NoD.up r1.ex nd⟩, WE.mono (he s1 _ _ h2 σ g1 i1 Fr H1 r1) fun w H2 ⟨g2, i2, l2, r2, z2⟩ => ?_⟩
      cases z2
      exact ⟨ad, ns, _, rfl, rfl, Evl.ex_t (l2.e.trans r2.ex) sq, g2, i2, l1.trans l2, r2, .int _⟩
  · cases h3
/-! not x, x a list or a truth -/
def truD : D → Option Bool
  | .bl b => some b
  | .lst l => some (!l.isEmpty)
  | _ => none
theorem pe_notT {ta : TE} (ha : PE X a ta) : PE X (.UnaryOp .Not a pos) (fun σ H Q => ta σ H fun x H1 => ∃ k, TruV X.K x H1 k ∧ Q (.bl (!k)) H1) := by
  refine ⟨fun pins s σ H Q I h => ?_⟩
  refine UnaryOp_ (thn (ha.run pins s σ H _ I h) fun v s1 ⟨x, H1, I1, r1, q1⟩ => ?_)
  obtain ⟨k, t1, q1⟩ := q1
  exact not_of (thn (tru_ok pins s1 σ H1 x v (fun k' H2 => Q (.bl (!k')) H2) I1 r1 ⟨k, t1, q1⟩) fun k' s2 ⟨H2, I2, q2⟩ => ⟨.bl (!k'), H2, I2, rfl, q2⟩)
theorem den_notT (ha : Den X cl a m) : Den X cl (.UnaryOp .Not a pos) (bd m fun x => bd (lf (truD x)) fun t => ret (.bl (!t))) := fun s v s' h σ g ι Fr H r => by
  obtain ⟨x, s1, h1, e1_⟩ := bd_some h
  obtain ⟨t, s2, h2, e2_⟩ := bd_some e1_
  obtain ⟨k2, rfl⟩ := lf_some h2
  cases e2_
  refine .of (pe_notT WE.pe) (WE.mono (ha s _ _ h1 σ g ι Fr H r) fun u H1 ⟨g1, i1, l1, r1, z1⟩ => ⟨t, ?_, g1, i1, l1, r1, .bl _⟩)
  unfold truD at k2
  split at k2
  · cases k2
    cases z1
    rfl
  · cases k2
    cases z1 with
    | lst h rr =>
      exact .inl ⟨_, Evl.sq_of (r1.ex _ _ h), by cases rr <;> rfl⟩
  · cases k2
/-! len(set(xs)), ints -/
def dedN (ns : List Int) : Nat := (firstMet (fun i => ns.getD i 0) ns.length).length
def lenSD : D → Option D
  | .lst l => (isIs l).bind fun ns => if ns.length < 64 then some (.int (dedN ns)) else none
  | _ => none
def tLenS (K : PySem.W.Frag) (ta : TE) : TE := fun σ H Q => ta σ H fun x H1 => ∃ (l : Addr) (ns : List Int), x = V.ref l ∧ SqL K H1 l (ns.map V.int) ∧ ns.length < 64 ∧ Q (.int (dedN ns)) H1
theorem pe_lenS {ta : TE} {p2 q : Pos} (hc : X.calm = true) (hg : Gl X "len") (hm : X.mg "len" = none) (hg2 : Gl X "set") (hm2 : X.mg "set" = none) (ha : PE X a ta)
    (na : starEach [a] X.env = (false, eval a X.env) :: starEach [] X.env := by rfl) : PE X (.Call (.Name "len" p) [.Call (.Name "set" p2) [a] [] q] [] pos) (tLenS X.K ta) := by
  refine ⟨fun pins s σ H Q I h => Call_ (ld_blt I hg hm PySem.boot_len (PyProof.Rows.callWith_builtin1 (PyProof.Rows.args_cons (Call_ (ld_blt I hg2 hm2 PyProof.Rows.boot_set ?_)) rfl) rfl rfl))⟩
  refine PyProof.Rows.callWith_type1 (PyProof.Rows.args_cons (thn (ha.run pins s σ H _ I h) fun v s1 ⟨x, H1, I1, r1, l, ns, ex, hq, h1, q1⟩ => PyProof.Rows.args_nil ?_) na) na rfl
  subst ex
  cases r1
  obtain ⟨its, r, pl, hz⟩ := I1.list hq
  have hl : its.toArray.size = ns.length := by rw [List.size_toArray, ← r.length, List.length_map]
  refine call_set_list (I1.ok.hd hc) pl.isList (ns := ns) (by simpa using r.ints) (by unfold scanBound; omega) fun h' tk hS hk => PyProof.Rows.args_nil ?_
  rw [hl] at hS
  obtain ⟨o, es, ep, t, ho, hex, hd, _, _, _, hf, hn⟩ := hS
  have I2 : Inv X pins σ H1 { s1 with heap := h', toks := tk } := I1.kept fun b o e => hk b o (Heap.lt_size e) e
  have hle : (firstMet (fun i => ns.getD i 0) ns.length).length ≤ ns.length := firstMet_length_le _ _
  exact call_len_set ho hex hd hf (by rw [hn]; omega) ⟨.int (dedN ns), H1, I2.tok _, ⟨_, by rw [hn]; rfl⟩, q1⟩
theorem den_lenS {p2 q : Pos} (hc : X.calm = true) (hg : Gl X "len") (hm : X.mg "len" = none) (hg2 : Gl X "set") (hm2 : X.mg "set" = none) (ha : Den X cl a m) (na : starEach [a] X.env = (false, eval a X.env) :: starEach [] X.env := by rfl) :
    Den X cl (.Call (.Name "len" p) [.Call (.Name "set" p2) [a] [] q] [] pos) (bd m fun x => lf (lenSD x)) := fun s v s' h σ g ι Fr H r => by
  obtain ⟨x, s1, h1, e1_⟩ := bd_some h
  obtain ⟨h2, rfl⟩ := lf_some e1_
  unfold lenSD at h2
  split at h2
  · obtain ⟨ns, h4, h5⟩ := Option.bind_eq_some_iff.mp h2
    split at h5
    · rename_i hn
      cases h5
      have e2 := isIs_some h4
      subst e2
      refine .of (pe_lenS hc hg hm hg2 hm2 WE.pe na) (WE.mono (ha s _ _ h1 σ g ι Fr H r) fun u H1 ⟨g1, i1, l1, r1, z1⟩ => ?_)
      cases z1 with
      | lst h rr =>
        rw [rr.ints] at h
        exact ⟨_, ns, rfl, Evl.sq_of (r1.ex _ _ h), hn, g1, i1, l1, r1, .int _⟩
    · cases h5
  · cases h2
/-! x = list(range(a, b)), changed later -/
theorem den_setLstRg {n : Nat} {x : Str} {pf pr ppos : Pos} (hc : X.calm = true) (hN : X.N.Nodup) (hi : X.N[n]? = some x) (hx : Loc X.env.scope x) (hl : Gl X "list") (ml : X.mg "list" = none) (hg : Gl X "range") (hm : X.mg "range" = none) (ha : Den X cl a m1) (hb : Den X cl b m2) (hf : X.fn x = true ∨ X.env.scope.names.lookup x = some .local)
    (hs : starEach [a, b] X.env = (false, eval a X.env) :: starEach [b] X.env := by rfl) (hs2 : starEach [b] X.env = (false, eval b X.env) :: starEach [] X.env := by rfl) (hpl : (backTo ppos (starEach [b] X.env)).any (·.1) = false := by rfl)
    (na : starEach [.Call (.Name "range" pr) [a, b] [] ppos] X.env = (false, eval (.Call (.Name "range" pr) [a, b] [] ppos) X.env) :: starEach [] X.env := by rfl) (hsw : swapsWith (.Call (.Name "list" pf) [.Call (.Name "range" pr) [a, b] [] ppos] [] p') (some (.Name x p)) pos.line X.env = pure false := by rfl) :
    Den1 X cl (.Assign [.Name x p] (.Call (.Name "list" pf) [.Call (.Name "range" pr) [a, b] [] ppos] [] p') pos) (asL n (bd m1 fun x => bd m2 fun y => lf (rgD x y))) := fun s f s' h σ g ι Fr H r E q => by
  obtain ⟨l, s5, h1, e1_⟩ := bd_some h
  obtain ⟨_, s4, h4, e2_⟩ := bd_some e1_
  cases e2_
  obtain ⟨y1, s1, k1, e3_⟩ := bd_some h1
  obtain ⟨y2, s2, k2, e4_⟩ := bd_some e3_
  obtain ⟨k3, rfl⟩ := lf_some e4_
  unfold stL at h4
  split at h4
  · rename_i hn
    cases h4
    unfold rgD at k3
    split at k3
    · split at k3
      · rename_i i j hij
        cases k3
        refine ⟨_, ps_set hN hi hx (pe_listRg hc hl ml (prg_2 hg hm WE.pe WE.pe hs hs2 hpl) na) hsw hf, (WE.mono (ha s _ _ k1 σ g ι Fr H r) fun u H1 ⟨g1, i1, l1, r1, z1⟩ => WE.mono (hb s1 _ _ k2 σ g1 i1 Fr H1 r1) fun w H2 ⟨g2, i2, l2, r2, z2⟩ => ?_)⟩
        cases z1
        cases z2
        exact ⟨i, j, rfl, rfl, ⟨by omega, by omega, by omega, by omega, by omega⟩, fun ad np => q _ g2 i2 _ (l1.trans l2) ((r2.newFr np).setL (rg_drs i j) hn)⟩
      · cases k3
    · cases k3
  · cases h4
/-! x != [], x a local list that changes -/
def slotL (n : Nat) : M (List D) := fun s => match s.r[n]? with
  | some (.chg l) => some (l, s)
  | _ => none
theorem slotL_some {n : Nat} {s s' : S} {l : List D} (h : slotL n s = some (l, s')) : s' = s ∧ ∀ {K : PySem.W.Frag} {g H : Hp} {ι : List Addr} {σ : L2.St} {Fr : Rl}, Rel K cl g ι σ s Fr H → ∃ ad xs, σ[n]? = some (some (.ref ad)) ∧ SqL K H ad xs ∧ DRs K cl ι g xs l := by
  unfold slotL at h
  split at h
  · rename_i l0 e
    cases h
    refine ⟨rfl, fun rl => ?_⟩
    obtain ⟨Rm, Rs, sh, mr, tr⟩ := rl
    obtain ⟨a, vs, R', h1, h2, h3, _⟩ := mr.mutAt e
    have sh2 := sh.perm (h3.append_right _)
    exact ⟨_, _, h1, Evl.sq_of (sh2.at_ _ (List.mem_cons_self ..)), h2⟩
  · cases h
theorem dent_neNilN {n : Nat} {x : Str} (hu : X.A.units < cLine) (hN : X.N[n]? = some x) (hv : Vis X.env.scope x) (hd : (x == ("__debug__" : Str)) = false := by decide) (hcd : (x == ("__classdict__" : Str)) = false := by decide) (hm : behindInMarks .NotEq (.List [] p) = false := by rfl) :
    DenT X cl (.Compare (.Name x p') [.NotEq] [.List [] p] pos) (bd (slotL n) fun l => ret (!l.isEmpty)) := fun s v s' h σ g ι Fr H r => by
  obtain ⟨l, s1, h1, e1_⟩ := bd_some h
  obtain ⟨rfl, hq⟩ := slotL_some (cl := cl) h1
  cases e1_
  obtain ⟨ad, xs, hs, sq, rr⟩ := hq r
  refine .of (pt_cmpR (op_neNil hu) (pe_var hN hv hd hcd) (pe_lst pa_nil) hm) ⟨_, hs, Evl.sz_of (by simp), fun q nq => ?_⟩
  have kk := r.add (o := .lst []) nq
  obtain ⟨ad2, xs2, hs2, sq2, rr2⟩ := hq kk.1
  rw [hs] at hs2
  cases hs2
  exact ⟨_, _, xs2, rfl, rfl, sq2, Evl.sq_of upd_same, _, rfl, by cases rr2 <;> rfl, _, _, kk.2, kk.1⟩
theorem ded_iff (ns : List Int) : decide ((dedN ns : Int) < (ns.length : Int)) = !decide ns.Nodup := by
  have key : ∀ i, i ≤ ns.length → (firstMet (fun i => ns.getD i 0) i).length = i → firstMet (fun i => ns.getD i 0) i = ns.take i ∧ (ns.take i).Nodup := by
    intro i
    induction i with
    | zero => exact fun _ _ => ⟨rfl, by simp⟩
    | succ i ih =>
      intro hi hl
      have hlt : i < ns.length := hi
      have e : ns.getD i 0 = ns[i] := by rw [List.getD_eq_getElem?_getD, List.getElem?_eq_getElem hlt]; rfl
      rw [firstMet_succ] at hl ⊢
      have h0 := firstMet_length_le (fun i => ns.getD i 0) i
      unfold step_dedup at hl ⊢
      split at hl
      · omega
      · rename_i hno
        rw [List.length_append] at hl
        obtain ⟨i1, i2⟩ := ih (by omega) (by simpa using hl)
        rw [if_neg hno, i1, List.take_succ, List.getElem?_eq_getElem hlt, e]
        refine ⟨rfl, ?_⟩
        rw [i1, e] at hno
        rw [Option.toList_some, List.nodup_append]
        refine ⟨i2, by simp, fun a ha b hb => ?_⟩
        have hb : b = ns[i] := by simpa using hb
        intro hab
        apply hno
        rw [List.any_eq_true]
        exact ⟨a, ha, by rw [hab, hb]; exact beq_self_eq_true _⟩
  by_cases h : ns.Nodup
  · have e : dedN ns = ns.length := by
      unfold dedN
      rw [L2.firstMet_nodup ns h ns.length (Nat.le_refl _), List.take_length]
    rw [e, decide_eq_true h]
    simp
  · have h1 : (firstMet (fun i => ns.getD i 0) ns.length).length ≤ ns.length := firstMet_length_le _ _
    have h2 : (firstMet (fun i => ns.getD i 0) ns.length).length ≠ ns.length := fun z => by
      have := (key ns.length (Nat.le_refl _) z).2
      rw [List.take_length] at this
      exact h this
    rw [decide_eq_false h, decide_eq_true]
    · rfl
    · show ((firstMet (fun i => ns.getD i 0) ns.length).length : Int) < _
      omega
end
end Sd

namespace Sd
open PySem PySem.Spec PyProof.Rows L2
open Evl (Ex)
/-! dicts by ints that change, in a slot -/
def getI (l : List (Int × D)) (i : Int) : Option D := (l.find? fun q => decide (q.1 = i)).map (·.2)
def putI (l : List (Int × D)) (i : Int) (d : D) : List (Int × D) := if (l.any fun q => decide (q.1 = i)) = true then l.map (fun q => if q.1 = i then (q.1, d) else q) else l ++ [(i, d)]
section
variable {K : PySem.W.Frag} {cl : Nat → Addr} {ι : List Addr} {g : Hp}
theorem or_get {i : Int} {d : D} : ∀ {kvs : List (Key × V)} {l : List (Int × D)}, kvs.map (·.1) = l.map (fun q => Sum.inl q.1) → DRs K cl ι g (kvs.map (·.2)) (l.map (·.2)) → getI l i = some d → ∃ v, valV kvs (Sum.inl i) = some v ∧ DR K cl ι g v d
  | [], [], _, _, h => by cases h
  | [], _ :: _, hk, _, _ => by cases hk
  | _ :: _, [], hk, _, _ => by cases hk
  | (k0, v0) :: r, (i0, d0) :: l, hk, hd, h => by
    rw [List.map_cons, List.map_cons] at hk hd
    injection hk with h1 h2
    cases hd with
    | cons z zs =>
      by_cases e : i0 = i
      · subst e
        have hd0 : d0 = d := by simpa [getI, List.find?_cons] using h
        exact ⟨v0, valV_pos h1, hd0 ▸ z⟩
      · have h' : getI l i = some d := by simpa [getI, List.find?_cons, e] using h
        obtain ⟨v, e1, e2⟩ := or_get h2 zs h'
        refine ⟨v, ?_, e2⟩
        rw [valV_neg (by rw [h1]; intro z; injection z with z; exact e z)]
        exact e1
theorem or_any {i : Int} : ∀ {kvs : List (Key × V)} {l : List (Int × D)}, kvs.map (·.1) = l.map (fun q => Sum.inl q.1) → (kvs.any fun kv => decide (kv.1 = Sum.inl i)) = l.any fun q => decide (q.1 = i)
  | [], [], _ => rfl
  | [], _ :: _, hk => by cases hk
  | _ :: _, [], hk => by cases hk
  | (k0, v0) :: r, (i0, d0) :: l, hk => by
    rw [List.map_cons, List.map_cons] at hk
    injection hk with h1 h2
    rw [List.any_cons, List.any_cons, or_any h2]
    have h1 : k0 = Sum.inl i0 := h1
    subst h1
    congr 1
    rw [decide_eq_decide]
    exact ⟨fun z => Sum.inl.inj z, fun z => congrArg _ z⟩
theorem or_map {i : Int} {v : V} {d : D} (z0 : DR K cl ι g v d) : ∀ {kvs : List (Key × V)} {l : List (Int × D)}, kvs.map (·.1) = l.map (fun q => Sum.inl q.1) → DRs K cl ι g (kvs.map (·.2)) (l.map (·.2)) →
    (kvs.map fun kv => if kv.1 = Sum.inl i then (kv.1, v) else kv).map (·.1) = (l.map fun q => if q.1 = i then (q.1, d) else q).map (fun q => Sum.inl q.1) ∧ DRs K cl ι g ((kvs.map fun kv => if kv.1 = Sum.inl i then (kv.1, v) else kv).map (·.2)) ((l.map fun q => if q.1 = i then (q.1, d) else q).map (·.2))
  | [], [], _, _ => ⟨rfl, .nil⟩
  | [], _ :: _, hk, _ => by cases hk
  | _ :: _, [], hk, _ => by cases hk
  | (k0, v0) :: r, (i0, d0) :: l, hk, hd => by
    rw [List.map_cons, List.map_cons] at hk hd
    injection hk with h1 h2
    have h1 : k0 = Sum.inl i0 := h1
    subst h1
    cases hd with
    | cons z zs =>
      obtain ⟨a1, a2⟩ := or_map (i := i) z0 h2 zs
      simp only [List.map_cons]
      by_cases e : i0 = i
      · subst e
        simp only [if_true]
        exact ⟨by rw [a1], .cons z0 a2⟩
      · have e2 : ¬ (Sum.inl i0 : Key) = Sum.inl i := fun z => e (Sum.inl.inj z)
        rw [if_neg e2, if_neg e]
        exact ⟨by rw [a1], .cons z a2⟩
theorem or_put {a : Addr} {i : Int} {v : V} {d : D} (z0 : DR K cl ι g v d) {kvs : List (Key × V)} {l : List (Int × D)} (hk : kvs.map (·.1) = l.map (fun q => Sum.inl q.1)) (hd : DRs K cl ι g (kvs.map (·.2)) (l.map (·.2))) : OR K cl ι g a (.dK (L2.putK kvs (Sum.inl i) v)) (.k (putI l i d)) := by
  unfold L2.putK putI
  rw [or_any hk]
  split
  · obtain ⟨a1, a2⟩ := or_map (i := i) z0 hk hd
    exact .k a1 a2
  · refine .k ?_ ?_
    · rw [List.map_append, List.map_append, hk]
      rfl
    · rw [List.map_append, List.map_append]
      exact hd.append (.cons z0 .nil)
def dicS (n : Nat) (s : S) : Option (List (Int × D)) := match s.r[n]? with
  | some (.dic (.k l)) => some l
  | _ => none
theorem dicS_some {n : Nat} {s : S} {l : List (Int × D)} (h : dicS n s = some l) {H : Hp} {σ : L2.St} {Fr : Rl} (r : Rel K cl g ι σ s Fr H) :
    ∃ a kvs, σ[n]? = some (some (.ref a)) ∧ H a = some (.dK kvs) ∧ kvs.map (·.1) = l.map (fun q => Sum.inl q.1) ∧ DRs K cl ι g (kvs.map (·.2)) (l.map (·.2)) ∧ ∀ kvs2 l2, OR K cl ι g a (.dK kvs2) (.k l2) → Rel K cl g ι σ { s with r := s.r.set n (.dic (.k l2)) } Fr (upd H a (.dK kvs2)) := by
  unfold dicS at h
  obtain ⟨Rm, Rs, sh, mr, tr⟩ := r
  split at h
  · rename_i l0 e
    cases h
    obtain ⟨a, ho, R', h1, h2, h3, h4⟩ := mr.dicAt e
    cases h2 with
    | @k kvs _ hk hd =>
      have sh2 := sh.perm (h3.append_right _)
      refine ⟨a, kvs, h1, sh2.head, hk, hd, fun kvs2 l2 z => ?_⟩
      obtain ⟨R2, p, m⟩ := h4 (.k l2) (.dK kvs2) g ι .refl z
      exact ⟨R2, Rs, (sh2.put (o' := .dK kvs2)).perm (p.append_right _).symm, m, tr⟩
  · cases h
theorem Rel.setO {H : Hp} {σ : L2.St} {s : S} {Fr : Rl} {n : Nat} {ad : Addr} {ho : HO} {o : DO} (r : Rel K cl g ι σ s ((ad, ho) :: Fr) H) (z : OR K cl ι g ad ho o) (hn : n < s.r.length) : Rel K cl g ι (σ.set n (some (.ref ad))) { s with r := s.r.set n (.dic o) } Fr H := by
  obtain ⟨Rm, Rs, sh, mr, tr⟩ := r
  obtain ⟨R', R2, p, q, m⟩ := mr.putO (n := n) (a := ad) z hn
  have hp : (Rm ++ (Rs ++ (ad, ho) :: Fr)).Perm ((ad, ho) :: (Rm ++ (Rs ++ Fr))) := by
    have h1 : (Rs ++ (ad, ho) :: Fr).Perm ((ad, ho) :: (Rs ++ Fr)) := List.perm_middle
    exact (h1.append_left Rm).trans List.perm_middle
  have sh2 := (sh.perm hp).sub ((p.append_right (Rs ++ Fr)).cons₂ (ad, ho))
  exact ⟨R2, Rs, sh2.perm (q.append_right (Rs ++ Fr)).symm, m, tr⟩
end
section
variable {X : Cx} {cl : Nat → Addr} {a b c e o : Expr} {es : List Expr} {pos p p' pa : Pos} {m m1 m2 m3 mo : M D} {ma : M (List D)}
/-- x = {} -/
def newDM (n : Nat) : M Fl := fun s => if n < s.r.length then some (.nx, { s with r := s.r.set n (.dic (.k [])) }) else none
theorem den_setD0 {n : Nat} {x : Str} {p2 : Pos} (hN : X.N.Nodup) (hi : X.N[n]? = some x) (hx : Loc X.env.scope x) (hf : X.fn x = true ∨ X.env.scope.names.lookup x = some .local) (hs : swapsWith (.Dict [] [] p2) (some (.Name x p)) pos.line X.env = pure false := by rfl) :
    Den1 X cl (.Assign [.Name x p] (.Dict [] [] p2) pos) (newDM n) := fun s f s' h σ g ι Fr H r E q => by
  unfold newDM at h
  split at h
  · rename_i hn
    cases h
    exact ⟨_, ps_set hN hi hx pe_dnewK hs hf, fun ad np => q _ g ι _ .refl ((r.newFr np).setO (.k rfl .nil) hn)⟩
  · cases h
/-- x[e] = v -/
def setDM (n : Nat) (mv mi : M D) : M Fl := bd mv fun d => fun s => match dicS n s with
  | none => none
  | some _ => (bd mi fun i => bd (lf (isI i)) fun k => fun s1 => match dicS n s1 with
    | none => none
    | some l => if l.length < 1000 then some (.nx, { s1 with r := s1.r.set n (.dic (.k (putI l k d))) }) else none) s
theorem den_setDI {n : Nat} {x : Str} {px : Pos} (hu : X.A.units + 1 < cLine) (hN : X.N[n]? = some x) (hv : Vis X.env.scope x) (he : Den X cl e m1) (hb : Den X cl b m2) (hd : (x == ("__debug__" : Str)) = false := by decide) (hcd : (x == ("__classdict__" : Str)) = false := by decide)
    (ha : ∀ v, assign (.Subscript (.Name x px) b pa) X.env v = (do
      let ov ← holding [v] (eval (.Name x px) X.env)
      let iv ← holding [v, ov] (eval b X.env)
      standAt pa
      holding [v, ov, iv] (setItem ov iv v)
      release [v, ov, iv] []) := by intro _; rfl)
    (hs : swapsWithSole [.Subscript (.Name x px) b pa] e pos.line X.env = pure false := by rfl) (hw : swappedStores [.Subscript (.Name x px) b pa] e X.env = pure none := by rfl) (h1 : (assignEach [.Subscript (.Name x px) b pa] X.env).map (·.2) = [assign (.Subscript (.Name x px) b pa) X.env] := by rfl) :
    Den1 X cl (.Assign [.Subscript (.Name x px) b pa] e pos) (setDM n m1 m2) := fun s f s' h σ g ι Fr H r E q => by
  obtain ⟨d, s1, k1, e1_⟩ := bd_some h
  split at e1_
  · cases e1_
  · rename_i l0 e0
    obtain ⟨i, s2, k2, e2_⟩ := bd_some e1_
    obtain ⟨k, s3, k3, e3_⟩ := bd_some e2_
    obtain ⟨k3', rfl⟩ := lf_some k3
    have ei := isI_some k3'
    subst ei
    split at e3_
    · cases e3_
    · rename_i l1 e1
      split at e3_
      · rename_i hl
        cases e3_
        refine ⟨_, ps_asg WE.pe (pg_sub (pe_var hN hv hd hcd) WE.pe (set_dict hu) ha) hs hw h1, WE.mono (he s d s1 k1 σ g ι Fr H r) fun u H1 ⟨g1, i1, lt1, r1, z1⟩ => ?_⟩
        obtain ⟨ad, kvs, hσ, hH, _, _, _⟩ := dicS_some e0 r1
        refine ⟨_, hσ, WE.mono (hb s1 _ _ k2 σ g1 i1 Fr H1 r1) fun w H2 ⟨g2, i2, lt2, r2, z2⟩ => ?_⟩
        cases z2
        obtain ⟨ad2, kvs2, hσ2, hH2, hk2, hd2, kk⟩ := dicS_some e1 r2
        rw [hσ] at hσ2
        cases hσ2
        have hlen : kvs2.length = l1.length := by
          have := congrArg List.length hk2
          simpa using this
        refine ⟨ad, _, rfl, DPut.k (k := Sum.inl k) hH2 ?_, q σ g2 i2 _ (lt1.trans lt2) (kk _ _ (or_put (z1.up lt2) hk2 hd2))⟩
        rw [hlen]
        exact Nat.lt_of_lt_of_le (Nat.lt_trans hl (by decide : 1000 < 100000)) (by show 100000 ≤ sizeLine; rw [sizeLine_eq]; decide)
      · cases e3_
/-- x[e] -/
def hasD (n : Nat) : M Unit := fun s => match dicS n s with
  | some _ => some ((), s)
  | none => none
theorem hasD_some {n : Nat} {s s' : S} {u : Unit} (h : hasD n s = some (u, s')) : s' = s ∧ ∃ l, dicS n s = some l := by
  unfold hasD at h
  split at h
  · rename_i l e
    cases h
    exact ⟨rfl, l, e⟩
  · cases h
def getDM (n : Nat) (mi : M D) : M D := bd mi fun i => bd (lf (isI i)) fun k => fun s => match dicS n s with
  | none => none
  | some l => (match getI l k with
    | none => none
    | some d => some (d, s))
theorem den_getD {n : Nat} {x : Str} {px : Pos} (hu : X.A.units + 1 < cLine) (hN : X.N[n]? = some x) (hv : Vis X.env.scope x) (hb : Den X cl b m2) (hs : NoSl b := by intro _ _; rfl) (hd : (x == ("__debug__" : Str)) = false := by decide) (hcd : (x == ("__classdict__" : Str)) = false := by decide) :
    Den X cl (.Subscript (.Name x px) b pos) (bd (hasD n) fun _ => getDM n m2) := fun s v s' h σ g ι Fr H r => by
  obtain ⟨_, s1, h1, e1_⟩ := bd_some h
  obtain ⟨rfl, l0, hl0⟩ := hasD_some h1
  obtain ⟨i, s2, h2, e2_⟩ := bd_some e1_
  obtain ⟨k, s3, h3, e3_⟩ := bd_some e2_
  obtain ⟨k3, rfl⟩ := lf_some h3
  have ei := isI_some k3
  subst ei
  split at e3_
  · cases e3_
  · rename_i l hl
    split at e3_
    · cases e3_
    · rename_i d hg
      cases e3_
      obtain ⟨ad, _, hσ, _⟩ := dicS_some hl0 r
      refine .of (pe_dget hu (pe_var hN hv hd hcd) WE.pe hs) ⟨_, hσ, WE.mono (hb _ _ _ h2 σ g ι Fr H r) fun w H2 ⟨g2, i2, l2, r2, z2⟩ => ?_⟩
      cases z2
      obtain ⟨ad2, kvs, hσ2, hH, hk, hd2, _⟩ := dicS_some hl r2
      rw [hσ] at hσ2
      cases hσ2
      obtain ⟨y, hy, zy⟩ := or_get hk hd2 hg
      refine ⟨ad, y, rfl, ?_, g2, i2, l2, r2, zy⟩
      have := DGet.k (k := Sum.inl k) hH
      rw [hy] at this
      exact this
/-- {'a': e1, 'b': e2}.get(e3, None) -/
def get2 (k1 k2 : Str) (x y z : D) : Option D := match z with
  | .str t => some (if k1 = t then x else if k2 = t then y else .non)
  | _ => none
theorem den_sget2 {k1 k2 : Str} {j1 j2 j3 : Nat} {q1 q2 q3 q4 : Pos} (hu : X.A.units + 1 < cLine) (h1 : Den X cl a m1) (h2 : Den X cl b m2) (h3 : Den X cl e m3) (hk : k1 ≠ k2)
    (m : M2 X (.Dict [some (.Constant (.str k1) j1 q1), some (.Constant (.str k2) j2 q2)] [a, b] q4) "get" pa e (.Constant .none j3 q3) p) :
    Den X cl (.Call (.Attribute (.Dict [some (.Constant (.str k1) j1 q1), some (.Constant (.str k2) j2 q2)] [a, b] q4) "get" pa) [e, .Constant .none j3 q3] [] p) (bd m1 fun x => bd m2 fun y => bd m3 fun z => lf (get2 k1 k2 x y z)) := fun s v s' h σ g ι Fr H r => by
  obtain ⟨x, s1, c1, e1_⟩ := bd_some h
  obtain ⟨y, s2, c2, e2_⟩ := bd_some e1_
  obtain ⟨z, s3, c3, e3_⟩ := bd_some e2_
  obtain ⟨c4, rfl⟩ := lf_some e3_
  unfold get2 at c4
  split at c4
  · rename_i t
    cases c4
    refine .of (pe_dget2 hu (pe_disp (pps_cons pe_str WE.pe (pps_cons pe_str WE.pe pps_nil)) rfl rfl (by simp) (by simp)) WE.pe pe_non m) fun ad np => ?_
    refine WE.mono (h1 s x s1 c1 σ g ι _ _ (r.newFr (o := .dK []) np)) fun u H1 ⟨g1, i1, l1, r1, z1⟩ => ?_
    refine WE.mono (h2 s1 y s2 c2 σ g1 i1 _ _ r1) fun w H2 ⟨g2, i2, l2, r2, z2⟩ => ?_
    refine ⟨(r2.fr (o' := .dK [])).1, [(.inr k1, u), (.inr k2, w)], rfl, by simp, ?_⟩
    have r3 := (r2.fr (o' := .dK (mergeK [] [(.inr k1, u), (.inr k2, w)]))).2
    refine ⟨ad, rfl, .inl ⟨_, .inl upd_same⟩, WE.mono (h3 s2 _ _ c3 σ g2 i2 _ _ r3) fun zz H3 ⟨g3, i3, l3, r4, z3⟩ => ?_⟩
    cases z3
    have hH3 := (r4.fr (o' := .dK [])).1
    refine ⟨_, DGet.k (k := Sum.inr t) hH3, ?_⟩
    have kk := r4.frKeep
    refine ⟨_, _, ((l1.trans l2).trans l3).trans kk.2, kk.1, ?_⟩
    have hv : (valV (mergeK [] [((.inr k1 : Key), u), (.inr k2, w)]) (Sum.inr t)).getD .non = if k1 = t then u else if k2 = t then w else .non := by
      have hm : mergeK [] [((.inr k1 : Key), u), (.inr k2, w)] = [(.inr k1, u), (.inr k2, w)] := by
        simp [mergeK, L2.putK, hk]
      rw [hm]
      by_cases e1 : k1 = t
      · simp [valV, e1]
      · by_cases e2 : k2 = t
        · simp [valV, e1, e2]
        · simp [valV, e1, e2]
    rw [hv]
    have L3 := l3.trans kk.2
    have L2' := l2.trans L3
    by_cases e1 : k1 = t
    · rw [if_pos e1, if_pos e1]
      exact z1.up L2'
    · rw [if_neg e1, if_neg e1]
      by_cases e2 : k2 = t
      · rw [if_pos e2, if_pos e2]
        exact z2.up L3
      · rw [if_neg e2, if_neg e2]
        exact .non
  · cases c4
end
end Sd

namespace Sd
open PySem PySem.Spec PyProof.Rows L2
open Evl (Ex)
section
variable {X : Cx} {cl : Nat → Addr} {a b c e o st : Expr} {es : List Expr} {pos p p3 p' pa : Pos} {m m1 m2 m3 mo : M D} {ma : M (List D)}
/-! l[::k], k 1 or -1 -/
def tStepL (K : PySem.W.Frag) (te : TE) (ts : TO) : TE := fun σ H Q => te σ H fun x H1 => ts σ H1 fun k H2 => ∃ a xs, x = .ref a ∧ SqL K H2 a xs ∧ (k = some 1 ∧ (∀ p, H2 p = none → Q (.ref p) (upd H2 p (.lst xs))) ∨ k = some (-1) ∧ ∀ p, H2 p = none → Q (.ref p) (upd H2 p (.lst xs.reverse)))
theorem pe_stepL {te : TE} {ts : TO} (he : PE X e te) (hst : PO X (some st) ts) : PE X (.Subscript e (.Slice none none (some st) p3) pos) (tStepL X.K te ts) := by
  refine ⟨fun pins s σ H Q I h => ?_⟩
  refine Subscript_ (thn (he.run pins s σ H _ I h) fun v s1 ⟨x, H1, I1, r1, q1⟩ => ?_)
  refine wpAny_Slice (thn (po_none.run pins s1 σ H1 (fun o H2 => o = none ∧ H2 = H1) I1 ⟨rfl, rfl⟩) fun vl s2 ⟨l, H2, I2, pl, el, e2⟩ => ?_)
  subst el e2
  refine thn (po_none.run pins s2 σ H2 (fun o H3 => o = none ∧ H3 = H2) I2 ⟨rfl, rfl⟩) fun vu s3 ⟨u, H3, I3, pu, eu, e3⟩ => ?_
  subst eu e3
  refine thn (hst.run pins s3 σ H3 _ I3 q1) fun vs s4 ⟨o, H4, I4, ps, a, xs, ex, hx, q⟩ => ?_
  subst ex
  cases r1
  have I5 : Inv X pins σ H4 { s4 with heap := s4.heap.push { cls := .type "slice", data := .fields #[vl, vu, vs] } } := I4.kept (t' := s4.toks) fun b ob q => Heap.get?_push_of_some _ q
  obtain ⟨its, r, ht, hz⟩ := I5.list hx
  have hlen := r.length
  show wpAny (model X.prog X.w) X.A (subscriptTail e (.Slice none none (some st) p3) (.ref a) (.ref s4.heap.objs.size)) (EP X pins σ Q) X.xe { s4 with heap := s4.heap.push { cls := .type "slice", data := .fields #[vl, vu, vs] } }
  refine tail_any (ops := [.ref a, .ref s4.heap.objs.size]) ht.isList.typeIs (PySem.slot_list_getitem.lookup) ?_ (by with_unfolding_all rfl)
  rcases q with ⟨ek, q⟩ | ⟨ek, q⟩
  · subst ek
    refine wpAny_getItem_list_slice ht.isList (Heap.IsSliceOf.new _ vl vu vs) pl pu ps (by decide) ?_ (by rw [List.size_toArray]; omega)
    rw [show slicePick its.toArray none none (some 1) = slicePick its.toArray none none none from rfl, slicePick_all]
    refine ⟨.ref _, _, I5.laid (t' := s4.toks) (o := .lst xs) (fun b ob q => Heap.get?_push_of_some _ q) (Nat.le_refl _) ?_, rfl, q _ (I5.hok.fresh (Nat.le_refl _))⟩
    exact ⟨hz, _, 0, r, Heap.get?_push_size _ rfl⟩
  · subst ek
    refine wpAny_getItem_list_slice ht.isList (Heap.IsSliceOf.new _ vl vu vs) pl pu ps (by decide) ?_ (by rw [List.size_toArray]; omega)
    rw [PySem.W.krv_pick]
    refine ⟨.ref _, _, I5.laid (t' := s4.toks) (o := .lst xs.reverse) (fun b ob q => Heap.get?_push_of_some _ q) (Nat.le_refl _) ?_, rfl, q _ (I5.hok.fresh (Nat.le_refl _))⟩
    exact ⟨by rw [List.length_reverse]; exact hz, _, 0, r.reverse, Heap.get?_push_size _ rfl⟩
def stpD (x : D) (k : Option Int) : Option D := match x with
  | .lst l => if k = some 1 then some (.lst l) else if k = some (-1) then some (.lst l.reverse) else none
  | _ => none
theorem DRs.reverse {K : PySem.W.Frag} {ι : List Addr} {g : Hp} : ∀ {xs : List V} {ds : List D}, DRs K cl ι g xs ds → DRs K cl ι g xs.reverse ds.reverse
  | _, _, .nil => .nil
  | _, _, .cons z zs => by
    rw [List.reverse_cons, List.reverse_cons]
    exact zs.reverse.append (.cons z .nil)
theorem den_stp {ml : M (Option Int)} (ha : Den X cl a m1) (hl : DenO X cl (some st) ml) : Den X cl (.Subscript a (.Slice none none (some st) p3) pos) (bd m1 fun x => bd ml fun i => lf (stpD x i)) := fun s v s' h σ g ι Fr H r => by
  obtain ⟨x, s1, h1, e1_⟩ := bd_some h
  obtain ⟨i, s2, h2, e2_⟩ := bd_some e1_
  obtain ⟨h4, rfl⟩ := lf_some e2_
  refine .of (pe_stepL WE.pe WO.po) (WE.mono (ha s x s1 h1 σ g ι Fr H r) fun u H1 ⟨g1, i1, l1, r1, z1⟩ => hl.wo h2 r1 fun H2 g2 i2 l2 r2 => ?_)
  have z := z1.up l2
  have L := l1.trans l2
  unfold stpD at h4
  split at h4
  · cases z with
    | lst q rr =>
      split at h4
      · rename_i ek
        cases h4
        exact ⟨_, _, rfl, Evl.sq_of (r2.ex _ _ q), .inl ⟨ek, fun p np => (post_lst r2 np rr).lt L⟩⟩
      · split at h4
        · rename_i ek
          cases h4
          exact ⟨_, _, rfl, Evl.sq_of (r2.ex _ _ q), .inr ⟨ek, fun p np => (post_lst r2 np rr.reverse).lt L⟩⟩
        · cases h4
  · cases h4
/-! x = x + e, x a list that changes -/
theorem slotL_at {n : Nat} {s s' : S} {l : List D} (h : slotL n s = some (l, s')) : s' = s ∧ ∀ {K : PySem.W.Frag} {g H : Hp} {ι : List Addr} {σ : L2.St} {Fr : Rl}, Rel K cl g ι σ s Fr H → ∃ ad xs, σ[n]? = some (some (.ref ad)) ∧ H ad = some (.lst xs) ∧ DRs K cl ι g xs l := by
  unfold slotL at h
  split at h
  · rename_i l0 e
    cases h
    refine ⟨rfl, fun rl => ?_⟩
    obtain ⟨Rm, Rs, sh, mr, tr⟩ := rl
    obtain ⟨a, vs, R', h1, h2, h3, _⟩ := mr.mutAt e
    have sh2 := sh.perm (h3.append_right _)
    exact ⟨_, _, h1, sh2.head, h2⟩
  · cases h
def lstD : D → Option (List D)
  | .lst l => some l
  | _ => none
def addLM (n : Nat) (me : M D) : M Fl := bd (slotL n) fun _ => bd me fun d => bd (lf (lstD d)) fun l2 => bd (slotL n) fun l => if l.length + l2.length ≤ 100000 then bd (stL n (l ++ l2)) fun _ => ret .nx else fl
theorem den_addL {n : Nat} {x : Str} {px p2 : Pos} (hN : X.N.Nodup) (hi : X.N[n]? = some x) (hv : Vis X.env.scope x) (hx : Loc X.env.scope x) (he : Den X cl e m) (hf : X.fn x = true ∨ X.env.scope.names.lookup x = some .local) (hd : (x == ("__debug__" : Str)) = false := by decide) (hcd : (x == ("__classdict__" : Str)) = false := by decide)
    (hs : swapsWith (.BinOp (.Name x px) .Add e p2) (some (.Name x p)) pos.line X.env = pure false := by rfl) :
    Den1 X cl (.Assign [.Name x p] (.BinOp (.Name x px) .Add e p2) pos) (addLM n m) := fun s f s' h σ g ι Fr H r E q => by
  obtain ⟨l0, s0, h0, e0_⟩ := bd_some h
  obtain ⟨d, s1, h1, e1_⟩ := bd_some e0_
  obtain ⟨l2, s2, h2, e2_⟩ := bd_some e1_
  obtain ⟨l, s3, h3, e3_⟩ := bd_some e2_
  obtain ⟨rfl, a0⟩ := slotL_at (cl := cl) h0
  obtain ⟨ad, xs0, hσ, _, _⟩ := a0 r
  obtain ⟨k2, rfl⟩ := lf_some h2
  obtain ⟨rfl, a3⟩ := slotL_at (cl := cl) h3
  unfold lstD at k2
  split at k2
  · cases k2
    split at e3_
    · rename_i hl
      obtain ⟨_, s4, h4, e4_⟩ := bd_some e3_
      cases e4_
      unfold stL at h4
      split at h4
      · rename_i hn
        cases h4
        refine ⟨_, ps_set hN hi hx (pe_op op_cat (pe_var hi hv hd hcd) WE.pe) hs hf, ⟨_, hσ, WE.mono (he _ _ _ h1 σ g ι Fr H r) fun w H2 ⟨g2, i2, l2, r2, z2⟩ => ?_⟩⟩
        obtain ⟨ad2, xs, hσ2, hH, zx⟩ := a3 r2
        rw [hσ] at hσ2
        cases hσ2
        cases z2 with
        | lst h2 rr => exact ⟨_, _, _, _, rfl, rfl, hH, r2.ex _ _ h2, Evl.sz_of (by rw [zx.length, rr.length]; simpa using hl), fun p np => q _ g2 i2 _ l2 ((r2.newFr np).setL (zx.append rr) hn)⟩
      · cases h4
    · cases e3_
  · cases k2
/-! a dict by ints that stays from now on -/
def rdD (n : Nat) : M D := fun s => match s.r[n]? with
  | some (.dic (.k l)) => some (.dct (l.map (·.1)) (l.map (·.2)), { s with r := s.r.set n (.dat (.dct (l.map (·.1)) (l.map (·.2)))) })
  | _ => none
theorem den_varD {n : Nat} {x : Str} (hN : X.N[n]? = some x) (hv : Vis X.env.scope x) (hd : (x == ("__debug__" : Str)) = false := by decide) (hcd : (x == ("__classdict__" : Str)) = false := by decide) : Den X cl (.Name x pos) (rdD n) := fun s v s' h σ g ι Fr H r => by
  unfold rdD at h
  obtain ⟨Rm, Rs, sh, mr, tr⟩ := r
  split at h
  · rename_i l e
    cases h
    obtain ⟨ad, ho, R', h1, h2, h3, h5⟩ := mr.dicKeep e
    cases h2 with
    | @k kvs _ hk hd2 =>
      have sh2 : Sh g ((ad, .dK kvs) :: (R' ++ (Rs ++ Fr))) H := sh.perm (h3.append_right _)
      have k := sh2.keep
      have lt : Lt g ι (upd g ad (.dK kvs)) ι := ⟨k.2, .refl _⟩
      have z : DR X.K cl ι (upd g ad (.dK kvs)) (.ref ad) (.dct (l.map (·.1)) (l.map (·.2))) := .dct upd_same (by rw [hk, List.map_map]; rfl) (hd2.up lt)
      exact .of (pe_var hN hv hd hcd) ⟨_, h1, _, ι, lt, ⟨R', Rs, k.1, h5 _ _ _ lt z, tr.up lt⟩, z⟩
  · cases h
def dgetD (x : D) (k : Int) : Option D := match x with
  | .dct ks ds => getI (ks.zip ds) k
  | _ => none
theorem den_getF (hu : X.A.units + 1 < cLine) (ha : Den X cl a m1) (hb : Den X cl b m2) (hs : NoSl b := by intro _ _; rfl) : Den X cl (.Subscript a b pos) (bd m1 fun x => bd m2 fun i => bd (lf (isI i)) fun k => lf (dgetD x k)) := fun s v s' h σ g ι Fr H r => by
  obtain ⟨x, s1, h1, e1_⟩ := bd_some h
  obtain ⟨i, s2, h2, e2_⟩ := bd_some e1_
  obtain ⟨k, s3, h3, e3_⟩ := bd_some e2_
  obtain ⟨k3, rfl⟩ := lf_some h3
  have ei := isI_some k3
  subst ei
  obtain ⟨h4, rfl⟩ := lf_some e3_
  refine .of (pe_dget hu WE.pe WE.pe hs) (WE.mono (ha _ _ _ h1 σ g ι Fr H r) fun u H1 ⟨g1, i1, l1, r1, z1⟩ => WE.mono (hb _ _ _ h2 σ g1 i1 Fr H1 r1) fun w H2 ⟨g2, i2, l2, r2, z2⟩ => ?_)
  cases z2
  have z := z1.up l2
  cases x with
  | dct ks ds =>
    have h4 : getI (ks.zip ds) k = some v := h4
    cases z with
    | @dct ad kvs _ _ q hk rr =>
      have hlen : ks.length = ds.length := by
        have e1 := congrArg List.length hk
        have e2 := rr.length
        simp only [List.length_map] at e1 e2
        omega
      have m1 : (ks.zip ds).map (·.1) = ks := List.map_fst_zip (Nat.le_of_eq hlen)
      have m2 : (ks.zip ds).map (·.2) = ds := List.map_snd_zip (Nat.le_of_eq hlen.symm)
      obtain ⟨y, hy, zy⟩ := or_get (l := ks.zip ds) (by
        have e3 : (ks.zip ds).map (fun q => (Sum.inl q.1 : Key)) = ((ks.zip ds).map (·.1)).map Sum.inl := by rw [List.map_map]; rfl
        rw [hk, e3, m1]) (by rw [m2]; exact rr) h4
      refine ⟨ad, y, rfl, ?_, g2, i2, l1.trans l2, r2, zy⟩
      have := DGet.k (k := Sum.inl k) (r2.ex _ _ q)
      rw [hy] at this
      exact this
  | _ => cases h4
end
/-! x is True, x is False, x no truth -/
theorem op_isIB {X : Cx} : OpR X (compareOp .Is) (fun x y H Q => ∃ b, (∀ c, x ≠ .bl c) ∧ y = .bl b ∧ (∃ i, x = .int i) ∧ Q (.bl false) H) := by
  intro pins s σ H x y v u Q I rx ry h
  obtain ⟨b, _, rfl, ⟨i, rfl⟩, q⟩ := h
  cases (show u = Value.bool b from ry)
  obtain ⟨t, rfl⟩ := rx
  exact wpAny_is_other rfl (fun z => by cases z) ⟨.bl false, H, I, rfl, q⟩
theorem op_isSB {X : Cx} : OpR X (compareOp .Is) (fun x y H Q => ∃ b, y = .bl b ∧ (∃ i, x = .str i) ∧ Q (.bl false) H) := by
  intro pins s σ H x y v u Q I rx ry h
  obtain ⟨b, rfl, ⟨i, rfl⟩, q⟩ := h
  cases (show u = Value.bool b from ry)
  obtain ⟨t, rfl⟩ := rx
  exact wpAny_is_other rfl (fun z => by cases z) ⟨.bl false, H, I, rfl, q⟩
theorem op_isRB {X : Cx} : OpR X (compareOp .Is) (fun x y H Q => ∃ b, y = .bl b ∧ (∃ i, x = .ref i) ∧ Q (.bl false) H) := by
  intro pins s σ H x y v u Q I rx ry h
  obtain ⟨b, rfl, ⟨i, rfl⟩, q⟩ := h
  cases (show u = Value.bool b from ry)
  cases rx
  exact wpAny_is_other rfl (fun z => by cases z) ⟨.bl false, H, I, rfl, q⟩
theorem op_isNB {X : Cx} : OpR X (compareOp .Is) (fun x y H Q => ∃ b, y = .bl b ∧ x = .non ∧ Q (.bl false) H) := by
  intro pins s σ H x y v u Q I rx ry h
  obtain ⟨b, rfl, rfl, q⟩ := h
  cases (show u = Value.bool b from ry)
  cases rx
  exact wpAny_is_other rfl (fun z => by cases z) ⟨.bl false, H, I, rfl, q⟩
def isBD : D → D → Option D
  | .bl a, .bl b => some (.bl (decide (a = b)))
  | .int _, .bl _ => some (.bl false)
  | .str _, .bl _ => some (.bl false)
  | .non, .bl _ => some (.bl false)
  | _, _ => none
theorem opd_isB {X : Cx} {cl : Nat → Addr} : OpD X cl (compareOp .Is) isBD := by
  refine ⟨_, (op_isBl.or op_isIB).or (op_isSB.or op_isNB), fun x y d1 d2 d e σ s g ι Fr H rl z1 z2 Q q => ?_⟩
  unfold isBD at e
  split at e
  · cases e
    cases z1
    cases z2
    exact .inl (.inl ⟨_, _, rfl, rfl, q _ _ (post_of rl (.bl _))⟩)
  · cases e
    cases z1
    cases z2
    exact .inl (.inr ⟨_, fun c h => (by cases h), rfl, ⟨_, rfl⟩, q _ _ (post_of rl (.bl _))⟩)
  · cases e
    cases z1
    cases z2
    exact .inr (.inl ⟨_, rfl, ⟨_, rfl⟩, q _ _ (post_of rl (.bl _))⟩)
  · cases e
    cases z1
    cases z2
    exact .inr (.inr ⟨_, rfl, rfl, q _ _ (post_of rl (.bl _))⟩)
  · cases e
def isiS : D → Option Bool
  | .tupU _ => none
  | .str _ => some true
  | .ins _ _ _ => none
  | .ref _ => none
  | _ => some false
theorem isi_str : Isi "str" isiS := fun d b h => by
  cases d <;> cases h
  all_goals exact ⟨_, rfl, by decide +kernel⟩
theorem b_str : bootBuiltins "str" = some (.type "str") := by decide +kernel
end Sd

namespace Sd
open PySem PySem.Spec PyProof.Rows L2
open Evl (Ex)
section
variable {X : Cx} {cl : Nat → Addr} {a b c e o st : Expr} {pos p p3 p' pa : Pos} {m m1 m2 m3 mo : M D}
/-! e in x, e not in x, x a list that changes and goes on changing -/
theorem dp_chg {K : PySem.W.Frag} {ι : List Addr} {g H : Hp} {ad : Addr} {xs : List V} {l : List D} {q : PyData} (ex : Ex g H) (sq : SqL K H ad xs) (rr : DRs K cl ι g xs l) (h : toP (.lst l) = some q) : Dp K H (.ref ad) q := by
  unfold toP at h
  split at h
  · rename_i ps e1
    cases h
    exact .lst sq (dps_of ex rr e1)
  · cases h
theorem dent_notInN {n : Nat} {x : Str} (hu : X.A.units + 65 < cLine) (he : Den X cl e m) (hN : X.N[n]? = some x) (hv : Vis X.env.scope x) (hd : (x == ("__debug__" : Str)) = false := by decide) (hcd : (x == ("__classdict__" : Str)) = false := by decide) (hm : behindInMarks .NotIn (.Name x p') = false := by rfl) :
    DenT X cl (.Compare e [.NotIn] [.Name x p'] pos) (bd m fun d => bd (slotL n) fun l => lf ((notInD d (.lst l)).bind isB)) := fun s v s' h σ g ι Fr H r => by
  obtain ⟨d, s1, h1, e1_⟩ := bd_some h
  obtain ⟨l, s2, h2, e2_⟩ := bd_some e1_
  obtain ⟨h3, rfl⟩ := lf_some e2_
  obtain ⟨t, h4, h5⟩ := Option.bind_eq_some_iff.mp h3
  have et := isB_some h5
  subst et
  obtain ⟨rfl, hq⟩ := slotL_some (cl := cl) h2
  refine .of (pt_cmpR (Sd.op_notInS hu) WE.pe (pe_var hN hv hd hcd) hm) (WE.mono (he s d _ h1 σ g ι Fr H r) fun u H1 ⟨g1, i1, l1, r1, z1⟩ => ?_)
  obtain ⟨ad, xs, hs, sq, rr⟩ := hq r1
  refine ⟨_, hs, ?_⟩
  obtain ⟨p1, k1, h4⟩ := Option.bind_eq_some_iff.mp h4
  obtain ⟨p2, k2, h4⟩ := Option.bind_eq_some_iff.mp h4
  obtain ⟨ps, k3, h4⟩ := Option.bind_eq_some_iff.mp h4
  cases h4
  obtain ⟨k1, t1⟩ := shp_some k1
  obtain ⟨k2, t2⟩ := shp_some k2
  exact ⟨p1, ps, p2, dp_of r1.ex z1 k1, dp_chg r1.ex sq rr k2, itemsP_some k3, t1, t2, _, rfl, rfl, g1, i1, l1, r1⟩
end
end Sd

namespace Sd
open PySem PySem.Spec PyProof.Rows L2
open Evl (Ex)
/-! walks over a list of the store, read anew at each turn -/
def cur (k : Nat) : M (List D) := fun s => match s.st[k]? with
  | some (.lst l) => some (l, s)
  | _ => none
theorem cur_some {k : Nat} {s s' : S} {l : List D} (h : cur k s = some (l, s')) : s' = s ∧ s.st[k]? = some (.lst l) := by
  unfold cur at h
  split at h
  · rename_i l0 e
    cases h
    exact ⟨rfl, e⟩
  · cases h
theorem Rel.cur {K : PySem.W.Frag} {cl : Nat → Addr} {ι : List Addr} {g H : Hp} {σ : L2.St} {s : S} {Fr : Rl} {k : Nat} {l : List D} {ad : Addr} (r : Rel K cl g ι σ s Fr H) (e : s.st[k]? = some (.lst l)) (hk : ι[k]? = some ad) : ∃ vs, SqL K H ad vs ∧ DRs K cl ι g vs l := by
  obtain ⟨Rm, Rs, sh, mr, tr⟩ := r
  obtain ⟨a, vs, R', h1, h2, h3, _⟩ := tr.lstAt e
  rw [hk] at h1
  cases h1
  have sh2 := sh.perm ((h3.append_right _).append_left Rm)
  exact ⟨vs, Evl.sq_of (sh2.at_ _ (List.mem_append_right _ (List.mem_cons_self ..))), h2⟩
def itR (en : Bool) (i : Nat) (d : D) : D := if en then .tupU [.int (i : Nat), d] else d
def Yr (K : PySem.W.Frag) (ad : Addr) (en : Bool) : Nat → Hp → V → Hp → Prop := fun i H v H' =>
  ∃ x, (∀ xs, SqL K H ad xs → xs[i]? = some x) ∧ ((en = false ∧ H' = H ∧ v = x) ∨ (en = true ∧ ∃ T, H T = none ∧ H' = upd H T (.tup [.int (i : Nat), x]) ∧ v = .ref T))
/-- what the walk gives, known -/
theorem Yr.rel {K : PySem.W.Frag} {cl : Nat → Addr} {ι : List Addr} {g H H' : Hp} {en : Bool} {i k : Nat} {v : V} {σ : L2.St} {s : S} {Fr : Rl} {ad : Addr} {l : List D} {d : D} (y : Yr K ad en i H v H') (r : Rel K cl g ι σ s Fr H) (e : s.st[k]? = some (.lst l)) (hk : ι[k]? = some ad) (hd : l[i]? = some d) :
    ∃ g2, Lt g ι g2 ι ∧ Rel K cl g2 ι σ s Fr H' ∧ DR K cl ι g2 v (itR en i d) := by
  obtain ⟨vs, sq, rr⟩ := r.cur e hk
  obtain ⟨x, hx, hy⟩ := y
  obtain ⟨u, hu, z⟩ := rr.at hd
  have ex := hx vs sq
  rw [hu] at ex
  cases ex
  rcases hy with ⟨rfl, rfl, rfl⟩ | ⟨rfl, T, nT, rfl, rfl⟩
  · exact ⟨g, .refl, r, z⟩
  · have q := r.add (o := .tup [.int (i : Nat), x]) nT
    exact ⟨_, q.2, q.1, .tupU (Evl.st_of upd_same) (.cons (.int _) (.cons (z.up q.2) .nil))⟩
def DenJ (X : Cx) (cl : Nat → Addr) (tg iter : Expr) (en : Bool) (mi : M (Nat × Nat)) : Prop := ∀ s k n s', mi s = some ((k, n), s') → ∀ σ g ι Fr H, Rel X.K cl g ι σ s Fr H → ∀ R : It → Hp → Prop,
  (∀ J g1 ι1 H1 ad, Lt g ι g1 ι1 → Rel X.K cl g1 ι1 σ s' Fr H1 → ι1[k]? = some ad → Walk J n (fun H' => ∃ xs, SqL X.K H' ad xs ∧ xs.length = n) (Yr X.K ad en) → R J H1) → WI X tg iter σ H R
section
variable {X : Cx} {cl : Nat → Addr} {a b c e tg iter elt : Expr} {es ifs : List Expr} {pos p p' pt : Pos} {m m1 m2 m3 me : M D} {ma : M (List D)} {mi : M (Nat × Nat)} {mc : M Bool} {elts : List Expr} {kk : Nat} {sa : List Stmt} {mb : M Fl} {en : Bool}
def refK (x : D) : M (Nat × Nat) := fun s => match x with
  | .ref k => (match s.st[k]? with
    | some (.lst l) => some ((k, l.length), s)
    | _ => none)
  | _ => none
theorem refK_some {x : D} {k n : Nat} {s s' : S} (h : refK x s = some ((k, n), s')) : s' = s ∧ x = .ref k ∧ ∃ l, s.st[k]? = some (.lst l) ∧ l.length = n := by
  unfold refK at h
  split at h
  · split at h
    · rename_i l e
      cases h
      exact ⟨rfl, rfl, _, e, rfl⟩
    · cases h
  · cases h
theorem denj_seq (ha : Den X cl a m) : DenJ X cl tg a false (bd m refK) := fun s k n s' h σ g ι Fr H r R q => by
  obtain ⟨x, s1, h1, e1_⟩ := bd_some h
  obtain ⟨rfl, rfl, l, e, hl⟩ := refK_some e1_
  refine .of (pi_list WE.pe) (WE.mono (ha s _ _ h1 σ g ι Fr H r) fun u H1 ⟨g1, i1, l1, r1, z1⟩ => ?_)
  cases z1 with
  | @ref ad _ hk =>
    obtain ⟨vs, sq, rr⟩ := r1.cur e hk
    refine ⟨ad, rfl, ⟨vs, sq⟩, q _ g1 i1 H1 ad l1 r1 hk ?_⟩
    exact ⟨fun i H' hi ⟨xs, sq, hx⟩ => ⟨xs, xs[i]'(by omega), sq, by simp [show i < xs.length by omega]⟩, fun H' ⟨xs, sq, hx⟩ => ⟨xs, sq, by omega⟩, fun i H' v H2 hi _ y => ⟨v, fun xs hs => y.2 xs hs, .inl ⟨rfl, y.1, rfl⟩⟩⟩
theorem denj_enum (hg : Gl X "enumerate") (hm : X.mg "enumerate" = none) (ha : Den X cl a m) (hs : starEach [a] X.env = (false, eval a X.env) :: starEach [] X.env := by rfl) (hs2 : starEach [a] X.env = [(false, eval a X.env)] := by rfl) :
    DenJ X cl (.Tuple elts kk pt) (.Call (.Name "enumerate" p) [a] [] pos) true (bd m refK) := fun s k n s' h σ g ι Fr H r R q => by
  obtain ⟨x, s1, h1, e1_⟩ := bd_some h
  obtain ⟨rfl, rfl, l, e, hl⟩ := refK_some e1_
  refine .of (pi_enum hg hm (pa_cons WE.pe pa_nil hs) hs2) (WE.mono (ha s _ _ h1 σ g ι Fr H r) fun u H1 ⟨g1, i1, l1, r1, z1⟩ => ?_)
  cases z1 with
  | @ref ad _ hk =>
    obtain ⟨vs, sq, rr⟩ := r1.cur e hk
    refine ⟨ad, vs, rfl, sq, q _ g1 i1 H1 ad l1 r1 hk ?_⟩
    refine ⟨fun i H' hi ⟨xs, sq, hx⟩ => ⟨xs, xs[i]'(by omega), sq, by simp [show i < xs.length by omega]⟩, fun H' ⟨xs, sq, hx⟩ => ⟨xs, sq, by omega⟩, fun i H' v H2 hi _ y => ?_⟩
    obtain ⟨T, x, hv, nT, hH, hx⟩ := y
    exact ⟨x, hx, .inr ⟨rfl, T, nT, hH, hv⟩⟩
def fTurn (k n : Nat) (en : Bool) (ts : D → M Unit) (mb : M Fl) : Nat → M Fl
  | 0 => bd (cur k) fun l => if l.length = n then ret .nx else fl
  | j + 1 => bd (cur k) fun l => if l.length = n then (match l[n - (j + 1)]? with
    | none => fl
    | some d => bd (ts (itR en (n - (j + 1)) d)) fun _ => bd mb fun f => match f with
      | .nx => fTurn k n en ts mb j
      | .ct => fTurn k n en ts mb j
      | .bk => ret .nx
      | .rt x => ret (.rt x)) else fl
def forR (en : Bool) (ts : D → M Unit) (mi : M (Nat × Nat)) (mb : M Fl) : M Fl := bd mi fun q => fTurn q.1 q.2 en ts mb q.2
theorem fTurn_cur {k n : Nat} {ts : D → M Unit} {j : Nat} {s s' : S} {f : Fl} (h : fTurn k n en ts mb j s = some (f, s')) : ∃ l, s.st[k]? = some (.lst l) ∧ l.length = n := by
  cases j with
  | zero =>
    obtain ⟨l, s1, h1, h2⟩ := bd_some h
    obtain ⟨rfl, e⟩ := cur_some h1
    split at h2
    · exact ⟨l, e, ‹_›⟩
    · cases h2
  | succ j =>
    unfold fTurn at h
    obtain ⟨l, s1, h1, h2⟩ := bd_some h
    obtain ⟨rfl, e⟩ := cur_some h1
    split at h2
    · exact ⟨l, e, ‹_›⟩
    · cases h2
theorem den_forR {o : List Nat} {tgg : TG} {ts : D → M Unit} (hp : PassesOwn (model X.prog X.w) X.A X.env X.xe) (hc : X.calm = true) (htg : TgD X cl tg o tgg ts) (hi : DenJ X cl tg iter en mi) (hb : DenS X cl sa mb)
    (hs : ∀ x, foldedSetIterable iter X.env x = pure x := by intro _; rfl) : Den1 X cl (.For tg iter sa [] pos) (forR en ts mi mb) := fun s f s' h σ g ι Fr H r E q => by
  obtain ⟨⟨k, n⟩, s1, k1, e1_⟩ := bd_some h
  refine ⟨_, ps_for hp hc WI.pi htg.1 WS.ps hs, hi s k n s1 k1 σ g ι Fr H r _ fun J g1 ι1 H1 ad l1 r1 hk w => ?_⟩
  refine for_it w (fun i σ' H' => ∃ g' ι' si, Lt g1 ι1 g' ι' ∧ Rel X.K cl g' ι' σ' si Fr H' ∧ fTurn k n en ts mb (n - i) si = some (f, s')) ⟨g1, ι1, s1, .refl, r1, e1_⟩ (fun i σ' H' _ ⟨g', ι', si, lt, r, hgo⟩ => ?_) (fun i v σ' H' H2 hi ⟨g', ι', si, lt, r, hgo⟩ yy => ?_) fun σ' H' ⟨g', ι', si, lt, r, hgo⟩ => ?_
  · obtain ⟨l, e, hl⟩ := fTurn_cur hgo
    obtain ⟨vs, sq, rr⟩ := r.cur e (lt.p _ _ hk)
    exact ⟨vs, sq, by rw [rr.length, hl]⟩
  · have hn : n - i = (n - (i + 1)) + 1 := by omega
    rw [hn] at hgo
    unfold fTurn at hgo
    obtain ⟨l, s2, h1, hgo'⟩ := bd_some hgo
    clear hgo
    obtain ⟨rfl, e⟩ := cur_some h1
    have hgo := hgo'
    clear hgo'
    split at hgo
    · rename_i hl
      have hi2 : n - (n - (i + 1) + 1) = i := by omega
      rw [hi2] at hgo
      cases hd : l[i]? with
      | none =>
        rw [hd] at hgo
        cases hgo
      | some d =>
        rw [hd] at hgo
        simp only at hgo
        obtain ⟨g2, l2, r2, z2⟩ := yy.rel r e (lt.p _ _ hk) hd
        obtain ⟨_, sa', k2, hgo⟩ := bd_some hgo
        obtain ⟨f2, sb', k3, hgo⟩ := bd_some hgo
        obtain ⟨σ2, r3, q3, _⟩ := htg.2 _ _ _ k2 _ _ _ _ _ _ r2 z2
        refine q3 _ (hb sa' f2 sb' k3 σ2 g2 ι' Fr H2 r3 _ ?_)
        cases f2 with
        | nx => exact fun σ3 g3 i3 H3 l3 r4 => ⟨g3, i3, sb', (lt.trans l2).trans l3, r4, hgo⟩
        | ct => exact fun σ3 g3 i3 H3 l3 r4 => ⟨g3, i3, sb', (lt.trans l2).trans l3, r4, hgo⟩
        | bk =>
          cases hgo
          exact fun σ3 g3 i3 H3 l3 r4 => q σ3 g3 i3 H3 (((l1.trans lt).trans l2).trans l3) r4
        | rt x =>
          cases hgo
          exact fun v σ3 g3 i3 H3 l3 r4 z => q v σ3 g3 i3 H3 (((l1.trans lt).trans l2).trans l3) r4 z
    · cases hgo
  · rw [Nat.sub_self] at hgo
    unfold fTurn at hgo
    obtain ⟨l, s2, h1, hgo'⟩ := bd_some hgo
    clear hgo
    obtain ⟨rfl, e⟩ := cur_some h1
    have hgo := hgo'
    clear hgo'
    split at hgo
    · cases hgo
      exact q σ' g' ι' H' (l1.trans lt) r
    · cases hgo
/-! comprehensions -/
def lTurn (k n : Nat) (en : Bool) (own : List Nat) (ts : D → M Unit) (mc : M Bool) (me : M D) : Nat → List D → M (List D)
  | 0, acc => bd (cur k) fun l => if l.length = n then ret acc else fl
  | j + 1, acc => bd (cur k) fun l => if l.length = n then (match l[n - (j + 1)]? with
    | none => fl
    | some d => fun s => (bd (ts (itR en (n - (j + 1)) d)) fun _ => bd mc fun t => if t then bd me fun x => lTurn k n en own ts mc me j (acc ++ [x]) else lTurn k n en own ts mc me j acc) (wpS own s)) else fl
theorem lTurn_cur {k n : Nat} {ts : D → M Unit} {own : List Nat} {j : Nat} {s s' : S} {acc f : List D} (h : lTurn k n en own ts mc me j acc s = some (f, s')) : ∃ l, s.st[k]? = some (.lst l) ∧ l.length = n := by
  cases j with
  | zero =>
    obtain ⟨l, s1, h1, h2⟩ := bd_some h
    obtain ⟨rfl, e⟩ := cur_some h1
    split at h2
    · exact ⟨l, e, ‹_›⟩
    · cases h2
  | succ j =>
    unfold lTurn at h
    obtain ⟨l, s1, h1, h2⟩ := bd_some h
    obtain ⟨rfl, e⟩ := cur_some h1
    split at h2
    · exact ⟨l, e, ‹_›⟩
    · cases h2
theorem lc_coreR {J : It} {scope : Scope} {own : List Nat} {tgg : TG} {ts : D → M Unit} {k n : Nat} {ad : Addr} {l : List D} {g1 H1 : Hp} {ι1 : List Addr} {σ : L2.St} {s1 s2 : S} {Fr : Rl} {D1 : Addr} {Qd : Hp → Prop} (w : Walk J n (fun H' => ∃ xs, SqL X.K H' ad xs ∧ xs.length = n) (Yr X.K ad en)) (hk : ι1[k]? = some ad) (r1 : Rel X.K cl g1 ι1 σ s1 Fr H1) (nD : H1 D1 = none) (hl : n ≤ 100000)
    (htg : ∀ d s s', ts d s = some ((), s') → ∀ σ g ι Fr H v, Rel X.K cl g ι σ s Fr H → DR X.K cl ι g v d → ∃ σ', Rel X.K cl g ι σ' s' Fr H ∧ (∀ Q : L2.St → Hp → Prop, Q σ' H → tgg v σ H Q) ∧ (∀ vs, (∀ n ∈ own, n ∈ vs) → wipe σ' vs = wipe σ vs))
    (ht : ∀ (s : Shared) (H : Hp) (C : Addr) (cel : List (Str × Addr)) (fp : List Addr), DenTs (Bk X scope s H C cel fp) cl ifs mc) (he : ∀ (s : Shared) (H : Hp) (C : Addr) (cel : List (Str × Addr)) (fp : List Addr), Den (Bk X scope s H C cel fp) cl elt me)
    (hm : lTurn k n en own ts mc me n [] s1 = some (l, s2))
    (hd : ∀ acc g' ι' H', Lt g1 ι1 g' ι' → Rel X.K cl g' ι' (wipe σ own) (wpS own s2) ((D1, .lst acc) :: Fr) H' → DRs X.K cl ι' g' acc l → Qd H') :
    ∃ W : Nat → Nat → Hp → Prop, (∃ m, W 0 m (upd H1 D1 (.lst []))) ∧ ∀ i m H, W i m H →
      (J.stop i H ∧ Qd H) ∨ (J.go i H ∧ ∃ Nx : Hp → Prop, (∀ H', Nx H' → ∃ m', m' < m ∧ W (i + 1) m' H') ∧ ∀ x H', J.yld i H x H' → tgg x (wipe σ own) H' fun σ2 H2 => wipe σ2 own = wipe σ own ∧ BTs X scope ifs σ2 H2 fun b H3 =>
        if b = true then BE X scope elt σ2 H3 fun y H4 => ∃ acc, H4 D1 = some (.lst acc) ∧ acc.length < sizeLine ∧ Nx (upd H4 D1 (.lst (acc ++ [y]))) else Nx H3) := by
  refine lc_it w (fun i H' => ∃ (accV : List V) (accD : List D) (g' : Hp) (ι' : List Addr) (si : S), Lt g1 ι1 g' ι' ∧ Rel X.K cl g' ι' (wipe σ own) (wpS own si) ((D1, .lst accV) :: Fr) H' ∧ DRs X.K cl ι' g' accV accD ∧ lTurn k n en own ts mc me (n - i) accD si = some (l, s2) ∧ accV.length ≤ i)
    ⟨[], [], g1, ι1, s1, .refl, (r1.newFr nD).wp own, .nil, hm, Nat.le_refl _⟩ (fun i H' _ ⟨accV, accD, g', ι', si, lt, r, hA, hgo, _⟩ => ?_) (fun i v H' H2 hi ⟨accV, accD, g', ι', si, lt, r, hA, hgo, hle⟩ yy => ?_) (fun H' ⟨accV, accD, g', ι', si, lt, r, hA, hgo, hle⟩ => ?_)
  · obtain ⟨l0, e, hl0⟩ := lTurn_cur hgo
    obtain ⟨vs, sq, rr⟩ := r.cur (show (wpS own si).st[k]? = _ from e) (lt.p _ _ hk)
    exact ⟨vs, sq, by rw [rr.length, hl0]⟩
  · have hn : n - i = (n - (i + 1)) + 1 := by omega
    rw [hn] at hgo
    unfold lTurn at hgo
    obtain ⟨l0, s3, h1, hgo'⟩ := bd_some hgo
    clear hgo
    obtain ⟨rfl, e⟩ := cur_some h1
    have hgo := hgo'
    clear hgo'
    split at hgo
    · rename_i hl0
      have hi2 : n - (n - (i + 1) + 1) = i := by omega
      rw [hi2] at hgo
      cases hdd : l0[i]? with
      | none =>
        rw [hdd] at hgo
        cases hgo
      | some d =>
        rw [hdd] at hgo
        simp only at hgo
        obtain ⟨g2, l2, r2, z2⟩ := yy.rel r (show (wpS own _).st[k]? = _ from e) (lt.p _ _ hk) hdd
        obtain ⟨_, sa, k1, hgo⟩ := bd_some hgo
        obtain ⟨t, sb, k2, hgo⟩ := bd_some hgo
        obtain ⟨σ2, r3, q3, w3⟩ := htg _ _ _ k1 _ _ _ _ _ _ r2 z2
        have hw : wipe σ2 own = wipe σ own := (w3 own fun _ h => h).trans wipe_wipe
        refine q3 _ ⟨hw, fun sx Hx C cel fp => WTs.mono (ht sx Hx C cel fp sa t sb k2 σ2 g2 ι' _ H2 r3) fun u H3 ⟨eu, g4, i4, l4, r4⟩ => ?_⟩
        subst eu
        cases u with
        | false =>
          rw [if_neg Bool.false_ne_true] at hgo ⊢
          refine ⟨accV, accD, g4, i4, sb, (lt.trans l2).trans l4, ?_, hA.up (l2.trans l4), hgo, by omega⟩
          rw [← hw]
          exact r4.wp own
        | true =>
          rw [if_pos rfl] at hgo ⊢
          obtain ⟨x, sc, k3, hgo⟩ := bd_some hgo
          intro sx Hx C cel fp
          refine WE.mono (he sx Hx C cel fp sb x sc k3 σ2 g4 i4 _ H3 r4) fun y H4 ⟨g5, i5, l5, r5, z5⟩ => ?_
          have f := r5.fr (o' := .lst (accV ++ [y]))
          refine ⟨accV, f.1, Nat.lt_of_le_of_lt (show accV.length ≤ 100000 by omega) (by rw [sizeLine_eq]; decide), accV ++ [y], accD ++ [x], g5, i5, sc, ((lt.trans l2).trans l4).trans l5, ?_, (hA.up ((l2.trans l4).trans l5)).snoc z5, hgo, by rw [List.length_append]; show accV.length + 1 ≤ i + 1; omega⟩
          rw [← hw]
          exact f.2.wp own
    · cases hgo
  · rw [Nat.sub_self] at hgo
    unfold lTurn at hgo
    obtain ⟨l0, s3, h1, hgo'⟩ := bd_some hgo
    clear hgo
    obtain ⟨rfl, e⟩ := cur_some h1
    have hgo := hgo'
    clear hgo'
    split at hgo
    · cases hgo
      exact hd accV g' ι' H' lt r hA
    · cases hgo
def lcR (en : Bool) (own : List Nat) (ts : D → M Unit) (mc : M Bool) (me : M D) (mi : M (Nat × Nat)) : M (List D) := bd mi fun q => if q.2 ≤ 100000 then fun s1 => (match lTurn q.1 q.2 en own ts mc me q.2 [] s1 with
  | some (l, s2) => (match rst own s1.r (wpS own s2).r with
    | some r => some (l, ⟨r, s2.st⟩)
    | none => none)
  | none => none) else fl
theorem lc_doneR {own : List Nat} {ts : D → M Unit} {k n : Nat} {l : List D} {s1 s' : S} (h : (match lTurn k n en own ts mc me n [] s1 with | some (l, s2) => (match rst own s1.r (wpS own s2).r with | some r => some (l, (⟨r, s2.st⟩ : S)) | none => none) | none => none) = some (l, s')) :
    ∃ s2, lTurn k n en own ts mc me n [] s1 = some (l, s2) ∧ rst own s1.r (wpS own s2).r = some s'.r ∧ s'.st = s2.st := by
  split at h
  · rename_i l0 s2 e
    split at h
    · rename_i r er
      cases h
      exact ⟨s2, e, er, rfl⟩
    · cases h
  · cases h
theorem den_lcR {scope : Scope} {own : List (Str × Nat)} {o : List Nat} {tgg : TG} {ts : D → M Unit} (hc : X.calm = true) (hN : X.N.Nodup) (ok : BlkOk X.N X.env.scope scope own)
    (htg : ∀ (s : Shared) (H : Hp) (C : Addr) (cel : List (Str × Addr)) (fp : List Addr), TgD (Bk X scope s H C cel fp) cl tg (own.map (·.2)) tgg ts) (hi : DenJ X cl tg iter en mi)
    (ht : ∀ (s : Shared) (H : Hp) (C : Addr) (cel : List (Str × Addr)) (fp : List Addr), DenTs (Bk X scope s H C cel fp) cl ifs mc) (he : ∀ (s : Shared) (H : Hp) (C : Addr) (cel : List (Str × Addr)) (fp : List Addr), Den (Bk X scope s H C cel fp) cl elt me)
    (ho : own.map (·.2) = o := by rfl) (hs : ∀ x, foldedSetIterable iter X.env x = pure x := by intro _; rfl) :
    Den X cl (.ListComp elt [⟨tg, iter, ifs, 0⟩] scope pos) (bd (lcR en o ts mc me mi) fun l => ret (.lst l)) := fun s v s' h σ g ι Fr H r => by
  subst ho
  obtain ⟨l, s3, h1, e1_⟩ := bd_some h
  cases e1_
  obtain ⟨⟨k, n⟩, s1, h2, h3⟩ := bd_some h1
  split at h3
  · rename_i hl
    obtain ⟨s2, k1, k2, k3⟩ := lc_doneR h3
    refine .of (pe_lc (own := own) (g := tgg) (tt := BTs X scope ifs) (te := BE X scope elt) hc hN WI.pi ok (fun s H C cel fp => (htg s H C cel fp).1) (fun s H C cel fp => ⟨fun pins s' σ H' Q I e1_ => (e1_ s H C cel fp).run pins s' I⟩) (fun s H C cel fp => ⟨fun pins s' σ H' Q I e1_ => (e1_ s H C cel fp).run pins s' I⟩) hs)
      (hi s k n s1 h2 σ g ι Fr H r _ fun J g1 ι1 H1 ad l1 r1 hk w D1 nD => lc_coreR (own := own.map (·.2)) (scope := scope) (ifs := ifs) (elt := elt) (mc := mc) (me := me) (tgg := tgg) (ts := ts) w hk r1 nD hl (fun d s s' => (htg X.s_0 H 0 [] []).2 d s s') ht he k1 fun acc g' ι' H' lt rr z => ?_)
    have kk := (lc_back r1 lt rr k2 k3).frKeep
    exact ⟨_, ι', (l1.trans lt).trans kk.2, kk.1, .lst upd_same (z.up kk.2)⟩
  · cases h3
end
end Sd

namespace Sd
open PySem PySem.Spec PyProof.Rows L2
open Evl (Ex)
/-! dicts by tuples of ints -/
def cnv (u : List Int × Addr × Value) : List Key × Addr × Value := (u.1.map Sum.inl, u.2)
theorem inl_inj {a b : List Int} (h : a.map (Sum.inl : Int → Key) = b.map Sum.inl) : a = b := by
  induction a generalizing b with
  | nil =>
    cases b with
    | nil => rfl
    | cons y b => cases h
  | cons x a ih =>
    cases b with
    | nil => cases h
    | cons y b =>
      injection h with h1 h2
      cases h1
      rw [ih h2]
theorem ent_cnv {P : Program} {w : World} (u : List Int × Addr × Value) : entryOfKey (tupleKind (mixKind P w)) (cnv u) = entT u := by
  have e : (u.1.map (Sum.inl : Int → Key)).map (mixKind P w).hash = u.1.map hashInt := by
    rw [List.map_map]
    rfl
  show (⟨tupleKeyHash (mixKind P w) (u.1.map Sum.inl), .ref u.2.1, u.2.2⟩ : DictEntry) = ⟨hashT u.1, .ref u.2.1, u.2.2⟩
  unfold tupleKeyHash hashT
  rw [e]
theorem nd_cnv {us : List (List Int × Addr × Value)} (h : (us.map (·.1)).Nodup) : ((us.map cnv).map (·.1)).Nodup := by
  rw [List.map_map]
  have e : us.map ((·.1) ∘ cnv) = (us.map (·.1)).map (fun k : List Int => k.map (Sum.inl : Int → Key)) := by rw [List.map_map]; rfl
  rw [e]
  exact List.Pairwise.map _ (fun _ _ hn z => hn (inl_inj z)) h
section
variable {X : Cx} {pins : List (Addr × Obj)} {σ : L2.St} {H : Hp} {s : Shared} {a b : Addr} {ks : List Int} {us : List (List Int × Addr × Value)}
theorem map_kV (ks : List Int) : (ks.map (Sum.inl : Int → Key)).map kV = ks.map V.int := by
  rw [List.map_map]
  rfl
theorem keyT (I : Inv X pins σ H s) (h : SqT X.K H b (ks.map V.int)) : (tupleKind (mixKind X.prog X.w)).is s.heap (ks.map Sum.inl) b := by
  obtain ⟨its, rv, ⟨o, h1, h2, n, h3⟩, _⟩ := I.tuple h
  rw [← map_kV] at rv
  exact ⟨o, its.toArray, n, h1, h2, h3, by simpa using items_are rv⟩
theorem dictT (I : Inv X pins σ H s) (e : H a = some (dObj a us)) (kt : ∀ u ∈ us, SqT X.K H u.2.1 (u.1.map V.int)) (nd : (us.map (·.1)).Nodup) :
    (a == sysModules) = false ∧ us.length ≤ sizeLine ∧ s.heap.DictOfH (tupleKind (mixKind X.prog X.w)) a (us.map cnv) := by
  obtain ⟨⟨hm, hz, o, es, ep, h1, h2, h3, h4⟩, _, _⟩ := (show ObjOk X.prog X.w H s.heap a (dObj a us) from I.hok a _ e)
  refine ⟨hm, hz, o, es, ep, h1, h2, h3, ?_, fun x hx => ?_, nd_cnv nd⟩
  · rw [h4, List.map_map]
    exact List.map_congr_left fun u _ => (ent_cnv u).symm
  · obtain ⟨u, hu, rfl⟩ := List.mem_map.mp hx
    exact keyT I (kt u hu)
theorem okT {P : Program} {w : World} {h : Heap} {H' : Hp} (hm : (a == sysModules) = false) (hz : us.length ≤ sizeLine) (dd : h.DictOfH (tupleKind (mixKind P w)) a (us.map cnv)) : ObjOk P w H' h a (dObj a us) := by
  obtain ⟨o, es, ep, h1, h2, h3, h4, _, _⟩ := dd
  have h5 : es.toList = us.map entT := by
    rw [h4, List.map_map]
    exact List.map_congr_left fun u _ => ent_cnv u
  refine ⟨⟨hm, hz, o, es, ep, h1, h2, h3, h5⟩, ⟨o, h1⟩, fun ha hb p k => ?_⟩
  obtain ⟨p1, p2, o', es', ep', q1, q2⟩ := p
  exact ⟨p1, p2, o', es', ep', k _ q1, q2⟩
theorem at_cnv (us : List (List Int × Addr × Value)) (ks : List Int) : (atKey (us.map cnv) (ks.map Sum.inl)).isSome = us.any fun u => decide (u.1 = ks) := by
  induction us with
  | nil => rfl
  | cons u us ih =>
    unfold atKey at ih ⊢
    rw [List.map_cons, List.find?_cons, List.any_cons]
    by_cases e : u.1 = ks
    · have e2 : decide ((cnv u).1 = ks.map Sum.inl) = true := by
        rw [← e]
        exact decide_eq_true rfl
      rw [e2, decide_eq_true e]
      rfl
    · have e2 : decide ((cnv u).1 = ks.map Sum.inl) = false := decide_eq_false fun z => e (inl_inj z)
      rw [e2, decide_eq_false e, Bool.false_or]
      exact ih
def rInT (K : PySem.W.Frag) (neg : Bool) : R2 := fun x y H Q => ∃ b a ks us, x = .ref b ∧ y = .ref a ∧ SqT K H b (ks.map V.int) ∧ H a = some (dObj a us) ∧ (∀ u ∈ us, SqT K H u.2.1 (u.1.map V.int)) ∧ (us.map (·.1)).Nodup ∧
  Q (.bl (if neg then !(us.any fun u => decide (u.1 = ks)) else us.any fun u => decide (u.1 = ks))) H
theorem op_inT (hu : X.A.units + 1 < cLine) : OpR X (compareOp .In) (rInT X.K false) := by
  intro pins s σ H x y v u Q I rx ry h
  obtain ⟨b, a, ks, us, rfl, rfl, hb, ha, kt, nd, q⟩ := h
  cases rx
  cases ry
  obtain ⟨hm, hz, dd⟩ := dictT I ha kt nd
  refine wpAny_in_heap (tupleKind_room_in1 hu) (keyT I hb) hm dd ?_
  rw [at_cnv]
  exact ⟨.bl (us.any fun u => decide (u.1 = ks)), H, I.tok _, rfl, q⟩
theorem op_notInT (hu : X.A.units + 1 < cLine) : OpR X (compareOp .NotIn) (rInT X.K true) := by
  intro pins s σ H x y v u Q I rx ry h
  obtain ⟨b, a, ks, us, rfl, rfl, hb, ha, kt, nd, q⟩ := h
  cases rx
  cases ry
  obtain ⟨hm, hz, dd⟩ := dictT I ha kt nd
  refine wpAny_notIn_heap (tupleKind_room_in1 hu) (keyT I hb) hm dd ?_
  rw [at_cnv]
  exact ⟨.bl (!us.any fun u => decide (u.1 = ks)), H, I.tok _, rfl, q⟩
/-- behind d[k] = v -/
def putU (us : List (List Int × Addr × Value)) (ks : List Int) (b : Addr) (u : Value) : List (List Int × Addr × Value) := if (us.any fun q => decide (q.1 = ks)) = true then us.map (fun q => if q.1 = ks then (q.1, q.2.1, u) else q) else us ++ [(ks, b, u)]
theorem put_cnv (us : List (List Int × Addr × Value)) (ks : List Int) (b : Addr) (u : Value) : storedH (us.map cnv) (ks.map Sum.inl) b u = (putU us ks b u).map cnv := by
  unfold storedH putU
  rw [at_cnv]
  by_cases e : (us.any fun q => decide (q.1 = ks)) = true
  · rw [if_pos e, if_pos e, List.map_map, List.map_map]
    refine List.map_congr_left fun q _ => ?_
    show putAt (ks.map Sum.inl) u (cnv q) = cnv (if q.1 = ks then (q.1, q.2.1, u) else q)
    unfold putAt
    by_cases e2 : q.1 = ks
    · rw [if_pos e2, if_pos (show (cnv q).1 = ks.map Sum.inl by rw [← e2]; rfl)]
      rfl
    · rw [if_neg e2, if_neg (show ¬ (cnv q).1 = ks.map Sum.inl from fun z => e2 (inl_inj z))]
  · rw [if_neg e, if_neg e, List.map_append]
    rfl
def rSetT (K : PySem.W.Frag) : TSet := fun o i v H Q => ∃ a b ks us, o = .ref a ∧ i = .ref b ∧ H a = some (dObj a us) ∧ SqT K H b (ks.map V.int) ∧ (∀ u ∈ us, SqT K H u.2.1 (u.1.map V.int)) ∧ (us.map (·.1)).Nodup ∧ us.length < 1000 ∧ ∀ u, RelV v u → Q (upd H a (dObj a (putU us ks b u)))
theorem putU_len (us : List (List Int × Addr × Value)) (ks : List Int) (b : Addr) (u : Value) : (putU us ks b u).length ≤ us.length + 1 := by
  unfold putU
  split
  · rw [List.length_map]
    omega
  · rw [List.length_append]
    exact Nat.le_refl _
theorem set_dT (hu : X.A.units + 1 < cLine) : PSet X (rSetT X.K) := by
  intro pins s σ H o i v ov iv u Q I ro ri rv h
  obtain ⟨a, b, ks, us, rfl, rfl, ha, hb, kt, nd, hl, q⟩ := h
  cases (show ov = Value.ref a from ro)
  cases (show iv = Value.ref b from ri)
  obtain ⟨hm, hz, dd⟩ := dictT I ha kt nd
  refine wpAny_setItem_heap (hsz := by rw [List.length_map]; exact hz) (tupleKind_room_in1 hu) (keyT I hb) dd fun h' dd' hs => ⟨_, ?_, q u rv⟩
  rw [put_cnv] at dd'
  have he : ∃ z, h'.get? a = some z := let ⟨z, _, _, hq, _⟩ := dd'; ⟨z, hq⟩
  refine d_write I (by rw [ha]; exact True.intro) hs he (okT hm ?_ dd')
  have := putU_len us ks b u
  rw [sizeLine_eq]
  omega
/-- {k: v} -/
def tDispT (K : PySem.W.Frag) (tk tv : TE) : TE := fun σ H Q => ∀ p, H p = none → tPairs [(tk, tv)] σ (upd H p (dObj p [])) fun ps H2 => H2 p = some (dObj p []) ∧ ∃ b ks y, ps = [(.ref b, y)] ∧ SqT K H2 b (ks.map V.int) ∧ ∀ u, RelV y u → Q (.ref p) (upd H2 p (dObj p [(ks, b, u)]))
theorem pe_dispT {k v : Expr} {pos : Pos} {tk tv : TE} (hu : X.A.units < cLine) (hk : PE X k tk) (hv : PE X v tv) : PE X (.Dict [some k] [v] pos) (tDispT X.K tk tv) := by
  refine ⟨fun pins s σ H Q I q => ?_⟩
  have hn := I.hok.fresh (Nat.le_refl s.heap.objs.size)
  have hmod : (s.heap.objs.size == sysModules) = false := beq_eq_false_iff_ne.mpr (Ne.symm (Nat.ne_of_lt I.big))
  have d0 : (s.heap.push { cls := .type "dict", data := .dict #[] }).DictOfH (tupleKind (mixKind X.prog X.w)) s.heap.objs.size (([] : List (List Int × Addr × Value)).map cnv) := Heap.DictOfH.new s.heap
  have I1 := I.laid (a := s.heap.objs.size) (o := dObj s.heap.objs.size []) (h' := s.heap.push { cls := .type "dict", data := .dict #[] }) (t' := s.toks) (fun _ _ q => Heap.get?_push_of_some _ q) (Nat.le_refl _) (okT hmod (Nat.zero_le _) d0)
  refine wpAny_Dict_any (by rfl) (by rfl) (by simp) (by simp) (thn ((pps_cons hk hv pps_nil).run pins _ σ _ _ I1 (q _ hn)) fun ws s2 ⟨ps, H2, I2, rel, e⟩ => ?_)
  obtain ⟨e0, b, ks, y, eb, hb, hq⟩ := e
  subst eb
  cases rel with
  | @cons p1 q1 ps1 qs1 h t =>
    cases t
    obtain ⟨kv, u⟩ := q1
    obtain ⟨h1, h2⟩ := h
    cases (show kv = Value.ref b from h1)
    obtain ⟨hm, hz, dd⟩ := dictT I2 e0 (fun u hu => absurd hu (by simp)) (by simp)
    refine wpAny_storeAllH (knd := tupleKind (mixKind X.prog X.w)) hu [(.ref b, u)] [(ks.map Sum.inl, b, u)] [] _ _ ⟨rfl, rfl, keyT I2 hb, trivial⟩ dd (by rw [sizeLine_eq]; exact (by decide : 1 ≤ 16777216)) fun h' tk' dd' hs => ?_
    have dd2 : h'.DictOfH (tupleKind (mixKind X.prog X.w)) s.heap.objs.size ([(ks, b, u)].map cnv) := dd'
    have he : ∃ z, h'.get? s.heap.objs.size = some z := let ⟨z, _, _, hq, _⟩ := dd2; ⟨z, hq⟩
    exact ⟨.ref s.heap.objs.size, _, d_write I2 (by rw [e0]; exact True.intro) hs he (okT hm (by rw [sizeLine_eq]; exact (by decide : 1 ≤ 16777216)) dd2), rfl, hq u h2⟩
end
/-! as denotations -/
def putT (l : List (List Int × D)) (ks : List Int) (d : D) : List (List Int × D) := if (l.any fun q => decide (q.1 = ks)) = true then l.map (fun q => if q.1 = ks then (q.1, d) else q) else l ++ [(ks, d)]
theorem any_fst {α β : Type} {ks : List Int} : ∀ {us : List (List Int × α)} {l : List (List Int × β)}, us.map (·.1) = l.map (·.1) → (us.any fun q => decide (q.1 = ks)) = l.any fun q => decide (q.1 = ks)
  | [], [], _ => rfl
  | [], _ :: _, h => by cases h
  | _ :: _, [], h => by cases h
  | u :: us, q :: l, h => by
    rw [List.map_cons, List.map_cons] at h
    injection h with h1 h2
    rw [List.any_cons, List.any_cons, h1, any_fst h2]
section
variable {K : PySem.W.Frag} {cl : Nat → Addr} {ι : List Addr} {g : Hp}
theorem put_rel {ks : List Int} {v : V} {u : Value} {d : D} (rv : RelV v u) (z : DR K cl ι g v d) : ∀ {us : List (List Int × Addr × Value)} {vs : List V} {l : List (List Int × D)}, us.map (·.1) = l.map (·.1) → Vals vs (us.map (·.2.2)) → DRs K cl ι g vs (l.map (·.2)) →
    ∃ vs2, (us.map fun q => if q.1 = ks then (q.1, q.2.1, u) else q).map (·.1) = (l.map fun q => if q.1 = ks then (q.1, d) else q).map (·.1) ∧ Vals vs2 ((us.map fun q => if q.1 = ks then (q.1, q.2.1, u) else q).map (·.2.2)) ∧ DRs K cl ι g vs2 ((l.map fun q => if q.1 = ks then (q.1, d) else q).map (·.2))
  | [], vs, [], _, hv, hd => ⟨[], rfl, .nil, .nil⟩
  | [], _, _ :: _, h, _, _ => by cases h
  | _ :: _, _, [], h, _, _ => by cases h
  | q :: us, vs, p :: l, h, hv, hd => by
    rw [List.map_cons, List.map_cons] at h
    injection h with h1 h2
    cases hd with
    | @cons v0 vs0 _ _ hd1 hd2 =>
      cases hv with
      | cons hv1 hv2 =>
        obtain ⟨vs2, e1, e2, e3⟩ := put_rel rv z h2 hv2 hd2
        by_cases e : q.1 = ks
        · refine ⟨v :: vs2, ?_, ?_, ?_⟩
          · rw [List.map_cons, List.map_cons, List.map_cons, List.map_cons, e1, if_pos e, if_pos (h1 ▸ e)]
            show q.1 :: _ = p.1 :: _
            rw [h1]
          · rw [List.map_cons, List.map_cons, if_pos e]
            exact .cons rv e2
          · rw [List.map_cons, List.map_cons, if_pos (h1 ▸ e)]
            exact .cons z e3
        · refine ⟨v0 :: vs2, ?_, ?_, ?_⟩
          · rw [List.map_cons, List.map_cons, List.map_cons, List.map_cons, e1, if_neg e, if_neg (h1 ▸ e), h1]
          · rw [List.map_cons, List.map_cons, if_neg e]
            exact .cons hv1 e2
          · rw [List.map_cons, List.map_cons, if_neg (h1 ▸ e)]
            exact .cons hd1 e3
theorem DRs.appendT {vs ws : List V} {ds es : List D} (h : DRs K cl ι g vs ds) (k : DRs K cl ι g ws es) : DRs K cl ι g (vs ++ ws) (ds ++ es) := h.append k
theorem or_putT {a b : Addr} {ks : List Int} {v : V} {u : Value} {d : D} {us : List (List Int × Addr × Value)} {vs : List V} {l : List (List Int × D)} (rv : RelV v u) (z : DR K cl ι g v d) (kb : DR K cl ι g (.ref b) (.tup (ks.map D.int)))
    (hk : us.map (·.1) = l.map (·.1)) (hv : Vals vs (us.map (·.2.2))) (h : DRs K cl ι g vs (l.map (·.2))) (kt : ∀ u ∈ us, DR K cl ι g (.ref u.2.1) (.tup (u.1.map D.int))) (nd : (us.map (·.1)).Nodup) : OR K cl ι g a (dObj a (putU us ks b u)) (.t (putT l ks d)) := by
  by_cases e : (us.any fun q => decide (q.1 = ks)) = true
  · obtain ⟨vs2, e1, e2, e3⟩ := put_rel (ks := ks) rv z hk hv h
    have p1 : putU us ks b u = us.map fun q => if q.1 = ks then (q.1, q.2.1, u) else q := if_pos e
    have p2 : putT l ks d = l.map fun q => if q.1 = ks then (q.1, d) else q := if_pos (by rw [← any_fst hk]; exact e)
    rw [p1, p2]
    refine .t e1 e2 e3 (fun w hw => ?_) ?_
    · obtain ⟨q, hq, rfl⟩ := List.mem_map.mp hw
      split
      · exact kt q hq
      · exact kt q hq
    · have e4 : (us.map fun q => if q.1 = ks then (q.1, q.2.1, u) else q).map (·.1) = us.map (·.1) := by
        rw [List.map_map]
        refine List.map_congr_left fun q _ => ?_
        show (if q.1 = ks then (q.1, q.2.1, u) else q).1 = q.1
        split <;> rfl
      rw [e4]
      exact nd
  · have p1 : putU us ks b u = us ++ [(ks, b, u)] := if_neg e
    have p2 : putT l ks d = l ++ [(ks, d)] := if_neg (by rw [← any_fst hk]; exact e)
    rw [p1, p2]
    refine .t (vs := vs ++ [v]) ?_ ?_ ?_ (fun w hw => ?_) ?_
    · rw [List.map_append, List.map_append, hk]
      rfl
    · rw [List.map_append]
      exact hv.append (.cons rv .nil)
    · rw [List.map_append]
      exact h.append (.cons z .nil)
    · rcases List.mem_append.mp hw with hw | hw
      · exact kt w hw
      · have : w = (ks, b, u) := by simpa using hw
        rw [this]
        exact kb
    · rw [List.map_append, List.nodup_append]
      refine ⟨nd, by simp, fun x hx y hy exy => e ?_⟩
      obtain ⟨q, hq, rfl⟩ := List.mem_map.mp hx
      have : y = ks := by simpa using hy
      rw [List.any_eq_true]
      exact ⟨q, hq, decide_eq_true (exy.trans this)⟩
def keyI (d : D) : Option (List Int) := match d with
  | .tup l => isIs l
  | _ => none
theorem keyI_some {d : D} {ks : List Int} (h : keyI d = some ks) : d = .tup (ks.map D.int) := by
  unfold keyI at h
  split at h
  · rw [isIs_some h]
  · cases h
theorem key_sq {v : V} {ks : List Int} (z : DR K cl ι g v (.tup (ks.map D.int))) : ∃ b, v = .ref b ∧ SqT K g b (ks.map V.int) := by
  cases z with
  | @tup b xs _ h n r =>
    have := r.ints
    subst this
    exact ⟨b, rfl, h⟩
def dicT (n : Nat) : M (List (List Int × D)) := fun s => match s.r[n]? with
  | some (.dic (.t l)) => some (l, s)
  | _ => none
theorem dicT_some {n : Nat} {s s' : S} {l : List (List Int × D)} (h : dicT n s = some (l, s')) : s' = s ∧ ∀ {H : Hp} {σ : L2.St} {Fr : Rl} {ι : List Addr} {g : Hp}, Rel K cl g ι σ s Fr H →
    ∃ a us vs, σ[n]? = some (some (.ref a)) ∧ H a = some (dObj a us) ∧ us.map (·.1) = l.map (·.1) ∧ Vals vs (us.map (·.2.2)) ∧ DRs K cl ι g vs (l.map (·.2)) ∧ (∀ u ∈ us, DR K cl ι g (.ref u.2.1) (.tup (u.1.map D.int))) ∧ (us.map (·.1)).Nodup ∧
      ∀ us2 l2, OR K cl ι g a (dObj a us2) (.t l2) → Rel K cl g ι σ { s with r := s.r.set n (.dic (.t l2)) } Fr (upd H a (dObj a us2)) := by
  unfold dicT at h
  split at h
  · rename_i l0 e
    cases h
    refine ⟨rfl, fun r => ?_⟩
    obtain ⟨Rm, Rs, sh, mr, tr⟩ := r
    obtain ⟨a, ho, R', h1, h2, h3, h4⟩ := mr.dicAt e
    cases h2 with
    | @t us vs _ hk hv hd kt nd =>
      have sh2 := sh.perm (h3.append_right _)
      refine ⟨a, us, vs, h1, sh2.head, hk, hv, hd, kt, nd, fun us2 l2 z => ?_⟩
      obtain ⟨R2, p, m⟩ := h4 (.t l2) (dObj a us2) _ _ .refl z
      exact ⟨R2, Rs, (sh2.put (o' := dObj a us2)).perm (p.append_right _).symm, m, tr⟩
  · cases h
end
section
variable {X : Cx} {cl : Nat → Addr} {a b c e k v : Expr} {pos p p' pa : Pos} {m m1 m2 : M D}
/-- x = {k: v} -/
def newTM (n : Nat) (mk mv : M D) : M Fl := bd mk fun kd => bd mv fun d => bd (lf (keyI kd)) fun ks => fun s => if n < s.r.length then some (.nx, { s with r := s.r.set n (.dic (.t [(ks, d)])) }) else none
theorem den_setT0 {n : Nat} {x : Str} {p2 : Pos} (hu : X.A.units < cLine) (hN : X.N.Nodup) (hi : X.N[n]? = some x) (hx : Loc X.env.scope x) (hk : Den X cl k m1) (hv : Den X cl v m2) (hf : X.fn x = true ∨ X.env.scope.names.lookup x = some .local) (hs : swapsWith (.Dict [some k] [v] p2) (some (.Name x p)) pos.line X.env = pure false := by rfl) :
    Den1 X cl (.Assign [.Name x p] (.Dict [some k] [v] p2) pos) (newTM n m1 m2) := fun s f s' h σ g ι Fr H r E q => by
  obtain ⟨kd, s1, h1, e1_⟩ := bd_some h
  obtain ⟨d, s2, h2, e2_⟩ := bd_some e1_
  obtain ⟨ks, s3, h3, e3_⟩ := bd_some e2_
  obtain ⟨h3', e3⟩ := lf_some h3
  subst e3
  have ek := keyI_some h3'
  subst ek
  split at e3_
  · rename_i hn
    cases e3_
    refine ⟨_, ps_set hN hi hx (pe_dispT hu WE.pe WE.pe) hs hf, fun ad np => ?_⟩
    refine WE.mono (hk s _ s1 h1 σ g ι _ _ (r.newFr (o := dObj ad []) np)) fun u H1 ⟨g1, i1, l1, r1, z1⟩ => ?_
    refine WE.mono (hv s1 d _ h2 σ g1 i1 _ _ r1) fun w H2 ⟨g2, i2, l2, r2, z2⟩ => ?_
    obtain ⟨b, rfl, sq⟩ := key_sq (z1.up l2)
    refine ⟨(r2.fr (o' := dObj ad [])).1, b, ks, w, rfl, Evl.ex_t r2.ex sq, fun uw rw' => ?_⟩
    have r3 := (r2.fr (o' := dObj ad [(ks, b, uw)])).2
    exact q _ g2 i2 _ (l1.trans l2) (r3.setO (.t (vs := [w]) (l := [(ks, d)]) rfl (.cons rw' .nil) (.cons z2 .nil) (fun y hy => by
      have : y = (ks, b, uw) := by simpa using hy
      rw [this]
      exact z1.up l2) (by simp)) hn)
  · cases e3_
/-- e in x, e not in x -/
theorem dent_inT {n : Nat} {x : Str} (hu : X.A.units + 1 < cLine) (he : Den X cl e m) (hN : X.N[n]? = some x) (hv : Vis X.env.scope x) (hd : (x == ("__debug__" : Str)) = false := by decide) (hcd : (x == ("__classdict__" : Str)) = false := by decide) (hm : behindInMarks .In (.Name x p') = false := by rfl) :
    DenT X cl (.Compare e [.In] [.Name x p'] pos) (bd m fun d => bd (lf (keyI d)) fun ks => bd (dicT n) fun l => ret (l.any fun q => decide (q.1 = ks))) := fun s v s' h σ g ι Fr H r => by
  obtain ⟨d, s1, h1, e1_⟩ := bd_some h
  obtain ⟨ks, s2, h2, e2_⟩ := bd_some e1_
  obtain ⟨l, s3, h3, e3_⟩ := bd_some e2_
  cases e3_
  obtain ⟨h2', e2⟩ := lf_some h2
  subst e2
  have ek := keyI_some h2'
  subst ek
  obtain ⟨rfl, hq⟩ := dicT_some (K := X.K) (cl := cl) h3
  refine .of (pt_cmpR (op_inT hu) WE.pe (pe_var hN hv hd hcd) hm) (WE.mono (he s _ _ h1 σ g ι Fr H r) fun u H1 ⟨g1, i1, l1, r1, z1⟩ => ?_)
  obtain ⟨ad, us, vs, hs, hH, hk, _, _, kt, nd, _⟩ := hq r1
  obtain ⟨bb, rfl, sq⟩ := key_sq z1
  refine ⟨_, hs, bb, ad, ks, us, rfl, rfl, Evl.ex_t r1.ex sq, hH, fun u hu => ?_, nd, _, rfl, any_fst hk, g1, i1, l1, r1⟩
  obtain ⟨b2, e2, sq2⟩ := key_sq (kt u hu)
  cases e2
  exact Evl.ex_t r1.ex sq2
theorem dent_notInT {n : Nat} {x : Str} (hu : X.A.units + 1 < cLine) (he : Den X cl e m) (hN : X.N[n]? = some x) (hv : Vis X.env.scope x) (hd : (x == ("__debug__" : Str)) = false := by decide) (hcd : (x == ("__classdict__" : Str)) = false := by decide) (hm : behindInMarks .NotIn (.Name x p') = false := by rfl) :
    DenT X cl (.Compare e [.NotIn] [.Name x p'] pos) (bd m fun d => bd (lf (keyI d)) fun ks => bd (dicT n) fun l => ret (!l.any fun q => decide (q.1 = ks))) := fun s v s' h σ g ι Fr H r => by
  obtain ⟨d, s1, h1, e1_⟩ := bd_some h
  obtain ⟨ks, s2, h2, e2_⟩ := bd_some e1_
  obtain ⟨l, s3, h3, e3_⟩ := bd_some e2_
  cases e3_
  obtain ⟨h2', e2⟩ := lf_some h2
  subst e2
  have ek := keyI_some h2'
  subst ek
  obtain ⟨rfl, hq⟩ := dicT_some (K := X.K) (cl := cl) h3
  refine .of (pt_cmpR (op_notInT hu) WE.pe (pe_var hN hv hd hcd) hm) (WE.mono (he s _ _ h1 σ g ι Fr H r) fun u H1 ⟨g1, i1, l1, r1, z1⟩ => ?_)
  obtain ⟨ad, us, vs, hs, hH, hk, _, _, kt, nd, _⟩ := hq r1
  obtain ⟨bb, rfl, sq⟩ := key_sq z1
  refine ⟨_, hs, bb, ad, ks, us, rfl, rfl, Evl.ex_t r1.ex sq, hH, fun u hu => ?_, nd, _, rfl, (by rw [any_fst hk]; rfl), g1, i1, l1, r1⟩
  obtain ⟨b2, e2, sq2⟩ := key_sq (kt u hu)
  cases e2
  exact Evl.ex_t r1.ex sq2
/-- x[k] = v -/
def setTM (n : Nat) (mv mk : M D) : M Fl := bd mv fun d => bd (dicT n) fun _ => bd mk fun kd => bd (lf (keyI kd)) fun ks => bd (dicT n) fun l => fun s => if l.length < 1000 then some (.nx, { s with r := s.r.set n (.dic (.t (putT l ks d))) }) else none
theorem den_setTI {n : Nat} {x : Str} {px : Pos} (hu : X.A.units + 1 < cLine) (hN : X.N[n]? = some x) (hv : Vis X.env.scope x) (he : Den X cl e m1) (hb : Den X cl b m2) (hd : (x == ("__debug__" : Str)) = false := by decide) (hcd : (x == ("__classdict__" : Str)) = false := by decide)
    (ha : ∀ v, assign (.Subscript (.Name x px) b pa) X.env v = (do
      let ov ← holding [v] (eval (.Name x px) X.env)
      let iv ← holding [v, ov] (eval b X.env)
      standAt pa
      holding [v, ov, iv] (setItem ov iv v)
      release [v, ov, iv] []) := by intro _; rfl)
    (hs : swapsWithSole [.Subscript (.Name x px) b pa] e pos.line X.env = pure false := by rfl) (hw : swappedStores [.Subscript (.Name x px) b pa] e X.env = pure none := by rfl) (h1 : (assignEach [.Subscript (.Name x px) b pa] X.env).map (·.2) = [assign (.Subscript (.Name x px) b pa) X.env] := by rfl) :
    Den1 X cl (.Assign [.Subscript (.Name x px) b pa] e pos) (setTM n m1 m2) := fun s f s' h σ g ι Fr H r E q => by
  obtain ⟨d, s1, k1, e1_⟩ := bd_some h
  obtain ⟨l0, s2, k2, e2_⟩ := bd_some e1_
  obtain ⟨kd, s3, k3, e3_⟩ := bd_some e2_
  obtain ⟨ks, s4, k4, e4_⟩ := bd_some e3_
  obtain ⟨l, s5, k5, e5_⟩ := bd_some e4_
  obtain ⟨k4', e4⟩ := lf_some k4
  subst e4
  have ek := keyI_some k4'
  subst ek
  obtain ⟨rfl, q0⟩ := dicT_some (K := X.K) (cl := cl) k2
  obtain ⟨rfl, q1⟩ := dicT_some (K := X.K) (cl := cl) k5
  split at e5_
  · rename_i hl
    cases e5_
    refine ⟨_, ps_asg WE.pe (pg_sub (pe_var hN hv hd hcd) WE.pe (set_dT hu) ha) hs hw h1, WE.mono (he s d _ k1 σ g ι Fr H r) fun u H1 ⟨g1, i1, lt1, r1, z1⟩ => ?_⟩
    obtain ⟨ad, us0, vs0, hσ, _⟩ := q0 r1
    refine ⟨_, hσ, WE.mono (hb _ _ _ k3 σ g1 i1 Fr H1 r1) fun w H2 ⟨g2, i2, lt2, r2, z2⟩ => ?_⟩
    obtain ⟨ad2, us, vs, hσ2, hH2, hk, hvs, hds, kt, nd, kk⟩ := q1 r2
    rw [hσ] at hσ2
    cases hσ2
    obtain ⟨bb, rfl, sq⟩ := key_sq z2
    have hlen : us.length = l.length := by
      have := congrArg List.length hk
      simpa using this
    refine ⟨ad, bb, ks, us, rfl, rfl, hH2, Evl.ex_t r2.ex sq, fun y hy => ?_, nd, by omega, fun uv ruv => ?_⟩
    · obtain ⟨b2, e2, sq2⟩ := key_sq (kt y hy)
      cases e2
      exact Evl.ex_t r2.ex sq2
    · exact q σ g2 i2 _ (lt1.trans lt2) (kk _ _ (or_putT ruv (z1.up lt2) z2 hk hvs hds kt nd))
  · cases e5_
end
end Sd

namespace Sd
open PySem PySem.Spec PyProof.Rows L2
open Evl (Ex)
theorem kw_three {K : PySem.W.Frag} {Dd ta : Addr} {a b c : Str} (q0 : PySem.W.nsIn K Dd a = some (some (.ref ta))) (q1 : PySem.W.nsIn K Dd b = some (some .none)) (q2 : PySem.W.nsIn K Dd c = some (some .none)) : ∀ p ∈ [(a, V.ref ta), (b, V.non), (c, V.non)], ∃ u, PySem.W.nsIn K Dd p.1 = some (some u) ∧ RelV p.2 u := fun p hp => by
  rcases List.mem_cons.mp hp with rfl | hp
  · exact ⟨_, q0, rfl⟩
  · rcases List.mem_cons.mp hp with rfl | hp
    · exact ⟨_, q1, rfl⟩
    · obtain rfl := List.mem_singleton.mp hp
      exact ⟨_, q2, rfl⟩
section
variable {X : Cx} {cl : Nat → Addr} {a b c e o st : Expr} {es : List Expr} {pos p p3 p' pa : Pos} {m m1 m2 m3 mo : M D} {ma : M (List D)}
/-! e in x, e not in x, x a list that changes or one of the store -/
def mutM (n : Nat) : M (List D) := fun s => match mutS n s with
  | some l => some (l, s)
  | none => none
theorem mutM_some {n : Nat} {s s' : S} {l : List D} (h : mutM n s = some (l, s')) : s' = s ∧ mutS n s = some l := by
  unfold mutM at h
  split at h
  · rename_i l0 e
    cases h
    exact ⟨rfl, e⟩
  · cases h
theorem in_any {n : Nat} {x : Str} {neg : Bool} {oc : CmpOp} {F : D → D → Option D} (hop : OpR X (compareOp oc) (rInS X.K neg)) (hF : ∀ d l r, F d (.lst l) = some r → ∃ p1 ps p2, toP d = some p1 ∧ toP (.lst l) = some p2 ∧ (p2 = .list ps ∨ p2 = .tuple ps) ∧ SeqAt.shaped p1 = true ∧ SeqAt.shaped p2 = true ∧ r = .bl (if neg then !ps.any fun z => PyData.eqv z p1 else ps.any fun z => PyData.eqv z p1))
    (he : Den X cl e m) (hN : X.N[n]? = some x) (hv : Vis X.env.scope x) (hd : (x == ("__debug__" : Str)) = false := by decide) (hcd : (x == ("__classdict__" : Str)) = false := by decide) (hm : behindInMarks oc (.Name x p') = false := by rfl) :
    Den X cl (.Compare e [oc] [.Name x p'] pos) (bd m fun d => bd (mutM n) fun l => lf (F d (.lst l))) := fun s v s' h σ g ι Fr H r => by
  obtain ⟨d, s1, h1, e1_⟩ := bd_some h
  obtain ⟨l, s2, h2, e2_⟩ := bd_some e1_
  obtain ⟨h3, rfl⟩ := lf_some e2_
  obtain ⟨rfl, hq⟩ := mutM_some h2
  refine .of (pe_cmpR hop WE.pe (pe_var hN hv hd hcd) hm) (WE.mono (he s d _ h1 σ g ι Fr H r) fun u H1 ⟨g1, i1, l1, r1, z1⟩ => ?_)
  obtain ⟨ad, xs, hs, hH, rr, _⟩ := mutS_some hq r1
  obtain ⟨p1, ps, p2, k1, k2, k3, t1, t2, rfl⟩ := hF _ _ _ h3
  exact ⟨_, hs, p1, ps, p2, dp_of r1.ex z1 k1, dp_chg r1.ex (Evl.sq_of hH) rr k2, k3, t1, t2, g1, i1, l1, r1, .bl _⟩
theorem inD_of {d y r : D} (h : inD d y = some r) : ∃ p1 ps p2, toP d = some p1 ∧ toP y = some p2 ∧ (p2 = .list ps ∨ p2 = .tuple ps) ∧ SeqAt.shaped p1 = true ∧ SeqAt.shaped p2 = true ∧ r = .bl (ps.any fun z => PyData.eqv z p1) := by
  obtain ⟨p1, k1, h⟩ := Option.bind_eq_some_iff.mp h
  obtain ⟨p2, k2, h⟩ := Option.bind_eq_some_iff.mp h
  obtain ⟨ps, k3, h⟩ := Option.bind_eq_some_iff.mp h
  cases h
  obtain ⟨k1, t1⟩ := shp_some k1
  obtain ⟨k2, t2⟩ := shp_some k2
  exact ⟨p1, ps, p2, k1, k2, itemsP_some k3, t1, t2, rfl⟩
theorem notInD_of {d y r : D} (h : notInD d y = some r) : ∃ p1 ps p2, toP d = some p1 ∧ toP y = some p2 ∧ (p2 = .list ps ∨ p2 = .tuple ps) ∧ SeqAt.shaped p1 = true ∧ SeqAt.shaped p2 = true ∧ r = .bl (!ps.any fun z => PyData.eqv z p1) := by
  obtain ⟨p1, k1, h⟩ := Option.bind_eq_some_iff.mp h
  obtain ⟨p2, k2, h⟩ := Option.bind_eq_some_iff.mp h
  obtain ⟨ps, k3, h⟩ := Option.bind_eq_some_iff.mp h
  cases h
  obtain ⟨k1, t1⟩ := shp_some k1
  obtain ⟨k2, t2⟩ := shp_some k2
  exact ⟨p1, ps, p2, k1, k2, itemsP_some k3, t1, t2, rfl⟩
theorem den_inM {n : Nat} {x : Str} (hu : X.A.units + 65 < cLine) (he : Den X cl e m) (hN : X.N[n]? = some x) (hv : Vis X.env.scope x) (hd : (x == ("__debug__" : Str)) = false := by decide) (hcd : (x == ("__classdict__" : Str)) = false := by decide) (hm : behindInMarks .In (.Name x p') = false := by rfl) :
    Den X cl (.Compare e [.In] [.Name x p'] pos) (bd m fun d => bd (mutM n) fun l => lf (inD d (.lst l))) := in_any (neg := false) (Sd.op_inS hu) (fun _ _ _ h => inD_of h) he hN hv hd hcd hm
theorem den_notInM {n : Nat} {x : Str} (hu : X.A.units + 65 < cLine) (he : Den X cl e m) (hN : X.N[n]? = some x) (hv : Vis X.env.scope x) (hd : (x == ("__debug__" : Str)) = false := by decide) (hcd : (x == ("__classdict__" : Str)) = false := by decide) (hm : behindInMarks .NotIn (.Name x p') = false := by rfl) :
    Den X cl (.Compare e [.NotIn] [.Name x p'] pos) (bd m fun d => bd (mutM n) fun l => lf (notInD d (.lst l))) := in_any (neg := true) (Sd.op_notInS hu) (fun _ _ _ h => notInD_of h) he hN hv hd hcd hm
theorem in_anyT {n : Nat} {x : Str} {neg : Bool} {oc : CmpOp} {F : D → D → Option D} (hop : OpR X (compareOp oc) (rInS X.K neg)) (hF : ∀ d l r, F d (.lst l) = some r → ∃ p1 ps p2, toP d = some p1 ∧ toP (.lst l) = some p2 ∧ (p2 = .list ps ∨ p2 = .tuple ps) ∧ SeqAt.shaped p1 = true ∧ SeqAt.shaped p2 = true ∧ r = .bl (if neg then !ps.any fun z => PyData.eqv z p1 else ps.any fun z => PyData.eqv z p1))
    (he : Den X cl e m) (hN : X.N[n]? = some x) (hv : Vis X.env.scope x) (hd : (x == ("__debug__" : Str)) = false := by decide) (hcd : (x == ("__classdict__" : Str)) = false := by decide) (hm : behindInMarks oc (.Name x p') = false := by rfl) :
    DenT X cl (.Compare e [oc] [.Name x p'] pos) (bd m fun d => bd (mutM n) fun l => lf ((F d (.lst l)).bind isB)) := fun s v s' h σ g ι Fr H r => by
  obtain ⟨d, s1, h1, e1_⟩ := bd_some h
  obtain ⟨l, s2, h2, e2_⟩ := bd_some e1_
  obtain ⟨h3, rfl⟩ := lf_some e2_
  obtain ⟨t, h4, h5⟩ := Option.bind_eq_some_iff.mp h3
  have et := isB_some h5
  subst et
  obtain ⟨rfl, hq⟩ := mutM_some h2
  refine .of (pt_cmpR hop WE.pe (pe_var hN hv hd hcd) hm) (WE.mono (he s d _ h1 σ g ι Fr H r) fun u H1 ⟨g1, i1, l1, r1, z1⟩ => ?_)
  obtain ⟨ad, xs, hs, hH, rr, _⟩ := mutS_some hq r1
  obtain ⟨p1, ps, p2, k1, k2, k3, t1, t2, er⟩ := hF _ _ _ h4
  cases er
  exact ⟨_, hs, p1, ps, p2, dp_of r1.ex z1 k1, dp_chg r1.ex (Evl.sq_of hH) rr k2, k3, t1, t2, _, rfl, rfl, g1, i1, l1, r1⟩
theorem dent_inM {n : Nat} {x : Str} (hu : X.A.units + 65 < cLine) (he : Den X cl e m) (hN : X.N[n]? = some x) (hv : Vis X.env.scope x) (hd : (x == ("__debug__" : Str)) = false := by decide) (hcd : (x == ("__classdict__" : Str)) = false := by decide) (hm : behindInMarks .In (.Name x p') = false := by rfl) :
    DenT X cl (.Compare e [.In] [.Name x p'] pos) (bd m fun d => bd (mutM n) fun l => lf ((inD d (.lst l)).bind isB)) := in_anyT (neg := false) (Sd.op_inS hu) (fun _ _ _ h => inD_of h) he hN hv hd hcd hm
theorem dent_notInM {n : Nat} {x : Str} (hu : X.A.units + 65 < cLine) (he : Den X cl e m) (hN : X.N[n]? = some x) (hv : Vis X.env.scope x) (hd : (x == ("__debug__" : Str)) = false := by decide) (hcd : (x == ("__classdict__" : Str)) = false := by decide) (hm : behindInMarks .NotIn (.Name x p') = false := by rfl) :
    DenT X cl (.Compare e [.NotIn] [.Name x p'] pos) (bd m fun d => bd (mutM n) fun l => lf ((notInD d (.lst l)).bind isB)) := in_anyT (neg := true) (Sd.op_notInS hu) (fun _ _ _ h => notInD_of h) he hN hv hd hcd hm
/-! x += e of ints -/
def augM (n : Nat) (m : M D) : M Fl := fun s => match s.r[n]? with
  | some (.dat (.int i)) => (match m s with
    | some (.int j, s1) => some (.nx, { s1 with r := s1.r.set n (.dat (.int (i + j))) })
    | _ => none)
  | _ => none
theorem den_aug {n : Nat} {x : Str} {px : Pos} (hN : X.N.Nodup) (hi : X.N[n]? = some x) (hx : Loc X.env.scope x) (he : Den X cl e m) (hf : X.fn x = true ∨ X.env.scope.names.lookup x = some .local) :
    Den1 X cl (.AugAssign (.Name x px) .Add e pos) (augM n m) := fun s f s' h σ g ι Fr H r E q => by
  unfold augM at h
  split at h
  · rename_i i e0
    split at h
    · rename_i j s1 k1
      cases h
      obtain ⟨Rm, Rs, sh, mr, tr⟩ := id r
      obtain ⟨u, hu, z⟩ := mr.get e0
      cases z
      refine ⟨_, ps_aug hN hi hx WE.pe ip_add hf, _, hu, WE.mono (he s _ _ k1 σ g ι Fr H r) fun w H1 ⟨g1, i1, l1, r1, z1⟩ => ?_⟩
      cases z1
      exact ⟨i, j, rfl, rfl, q _ g1 i1 H1 l1 (r1.set (.int (i + j)))⟩
    · cases h
  · cases h
/-! list(range(e)) -/
theorem den_lstRg1 {pr ppos : Pos} (hc : X.calm = true) (hl : Gl X "list") (ml : X.mg "list" = none) (hg : Gl X "range") (hm : X.mg "range" = none) (ha : Den X cl a m1)
    (hs : starEach [a] X.env = (false, eval a X.env) :: starEach [] X.env := by rfl)
    (na : starEach [.Call (.Name "range" pr) [a] [] ppos] X.env = (false, eval (.Call (.Name "range" pr) [a] [] ppos) X.env) :: starEach [] X.env := by rfl) :
    Den X cl (.Call (.Name "list" p) [.Call (.Name "range" pr) [a] [] ppos] [] pos) (bd m1 fun x => bd (lf (isI x)) fun j => bd (lf (rgD (.int 0) (.int j))) fun l => ret (.lst l)) := fun s v s' h σ g ι Fr H r => by
  obtain ⟨x, s1, h1, e1_⟩ := bd_some h
  obtain ⟨j, s2, h2, e2_⟩ := bd_some e1_
  obtain ⟨l, s3, h3, e3_⟩ := bd_some e2_
  obtain ⟨k2, rfl⟩ := lf_some h2
  have ej := isI_some k2
  subst ej
  obtain ⟨k3, rfl⟩ := lf_some h3
  cases e3_
  have hn : (-1000 < j ∧ j < 1000) ∧ l = rangeL 0 (j - 0).toNat := by
    unfold rgD at k3
    simp only at k3
    split at k3
    · rename_i hn
      cases k3
      exact ⟨hn.2, rfl⟩
    · cases k3
  obtain ⟨hn, rfl⟩ := hn
  refine .of (pe_listRg hc hl ml (prg_1 hg hm WE.pe hs) na) (WE.mono (ha s _ _ h1 σ g ι Fr H r) fun u H1 ⟨g1, i1, l1, r1, z1⟩ => ?_)
  cases z1
  exact ⟨j, rfl, ⟨by omega, by omega, by omega, by omega, by omega⟩, fun q nq => (post_lst r1 nq (rg_drs 0 j)).lt l1⟩
/-! t[::-1] of a tuple -/
theorem sliceApplied_rev {prog : Program} {w : World} {A : Around} {E : Value → Shared → Prop} {s : Shared} {sl : Addr} {vs : Value} {n : Nat} {Q : Int × Int × Nat → Shared → Prop} (hs : s.heap.IsSliceOf sl .none .none vs) (ps : IsPart vs (some (-1)))
    (h : Q ((n : Int) - 1, -1, n) s) : wpAny (model prog w) A (Builtin.Slice.sliceApplied (.ref sl) (pure (n : Int))) Q E s := by
  obtain ⟨os, hos, hcs, hds⟩ := id hs
  unfold Builtin.Slice.sliceApplied Builtin.Slice.sliceFields
  refine wpAny_bind (wpAny_bind (wpAny_field hos hds (x := .none) rfl (wpAny_bind (wpAny_field hos hds (x := .none) rfl (wpAny_bind (wpAny_field hos hds (x := vs) rfl (wpAny_pure ?_)))))))
  refine wpAny_bind (HT.slicePart_ ps ?_)
  show wpAny _ _ (if ((-1 : Int) == 0) = true then _ else _) _ _ s
  rw [if_neg (by decide)]
  refine wpAny_bind (HT.slicePart_ .none (wpAny_bind (HT.slicePart_ .none (wpAny_bind (wpAny_pure ?_)))))
  have e1 : Builtin.Slice.sliceAdjust none none (-1) (n : Int) = ((n : Int) - 1, -1) := by
    unfold Builtin.Slice.sliceAdjust
    simp
  have e2 : Builtin.Slice.slicePlaces ((n : Int) - 1) (-1) (-1) = n := by
    unfold Builtin.Slice.slicePlaces
    simp
    omega
  show wpAny _ _ (match Builtin.Slice.sliceAdjust none none (-1) (n : Int) with | (lo, hi) => pure (lo, (-1 : Int), Builtin.Slice.slicePlaces lo hi (-1))) _ _ s
  rw [e1]
  show wpAny _ _ (pure ((n : Int) - 1, (-1 : Int), Builtin.Slice.slicePlaces ((n : Int) - 1) (-1) (-1))) _ _ s
  rw [e2]
  exact wpAny_pure h
theorem fm_some {α β : Type} {f : α → Option β} {g : α → β} : ∀ l : List α, (∀ x ∈ l, f x = some (g x)) → l.filterMap f = l.map g
  | [], _ => rfl
  | x :: l, h => by rw [List.filterMap_cons, h x (List.mem_cons_self ..), fm_some l fun y hy => h y (List.mem_cons_of_mem _ hy), List.map_cons]
theorem pick_rev (xs : Array Value) : ((List.range xs.size).filterMap fun (m : Nat) => xs[(((xs.size : Nat) : Int) - 1 + (m : Int) * (-1)).toNat]?).toArray = xs.toList.reverse.toArray := by
  congr 1
  apply List.ext_getElem?
  intro j
  have hf : ∀ m ∈ List.range xs.size, (fun (m : Nat) => xs[(((xs.size : Nat) : Int) - 1 + (m : Int) * (-1)).toNat]?) m = some (xs.toList.reverse.getD m default) := fun m hm => by
    have hlt : m < xs.size := List.mem_range.mp hm
    have e1 : (((xs.size : Nat) : Int) - 1 + (m : Int) * (-1)).toNat = xs.size - 1 - m := by omega
    show xs[(((xs.size : Nat) : Int) - 1 + (m : Int) * (-1)).toNat]? = _
    rw [e1, List.getD_eq_getElem?_getD, List.getElem?_reverse (by simpa using hlt), Array.length_toList, Array.getElem?_toList]
    have hlt2 : xs.size - 1 - m < xs.size := by omega
    rw [Array.getElem?_eq_getElem hlt2]
    rfl
  rw [fm_some _ hf, List.getElem?_map]
  by_cases hj : j < xs.size
  · rw [List.getElem?_range hj, Option.map_some, List.getD_eq_getElem?_getD]
    have : j < xs.toList.reverse.length := by simpa using hj
    rw [List.getElem?_eq_getElem this]
    rfl
  · rw [List.getElem?_eq_none (by simpa using hj), List.getElem?_eq_none (by simpa using hj)]
    rfl
theorem getItem_tuple_rev {prog : Program} {w : World} {A : Around} {E : Value → Shared → Prop} {s : Shared} {t sl : Addr} {items : Array Value} {vs : Value} {Q : Value → Shared → Prop} (ht : IsTup s.heap t items) (hs : s.heap.IsSliceOf sl .none .none vs) (ps : IsPart vs (some (-1)))
    (h : Q (.ref s.heap.objs.size) { s with heap := s.heap.push { cls := .type "tuple", data := .seq items.toList.reverse.toArray } })
    (hsz : items.size ≤ sizeLine) : wpAny (model prog w) A (getItem (.ref t) (.ref sl)) Q E s := by
  have htake : sizeOk (.seq items.toList.reverse.toArray) := by
    show items.toList.reverse.toArray.size ≤ sizeLine
    rw [List.size_toArray, List.length_reverse, Array.length_toList]
    exact hsz
  obtain ⟨os, hos, hcs, hds⟩ := id hs
  have hTs : s.TypeIs (.ref sl) "slice" := ⟨os, hos, hcs⟩
  unfold getItem
  try with_reducible refine wpAny_holding ?_
  first | refine wpAny_bind (wpAny_pure ?_) | skip
  refine wpAny_bind (wpAny_sequenceKey ht.typeIs (by decide) ?_)
  refine wpAny_bind (wpAny_callSpecial?_slot (name := Str.ofString "__getitem__") ht.typeIs PyProof.Rows.slot_tuple_getitem
    (wpAny_call_entry PyProof.Rows.slot_tuple_getitem ht.typeIs entry_tuple_getitem ?_ (args_tuple_getitem _ _)))
  show wpAny _ _ (Builtin.Tuple.tupleItemsOf (.ref t) >>= _) _ _ s
  refine wpAny_bind (tupleItemsOf_ ht ?_)
  refine wpAny_bind (wpAny_typeOf hTs ?_)
  rw [if_pos (by decide)]
  refine wpAny_bind (sliceApplied_rev hs ps ?_)
  have hno : ¬ ((((items.size : Nat) : Int) - 1 == 0 && (-1 : Int) == 1 && items.size == items.size) = true) := by
    intro q
    rw [Bool.and_eq_true, Bool.and_eq_true] at q
    exact absurd (eq_of_beq q.1.2) (by decide)
  show wpAny _ _ (if (((items.size : Nat) : Int) - 1 == 0 && (-1 : Int) == 1 && items.size == items.size) = true then _ else _) _ _ s
  rw [if_neg hno, pick_rev]
  first
    | exact wpAny_bind (m := Builtin.Tuple.tupleExact _) (wpAny_newObj_type (wpAny_pure ⟨_, rfl, wpAny_pure h⟩) htake)
    | exact wpAny_bind (m := Builtin.Tuple.tupleExact _) (wpAny_newObj_type (wpAny_bind (wpAny_pure (wpAny_pure ⟨_, rfl, wpAny_pure h⟩))) htake)
    | exact wpAny_bind (wpAny_bind (m := Builtin.Tuple.tupleExact _) (wpAny_newObj_type (wpAny_pure (wpAny_pure ⟨_, rfl, wpAny_pure h⟩)) htake))
    | exact wpAny_bind (wpAny_bind (m := Builtin.Tuple.tupleExact _) (wpAny_newObj_type (wpAny_pure ⟨_, rfl, wpAny_pure h⟩) htake))
def tRevT (K : PySem.W.Frag) (te : TE) (ts : TO) : TE := fun σ H Q => te σ H fun x H1 => ts σ H1 fun k H2 => k = some (-1) ∧ ∃ a xs, x = .ref a ∧ SqT K H2 a xs ∧ ∀ p o, H2 p = none → o.dict = none → Q (.ref p) (upd H2 p (.frz o (.tup xs.reverse)))
theorem pe_revT {te : TE} {ts : TO} (he : PE X e te) (hst : PO X (some st) ts) : PE X (.Subscript e (.Slice none none (some st) p3) pos) (tRevT X.K te ts) := by
  refine ⟨fun pins s σ H Q I h => ?_⟩
  refine Subscript_ (thn (he.run pins s σ H _ I h) fun v s1 ⟨x, H1, I1, r1, q1⟩ => ?_)
  refine wpAny_Slice (thn (po_none.run pins s1 σ H1 (fun o H2 => o = none ∧ H2 = H1) I1 ⟨rfl, rfl⟩) fun vl s2 ⟨l, H2, I2, pl, el, e2⟩ => ?_)
  subst el e2
  refine thn (po_none.run pins s2 σ H2 (fun o H3 => o = none ∧ H3 = H2) I2 ⟨rfl, rfl⟩) fun vu s3 ⟨u, H3, I3, pu, eu, e3⟩ => ?_
  subst eu e3
  refine thn (hst.run pins s3 σ H3 _ I3 q1) fun vs s4 ⟨o, H4, I4, ps, ek, a, xs, ex, hx, q⟩ => ?_
  subst ex ek
  cases r1
  cases pl
  cases pu
  have I5 : Inv X pins σ H4 { s4 with heap := s4.heap.push { cls := .type "slice", data := .fields #[.none, .none, vs] } } := I4.kept (t' := s4.toks) fun b ob q => Heap.get?_push_of_some _ q
  obtain ⟨its, r, ht, hz⟩ := I5.tuple hx
  have hlen := r.length
  show wpAny (model X.prog X.w) X.A (subscriptTail e (.Slice none none (some st) p3) (.ref a) (.ref s4.heap.objs.size)) (EP X pins σ Q) X.xe { s4 with heap := s4.heap.push { cls := .type "slice", data := .fields #[.none, .none, vs] } }
  refine tail_any (ops := [.ref a, .ref s4.heap.objs.size]) ht.typeIs (PyProof.Rows.slot_tuple_getitem.lookup) ?_ (by with_unfolding_all rfl)
  refine getItem_tuple_rev ht (Heap.IsSliceOf.new _ .none .none vs) ps ?_ (by rw [List.size_toArray]; omega)
  exact ⟨.ref _, _, laidF I5 (fun b u e => Heap.get?_push_of_some _ e) (Heap.get?_push_size _ rfl) r.reverse (by rw [List.length_reverse]; exact hz) s4.toks, rfl, q _ _ (I5.hok.fresh (Nat.le_refl _)) rfl⟩
def revD (x : D) (k : Option Int) : Option D := match x with
  | .tup l => if k = some (-1) then some (.tup l.reverse) else none
  | _ => none
theorem den_revT {ml : M (Option Int)} (ha : Den X cl a m1) (hl : DenO X cl (some st) ml) : Den X cl (.Subscript a (.Slice none none (some st) p3) pos) (bd m1 fun x => bd ml fun i => lf (revD x i)) := fun s v s' h σ g ι Fr H r => by
  obtain ⟨x, s1, h1, e1_⟩ := bd_some h
  obtain ⟨i, s2, h2, e2_⟩ := bd_some e1_
  obtain ⟨h4, rfl⟩ := lf_some e2_
  refine .of (pe_revT WE.pe WO.po) (WE.mono (ha s x s1 h1 σ g ι Fr H r) fun u H1 ⟨g1, i1, l1, r1, z1⟩ => hl.wo h2 r1 fun H2 g2 i2 l2 r2 => ?_)
  unfold revD at h4
  split at h4
  · split at h4
    · rename_i ek
      cases h4
      have z2 := z1.up l2
      cases z2 with
      | @tup ad xs ds sq nd t => exact ⟨ek, ad, xs, rfl, Evl.ex_t r2.ex sq, fun p o np no => (post_tup r2 np no t.reverse).lt (l1.trans l2)⟩
    · cases h4
  · cases h4
end
end Sd

namespace Sd
open PySem PySem.Spec PyProof.Rows L2
open Evl (Ex)
open PySem.W (dataLt minD min_list_data AlikeAll alike dataLt_ints dataLt_tuple rowLt)
section
variable {X : Cx} {cl : Nat → Addr} {a b c e o st : Expr} {es : List Expr} {pos p p3 p' pa : Pos} {m m1 m2 m3 mo : M D} {ma : M (List D)}
/-! while x, x a list that changes -/
theorem dent_truM {n : Nat} {x : Str} (hN : X.N[n]? = some x) (hv : Vis X.env.scope x) (hd : (x == ("__debug__" : Str)) = false := by decide) (hcd : (x == ("__classdict__" : Str)) = false := by decide)
    (he : ∀ whole, isTrue (.Name x p) X.env whole = (do let v ← whole; standAt (Expr.Name x p).pos; holding [v] (truthy v)) := by intro _; rfl) :
    DenT X cl (.Name x p) (bd (mutM n) fun l => ret (!l.isEmpty)) := fun s v s' h σ g ι Fr H r => by
  obtain ⟨l, s1, h1, e1_⟩ := bd_some h
  cases e1_
  obtain ⟨rfl, hq⟩ := mutM_some h1
  obtain ⟨ad, xs, hs, hH, rr, _⟩ := mutS_some hq r
  refine .of (pt_truth (pe_var hN hv hd hcd) he) ⟨_, hs, !l.isEmpty, .inl ⟨xs, Evl.sq_of hH, ?_⟩, rfl, g, ι, .refl, r⟩
  rw [empty_of rr]
/-! list(x), x a dict by tuples -/
theorem vals_bs (bs : List Addr) : Vals (bs.map V.ref) (bs.map Value.ref) := vals_refs bs
theorem call_listT (hc : X.calm = true) : CallR X (.type "list") (fun xs H Q => ∃ d us, xs = [V.ref d] ∧ H d = some (dObj d us) ∧ ∀ p, H p = none → Q (.ref p) (upd H p (.lst (us.map fun u => V.ref u.2.1)))) := by
  intro pins s σ H xs us0 Q I r h
  obtain ⟨d, us, rfl, hd, q⟩ := h
  obtain ⟨u, rfl, rx⟩ := r.one
  cases rx
  obtain ⟨⟨hs, hz, o, es, ep, ho, hx, hdt, he⟩, _, _⟩ := (show ObjOk X.prog X.w H s.heap d (dObj d us) from I.hok d _ hd)
  have l1 : es.size = us.length := by rw [← Array.length_toList, he, List.length_map]
  refine PySem.W.kdl_call (kdl_raw hs hx hdt) (I.ok.hd hc) ho (by omega) fun h' tk acc' c' kp e it => ?_
  have ea : acc'.toList = us.map fun x => Value.ref x.2.1 := by
    have hl : acc'.toList.length = us.length := by rw [Array.length_toList, it.1]; exact l1
    apply List.ext_getElem?
    intro j
    rw [List.getElem?_map]
    cases hj : acc'.toList[j]? with
    | none =>
      have h1 := List.getElem?_eq_none_iff.mp hj
      rw [List.getElem?_eq_none (by omega)]
      rfl
    | some v =>
      obtain ⟨en, hen, hv⟩ := it.2 j v (by rw [← Array.getElem?_toList]; exact hj)
      have qe : es.toList[j]? = some en := by rw [Array.getElem?_toList]; exact hen
      rw [he, List.getElem?_map] at qe
      obtain ⟨b, hb, eb⟩ := Option.map_eq_some_iff.mp qe
      rw [hb, hv, ← eb]
      rfl
  have eb : acc'.toList = (us.map fun x => x.2.1).map Value.ref := by rw [ea, List.map_map]; rfl
  have rv : Vals (us.map fun u => V.ref u.2.1) acc'.toList := by
    have := vals_refs (us.map fun x => x.2.1)
    rw [eb]
    rw [List.map_map] at this
    exact this
  have hz2 : (us.map fun u => V.ref u.2.1).length ≤ sizeLine := by rw [List.length_map]; exact hz
  refine ⟨.ref s.heap.objs.size, _, I.laid (t' := tk) (o := .lst (us.map fun u => V.ref u.2.1)) kp (Nat.le_refl _) ?_, rfl, q _ (I.hok.fresh (Nat.le_refl _))⟩
  exact ⟨hz2, acc'.toList, c', rv, by rw [Array.toArray_toList]; exact e⟩
def kT (l : List (List Int × D)) : List D := l.map fun q => .tup (q.1.map D.int)
theorem keys_drs {K : PySem.W.Frag} {ι : List Addr} {g : Hp} : ∀ {us : List (List Int × Addr × Value)} {l : List (List Int × D)}, us.map (·.1) = l.map (·.1) → (∀ u ∈ us, DR K cl ι g (.ref u.2.1) (.tup (u.1.map D.int))) → DRs K cl ι g (us.map fun u => V.ref u.2.1) (kT l)
  | [], [], _, _ => .nil
  | [], _ :: _, h, _ => by cases h
  | _ :: _, [], h, _ => by cases h
  | u :: us, q :: l, h, kt => by
    rw [List.map_cons, List.map_cons] at h
    injection h with h1 h2
    refine .cons ?_ (keys_drs h2 fun x hx => kt x (List.mem_cons_of_mem _ hx))
    show DR K cl ι g (.ref u.2.1) (.tup (q.1.map D.int))
    rw [← h1]
    exact kt u (List.mem_cons_self ..)
theorem den_listT {n : Nat} {x : Str} {px : Pos} (hc : X.calm = true) (hl : Gl X "list") (ml : X.mg "list" = none) (hN : X.N[n]? = some x) (hv : Vis X.env.scope x) (hd : (x == ("__debug__" : Str)) = false := by decide) (hcd : (x == ("__classdict__" : Str)) = false := by decide)
    (hs : starEach [.Name x px] X.env = (false, eval (.Name x px) X.env) :: starEach [] X.env := by rfl) (hpl : (backTo pos (starEach [] X.env)).any (·.1) = false := by rfl) :
    Den X cl (.Call (.Name "list" p) [.Name x px] [] pos) (bd (dicT n) fun l => ret (.lst (kT l))) := fun s v s' h σ g ι Fr H r => by
  obtain ⟨l, s1, h1, e1_⟩ := bd_some h
  cases e1_
  obtain ⟨rfl, hq⟩ := dicT_some (K := X.K) (cl := cl) h1
  obtain ⟨ad, us, vs, hs2, hH, hk, _, _, kt, nd, _⟩ := hq r
  refine .of (pe_callTy (call_listT hc) hl ml b_list (pa_cons (pe_var hN hv hd hcd) pa_nil hs) (by decide) (by decide) hs hpl) ⟨_, hs2, ad, us, rfl, hH, fun q np => ?_⟩
  exact (post_lst r np (keys_drs hk kt))
/-! min of a list of tuples of one int -/
def t1I : List D → Option (List Int)
  | [] => some []
  | .tup [.int i] :: r => (t1I r).bind fun l => some (i :: l)
  | _ => none
theorem t1I_some : ∀ {l : List D} {ns : List Int}, t1I l = some ns → l = ns.map fun i => D.tup [.int i]
  | [], ns, h => by
    cases h
    rfl
  | d :: r, ns, h => by
    unfold t1I at h
    split at h
    · rename_i e
      cases e
    · rename_i i r' e
      cases e
      obtain ⟨l, h1, h2⟩ := Option.bind_eq_some_iff.mp h
      cases h2
      rw [t1I_some h1]
      rfl
    · cases h
def minT : List D → Option D
  | [.lst l] => (t1I l).bind fun ns => (lea ns).bind fun m => some (.tup [.int m])
  | _ => none
theorem lt1 (a b : Int) : dataLt (.tuple [.int a]) (.tuple [.int b]) = decide (a < b) := by
  have := dataLt_ints [a] [b]
  have e : rowLt ([a].map PyData.int) ([b].map PyData.int) = dataLt (.tuple [.int a]) (.tuple [.int b]) := (dataLt_tuple _ _).symm
  rw [← e, this]
  by_cases h : a < b
  · rw [decide_eq_true h]
    exact decide_eq_true (List.Lex.rel h)
  · rw [decide_eq_false h]
    refine decide_eq_false fun z => h ?_
    cases z with
    | rel h => exact h
    | cons h => cases h
theorem min1 : ∀ (ns : List Int) (n m : Int), lea (n :: ns) = some m → minD (.tuple [.int n]) (ns.map fun i => PyData.tuple [.int i]) = .tuple [.int m] := by
  have key : ∀ (ns : List Int) (n : Int), ∃ m, minD (.tuple [.int n]) (ns.map fun i => PyData.tuple [.int i]) = .tuple [.int m] ∧ m ∈ n :: ns ∧ ∀ y ∈ n :: ns, m ≤ y := fun ns => by
    induction ns with
    | nil => exact fun n => ⟨n, rfl, by simp, fun y hy => by simp at hy; omega⟩
    | cons k r ih =>
      intro n
      obtain ⟨m, h1, h2, h3⟩ := ih (if k < n then k else n)
      refine ⟨m, ?_, ?_, fun y hy => ?_⟩
      · have : minD (.tuple [.int n]) ((k :: r).map fun i => PyData.tuple [.int i]) = minD (if dataLt (.tuple [.int k]) (.tuple [.int n]) then .tuple [.int k] else .tuple [.int n]) (r.map fun i => PyData.tuple [.int i]) := rfl
        rw [this, lt1, ← h1]
        congr 1
        by_cases h : k < n <;> simp [h]
      · rcases List.mem_cons.mp h2 with h | h
        · rw [h]
          split <;> simp
        · simp [h]
      · have hm := h3 (if k < n then k else n) (List.mem_cons_self ..)
        rcases List.mem_cons.mp hy with rfl | hy
        · split at hm <;> omega
        · rcases List.mem_cons.mp hy with rfl | hy
          · split at hm <;> omega
          · exact h3 y (List.mem_cons_of_mem _ hy)
  intro ns n m h
  obtain ⟨m', h1, h2, h3⟩ := key ns n
  obtain ⟨g1, g2⟩ := lea_spec h
  have a1 := h3 m g1
  have a2 := g2 m' h2
  have : m = m' := by omega
  rw [h1, this]
theorem dep1 : ∀ ns : List Int, PyData.depthAll (ns.map fun i => PyData.tuple [.int i]) ≤ 2
  | [] => by rw [List.map_nil, PyData.depthAll]; omega
  | n :: ns => by
    have := dep1 ns
    rw [List.map_cons, PyData.depthAll, PyData.depth, PyData.depthAll, PyData.depthAll, PyData.depth]
    omega
theorem t1P : ∀ ns : List Int, toPs (ns.map fun i => D.tup [.int i]) = some (ns.map fun i => PyData.tuple [.int i])
  | [] => by rw [List.map_nil, toPs]; rfl
  | n :: ns => by
    have := t1P ns
    rw [List.map_cons, toPs, this, toP, toPs, toP, toPs]
    rfl
theorem ca_minT (hc : X.calm = true) (hu : X.A.units + 10 < cLine) : CaD X cl (.builtin "min") minT := by
  refine ⟨fun xs H Q => ∃ (p : Addr) (vs : List V) (n : Int) (ns : List Int) (m : Int), xs = [.ref p] ∧ SqL X.K H p vs ∧ DpAll X.K H vs ((n :: ns).map fun i => PyData.tuple [.int i]) ∧ lea (n :: ns) = some m ∧ ∀ (i : Nat) (v : V), vs[i]? = some v → (n :: ns)[i]? = some m → Q v H, ?_, ?_⟩
  · intro pins s σ H xs us Q I r h
    obtain ⟨p, vs, n, ns, m, rfl, hl, hdp, hle, q⟩ := h
    obtain ⟨u, rfl, rx⟩ := r.one
    cases rx
    obtain ⟨its, rv, pl, hz⟩ := I.list hl
    obtain ⟨as, hr⟩ := Dp.readsAll I _ _ _ hdp rv
    refine min_list_data (x := .tuple [.int n]) (xs := ns.map fun i => PyData.tuple [.int i]) (I.ok.hd hc) pl.isList (by simpa using hr) ?_ ?_ fun i v h' tk bs hv hrd hk => ?_
    · refine ⟨fun x hx y hy => ?_, fun x hx => ?_⟩
      · have hx' : x ∈ (n :: ns).map fun i => PyData.tuple [.int i] := hx
        have hy' : y ∈ (n :: ns).map fun i => PyData.tuple [.int i] := hy
        obtain ⟨i, _, rfl⟩ := List.mem_map.mp hx'
        obtain ⟨j, _, rfl⟩ := List.mem_map.mp hy'
        rfl
      · have hx' : x ∈ (n :: ns).map fun i => PyData.tuple [.int i] := hx
        obtain ⟨i, _, rfl⟩ := List.mem_map.mp hx'
        exact fun z => nomatch z
    · have hd := dep1 (n :: ns)
      show X.A.units + 1 + PyData.depthAll ((n :: ns).map fun i => PyData.tuple [.int i]) < cLine
      omega
    · rw [min1 ns n m hle] at hrd
      have hv' : its[i]? = some v := by simpa using hv
      obtain ⟨bs', hrd', hlt, _⟩ := PySem.W.readsAll_at hr i v hv'
      have e := (reads_det (fun b o hb _ => hk b o hb) hrd' hrd).1
      have hli : i < (n :: ns).length := by simpa using hlt
      have e2 : ((n :: ns).map fun i => PyData.tuple [.int i]).getD i .none = .tuple [.int ((n :: ns)[i])] := by
        rw [List.getD_eq_getElem?_getD, List.getElem?_map, List.getElem?_eq_getElem hli]
        rfl
      rw [e2] at e
      have e3 : m = (n :: ns)[i] := by
        injection e with e
        injection e with e _
        injection e
      have hlv : i < vs.length := by
        have h1 := rv.length
        have h2 := (List.getElem?_eq_some_iff.mp hv').1
        omega
      obtain ⟨u, hu, ru⟩ := rv.get (List.getElem?_eq_getElem hlv)
      rw [hv'] at hu
      cases hu
      exact ⟨vs[i], H, I.kept (t' := tk) hk, ru, q i vs[i] (List.getElem?_eq_getElem hlv) (by rw [List.getElem?_eq_getElem hli, e3])⟩
  · intro vs ds d e σ s g ι Fr H rl z Q q
    unfold minT at e
    split at e
    · obtain ⟨ns, h1, e⟩ := Option.bind_eq_some_iff.mp e
      obtain ⟨m, h2, e⟩ := Option.bind_eq_some_iff.mp e
      cases e
      obtain ⟨v, rfl, zv⟩ := drs1 z
      have el := t1I_some h1
      subst el
      cases zv with
      | @lst ad xs _ hg rr =>
        cases ns with
        | nil => cases h2
        | cons n ns =>
          refine ⟨ad, xs, n, ns, m, rfl, Evl.sq_of (rl.ex _ _ hg), dps_of rl.ex rr (t1P (n :: ns)), h2, fun i v hv hm => q v H ?_⟩
          obtain ⟨d, hd, hz⟩ := rr.get hv
          rw [List.getElem?_map, hm] at hd
          cases hd
          exact post_of rl hz
    · cases e
/-! tuple(range(e)) -/
def tTupRgF (te : L2.St → Hp → (Int → Int → Hp → Prop) → Prop) : TE := fun σ H Q => te σ H fun a b H1 => RgOk a b ∧ ∀ q o, H1 q = none → o.dict = none → Q (.ref q) (upd H1 q (.frz o (.tup (rgV a b))))
theorem pe_tupRgF {te : L2.St → Hp → (Int → Int → Hp → Prop) → Prop} (hc : X.calm = true) (hg : Gl X "tuple") (hm : X.mg "tuple" = none) (he : PRg X e te) (na : starEach [e] X.env = (false, eval e X.env) :: starEach [] X.env := by rfl) : PE X (.Call (.Name "tuple" p) [e] [] pos) (tTupRgF te) := by
  refine ⟨fun pins s σ H Q I h => ?_⟩
  refine Call_ (ld_blt I hg hm boot_tuple (PyProof.Rows.callWith_type1 (args_cons (thn (he pins s σ H _ I h) fun x s1 ⟨r, a, b, t, u, v, H1, ex, hr, I1, ok, q⟩ => args_nil ?_) na) na))
  subst ex
  obtain ⟨b1, b2, b3, b4, b5⟩ := ok
  refine call_tuple_range (n := (b - a).toNat) (I1.ok.hd hc) hr (small_one b1 b2 b3 b4) (rangeSize_nat a b) b5 fun h' tk acc hk hi => ?_
  have I2 : Inv X pins σ H1 { s1 with heap := h', toks := tk } := I1.kept hk
  have hz : (rgV a b).length ≤ sizeLine := by rw [rgV_length, sizeLine_eq]; omega
  refine ⟨.ref h'.objs.size, _, laidF I2 (us := acc.toList) (xs := rgV a b) (fun c o e => Heap.get?_push_of_some _ e) ?_ (vals_rg hi) hz tk, rfl, q _ _ (I2.hok.fresh (Nat.le_refl _)) rfl⟩
  rw [Array.toArray_toList]
  exact Heap.get?_push_size _ rfl
theorem den_tupRg1 {pr ppos : Pos} (hc : X.calm = true) (hl : Gl X "tuple") (ml : X.mg "tuple" = none) (hg : Gl X "range") (hm : X.mg "range" = none) (ha : Den X cl a m1)
    (hs : starEach [a] X.env = (false, eval a X.env) :: starEach [] X.env := by rfl)
    (na : starEach [.Call (.Name "range" pr) [a] [] ppos] X.env = (false, eval (.Call (.Name "range" pr) [a] [] ppos) X.env) :: starEach [] X.env := by rfl) :
    Den X cl (.Call (.Name "tuple" p) [.Call (.Name "range" pr) [a] [] ppos] [] pos) (bd m1 fun x => bd (lf (isI x)) fun j => bd (lf (rgD (.int 0) (.int j))) fun l => ret (.tup l)) := fun s v s' h σ g ι Fr H r => by
  obtain ⟨x, s1, h1, e1_⟩ := bd_some h
  obtain ⟨j, s2, h2, e2_⟩ := bd_some e1_
  obtain ⟨l, s3, h3, e3_⟩ := bd_some e2_
  obtain ⟨k2, rfl⟩ := lf_some h2
  have ej := isI_some k2
  subst ej
  obtain ⟨k3, rfl⟩ := lf_some h3
  cases e3_
  have hn : (-1000 < j ∧ j < 1000) ∧ l = rangeL 0 (j - 0).toNat := by
    unfold rgD at k3
    simp only at k3
    split at k3
    · rename_i hn
      cases k3
      exact ⟨hn.2, rfl⟩
    · cases k3
  obtain ⟨hn, rfl⟩ := hn
  refine .of (pe_tupRgF hc hl ml (prg_1 hg hm WE.pe hs) na) (WE.mono (ha s _ _ h1 σ g ι Fr H r) fun u H1 ⟨g1, i1, l1, r1, z1⟩ => ?_)
  cases z1
  exact ⟨j, rfl, ⟨by omega, by omega, by omega, by omega, by omega⟩, fun q o nq no => (post_tup r1 nq no (rg_drs 0 j)).lt l1⟩
end
end Sd

namespace Sd
open PySem PySem.Spec PyProof.Rows L2
/-! reading the denotations: steps -/
section
variable {α β : Type} {s s1 : S} {a : α}
theorem bd_of {m : M α} {f : α → M β} (h : m s = some (a, s1)) : bd m f s = f a s1 := by
  unfold bd
  rw [h]
theorem sq_of {m1 m2 : M Fl} (h : m1 s = some (.nx, s1)) : sq m1 m2 s = m2 s1 := by
  unfold sq
  rw [bd_of h]
theorem call_of {f : Mn} {ds : List D} {d : D} {st' : List SO} (h : f ds s.st = some (d, st')) : callM f ds s = some (d, ⟨s.r, st'⟩) := by
  unfold callM
  rw [h]
end
/-! whole numbers as data -/
def pI (ns : List Int) : List D := ns.map .int
theorem pI_len (ns : List Int) : (pI ns).length = ns.length := by simp [pI]
theorem pI_at (ns : List Int) (k : Nat) : (pI ns)[k]? = (ns[k]?).map .int := by simp [pI]
theorem toPs_map {α : Type} {f : α → D} {g : α → PyData} : ∀ (l : List α), (∀ x ∈ l, toP (f x) = some (g x)) → toPs (l.map f) = some (l.map g)
  | [], _ => by unfold List.map toPs; rfl
  | x :: r, h => by
    rw [List.map_cons, List.map_cons, toPs, h x (List.mem_cons_self ..), toPs_map r fun y hy => h y (List.mem_cons_of_mem _ hy)]
theorem toPs_pI (ns : List Int) : toPs (pI ns) = some (ns.map .int) := toPs_map ns fun x _ => by rw [toP]
theorem toP_tupI (ns : List Int) : toP (.tup (pI ns)) = some (.tuple (ns.map .int)) := by rw [toP, toPs_pI]
theorem toP_lstI (ns : List Int) : toP (.lst (pI ns)) = some (.list (ns.map .int)) := by rw [toP, toPs_pI]
theorem canAll_int : ∀ ns : List Int, PyData.canLayAll0 (ns.map PyData.int) = true
  | [] => by rw [List.map_nil, PyData.canLayAll0]
  | n :: r => by rw [List.map_cons, PyData.canLayAll0, PyData.canLay0, canAll_int r]; rfl
theorem depthAll_int : ∀ ns : List Int, PyData.depthAll (ns.map PyData.int) ≤ 1
  | [] => by rw [List.map_nil, PyData.depthAll]; omega
  | n :: r => by
    rw [List.map_cons, PyData.depthAll, PyData.depth]
    have := depthAll_int r
    omega
theorem shp_tupI (ns : List Int) : shp (.tup (pI ns)) = some (.tuple (ns.map .int)) := by
  unfold shp
  rw [toP_tupI, Option.bind_some, if_pos]
  unfold SeqAt.shaped
  rw [PyData.canLay0, canAll_int, PyData.depth]
  have := depthAll_int ns
  simp
  omega
theorem shp_lstI (ns : List Int) : shp (.lst (pI ns)) = some (.list (ns.map .int)) := by
  unfold shp
  rw [toP_lstI, Option.bind_some, if_pos]
  unfold SeqAt.shaped
  rw [PyData.canLay0, canAll_int, PyData.depth]
  have := depthAll_int ns
  simp
  omega
theorem shp_int (i : Int) : shp (.int i) = some (.int i) := by
  unfold shp
  rw [toP, Option.bind_some, if_pos]
  rfl
theorem shp_bl (i : Bool) : shp (.bl i) = some (.bool i) := by
  unfold shp
  rw [toP, Option.bind_some, if_pos]
  rfl
theorem eqv_int (i j : Int) : PyData.eqv (.int i) (.int j) = (i == j) := by rw [PyData.eqv]
theorem eqvAll_nil (l : List PyData) : PyData.eqvAll l [] = l.isEmpty := by cases l <;> rw [PyData.eqvAll] <;> rfl
theorem eqvAll_int : ∀ ns ms : List Int, PyData.eqvAll (ns.map .int) (ms.map .int) = decide (ns = ms)
  | [], [] => by simp [PyData.eqvAll]
  | [], m :: ms => by simp [PyData.eqvAll]
  | n :: ns, [] => by simp [PyData.eqvAll]
  | n :: ns, m :: ms => by
    rw [List.map_cons, List.map_cons, PyData.eqvAll, eqv_int, eqvAll_int ns ms]
    simp only [List.cons.injEq]
    by_cases h : n = m <;> by_cases k : ns = ms <;> simp [h, k]
theorem any_int (ns : List Int) (k : Int) : (ns.map PyData.int).any (fun z => PyData.eqv z (.int k)) = decide (k ∈ ns) := by
  rw [Bool.eq_iff_iff]
  simp only [List.any_map, List.any_eq_true, Function.comp, eqv_int, beq_iff_eq, decide_eq_true_eq]
  exact ⟨fun ⟨x, h, e⟩ => e ▸ h, fun h => ⟨k, h, rfl⟩⟩
theorem in_tupI (k : Int) (ns : List Int) : inD (.int k) (.tup (pI ns)) = some (.bl (decide (k ∈ ns))) := by
  unfold inD
  rw [shp_int, shp_tupI, Option.bind_some, Option.bind_some, itemsP, Option.bind_some, any_int]
theorem in_lstI (k : Int) (ns : List Int) : inD (.int k) (.lst (pI ns)) = some (.bl (decide (k ∈ ns))) := by
  unfold inD
  rw [shp_int, shp_lstI, Option.bind_some, Option.bind_some, itemsP, Option.bind_some, any_int]
theorem notIn_tupI (k : Int) (ns : List Int) : notInD (.int k) (.tup (pI ns)) = some (.bl (!decide (k ∈ ns))) := by
  unfold notInD
  rw [shp_int, shp_tupI, Option.bind_some, Option.bind_some, itemsP, Option.bind_some, any_int]
theorem notIn_lstI (k : Int) (ns : List Int) : notInD (.int k) (.lst (pI ns)) = some (.bl (!decide (k ∈ ns))) := by
  unfold notInD
  rw [shp_int, shp_lstI, Option.bind_some, Option.bind_some, itemsP, Option.bind_some, any_int]
theorem eq_int (i j : Int) : eqD (.int i) (.int j) = some (.bl (decide (i = j))) := by
  unfold eqD eqS eqP
  rw [shp_int, shp_int, Option.bind_some, Option.bind_some, eqv_int]
  rfl
theorem ne_int (i j : Int) : neD (.int i) (.int j) = some (.bl (!decide (i = j))) := by
  unfold neD neS neP
  rw [shp_int, shp_int, Option.bind_some, Option.bind_some, eqv_int]
  rfl
theorem eq_bl (i j : Bool) : eqD (.bl i) (.bl j) = some (.bl (i == j)) := by
  unfold eqD eqS eqP
  rw [shp_bl, shp_bl, Option.bind_some, Option.bind_some, PyData.eqv]
theorem eq_lstI (ns ms : List Int) : eqD (.lst (pI ns)) (.lst (pI ms)) = some (.bl (decide (ns = ms))) := by
  unfold eqD eqS eqP
  rw [shp_lstI, shp_lstI, Option.bind_some, Option.bind_some, PyData.eqv, eqvAll_int]
theorem ne_lstI (ns ms : List Int) : neD (.lst (pI ns)) (.lst (pI ms)) = some (.bl (!decide (ns = ms))) := by
  unfold neD neS neP
  rw [shp_lstI, shp_lstI, Option.bind_some, Option.bind_some, PyData.eqv, eqvAll_int]
theorem ne_tupI (ns ms : List Int) : neD (.tup (pI ns)) (.tup (pI ms)) = some (.bl (!decide (ns = ms))) := by
  unfold neD neS neP
  rw [shp_tupI, shp_tupI, Option.bind_some, Option.bind_some, PyData.eqv, eqvAll_int]
theorem eq_lstN {l : List D} {p : List PyData} (h : shp (.lst l) = some (.list p)) : eqD (.lst l) (.lst []) = some (.bl l.isEmpty) := by
  have e : shp (.lst []) = some (.list []) := shp_lstI []
  have hp := (shp_some h).1
  unfold eqD eqS eqP
  rw [h, e, Option.bind_some, Option.bind_some, PyData.eqv, eqvAll_nil]
  congr 2
  cases l with
  | nil =>
    rw [toP, toPs] at hp
    cases hp
    rfl
  | cons d r =>
    rw [toP, toPs] at hp
    cases e1 : toP d with
    | none => simp [e1] at hp
    | some a =>
      cases e2 : toPs r with
      | none => simp [e1, e2] at hp
      | some b =>
        simp [e1, e2] at hp
        subst hp
        rfl
theorem isIs_pI : ∀ ns : List Int, isIs (pI ns) = some ns
  | [] => rfl
  | n :: r => by
    show (match isIs (pI r) with | some l => some (n :: l) | none => none) = _
    rw [isIs_pI r]
theorem all_map {α : Type} (l : List α) (p : α → Bool) : allF [.lst (l.map fun x => .bl (p x))] = some (.bl (l.all p)) := by
  have e : l.map (fun x => D.bl (p x)) = (l.map p).map .bl := by simp
  unfold allF
  rw [e]
  show (isBs _).bind _ = _
  rw [isBs_map]
  simp
theorem len_tup (l : List D) : lenF [.tup l] = some (.int l.length) := rfl
theorem len_lst (l : List D) : lenF [.lst l] = some (.int l.length) := rfl
theorem atI_nat {α : Type} {l : List α} {k : Nat} {x : α} (h : l[k]? = some x) : atI l (k : Int) = some x := by
  have hk := (List.getElem?_eq_some_iff.mp h).1
  unfold atI ixN
  rw [if_pos (by omega), if_pos (by omega), Option.bind_some, Int.toNat_natCast, h]
/-! slices -/
theorem cut_from (l : List D) (k : Nat) : cutD l (some (k : Int)) none = l.drop k := by
  unfold cutD
  rw [HT.sIx_none, HT.sIx_nat]
  by_cases h : k ≤ l.length
  · rw [Nat.min_eq_left h, ← List.length_drop, List.take_length]
  · rw [Nat.min_eq_right (by omega), List.drop_of_length_le (Nat.le_refl _), List.drop_of_length_le (by omega)]
    simp
theorem cut_to (l : List D) (k : Nat) : cutD l none (some (k : Int)) = l.take k := by
  unfold cutD
  rw [HT.sIx_none, HT.sIx_nat, List.drop_zero, Nat.sub_zero]
  by_cases h : k ≤ l.length
  · rw [Nat.min_eq_left h]
  · rw [Nat.min_eq_right (by omega), List.take_length, List.take_of_length_le (by omega)]
theorem cut_last (l : List D) : cutD l none (some (-1)) = l.take (l.length - 1) := by
  show ((l.drop 0).take ((-1 + (l.length : Int)).toNat - 0)) = _
  rw [List.drop_zero]
  congr 1
  omega
/-! what simp may use -/
theorem x_andM (m1 m2 : M D) (s : S) : Sd.andM m1 m2 s = bd m1 (fun x => bd (lf (isB x)) fun t => if t then m2 else ret (.bl false)) s := rfl
theorem x_orM (m1 m2 : M D) (s : S) : Sd.orM m1 m2 s = bd m1 (fun x => bd (lf (isB x)) fun t => if t then ret (.bl true) else m2) s := rfl
theorem x_notM (m : M D) (s : S) : Sd.notM m s = bd m (fun x => bd (lf (isB x)) fun t => ret (.bl (!t))) s := rfl
theorem x_andT (m1 m2 : M Bool) (s : S) : andT m1 m2 s = bd m1 (fun t => if t then m2 else ret false) s := rfl
theorem x_orT (m1 m2 : M Bool) (s : S) : orT m1 m2 s = bd m1 (fun t => if t then ret true else m2) s := rfl
theorem x_sq (m1 m2 : M Fl) (s : S) : sq m1 m2 s = bd m1 (fun f => match f with | .nx => m2 | f => ret f) s := rfl
theorem x_asM (n : Nat) (m : M D) (s : S) : asM n m s = bd m (fun d => bd (st n d) fun _ => ret .nx) s := rfl
theorem x_rtM (m : M D) (s : S) : rtM m s = bd m (fun d => ret (.rt d)) s := rfl
theorem x_tgM (ts : D → M Unit) (m : M D) (s : S) : tgM ts m s = bd m (fun d => bd (ts d) fun _ => ret .nx) s := rfl
theorem x_ifM (mc : M Bool) (m1 m2 : M Fl) (s : S) : ifM mc m1 m2 s = bd mc (fun t => if t then m1 else m2) s := rfl
theorem few0 (d : D) : few [] d = some d := if_pos (by simp)
theorem few1 (a d : D) : few [a] d = some d := if_pos (by simp)
theorem few2 (a b d : D) : few [a, b] d = some d := if_pos (by simp)
theorem few3 (a b c d : D) : few [a, b, c] d = some d := if_pos (by simp)
theorem few4 (a b c e d : D) : few [a, b, c, e] d = some d := if_pos (by simp)
theorem few5 (a b c e f d : D) : few [a, b, c, e, f] d = some d := if_pos (by simp)
theorem few6 (a b c e f g d : D) : few [a, b, c, e, f, g] d = some d := if_pos (by simp)
theorem few7 (a b c e f g h d : D) : few [a, b, c, e, f, g, h] d = some d := if_pos (by simp)
theorem few8 (a b c e f g h i d : D) : few [a, b, c, e, f, g, h, i] d = some d := if_pos (by simp)
theorem few9 (a b c e f g h i j d : D) : few [a, b, c, e, f, g, h, i, j] d = some d := if_pos (by simp)
theorem x_isB (b : Bool) : isB (.bl b) = some b := rfl
theorem x_isI (b : Int) : isI (.int b) = some b := rfl
theorem x_lt (i j : Int) : ltD (.int i) (.int j) = some (.bl (decide (i < j))) := rfl
theorem x_le (i j : Int) : leD (.int i) (.int j) = some (.bl (decide (i ≤ j))) := rfl
theorem x_gt (i j : Int) : gtD (.int i) (.int j) = some (.bl (decide (j < i))) := rfl
theorem x_ge (i j : Int) : geD (.int i) (.int j) = some (.bl (decide (j ≤ i))) := rfl
theorem x_add (i j : Int) : addD (.int i) (.int j) = some (.int (i + j)) := rfl
theorem x_sub (i j : Int) : subD (.int i) (.int j) = some (.int (i - j)) := rfl
theorem x_mod {i j : Int} (h : 0 < j) : modD (.int i) (.int j) = some (.int (i % j)) := by
  show (if 0 < j then _ else _) = _
  rw [if_pos h]
theorem x_fdiv {i j : Int} (h : 0 < j) (k : j < 1208925819614629174706176) : fdivD (.int i) (.int j) = some (.int (i / j)) := by
  show (if 0 < j ∧ j < 1208925819614629174706176 then _ else _) = _
  rw [if_pos ⟨h, k⟩]
theorem x_mul {i j : Int} (h : i.natAbs < 2 ^ 200) (k : j.natAbs < 2 ^ 200) : mulD (.int i) (.int j) = some (.int (i * j)) := by
  show (if i.natAbs < 2 ^ 200 ∧ j.natAbs < 2 ^ 200 then _ else _) = _
  rw [if_pos ⟨h, k⟩]
theorem x_pow {i : Int} {k : Nat} (h : i.natAbs < 18446744073709551616) (hk : k ≤ 1000000) : powD (.int i) (.int (k : Nat)) = some (.int (i ^ k)) := by
  show (if 0 ≤ (k : Int) ∧ (k : Int) ≤ 1000000 ∧ i.natAbs < 18446744073709551616 then _ else _) = _
  rw [if_pos ⟨by omega, by omega, h⟩]
  rfl
theorem x_catT {a b : List D} (h : (a ++ b).length ≤ 100000) : addD (.tup a) (.tup b) = some (.tup (a ++ b)) := by
  show few _ _ = _
  unfold few
  rw [if_pos h]
theorem x_catL {a b : List D} (h : (a ++ b).length ≤ 100000) : addD (.lst a) (.lst b) = some (.lst (a ++ b)) := by
  show few _ _ = _
  unfold few
  rw [if_pos h]
theorem x_tsT {n : Nat} {u : List D → M Unit} {l : List D} (h : l.length = n) : tsT n u (.tup l) = u l := by
  show (if l.length = n then _ else _) = _
  rw [if_pos h]
theorem x_tsU {n : Nat} {u : List D → M Unit} {l : List D} (h : l.length = n) : tsT n u (.tupU l) = u l := by
  show (if l.length = n then _ else _) = _
  rw [if_pos h]
theorem x_few {l : List D} {d : D} (h : l.length ≤ 100000) : few l d = some d := by
  unfold few
  rw [if_pos h]
theorem x_tupL (l : List D) : tupleF [.lst l] = some (.tup l) := rfl
theorem x_tupT (l : List D) : tupleF [.tup l] = some (.tup l) := rfl
theorem x_lstL (l : List D) : listF [.lst l] = some (.lst l) := rfl
theorem x_lstT (l : List D) : listF [.tup l] = some (.lst l) := rfl
theorem x_intB (b : Bool) : intF [.bl b] = some (.int (if b then 1 else 0)) := rfl
theorem x_abs (i : Int) : absF [.int i] = some (.int (if i < 0 then -i else i)) := rfl
/-! comprehensions -/
section
variable {own : List Nat} {ts : D → M Unit} {mc : M Bool} {me : M D} {mi : M (List D)} {W : S} {σ : D → S} {p : D → Bool} {f : D → D}
theorem lcGoG : ∀ (ds acc : List D) (s0 : S), wpS own s0 = W → (∀ d ∈ ds, ts d W = some ((), σ d) ∧ wpS own (σ d) = W ∧ mc (σ d) = some (p d, σ d) ∧ (p d = true → me (σ d) = some (f d, σ d))) →
    ∃ s', lcGo own ts mc me ds acc s0 = some (acc ++ (ds.filter p).map f, s') ∧ wpS own s' = W
  | [], acc, s0, h, _ => ⟨s0, by unfold lcGo ret; simp, h⟩
  | d :: r, acc, s0, h, hd => by
    obtain ⟨h1, h2, h3, h4⟩ := hd d (List.mem_cons_self ..)
    unfold lcGo
    show ∃ s', (bd (ts d) _ (wpS own s0)) = _ ∧ _
    rw [h, bd_of h1, bd_of h3]
    cases e : p d with
    | true =>
      rw [if_pos rfl, bd_of (h4 e)]
      obtain ⟨s', e1, e2⟩ := lcGoG r (acc ++ [f d]) (σ d) h2 fun x hx => hd x (List.mem_cons_of_mem _ hx)
      exact ⟨s', by rw [e1, List.filter_cons_of_pos e]; simp, e2⟩
    | false =>
      rw [if_neg Bool.false_ne_true]
      obtain ⟨s', e1, e2⟩ := lcGoG r acc (σ d) h2 fun x hx => hd x (List.mem_cons_of_mem _ hx)
      exact ⟨s', by rw [e1, List.filter_cons_of_neg (by simp [e])], e2⟩
theorem lcMG {s s1 : S} {ds : List D} (hm : mi s = some (ds, s1)) (hl : ds.length ≤ 100000) (hr : rst own s1.r (wpS own s1).r = some s1.r)
    (hd : ∀ d ∈ ds, ts d (wpS own s1) = some ((), σ d) ∧ wpS own (σ d) = wpS own s1 ∧ mc (σ d) = some (p d, σ d) ∧ (p d = true → me (σ d) = some (f d, σ d))) :
    lcM own ts mc me mi s = some ((ds.filter p).map f, s1) := by
  unfold lcM
  rw [bd_of hm, if_pos hl]
  obtain ⟨s', e1, e2⟩ := lcGoG (own := own) (ts := ts) (mc := mc) (me := me) ds [] s1 rfl hd
  show (match lcGo own ts mc me ds [] s1 with | some (l, s2) => _ | none => none) = _
  rw [e1]
  show (match rst own s1.r (wpS own s').r with | some r => some (_, (⟨r, s'.st⟩ : S)) | none => none) = _
  rw [e2, hr]
  have e4 : (wpS own s').st = (wpS own s1).st := by rw [e2]
  have e3 : s'.st = s1.st := e4
  rw [e3]
  rfl
theorem lcMA {s s1 : S} {ds : List D} (hm : mi s = some (ds, s1)) (hl : ds.length ≤ 100000) (hr : rst own s1.r (wpS own s1).r = some s1.r)
    (hd : ∀ d ∈ ds, ts d (wpS own s1) = some ((), σ d) ∧ wpS own (σ d) = wpS own s1 ∧ me (σ d) = some (f d, σ d)) :
    lcM own ts (ret true) me mi s = some (ds.map f, s1) := by
  rw [lcMG (p := fun _ => true) (f := f) (σ := σ) hm hl hr fun d h => ⟨(hd d h).1, (hd d h).2.1, rfl, fun _ => (hd d h).2.2⟩, List.filter_eq_self.mpr fun _ _ => rfl]
end
/-! loops -/
theorem forGoI {ts : D → M Unit} {mb : M Fl} (I : List D → S → Prop) : ∀ (post pre : List D) (s : S), (∀ pre' d post' s, pre ++ post = pre' ++ d :: post' → I pre' s → ∃ s1 s2, ts d s = some ((), s1) ∧ mb s1 = some (.nx, s2) ∧ I (pre' ++ [d]) s2) →
    I pre s → ∃ s', forGo ts mb post s = some (.nx, s') ∧ I (pre ++ post) s'
  | [], pre, s, _, h => ⟨s, rfl, by rw [List.append_nil]; exact h⟩
  | d :: r, pre, s, hs, h => by
    obtain ⟨s1, s2, h1, h2, h3⟩ := hs pre d r s rfl h
    obtain ⟨s', e1, e2⟩ := forGoI I r (pre ++ [d]) s2 (fun a b c s e => hs a b c s (by rw [← e]; simp)) h3
    refine ⟨s', ?_, by simpa using e2⟩
    unfold forGo
    rw [bd_of h1, bd_of h2]
    exact e1
theorem forI {ts : D → M Unit} {mb : M Fl} {mi : M (List D)} {s s1 : S} {ds : List D} (I : List D → S → Prop) (hm : mi s = some (ds, s1)) (h0 : I [] s1) (hs : ∀ pre d post s, ds = pre ++ d :: post → I pre s → ∃ s1 s2, ts d s = some ((), s1) ∧ mb s1 = some (.nx, s2) ∧ I (pre ++ [d]) s2) :
    ∃ s', forM ts mi mb s = some (.nx, s') ∧ I ds s' := by
  obtain ⟨s', e1, e2⟩ := forGoI I ds [] s1 hs h0
  exact ⟨s', by unfold forM; rw [bd_of hm, e1], e2⟩
/-- a loop over what a list's items give -/
theorem forMp {α : Type} {f : α → D} {ts : D → M Unit} {mb : M Fl} (I : List α → S → Prop) : ∀ (post pre : List α) (s : S), (∀ pre' x post' s, pre ++ post = pre' ++ x :: post' → I pre' s → ∃ s1 s2, ts (f x) s = some ((), s1) ∧ mb s1 = some (.nx, s2) ∧ I (pre' ++ [x]) s2) →
    I pre s → ∃ s', forGo ts mb (post.map f) s = some (.nx, s') ∧ I (pre ++ post) s'
  | [], pre, s, _, h => ⟨s, rfl, by rw [List.append_nil]; exact h⟩
  | d :: r, pre, s, hs, h => by
    obtain ⟨s1, s2, h1, h2, h3⟩ := hs pre d r s rfl h
    obtain ⟨s', e1, e2⟩ := forMp I r (pre ++ [d]) s2 (fun a b c s e => hs a b c s (by rw [← e]; simp)) h3
    refine ⟨s', ?_, by simpa using e2⟩
    rw [List.map_cons]
    unfold forGo
    rw [bd_of h1, bd_of h2]
    exact e1
theorem forMI {α : Type} {f : α → D} {ts : D → M Unit} {mb : M Fl} {mi : M (List D)} {s s1 : S} {l : List α} (I : List α → S → Prop) (hm : mi s = some (l.map f, s1)) (h0 : I [] s1) (hs : ∀ pre x post s, l = pre ++ x :: post → I pre s → ∃ s1 s2, ts (f x) s = some ((), s1) ∧ mb s1 = some (.nx, s2) ∧ I (pre ++ [x]) s2) :
    ∃ s', Sd.forM ts mi mb s = some (.nx, s') ∧ I l s' := by
  obtain ⟨s', e1, e2⟩ := forMp I l [] s1 hs h0
  exact ⟨s', by unfold Sd.forM; rw [bd_of hm, e1], e2⟩
theorem whI {mc : M Bool} {mb : M Fl} (I : S → Prop) (μ : S → Nat) (hs : ∀ s, I s → (mc s = some (false, s)) ∨ ∃ s2, mc s = some (true, s) ∧ mb s = some (.nx, s2) ∧ I s2 ∧ μ s2 < μ s) : ∀ (n : Nat) (s : S), I s → μ s < n → ∃ s', whGo mc mb n s = some (.nx, s') ∧ I s' ∧ mc s' = some (false, s')
  | 0, s, _, h => absurd h (Nat.not_lt_zero _)
  | n + 1, s, hi, h => by
    rcases hs s hi with h1 | ⟨s2, h1, h2, h3, h4⟩
    · refine ⟨s, ?_, hi, h1⟩
      unfold whGo
      rw [bd_of h1]
      rfl
    · obtain ⟨s', e1, e2⟩ := whI I μ hs n s2 h3 (by omega)
      refine ⟨s', ?_, e2⟩
      unfold whGo
      rw [bd_of h1, if_pos rfl, bd_of h2]
      exact e1
end Sd

namespace Sd
open PySem PySem.Spec PyProof.Rows L2
/-! rows of data -/
theorem canAll_of : ∀ ps : List PyData, (∀ p ∈ ps, PyData.canLay0 p = true) → PyData.canLayAll0 ps = true
  | [], _ => by rw [PyData.canLayAll0]
  | p :: r, h => by rw [PyData.canLayAll0, h p (List.mem_cons_self ..), canAll_of r fun x hx => h x (List.mem_cons_of_mem _ hx)]; rfl
theorem depthAll_of {k : Nat} : ∀ ps : List PyData, (∀ p ∈ ps, PyData.depth p ≤ k) → PyData.depthAll ps ≤ k
  | [], _ => by rw [PyData.depthAll]; omega
  | p :: r, h => by
    rw [PyData.depthAll]
    have h1 := h p (List.mem_cons_self ..)
    have h2 := depthAll_of r fun x hx => h x (List.mem_cons_of_mem _ hx)
    omega
theorem depth_tup {k : Nat} {ps : List PyData} (h : ∀ p ∈ ps, PyData.depth p ≤ k) : PyData.depth (.tuple ps) ≤ k + 1 := by
  rw [PyData.depth]
  have := depthAll_of ps h
  omega
theorem depth_lst {k : Nat} {ps : List PyData} (h : ∀ p ∈ ps, PyData.depth p ≤ k) : PyData.depth (.list ps) ≤ k + 1 := by
  rw [PyData.depth]
  have := depthAll_of ps h
  omega
theorem depth_int (i : Int) : PyData.depth (.int i) ≤ 1 := by
  rw [PyData.depth]
  omega
theorem depth_bool (i : Bool) : PyData.depth (.bool i) ≤ 1 := by
  rw [PyData.depth]
  omega
theorem depth_none : PyData.depth .none ≤ 1 := by
  rw [PyData.depth]
  omega
/-- what == can look at: at most k deep -/
def Ok (k : Nat) (d : D) (p : PyData) : Prop := toP d = some p ∧ PyData.canLay0 p = true ∧ PyData.depth p ≤ k
theorem Ok.int (i : Int) : Ok 1 (.int i) (.int i) := ⟨by rw [toP], by rw [PyData.canLay0], depth_int i⟩
theorem Ok.bl (i : Bool) : Ok 1 (.bl i) (.bool i) := ⟨by rw [toP], by rw [PyData.canLay0], depth_bool i⟩
theorem Ok.non : Ok 1 .non .none := ⟨by rw [toP], by rw [PyData.canLay0], depth_none⟩
inductive Oks (k : Nat) : List D → List PyData → Prop
  | nil : Oks k [] []
  | cons {d : D} {p : PyData} {ds : List D} {ps : List PyData} (h : Ok k d p) (r : Oks k ds ps) : Oks k (d :: ds) (p :: ps)
theorem Ok.up {k k' : Nat} {d : D} {p : PyData} (h : Ok k d p) (l : k ≤ k') : Ok k' d p := ⟨h.1, h.2.1, Nat.le_trans h.2.2 l⟩
theorem Oks.up {k k' : Nat} (l : k ≤ k') : ∀ {ds : List D} {ps : List PyData}, Oks k ds ps → Oks k' ds ps
  | _, _, .nil => .nil
  | _, _, .cons h r => .cons (h.up l) (r.up l)
theorem Oks.all {k : Nat} : ∀ {ds : List D} {ps : List PyData}, Oks k ds ps → toPs ds = some ps ∧ (∀ p ∈ ps, PyData.canLay0 p = true) ∧ ∀ p ∈ ps, PyData.depth p ≤ k
  | _, _, .nil => ⟨by rw [toPs], fun _ h => absurd h (by simp), fun _ h => absurd h (by simp)⟩
  | _, _, .cons h r => by
    obtain ⟨a, b, c⟩ := r.all
    refine ⟨by rw [toPs, h.1, a], fun p hp => ?_, fun p hp => ?_⟩
    · rcases List.mem_cons.mp hp with rfl | hp
      · exact h.2.1
      · exact b p hp
    · rcases List.mem_cons.mp hp with rfl | hp
      · exact h.2.2
      · exact c p hp
theorem Oks.map {α : Type} {k : Nat} {f : α → D} {g : α → PyData} : ∀ (l : List α), (∀ x ∈ l, Ok k (f x) (g x)) → Oks k (l.map f) (l.map g)
  | [], _ => .nil
  | x :: r, h => .cons (h x (List.mem_cons_self ..)) (Oks.map r fun y hy => h y (List.mem_cons_of_mem _ hy))
theorem Oks.pI (ns : List Int) : Oks 1 (pI ns) (ns.map .int) := Oks.map ns fun i _ => .int i
theorem Oks.tup {k : Nat} {ds : List D} {ps : List PyData} (h : Oks k ds ps) : Ok (k + 1) (.tup ds) (.tuple ps) := by
  obtain ⟨a, b, c⟩ := h.all
  exact ⟨by rw [toP, a], by rw [PyData.canLay0, canAll_of _ b], depth_tup c⟩
theorem Oks.lst {k : Nat} {ds : List D} {ps : List PyData} (h : Oks k ds ps) : Ok (k + 1) (.lst ds) (.list ps) := by
  obtain ⟨a, b, c⟩ := h.all
  exact ⟨by rw [toP, a], by rw [PyData.canLay0, canAll_of _ b], depth_lst c⟩
theorem Ok.shp {k : Nat} {d : D} {p : PyData} (h : Ok k d p) (l : k ≤ 64) : shp d = some p := by
  unfold Sd.shp
  rw [h.1, Option.bind_some, if_pos]
  unfold SeqAt.shaped
  rw [h.2.1]
  have := h.2.2
  simp
  omega
theorem Ok.eq {k k' : Nat} {d d' : D} {p p' : PyData} (h : Ok k d p) (h' : Ok k' d' p') (l : k ≤ 64) (l' : k' ≤ 64) (hs : eqS d d' = none) : eqD d d' = some (.bl (PyData.eqv p p')) := by
  unfold eqD eqP
  rw [hs, h.shp l, h'.shp l']
  rfl
theorem Ok.ne {k k' : Nat} {d d' : D} {p p' : PyData} (h : Ok k d p) (h' : Ok k' d' p') (l : k ≤ 64) (l' : k' ≤ 64) (hs : neS d d' = none) : neD d d' = some (.bl (!PyData.eqv p p')) := by
  unfold neD neP
  rw [hs, h.shp l, h'.shp l']
  rfl
/-! what repr can show -/
theorem weightAll_of {k : Nat} : ∀ ps : List PyData, (∀ p ∈ ps, PyData.weight p ≤ k) → PyData.weightAll ps ≤ (k + 1) * ps.length
  | [], _ => by rw [PyData.weightAll]; omega
  | p :: r, h => by
    rw [PyData.weightAll, List.length_cons, Nat.mul_succ]
    have h1 := h p (List.mem_cons_self ..)
    have h2 := weightAll_of r fun x hx => h x (List.mem_cons_of_mem _ hx)
    omega
theorem roks_of : ∀ ps : List PyData, (∀ p ∈ ps, rok p = true) → roks ps = true
  | [], _ => by rw [roks]
  | p :: r, h => by rw [roks, h p (List.mem_cons_self ..), roks_of r fun x hx => h x (List.mem_cons_of_mem _ hx)]; rfl
theorem weight_int {i : Int} (h : i.natAbs < 2 ^ 40) : PyData.weight (.int i) ≤ 40 := by
  rw [PyData.weight]
  split
  · omega
  · rename_i h0
    have hn : i.natAbs ≠ 0 := by
      intro e
      apply h0
      simp at e ⊢
      exact e
    have := (Nat.log2_lt hn).mpr h
    omega
theorem rok_int {i : Int} (h : i.natAbs < 2 ^ 40) : rok (.int i) = true := by
  rw [rok, decide_eq_true_eq]
  exact Nat.lt_trans h (by decide)
/-- fit to be shown: at most k deep, at most w wide -/
def Sho (k w : Nat) (d : D) (p : PyData) : Prop := toP d = some p ∧ rok p = true ∧ PyData.depth p ≤ k ∧ PyData.weight p ≤ w
theorem Sho.int {i : Int} (h : i.natAbs < 2 ^ 40) : Sho 1 40 (.int i) (.int i) := ⟨by rw [toP], rok_int h, depth_int i, weight_int h⟩
theorem Sho.bl (i : Bool) : Sho 1 40 (.bl i) (.bool i) := ⟨by rw [toP], by rw [rok], depth_bool i, by rw [PyData.weight]; omega⟩
theorem Sho.up {k k' w w' : Nat} {d : D} {p : PyData} (h : Sho k w d p) (l : k ≤ k') (l' : w ≤ w') : Sho k' w' d p := ⟨h.1, h.2.1, Nat.le_trans h.2.2.1 l, Nat.le_trans h.2.2.2 l'⟩
inductive Shos (k w : Nat) : List D → List PyData → Prop
  | nil : Shos k w [] []
  | cons {d : D} {p : PyData} {ds : List D} {ps : List PyData} (h : Sho k w d p) (r : Shos k w ds ps) : Shos k w (d :: ds) (p :: ps)
theorem Shos.all {k w : Nat} : ∀ {ds : List D} {ps : List PyData}, Shos k w ds ps → toPs ds = some ps ∧ ps.length = ds.length ∧ (∀ p ∈ ps, rok p = true) ∧ (∀ p ∈ ps, PyData.depth p ≤ k) ∧ ∀ p ∈ ps, PyData.weight p ≤ w
  | _, _, .nil => ⟨by rw [toPs], rfl, fun _ h => absurd h (by simp), fun _ h => absurd h (by simp), fun _ h => absurd h (by simp)⟩
  | _, _, .cons h r => by
    obtain ⟨a, l, b, c, e⟩ := r.all
    refine ⟨by rw [toPs, h.1, a], by rw [List.length_cons, List.length_cons, l], fun p hp => ?_, fun p hp => ?_, fun p hp => ?_⟩
    · rcases List.mem_cons.mp hp with rfl | hp
      · exact h.2.1
      · exact b p hp
    · rcases List.mem_cons.mp hp with rfl | hp
      · exact h.2.2.1
      · exact c p hp
    · rcases List.mem_cons.mp hp with rfl | hp
      · exact h.2.2.2
      · exact e p hp
theorem Shos.map {α : Type} {k w : Nat} {f : α → D} {g : α → PyData} : ∀ (l : List α), (∀ x ∈ l, Sho k w (f x) (g x)) → Shos k w (l.map f) (l.map g)
  | [], _ => .nil
  | x :: r, h => .cons (h x (List.mem_cons_self ..)) (Shos.map r fun y hy => h y (List.mem_cons_of_mem _ hy))
theorem Shos.pI {ns : List Int} (h : ∀ i ∈ ns, i.natAbs < 2 ^ 40) : Shos 1 40 (pI ns) (ns.map .int) := Shos.map ns fun i hi => .int (h i hi)
theorem Shos.tup {k w n : Nat} {ds : List D} {ps : List PyData} (h : Shos k w ds ps) (hn : ds.length ≤ n) : Sho (k + 1) ((w + 1) * n) (.tup ds) (.tuple ps) := by
  obtain ⟨a, l, b, c, e⟩ := h.all
  refine ⟨by rw [toP, a], by rw [rok, roks_of _ b], depth_tup c, ?_⟩
  rw [PyData.weight]
  exact Nat.le_trans (weightAll_of _ e) (Nat.mul_le_mul_left _ (by omega))
theorem Shos.lst {k w n : Nat} {ds : List D} {ps : List PyData} (h : Shos k w ds ps) (hn : ds.length ≤ n) : Sho (k + 1) ((w + 1) * n) (.lst ds) (.list ps) := by
  obtain ⟨a, l, b, c, e⟩ := h.all
  refine ⟨by rw [toP, a], by rw [rok, roks_of _ b], depth_lst c, ?_⟩
  rw [PyData.weight]
  exact Nat.le_trans (weightAll_of _ e) (Nat.mul_le_mul_left _ (by omega))
theorem Sho.repr {k w : Nat} {d : D} {p : PyData} (h : Sho k w d p) (hk : k ≤ 60) (hw : w ≤ 100000) : reprF [d] = some (.str p.shown) := by
  show (toP d).bind _ = _
  rw [h.1, Option.bind_some, if_pos]
  unfold canR
  rw [h.2.1]
  have := h.2.2.1
  have := h.2.2.2
  simp
  omega
theorem ne_str (x : Str) : neD (.str x) (.str x) = some (.bl false) := by
  unfold neD neS
  simp
theorem eq_str (x : Str) : eqD (.str x) (.str x) = some (.bl true) := by
  unfold eqD eqS
  simp
/-! comprehensions whose parts change the store -/
theorem lcGoI {α : Type} {f : α → D} {own : List Nat} {ts : D → M Unit} {mc : M Bool} {me : M D} (I : List α → List D → S → Prop) : ∀ (post pre : List α) (acc : List D) (s : S),
    (∀ pre' x post' acc s, pre ++ post = pre' ++ x :: post' → I pre' acc s → ∃ s1 t s2, ts (f x) (wpS own s) = some ((), s1) ∧ mc s1 = some (t, s2) ∧ (t = false → I (pre' ++ [x]) acc s2) ∧ (t = true → ∃ d s3, me s2 = some (d, s3) ∧ I (pre' ++ [x]) (acc ++ [d]) s3)) →
    I pre acc s → ∃ acc' s', lcGo own ts mc me (post.map f) acc s = some (acc', s') ∧ I (pre ++ post) acc' s'
  | [], pre, acc, s, _, h => ⟨acc, s, rfl, by rw [List.append_nil]; exact h⟩
  | x :: r, pre, acc, s, hs, h => by
    obtain ⟨s1, t, s2, h1, h2, h3, h4⟩ := hs pre x r acc s rfl h
    have step : ∀ acc2 s3, I (pre ++ [x]) acc2 s3 → ∃ acc' s', lcGo own ts mc me (r.map f) acc2 s3 = some (acc', s') ∧ I (pre ++ x :: r) acc' s' := fun acc2 s3 h5 => by
      obtain ⟨acc', s', e1, e2⟩ := lcGoI I r (pre ++ [x]) acc2 s3 (fun a b c d s e => hs a b c d s (by rw [← e]; simp)) h5
      exact ⟨acc', s', e1, by simpa using e2⟩
    rw [List.map_cons]
    unfold lcGo
    show ∃ acc' s', (bd (ts (f x)) _ (wpS own s)) = _ ∧ _
    rw [bd_of h1, bd_of h2]
    cases t with
    | false =>
      rw [if_neg Bool.false_ne_true]
      exact step _ _ (h3 rfl)
    | true =>
      obtain ⟨d, s3, h5, h6⟩ := h4 rfl
      rw [if_pos rfl, bd_of h5]
      exact step _ _ h6
theorem lcMI {α : Type} {f : α → D} {own : List Nat} {ts : D → M Unit} {mc : M Bool} {me : M D} {mi : M (List D)} {s s1 : S} {l : List α} (I : List α → List D → S → Prop) (hm : mi s = some (l.map f, s1)) (hl : l.length ≤ 100000) (h0 : I [] [] s1)
    (hs : ∀ pre x post acc s, l = pre ++ x :: post → I pre acc s → ∃ s1 t s2, ts (f x) (wpS own s) = some ((), s1) ∧ mc s1 = some (t, s2) ∧ (t = false → I (pre ++ [x]) acc s2) ∧ (t = true → ∃ d s3, me s2 = some (d, s3) ∧ I (pre ++ [x]) (acc ++ [d]) s3))
    (he : ∀ acc s', I l acc s' → ∃ r, rst own s1.r (wpS own s').r = some r) : ∃ acc s' r, lcM own ts mc me mi s = some (acc, ⟨r, s'.st⟩) ∧ I l acc s' ∧ rst own s1.r (wpS own s').r = some r := by
  obtain ⟨acc, s', e1, e2⟩ := lcGoI (own := own) (ts := ts) (mc := mc) (me := me) I l [] [] s1 hs h0
  obtain ⟨r, hr⟩ := he acc s' e2
  refine ⟨acc, s', r, ?_, e2, hr⟩
  unfold lcM
  rw [bd_of hm, if_pos (by rw [List.length_map]; exact hl)]
  show (match lcGo own ts mc me (l.map f) [] s1 with | some (l, s2) => _ | none => none) = _
  rw [e1]
  show (match rst own s1.r (wpS own s').r with | some r => some (_, (⟨r, s'.st⟩ : S)) | none => none) = _
  rw [hr]
end Sd

namespace Sd
open PySem PySem.Spec PyProof.Rows L2
/-! comprehensions over what a list's items give -/
section
variable {α : Type} {g : α → D} {own : List Nat} {ts : D → M Unit} {mc : M Bool} {me : M D} {mi : M (List D)} {W : S} {σ : α → S} {p : α → Bool} {f : α → D}
theorem lcGoX : ∀ (ds : List α) (acc : List D) (s0 : S), wpS own s0 = W → (∀ d ∈ ds, ts (g d) W = some ((), σ d) ∧ wpS own (σ d) = W ∧ mc (σ d) = some (p d, σ d) ∧ (p d = true → me (σ d) = some (f d, σ d))) →
    ∃ s', lcGo own ts mc me (ds.map g) acc s0 = some (acc ++ (ds.filter p).map f, s') ∧ wpS own s' = W
  | [], acc, s0, h, _ => ⟨s0, by rw [List.map_nil]; unfold lcGo ret; simp, h⟩
  | d :: r, acc, s0, h, hd => by
    obtain ⟨h1, h2, h3, h4⟩ := hd d (List.mem_cons_self ..)
    rw [List.map_cons]
    unfold lcGo
    show ∃ s', (bd (ts (g d)) _ (wpS own s0)) = _ ∧ _
    rw [h, bd_of h1, bd_of h3]
    cases e : p d with
    | true =>
      rw [if_pos rfl, bd_of (h4 e)]
      obtain ⟨s', e1, e2⟩ := lcGoX r (acc ++ [f d]) (σ d) h2 fun x hx => hd x (List.mem_cons_of_mem _ hx)
      exact ⟨s', by rw [e1, List.filter_cons_of_pos e]; simp, e2⟩
    | false =>
      rw [if_neg Bool.false_ne_true]
      obtain ⟨s', e1, e2⟩ := lcGoX r acc (σ d) h2 fun x hx => hd x (List.mem_cons_of_mem _ hx)
      exact ⟨s', by rw [e1, List.filter_cons_of_neg (by simp [e])], e2⟩
theorem lcMX {s s1 : S} {l : List α} (hm : mi s = some (l.map g, s1)) (hl : l.length ≤ 100000) (hr : rst own s1.r (wpS own s1).r = some s1.r)
    (hd : ∀ d ∈ l, ts (g d) (wpS own s1) = some ((), σ d) ∧ wpS own (σ d) = wpS own s1 ∧ mc (σ d) = some (p d, σ d) ∧ (p d = true → me (σ d) = some (f d, σ d))) :
    lcM own ts mc me mi s = some ((l.filter p).map f, s1) := by
  unfold lcM
  rw [bd_of hm, if_pos (by rw [List.length_map]; exact hl)]
  obtain ⟨s', e1, e2⟩ := lcGoX (own := own) (ts := ts) (mc := mc) (me := me) l [] s1 rfl hd
  show (match lcGo own ts mc me (l.map g) [] s1 with | some (l, s2) => _ | none => none) = _
  rw [e1]
  show (match rst own s1.r (wpS own s').r with | some r => some (_, (⟨r, s'.st⟩ : S)) | none => none) = _
  rw [e2, hr]
  have e4 : (wpS own s').st = (wpS own s1).st := by rw [e2]
  have e3 : s'.st = s1.st := e4
  rw [e3]
  rfl
theorem lcMXA {s s1 : S} {l : List α} (hm : mi s = some (l.map g, s1)) (hl : l.length ≤ 100000) (hr : rst own s1.r (wpS own s1).r = some s1.r)
    (hd : ∀ d ∈ l, ts (g d) (wpS own s1) = some ((), σ d) ∧ wpS own (σ d) = wpS own s1 ∧ me (σ d) = some (f d, σ d)) :
    lcM own ts (ret true) me mi s = some (l.map f, s1) := by
  rw [lcMX (p := fun _ => true) (f := f) (σ := σ) (g := g) hm hl hr fun d h => ⟨(hd d h).1, (hd d h).2.1, rfl, fun _ => (hd d h).2.2⟩, List.filter_eq_self.mpr fun _ _ => rfl]
theorem sum_map (l : List α) (h : α → Int) : sumF [.lst (l.map fun x => .int (h x))] = some (.int (l.map h).sum) := by
  have e : l.map (fun x => D.int (h x)) = pI (l.map h) := by simp [pI]
  rw [e]
  show (isIs _).bind _ = _
  rw [isIs_pI]
  rfl
theorem sum_pI (l : List Int) : sumF [.lst (pI l)] = some (.int l.sum) := by
  show (isIs _).bind _ = _
  rw [isIs_pI]
  rfl
end
theorem x_max2 (i j : Int) : maxF [.int i, .int j] = some (.int (if j > i then j else i)) := rfl
theorem at20 (x y : D) : L2.atI [x, y] 0 = some x := rfl
theorem at21 (x y : D) : L2.atI [x, y] 1 = some y := rfl
theorem num_pI (b : List Int) : numD (pI b) = b.zipIdx.map fun q => D.tupU [.int (q.2 : Nat), .int q.1] := by
  unfold numD pI
  rw [List.zipIdx_map, List.map_map]
  rfl
theorem sum_bd {c : Int} : ∀ {l : List Int}, (∀ x ∈ l, 0 ≤ x ∧ x ≤ c) → 0 ≤ l.sum ∧ l.sum ≤ c * l.length
  | [], _ => by simp
  | a :: l, h => by
    have h1 := h a (List.mem_cons_self ..)
    have h2 := sum_bd (l := l) fun x hx => h x (List.mem_cons_of_mem _ hx)
    rw [List.sum_cons, List.length_cons, Int.natCast_add, Int.mul_add]
    omega
theorem pI_take (l : List Int) (k : Nat) : (pI l).take k = pI (l.take k) := by simp [pI]
theorem pI_drop (l : List Int) (k : Nat) : (pI l).drop k = pI (l.drop k) := by simp [pI]
theorem pI_cons (a : Int) (l : List Int) : pI (a :: l) = .int a :: pI l := rfl
theorem pI_nil : pI [] = [] := rfl
theorem pI_app' (a c : List Int) : pI a ++ pI c = pI (a ++ c) := by simp [pI]
end Sd

namespace Sd
open PySem PySem.Spec PyProof.Rows L2
theorem any_map {α : Type} (l : List α) (p : α → Bool) : anyF [.lst (l.map fun x => .bl (p x))] = some (.bl (l.any p)) := by
  have e : l.map (fun x => D.bl (p x)) = (l.map p).map .bl := by simp
  unfold anyF
  rw [e]
  show (isBs _).bind _ = _
  rw [isBs_map]
  simp
theorem sum_tup (l : List Int) : sumF [.tup (pI l)] = some (.int l.sum) := by
  show (isIs _).bind _ = _
  rw [isIs_pI]
  rfl
theorem srt_tup (l : List Int) : srtF [.tup (pI l)] = some (.lst (pI (srtI l))) := by
  show (isIs _).bind _ = _
  rw [isIs_pI]
  rfl
theorem min_tup {l : List Int} {m : Int} (h : lea l = some m) : minG [.tup (pI l)] = some (.int m) := by
  show (isIs _).bind _ = _
  rw [isIs_pI, Option.bind_some, h]
  rfl
theorem x_minG2 (i j : Int) : minG [.int i, .int j] = some (.int (if j < i then j else i)) := rfl
theorem lea_some : ∀ {l : List Int}, l ≠ [] → ∃ m, lea l = some m
  | [], h => absurd rfl h
  | [a], _ => ⟨a, rfl⟩
  | a :: b :: r, _ => by
    obtain ⟨m, e⟩ := lea_some (l := b :: r) (by simp)
    exact ⟨_, by unfold lea; rw [e]⟩
theorem gr_some' : ∀ {l : List Int}, l ≠ [] → ∃ m, gr l = some m
  | [], h => absurd rfl h
  | [a], _ => ⟨a, rfl⟩
  | a :: b :: r, _ => by
    obtain ⟨m, e⟩ := gr_some' (l := b :: r) (by simp)
    exact ⟨_, by unfold gr; rw [e]⟩
theorem gr_sub {l : List Int} {m : Int} (c : Int) (h : lea l = some m) : gr (l.map fun x => c - x) = some (c - m) := by
  obtain ⟨h1, h2⟩ := lea_spec h
  obtain ⟨M, e⟩ := gr_some' (l := l.map fun x => c - x) (by
    intro z
    rw [List.map_eq_nil_iff] at z
    rw [z] at h1
    exact absurd h1 (by simp))
  obtain ⟨g1, g2⟩ := gr_spec e
  obtain ⟨x, hx, rfl⟩ := List.mem_map.mp g1
  have := g2 _ (List.mem_map.mpr ⟨m, h1, rfl⟩)
  have := h2 x hx
  rw [e]
  congr 1
  omega
theorem max_map {α : Type} {l : List α} {f : α → Int} {m : Int} (e : gr (l.map f) = some m) : maxF [.lst (l.map fun x => .int (f x))] = some (.int m) := by
  have e2 : l.map (fun x => D.int (f x)) = pI (l.map f) := by simp [pI]
  rw [e2]
  show (isIs _).bind _ = _
  rw [isIs_pI, Option.bind_some, e]
  rfl
theorem ixN_nat {n k : Nat} (h : k < n) : L2.ixN n (k : Int) = some k := by
  unfold L2.ixN
  rw [if_pos (by omega), if_pos (by omega), Int.toNat_natCast]
theorem sl_from {l : List Int} {k : Nat} : slD (.tup (pI l)) (some (k : Int)) none = some (.tup (pI (l.drop k))) := by
  show some (D.tup (cutD (pI l) (some (k : Int)) none)) = _
  rw [cut_from, pI_drop]
theorem sl_to {l : List Int} {k : Nat} : slD (.tup (pI l)) none (some (k : Int)) = some (.tup (pI (l.take k))) := by
  show some (D.tup (cutD (pI l) none (some (k : Int)))) = _
  rw [cut_to, pI_take]
theorem at_pI {l : List Int} {k : Nat} {x : Int} (h : l[k]? = some x) : L2.atI (pI l) (k : Int) = some (.int x) := atI_nat (by rw [pI_at, h]; rfl)
theorem cat_pI {a b : List Int} (h : a.length + b.length ≤ 1000) : addD (.tup (pI a)) (.tup (pI b)) = some (.tup (pI (a ++ b))) := by
  rw [x_catT, pI_app']
  rw [pI_app', pI_len, List.length_append]
  omega
theorem eq_tupI (ns ms : List Int) : eqD (.tup (pI ns)) (.tup (pI ms)) = some (.bl (decide (ns = ms))) := by
  unfold eqD eqS eqP
  rw [shp_tupI, shp_tupI, Option.bind_some, Option.bind_some, PyData.eqv, eqvAll_int]
theorem zip_snd {α : Type} (l : List α) : l.zipIdx.map (fun q => q.2) = List.range l.length := by
  apply List.ext_getElem?
  intro i
  rw [List.getElem?_map, List.getElem?_zipIdx]
  by_cases h : i < l.length
  · rw [List.getElem?_eq_getElem h, List.getElem?_range h]
    simp
  · rw [List.getElem?_eq_none (by omega), List.getElem?_eq_none (by simp; omega)]
    rfl
theorem zip_at {α : Type} {l : List α} {q : α × Nat} (h : q ∈ l.zipIdx) : l[q.2]? = some q.1 ∧ q.2 < l.length := by
  have h3 : l[q.2]? = some q.1 := List.mem_zipIdx_iff_getElem?.mp h
  exact ⟨h3, (List.getElem?_eq_some_iff.mp h3).1⟩
theorem x_lsT (l : List D) : lsD [.tup l] = some l := rfl
theorem x_lsL (l : List D) : lsD [.lst l] = some l := rfl
theorem x_parM (i j : Nat) (m : M (List D)) (s : S) : parM i j m s = bd m (fun xs => match xs with
  | [v, w] => bd (st i v) fun _ => bd (st j w) fun _ => ret .nx
  | _ => fl) s := rfl
theorem x_asL (n : Nat) (m : M (List D)) (s : S) : asL n m s = bd m (fun l => bd (stL n l) fun _ => ret .nx) s := rfl
end Sd

namespace Sd
open PySem PySem.Spec PyProof.Rows L2
/-! comprehensions with two generators -/
section
variable {α β : Type} {g : α → D} {h : α → β → D} {own own1 : List Nat} {ts ts1 : D → M Unit} {mc mc1 : M Bool} {mi mi1 : M (List D)} {me : M D} {W : S} {σ : α → S} {τ : α → β → S} {p : α → Bool} {p1 : α → β → Bool} {L : α → List β} {f : α → β → D}
theorem lc2GoX (hsub : ∀ s, wpS own (wpS own1 s) = wpS own s) : ∀ (ds : List α) (acc : List D) (s0 : S), wpS own s0 = W → acc.length + 1000 * ds.length ≤ 100000 →
    (∀ d ∈ ds, ts (g d) W = some ((), σ d) ∧ wpS own (σ d) = W ∧ mc (σ d) = some (p d, σ d) ∧ (p d = true → mi1 (σ d) = some ((L d).map (h d), σ d) ∧ (L d).length ≤ 1000 ∧ ∀ x ∈ L d, ts1 (h d x) (wpS own1 (σ d)) = some ((), τ d x) ∧ wpS own1 (τ d x) = wpS own1 (σ d) ∧ mc1 (τ d x) = some (p1 d x, τ d x) ∧ (p1 d x = true → me (τ d x) = some (f d x, τ d x)))) →
    ∃ s', lc2Go own own1 ts mc mi1 ts1 mc1 me (ds.map g) acc s0 = some (acc ++ (ds.filter p).flatMap (fun d => ((L d).filter (p1 d)).map (f d)), s') ∧ wpS own s' = W
  | [], acc, s0, hw, _, _ => ⟨s0, by rw [List.map_nil]; unfold lc2Go ret; simp, hw⟩
  | d :: r, acc, s0, hw, hl, hd => by
    obtain ⟨h1, h2, h3, h4⟩ := hd d (List.mem_cons_self ..)
    rw [List.length_cons] at hl
    rw [List.map_cons]
    unfold lc2Go
    show ∃ s', (bd (ts (g d)) _ (wpS own s0)) = _ ∧ _
    rw [hw, bd_of h1, bd_of h3]
    cases e : p d with
    | true =>
      obtain ⟨k1, k2, k3⟩ := h4 e
      rw [if_pos rfl, bd_of k1, if_pos ⟨by rw [List.length_map]; omega, by omega⟩]
      obtain ⟨s2, e1, e2⟩ := lcGoX (own := own1) (ts := ts1) (mc := mc1) (me := me) (g := h d) (p := p1 d) (f := f d) (σ := τ d) (L d) acc (σ d) rfl k3
      rw [bd_of e1]
      have hw2 : wpS own s2 = W := by rw [← hsub s2, e2, hsub, h2]
      have hlen : (acc ++ ((L d).filter (p1 d)).map (f d)).length + 1000 * r.length ≤ 100000 := by
        rw [List.length_append, List.length_map]
        have := List.length_filter_le (p1 d) (L d)
        omega
      obtain ⟨s', e3, e4⟩ := lc2GoX hsub r (acc ++ ((L d).filter (p1 d)).map (f d)) s2 hw2 hlen fun x hx => hd x (List.mem_cons_of_mem _ hx)
      exact ⟨s', by rw [e3, List.filter_cons_of_pos e, List.flatMap_cons, List.append_assoc], e4⟩
    | false =>
      rw [if_neg Bool.false_ne_true]
      obtain ⟨s', e3, e4⟩ := lc2GoX hsub r acc (σ d) h2 (by omega) fun x hx => hd x (List.mem_cons_of_mem _ hx)
      exact ⟨s', by rw [e3, List.filter_cons_of_neg (by simp [e])], e4⟩
theorem lc2MX (hsub : ∀ s, wpS own (wpS own1 s) = wpS own s) {s s1 : S} {l : List α} (hm : mi s = some (l.map g, s1)) (hl : 1000 * l.length ≤ 100000) (hr : rst own s1.r (wpS own s1).r = some s1.r)
    (hd : ∀ d ∈ l, ts (g d) (wpS own s1) = some ((), σ d) ∧ wpS own (σ d) = wpS own s1 ∧ mc (σ d) = some (p d, σ d) ∧ (p d = true → mi1 (σ d) = some ((L d).map (h d), σ d) ∧ (L d).length ≤ 1000 ∧ ∀ x ∈ L d, ts1 (h d x) (wpS own1 (σ d)) = some ((), τ d x) ∧ wpS own1 (τ d x) = wpS own1 (σ d) ∧ mc1 (τ d x) = some (p1 d x, τ d x) ∧ (p1 d x = true → me (τ d x) = some (f d x, τ d x)))) :
    lc2M own own1 ts mc mi1 ts1 mc1 me mi s = some ((l.filter p).flatMap (fun d => ((L d).filter (p1 d)).map (f d)), s1) := by
  unfold lc2M
  rw [bd_of hm]
  obtain ⟨s', e1, e2⟩ := lc2GoX (own := own) (own1 := own1) (ts := ts) (mc := mc) (mi1 := mi1) (ts1 := ts1) (mc1 := mc1) (me := me) hsub l [] s1 rfl (by simpa using hl) hd
  show (match lc2Go own own1 ts mc mi1 ts1 mc1 me (l.map g) [] s1 with | some (l, s2) => _ | none => none) = _
  rw [e1]
  show (match rst own s1.r (wpS own s').r with | some r => some (_, (⟨r, s'.st⟩ : S)) | none => none) = _
  rw [e2, hr]
  have e4 : (wpS own s').st = (wpS own s1).st := by rw [e2]
  have e3 : s'.st = s1.st := e4
  rw [e3]
  rfl
end
theorem flat_if {α β : Type} (l : List α) (p : α → Bool) (f : α → List β) : (l.filter p).flatMap f = l.flatMap fun d => if p d = true then f d else [] := by
  induction l with
  | nil => rfl
  | cons a l ih =>
    rw [List.filter_cons, List.flatMap_cons]
    cases h : p a with
    | true => simp [ih]
    | false => simp [ih]
end Sd

namespace Sd
open PySem PySem.Spec PyProof.Rows L2
/-! loops that return when they meet something -/
theorem forGoR {α : Type} {f : α → D} {ts : D → M Unit} {mb : M Fl} (p : α → Bool) (d : D) (I : S → Prop) : ∀ (l : List α) (s : S), I s → (∀ x ∈ l, ∀ s, I s → ∃ s1, ts (f x) s = some ((), s1) ∧ ∃ s2, mb s1 = some (if p x = true then .rt d else .nx, s2) ∧ I s2) →
    ∃ s', forGo ts mb (l.map f) s = some (if l.any p = true then .rt d else .nx, s') ∧ I s'
  | [], s, h, _ => ⟨s, rfl, h⟩
  | x :: r, s, h, hs => by
    obtain ⟨s1, h1, s2, h2, h3⟩ := hs x (List.mem_cons_self ..) s h
    rw [List.map_cons]
    unfold forGo
    rw [bd_of h1, bd_of h2, List.any_cons]
    cases e : p x with
    | true => exact ⟨s2, rfl, h3⟩
    | false =>
      obtain ⟨s', e1, e2⟩ := forGoR p d I r s2 h3 fun y hy => hs y (List.mem_cons_of_mem _ hy)
      exact ⟨s', by rw [Bool.false_or]; exact e1, e2⟩
theorem forMR {α : Type} {f : α → D} {ts : D → M Unit} {mb : M Fl} {mi : M (List D)} {s s1 : S} {l : List α} (p : α → Bool) (d : D) (I : S → Prop) (hm : mi s = some (l.map f, s1)) (h0 : I s1) (hs : ∀ x ∈ l, ∀ s, I s → ∃ s1, ts (f x) s = some ((), s1) ∧ ∃ s2, mb s1 = some (if p x = true then .rt d else .nx, s2) ∧ I s2) :
    ∃ s', Sd.forM ts mi mb s = some (if l.any p = true then .rt d else .nx, s') ∧ I s' := by
  obtain ⟨s', e1, e2⟩ := forGoR p d I l s1 h0 hs
  exact ⟨s', by unfold Sd.forM; rw [bd_of hm, e1], e2⟩
theorem x_lenSD {l : List Int} (h : l.length < 64) : lenSD (.lst (pI l)) = some (.int (dedN l)) := by
  show (isIs _).bind _ = _
  rw [isIs_pI, Option.bind_some, if_pos h]
theorem x_cnt (l : List Int) (k : Int) : cntM (.tup (pI l)) (.int k) = some (.int (l.count k : Nat)) := by
  show (isIs _).bind _ = _
  rw [isIs_pI]
  rfl
theorem x_truL (l : List D) : truD (.lst l) = some (!l.isEmpty) := rfl
theorem idx_tup {l : List Int} {k : Int} (h : k ∈ l) : idxM (.tup (pI l)) (.int k) = some (.int (l.idxOf k : Nat)) := by
  show (isIs _).bind _ = _
  rw [isIs_pI, Option.bind_some, if_pos h]
end Sd

namespace Sd
open PySem PySem.Spec PyProof.Rows L2
/-! walks over lists of the store -/
section
variable {α : Type} {f : α → D} {en : Bool} {ts : D → M Unit} {mb : M Fl} {k : Nat} {l : List α}
theorem cur_of {k : Nat} {s : S} {l : List D} (h : s.st[k]? = some (.lst l)) : cur k s = some (l, s) := by
  unfold cur
  rw [h]
theorem fTurnI (P : Nat → S → Prop) (Q : D → S → Prop) (hc : ∀ i s, P i s → s.st[k]? = some (.lst (l.map f)))
    (hs : ∀ i x s, l[i]? = some x → P i s → ∃ s1 fl s2, ts (itR en i (f x)) s = some ((), s1) ∧ mb s1 = some (fl, s2) ∧ ((fl = .nx ∧ P (i + 1) s2) ∨ ∃ d, fl = .rt d ∧ Q d s2)) :
    ∀ (j i : Nat) (s : S), i + j = l.length → P i s → ∃ fl s', fTurn k l.length en ts mb j s = some (fl, s') ∧ ((fl = .nx ∧ P l.length s') ∨ ∃ d, fl = .rt d ∧ Q d s')
  | 0, i, s, hi, hp => by
    have e : i = l.length := by omega
    subst e
    refine ⟨.nx, s, ?_, .inl ⟨rfl, hp⟩⟩
    unfold fTurn
    rw [bd_of (cur_of (hc _ _ hp)), if_pos (by rw [List.length_map])]
    rfl
  | j + 1, i, s, hi, hp => by
    have e0 : l.length - (j + 1) = i := by omega
    have hlt : i < l.length := by omega
    have ex : l[i]? = some l[i] := List.getElem?_eq_getElem hlt
    obtain ⟨s1, fl, s2, h1, h2, h3⟩ := hs i l[i] s ex hp
    unfold fTurn
    rw [bd_of (cur_of (hc _ _ hp)), if_pos (by rw [List.length_map]), e0]
    have em : (l.map f)[i]? = some (f l[i]) := by rw [List.getElem?_map, ex]; rfl
    rw [em]
    show ∃ fl s', bd _ _ s = some (fl, s') ∧ _
    rw [bd_of h1, bd_of h2]
    rcases h3 with ⟨rfl, h3⟩ | ⟨d, rfl, h3⟩
    · exact fTurnI P Q hc hs j (i + 1) s2 (by omega) h3
    · exact ⟨_, _, rfl, .inr ⟨d, rfl, h3⟩⟩
/-- a loop over a list of the store that may return -/
theorem forRQ {mi : M (Nat × Nat)} {s0 s : S} (P : Nat → S → Prop) (Q : D → S → Prop) (hm : mi s0 = some ((k, l.length), s)) (h0 : P 0 s) (hc : ∀ i s, P i s → s.st[k]? = some (.lst (l.map f)))
    (hs : ∀ i x s, l[i]? = some x → P i s → ∃ s1 fl s2, ts (itR en i (f x)) s = some ((), s1) ∧ mb s1 = some (fl, s2) ∧ ((fl = .nx ∧ P (i + 1) s2) ∨ ∃ d, fl = .rt d ∧ Q d s2)) :
    ∃ fl s', forR en ts mi mb s0 = some (fl, s') ∧ ((fl = .nx ∧ P l.length s') ∨ ∃ d, fl = .rt d ∧ Q d s') := by
  unfold forR
  rw [bd_of hm]
  exact fTurnI P Q hc hs l.length 0 s (by omega) h0
theorem forRI {mi : M (Nat × Nat)} {s0 s : S} (P : Nat → S → Prop) (hm : mi s0 = some ((k, l.length), s)) (h0 : P 0 s) (hc : ∀ i s, P i s → s.st[k]? = some (.lst (l.map f)))
    (hs : ∀ i x s, l[i]? = some x → P i s → ∃ s1 s2, ts (itR en i (f x)) s = some ((), s1) ∧ mb s1 = some (.nx, s2) ∧ P (i + 1) s2) :
    ∃ s', forR en ts mi mb s0 = some (.nx, s') ∧ P l.length s' := by
  obtain ⟨fl, s', e, h⟩ := forRQ (k := k) (l := l) (f := f) (en := en) (ts := ts) (mb := mb) P (fun _ _ => False) hm h0 hc fun i x s hx hp => by
    obtain ⟨s1, s2, h1, h2, h3⟩ := hs i x s hx hp
    exact ⟨s1, .nx, s2, h1, h2, .inl ⟨rfl, h3⟩⟩
  rcases h with ⟨rfl, h⟩ | ⟨_, _, h⟩
  · exact ⟨s', e, h⟩
  · exact absurd h (by simp)
variable {own : List Nat} {me : M D} {W : S} {σ : α → S} {h : α → D}
theorem lTurnX (hst : W.st[k]? = some (.lst (l.map f))) (hd : ∀ x ∈ l, ts (f x) W = some ((), σ x) ∧ wpS own (σ x) = W ∧ me (σ x) = some (h x, σ x)) :
    ∀ (j i : Nat) (acc : List D) (s : S), i + j = l.length → wpS own s = W → ∃ s', lTurn k l.length false own ts (ret true) me j acc s = some (acc ++ (l.drop i).map h, s') ∧ wpS own s' = W
  | 0, i, acc, s, hi, hw => by
    have e : i = l.length := by omega
    subst e
    have hs : s.st = W.st := by rw [← hw]; rfl
    refine ⟨s, ?_, hw⟩
    unfold lTurn
    rw [bd_of (cur_of (show s.st[k]? = _ by rw [hs]; exact hst)), if_pos (by rw [List.length_map]), List.drop_length]
    unfold ret
    simp
  | j + 1, i, acc, s, hi, hw => by
    have e0 : l.length - (j + 1) = i := by omega
    have hlt : i < l.length := by omega
    have ex : l[i]? = some l[i] := List.getElem?_eq_getElem hlt
    have hs : s.st = W.st := by rw [← hw]; rfl
    obtain ⟨h1, h2, h3⟩ := hd l[i] (List.getElem_mem hlt)
    unfold lTurn
    rw [bd_of (cur_of (show s.st[k]? = _ by rw [hs]; exact hst)), if_pos (by rw [List.length_map]), e0]
    have em : (l.map f)[i]? = some (f l[i]) := by rw [List.getElem?_map, ex]; rfl
    rw [em]
    show ∃ s', (bd _ _ (wpS own s)) = _ ∧ _
    have ei : itR false i (f l[i]) = f l[i] := rfl
    rw [hw, ei, bd_of h1, bd_of (show ret true (σ l[i]) = some (true, σ l[i]) from rfl), if_pos rfl, bd_of h3]
    obtain ⟨s', e1, e2⟩ := lTurnX hst hd j (i + 1) (acc ++ [h l[i]]) (σ l[i]) (by omega) h2
    refine ⟨s', ?_, e2⟩
    rw [e1, List.drop_eq_getElem_cons hlt, List.map_cons, List.append_assoc]
    rfl
theorem lcRX {mi : M (Nat × Nat)} {s s1 : S} (hm : mi s = some ((k, l.length), s1)) (hst : s1.st[k]? = some (.lst (l.map f))) (hl : l.length ≤ 100000) (hr : rst own s1.r (wpS own s1).r = some s1.r)
    (hd : ∀ x ∈ l, ts (f x) (wpS own s1) = some ((), σ x) ∧ wpS own (σ x) = wpS own s1 ∧ me (σ x) = some (h x, σ x)) :
    lcR false own ts (ret true) me mi s = some (l.map h, s1) := by
  unfold lcR
  rw [bd_of hm, if_pos hl]
  obtain ⟨s', e1, e2⟩ := lTurnX (k := k) (l := l) (f := f) (own := own) (ts := ts) (me := me) (W := wpS own s1) (σ := σ) (h := h) hst hd l.length 0 [] s1 (by omega) rfl
  show (match lTurn k l.length false own ts (ret true) me l.length [] s1 with | some (l, s2) => _ | none => none) = _
  rw [e1]
  show (match rst own s1.r (wpS own s').r with | some r => some (_, (⟨r, s'.st⟩ : S)) | none => none) = _
  rw [e2, hr]
  have e3 : s'.st = s1.st := by
    have e4 : (wpS own s').st = (wpS own s1).st := by rw [e2]
    exact e4
  rw [e3, List.drop_zero]
  rfl
end
end Sd

namespace Sd
open PySem PySem.Spec PyProof.Rows L2
/-! loops that may return -/
section
variable {α : Type} {f : α → D} {ts : D → M Unit} {mb : M Fl} {mi : M (List D)}
theorem forGoQ {l : List α} (P : List α → S → Prop) (Q : D → S → Prop) (hs : ∀ pre x post s, l = pre ++ x :: post → P pre s → ∃ s1 fl s2, ts (f x) s = some ((), s1) ∧ mb s1 = some (fl, s2) ∧ ((fl = .nx ∧ P (pre ++ [x]) s2) ∨ ∃ d, fl = .rt d ∧ Q d s2)) :
    ∀ (post pre : List α) (s : S), l = pre ++ post → P pre s → ∃ fl s', forGo ts mb (post.map f) s = some (fl, s') ∧ ((fl = .nx ∧ P l s') ∨ ∃ d, fl = .rt d ∧ Q d s')
  | [], pre, s, e, h => ⟨.nx, s, rfl, .inl ⟨rfl, by rw [e, List.append_nil]; exact h⟩⟩
  | x :: post, pre, s, e, h => by
    obtain ⟨s1, fl, s2, h1, h2, h3⟩ := hs pre x post s e h
    rw [List.map_cons]
    unfold forGo
    rw [bd_of h1, bd_of h2]
    rcases h3 with ⟨rfl, h3⟩ | ⟨d, rfl, h3⟩
    · exact forGoQ P Q hs post (pre ++ [x]) s2 (by rw [e]; simp) h3
    · exact ⟨_, _, rfl, .inr ⟨d, rfl, h3⟩⟩
theorem forMQ {l : List α} {s s1 : S} (P : List α → S → Prop) (Q : D → S → Prop) (hm : mi s = some (l.map f, s1)) (h0 : P [] s1) (hs : ∀ pre x post s, l = pre ++ x :: post → P pre s → ∃ s1 fl s2, ts (f x) s = some ((), s1) ∧ mb s1 = some (fl, s2) ∧ ((fl = .nx ∧ P (pre ++ [x]) s2) ∨ ∃ d, fl = .rt d ∧ Q d s2)) :
    ∃ fl s', Sd.forM ts mi mb s = some (fl, s') ∧ ((fl = .nx ∧ P l s') ∨ ∃ d, fl = .rt d ∧ Q d s') := by
  obtain ⟨fl, s', e, h⟩ := forGoQ P Q hs l [] s1 rfl h0
  exact ⟨fl, s', by unfold Sd.forM; rw [bd_of hm, e], h⟩
theorem x_mutM (n : Nat) (s : S) : mutM n s = (match mutS n s with
  | some l => some (l, s)
  | none => none) := rfl
theorem x_keyI (ks : List Int) : keyI (.tup (pI ks)) = some ks := by
  show isIs _ = _
  rw [isIs_pI]
theorem x_keyI1 (i : Int) : keyI (.tup [.int i]) = some [i] := x_keyI [i]
theorem at_last {ns : List Int} (h : ns ≠ []) : L2.atI (pI ns) (-1) = some (.int (ns.getLastD 0)) := by
  have hl : 0 < ns.length := List.length_pos_iff.mpr h
  have e1 : L2.ixN (pI ns).length (-1) = some (ns.length - 1) := by
    rw [pI_len]
    unfold L2.ixN
    simp
    omega
  unfold L2.atI
  rw [e1]
  show (pI ns)[ns.length - 1]? = _
  rw [pI_at, List.getElem?_eq_getElem (by omega)]
  rw [List.getLastD_eq_getLast?, List.getLast?_eq_getElem?, List.getElem?_eq_getElem (by omega)]
  rfl
end
end Sd

namespace K04
open PySem PySem.Spec PyProof.Rows L2 Sd
def topS (i : Nat) : Stmt := PySem.Challenge.pw_seekways_k04_labels.main.body.getD i (.Pass ⟨0, 0, 0, 0⟩)
abbrev s__law_deck : Stmt := topS 44
abbrev N__law_deck : List Str := ["_law_script", "_law_digits", "_law_cells", "_law_cell"]
abbrev p__law_deck : List Str := ["_law_script"]
theorem sc__law_deck : FnScope N__law_deck p__law_deck (defScope s__law_deck) := ⟨rfl, rfl, rfl, by decide +kernel, rfl, by decide +kernel, by decide +kernel⟩
theorem k__law_deck__law_script : List.lookup ("_law_script" : Str) (defScope s__law_deck).names = some NameKind.local := by decide +kernel
theorem k__law_deck__law_digits : List.lookup ("_law_digits" : Str) (defScope s__law_deck).names = some NameKind.local := by decide +kernel
theorem k__law_deck__law_cells : List.lookup ("_law_cells" : Str) (defScope s__law_deck).names = some NameKind.local := by decide +kernel
theorem k__law_deck__law_cell : List.lookup ("_law_cell" : Str) (defScope s__law_deck).names = some NameKind.local := by decide +kernel
theorem k__law_deck_len : List.lookup ("len" : Str) (defScope s__law_deck).names = some NameKind.globalImplicit := by decide +kernel
theorem k__law_deck_abs : List.lookup ("abs" : Str) (defScope s__law_deck).names = some NameKind.globalImplicit := by decide +kernel
abbrev s__law_next : Stmt := topS 45
abbrev N__law_next : List Str := ["_law_deck_here", "_law_at", "_law_cell"]
abbrev p__law_next : List Str := ["_law_deck_here"]
theorem sc__law_next : FnScope N__law_next p__law_next (defScope s__law_next) := ⟨rfl, rfl, rfl, by decide +kernel, rfl, by decide +kernel, by decide +kernel⟩
theorem k__law_next__law_deck_here : List.lookup ("_law_deck_here" : Str) (defScope s__law_next).names = some NameKind.local := by decide +kernel
theorem k__law_next__law_at : List.lookup ("_law_at" : Str) (defScope s__law_next).names = some NameKind.local := by decide +kernel
theorem k__law_next__law_cell : List.lookup ("_law_cell" : Str) (defScope s__law_next).names = some NameKind.local := by decide +kernel
theorem k__law_next_len : List.lookup ("len" : Str) (defScope s__law_next).names = some NameKind.globalImplicit := by decide +kernel
abbrev s__law_classes : Stmt := topS 46
abbrev N__law_classes : List Str := ["_law_deck_here", "_law_most", "_law_many", "_law_costs", "_law_found", "_law_at", "_law_number", "_law_done", "_law_pairs", "_law_k", "_law_draw"]
abbrev p__law_classes : List Str := ["_law_deck_here", "_law_most"]
theorem sc__law_classes : FnScope N__law_classes p__law_classes (defScope s__law_classes) := ⟨rfl, rfl, rfl, by decide +kernel, rfl, by decide +kernel, by decide +kernel⟩
theorem k__law_classes__law_deck_here : List.lookup ("_law_deck_here" : Str) (defScope s__law_classes).names = some NameKind.local := by decide +kernel
theorem k__law_classes__law_most : List.lookup ("_law_most" : Str) (defScope s__law_classes).names = some NameKind.local := by decide +kernel
theorem k__law_classes__law_many : List.lookup ("_law_many" : Str) (defScope s__law_classes).names = some NameKind.local := by decide +kernel
theorem k__law_classes__law_costs : List.lookup ("_law_costs" : Str) (defScope s__law_classes).names = some NameKind.local := by decide +kernel
theorem k__law_classes__law_found : List.lookup ("_law_found" : Str) (defScope s__law_classes).names = some NameKind.local := by decide +kernel
theorem k__law_classes__law_at : List.lookup ("_law_at" : Str) (defScope s__law_classes).names = some NameKind.local := by decide +kernel
theorem k__law_classes__law_number : List.lookup ("_law_number" : Str) (defScope s__law_classes).names = some NameKind.local := by decide +kernel
theorem k__law_classes__law_done : List.lookup ("_law_done" : Str) (defScope s__law_classes).names = some NameKind.local := by decide +kernel
theorem k__law_classes__law_pairs : List.lookup ("_law_pairs" : Str) (defScope s__law_classes).names = some NameKind.local := by decide +kernel
theorem k__law_classes__law_k : List.lookup ("_law_k" : Str) (defScope s__law_classes).names = some NameKind.local := by decide +kernel
theorem k__law_classes__law_draw : List.lookup ("_law_draw" : Str) (defScope s__law_classes).names = some NameKind.local := by decide +kernel
theorem k__law_classes__law_next : List.lookup ("_law_next" : Str) (defScope s__law_classes).names = some NameKind.globalImplicit := by decide +kernel
theorem k__law_classes_range : List.lookup ("range" : Str) (defScope s__law_classes).names = some NameKind.globalImplicit := by decide +kernel
theorem k__law_classes_int : List.lookup ("int" : Str) (defScope s__law_classes).names = some NameKind.globalImplicit := by decide +kernel
theorem k__law_classes_len : List.lookup ("len" : Str) (defScope s__law_classes).names = some NameKind.globalImplicit := by decide +kernel
abbrev s__law_rests : Stmt := topS 47
abbrev N__law_rests : List Str := ["_law_classes_here", "_law_rests_here", "_law_turn", "_law_at", "_law_done", "_law_pairs", "_law_cost", "_law_other", "_law_one"]
abbrev p__law_rests : List Str := ["_law_classes_here"]
theorem sc__law_rests : FnScope N__law_rests p__law_rests (defScope s__law_rests) := ⟨rfl, rfl, rfl, by decide +kernel, rfl, by decide +kernel, by decide +kernel⟩
theorem k__law_rests__law_classes_here : List.lookup ("_law_classes_here" : Str) (defScope s__law_rests).names = some NameKind.local := by decide +kernel
theorem k__law_rests__law_rests_here : List.lookup ("_law_rests_here" : Str) (defScope s__law_rests).names = some NameKind.local := by decide +kernel
theorem k__law_rests__law_turn : List.lookup ("_law_turn" : Str) (defScope s__law_rests).names = some NameKind.local := by decide +kernel
theorem k__law_rests__law_at : List.lookup ("_law_at" : Str) (defScope s__law_rests).names = some NameKind.local := by decide +kernel
theorem k__law_rests__law_done : List.lookup ("_law_done" : Str) (defScope s__law_rests).names = some NameKind.local := by decide +kernel
theorem k__law_rests__law_pairs : List.lookup ("_law_pairs" : Str) (defScope s__law_rests).names = some NameKind.local := by decide +kernel
theorem k__law_rests__law_cost : List.lookup ("_law_cost" : Str) (defScope s__law_rests).names = some NameKind.local := by decide +kernel
theorem k__law_rests__law_other : List.lookup ("_law_other" : Str) (defScope s__law_rests).names = some NameKind.local := by decide +kernel
theorem k__law_rests_enumerate : List.lookup ("enumerate" : Str) (defScope s__law_rests).names = some NameKind.globalImplicit := by decide +kernel
abbrev s__law_bounds : Stmt := topS 48
abbrev N__law_bounds : List Str := ["_law_deck_here", "_law_rests_here", "_law_number", "_law_part", "_law_whole", "_law_rest", "_law_greatest", "_law_found"]
abbrev p__law_bounds : List Str := ["_law_deck_here", "_law_rests_here"]
theorem sc__law_bounds : FnScope N__law_bounds p__law_bounds (defScope s__law_bounds) := ⟨rfl, rfl, rfl, by decide +kernel, rfl, by decide +kernel, by decide +kernel⟩
theorem k__law_bounds__law_deck_here : List.lookup ("_law_deck_here" : Str) (defScope s__law_bounds).names = some NameKind.local := by decide +kernel
theorem k__law_bounds__law_rests_here : List.lookup ("_law_rests_here" : Str) (defScope s__law_bounds).names = some NameKind.local := by decide +kernel
theorem k__law_bounds__law_number : List.lookup ("_law_number" : Str) (defScope s__law_bounds).names = some NameKind.local := by decide +kernel
theorem k__law_bounds__law_part : List.lookup ("_law_part" : Str) (defScope s__law_bounds).names = some NameKind.local := by decide +kernel
theorem k__law_bounds__law_whole : List.lookup ("_law_whole" : Str) (defScope s__law_bounds).names = some NameKind.local := by decide +kernel
theorem k__law_bounds__law_rest : List.lookup ("_law_rest" : Str) (defScope s__law_bounds).names = some NameKind.local := by decide +kernel
theorem k__law_bounds__law_greatest : List.lookup ("_law_greatest" : Str) (defScope s__law_bounds).names = some NameKind.local := by decide +kernel
theorem k__law_bounds__law_found : List.lookup ("_law_found" : Str) (defScope s__law_bounds).names = some NameKind.local := by decide +kernel
theorem k__law_bounds__law_next : List.lookup ("_law_next" : Str) (defScope s__law_bounds).names = some NameKind.globalImplicit := by decide +kernel
theorem k__law_bounds_max : List.lookup ("max" : Str) (defScope s__law_bounds).names = some NameKind.globalImplicit := by decide +kernel
abbrev s__law_cuts : Stmt := topS 49
abbrev N__law_cuts : List Str := ["_law_deck_here", "_law_classes_here", "_law_rests_here", "_law_number", "_law_at", "_law_found", "_law_turn", "_law_done", "_law_pairs", "_law_cost", "_law_other", "_law_rest"]
abbrev p__law_cuts : List Str := ["_law_deck_here", "_law_classes_here", "_law_rests_here"]
theorem sc__law_cuts : FnScope N__law_cuts p__law_cuts (defScope s__law_cuts) := ⟨rfl, rfl, rfl, by decide +kernel, rfl, by decide +kernel, by decide +kernel⟩
theorem k__law_cuts__law_deck_here : List.lookup ("_law_deck_here" : Str) (defScope s__law_cuts).names = some NameKind.local := by decide +kernel
theorem k__law_cuts__law_classes_here : List.lookup ("_law_classes_here" : Str) (defScope s__law_cuts).names = some NameKind.local := by decide +kernel
theorem k__law_cuts__law_rests_here : List.lookup ("_law_rests_here" : Str) (defScope s__law_cuts).names = some NameKind.local := by decide +kernel
theorem k__law_cuts__law_number : List.lookup ("_law_number" : Str) (defScope s__law_cuts).names = some NameKind.cell := by decide +kernel
theorem k__law_cuts__law_at : List.lookup ("_law_at" : Str) (defScope s__law_cuts).names = some NameKind.local := by decide +kernel
theorem k__law_cuts__law_found : List.lookup ("_law_found" : Str) (defScope s__law_cuts).names = some NameKind.local := by decide +kernel
theorem k__law_cuts__law_turn : List.lookup ("_law_turn" : Str) (defScope s__law_cuts).names = some NameKind.local := by decide +kernel
theorem k__law_cuts__law_done : List.lookup ("_law_done" : Str) (defScope s__law_cuts).names = some NameKind.local := by decide +kernel
theorem k__law_cuts__law_pairs : List.lookup ("_law_pairs" : Str) (defScope s__law_cuts).names = some NameKind.local := by decide +kernel
theorem k__law_cuts__law_cost : List.lookup ("_law_cost" : Str) (defScope s__law_cuts).names = some NameKind.local := by decide +kernel
theorem k__law_cuts__law_other : List.lookup ("_law_other" : Str) (defScope s__law_cuts).names = some NameKind.local := by decide +kernel
theorem k__law_cuts__law_next : List.lookup ("_law_next" : Str) (defScope s__law_cuts).names = some NameKind.globalImplicit := by decide +kernel
theorem k__law_cuts_enumerate : List.lookup ("enumerate" : Str) (defScope s__law_cuts).names = some NameKind.globalImplicit := by decide +kernel
abbrev s__law_variants : Stmt := topS 50
abbrev N__law_variants : List Str := ["_law_deck_here", "_law_many", "_law_sides", "_law_found", "_law_at", "_law_one", "_law_own", "_law_side", "_law_more"]
abbrev p__law_variants : List Str := ["_law_deck_here", "_law_many", "_law_sides"]
theorem sc__law_variants : FnScope N__law_variants p__law_variants (defScope s__law_variants) := ⟨rfl, rfl, rfl, by decide +kernel, rfl, by decide +kernel, by decide +kernel⟩
theorem k__law_variants__law_deck_here : List.lookup ("_law_deck_here" : Str) (defScope s__law_variants).names = some NameKind.local := by decide +kernel
theorem k__law_variants__law_many : List.lookup ("_law_many" : Str) (defScope s__law_variants).names = some NameKind.local := by decide +kernel
theorem k__law_variants__law_sides : List.lookup ("_law_sides" : Str) (defScope s__law_variants).names = some NameKind.local := by decide +kernel
theorem k__law_variants__law_found : List.lookup ("_law_found" : Str) (defScope s__law_variants).names = some NameKind.local := by decide +kernel
theorem k__law_variants__law_at : List.lookup ("_law_at" : Str) (defScope s__law_variants).names = some NameKind.local := by decide +kernel
theorem k__law_variants__law_one : List.lookup ("_law_one" : Str) (defScope s__law_variants).names = some NameKind.local := by decide +kernel
theorem k__law_variants__law_own : List.lookup ("_law_own" : Str) (defScope s__law_variants).names = some NameKind.local := by decide +kernel
theorem k__law_variants__law_side : List.lookup ("_law_side" : Str) (defScope s__law_variants).names = some NameKind.local := by decide +kernel
theorem k__law_variants__law_more : List.lookup ("_law_more" : Str) (defScope s__law_variants).names = some NameKind.local := by decide +kernel
theorem k__law_variants_range : List.lookup ("range" : Str) (defScope s__law_variants).names = some NameKind.globalImplicit := by decide +kernel
theorem k__law_variants_int : List.lookup ("int" : Str) (defScope s__law_variants).names = some NameKind.globalImplicit := by decide +kernel
theorem k__law_variants__law_next : List.lookup ("_law_next" : Str) (defScope s__law_variants).names = some NameKind.globalImplicit := by decide +kernel
theorem k__law_variants_list : List.lookup ("list" : Str) (defScope s__law_variants).names = some NameKind.globalImplicit := by decide +kernel
abbrev s__law_some : Stmt := topS 51
abbrev N__law_some : List Str := ["_law_deck_here", "_law_rows"]
abbrev p__law_some : List Str := ["_law_deck_here", "_law_rows"]
theorem sc__law_some : FnScope N__law_some p__law_some (defScope s__law_some) := ⟨rfl, rfl, rfl, by decide +kernel, rfl, by decide +kernel, by decide +kernel⟩
theorem k__law_some__law_deck_here : List.lookup ("_law_deck_here" : Str) (defScope s__law_some).names = some NameKind.local := by decide +kernel
theorem k__law_some__law_rows : List.lookup ("_law_rows" : Str) (defScope s__law_some).names = some NameKind.local := by decide +kernel
theorem k__law_some__law_next : List.lookup ("_law_next" : Str) (defScope s__law_some).names = some NameKind.globalImplicit := by decide +kernel
theorem k__law_some_len : List.lookup ("len" : Str) (defScope s__law_some).names = some NameKind.globalImplicit := by decide +kernel
abbrev s__law_ends : Stmt := topS 53
abbrev N__law_ends : List Str := ["_law_rows", "_law_at", "_law_row", "_law_stops", "_law_fronts", "_law_target", "_law_own", "_law_cost", "_law_other"]
abbrev p__law_ends : List Str := ["_law_rows"]
theorem sc__law_ends : FnScope N__law_ends p__law_ends (defScope s__law_ends) := ⟨rfl, rfl, rfl, by decide +kernel, rfl, by decide +kernel, by decide +kernel⟩
theorem k__law_ends__law_rows : List.lookup ("_law_rows" : Str) (defScope s__law_ends).names = some NameKind.local := by decide +kernel
theorem k__law_ends__law_at : List.lookup ("_law_at" : Str) (defScope s__law_ends).names = some NameKind.cell := by decide +kernel
theorem k__law_ends__law_row : List.lookup ("_law_row" : Str) (defScope s__law_ends).names = some NameKind.cell := by decide +kernel
theorem k__law_ends__law_stops : List.lookup ("_law_stops" : Str) (defScope s__law_ends).names = some NameKind.local := by decide +kernel
theorem k__law_ends__law_fronts : List.lookup ("_law_fronts" : Str) (defScope s__law_ends).names = some NameKind.local := by decide +kernel
theorem k__law_ends__law_target : List.lookup ("_law_target" : Str) (defScope s__law_ends).names = some NameKind.cell := by decide +kernel
theorem k__law_ends__law_own : List.lookup ("_law_own" : Str) (defScope s__law_ends).names = some NameKind.local := by decide +kernel
theorem k__law_ends_tuple : List.lookup ("tuple" : Str) (defScope s__law_ends).names = some NameKind.globalImplicit := by decide +kernel
theorem k__law_ends_enumerate : List.lookup ("enumerate" : Str) (defScope s__law_ends).names = some NameKind.globalImplicit := by decide +kernel
theorem k__law_ends_range : List.lookup ("range" : Str) (defScope s__law_ends).names = some NameKind.globalImplicit := by decide +kernel
theorem k__law_ends_len : List.lookup ("len" : Str) (defScope s__law_ends).names = some NameKind.globalImplicit := by decide +kernel
abbrev s__law_task : Stmt := topS 52
abbrev N__law_task : List Str := ["_law_deck_here", "_law_most", "_law_classes_here", "_law_rests_here", "_law_bounds_here", "_law_cuts_here", "_law_sides", "_law_variants_here", "_law_rows", "_law_maps_here", "_law_at", "_law_done", "_law_pairs", "_law_side", "_law_turned", "_law_aims", "_law_row", "_law_number", "_law_order", "_law_nexts", "_law_maps_by", "_law_stops", "_law_fronts", "_law_k", "_law_cost", "_law_other", "_law_way"]
abbrev p__law_task : List Str := ["_law_deck_here", "_law_most"]
theorem sc__law_task : FnScope N__law_task p__law_task (defScope s__law_task) := ⟨rfl, rfl, rfl, by decide +kernel, rfl, by decide +kernel, by decide +kernel⟩
theorem k__law_task__law_deck_here : List.lookup ("_law_deck_here" : Str) (defScope s__law_task).names = some NameKind.cell := by decide +kernel
theorem k__law_task__law_most : List.lookup ("_law_most" : Str) (defScope s__law_task).names = some NameKind.local := by decide +kernel
theorem k__law_task__law_classes_here : List.lookup ("_law_classes_here" : Str) (defScope s__law_task).names = some NameKind.local := by decide +kernel
theorem k__law_task__law_rests_here : List.lookup ("_law_rests_here" : Str) (defScope s__law_task).names = some NameKind.local := by decide +kernel
theorem k__law_task__law_bounds_here : List.lookup ("_law_bounds_here" : Str) (defScope s__law_task).names = some NameKind.local := by decide +kernel
theorem k__law_task__law_cuts_here : List.lookup ("_law_cuts_here" : Str) (defScope s__law_task).names = some NameKind.local := by decide +kernel
theorem k__law_task__law_sides : List.lookup ("_law_sides" : Str) (defScope s__law_task).names = some NameKind.cell := by decide +kernel
theorem k__law_task__law_variants_here : List.lookup ("_law_variants_here" : Str) (defScope s__law_task).names = some NameKind.cell := by decide +kernel
theorem k__law_task__law_rows : List.lookup ("_law_rows" : Str) (defScope s__law_task).names = some NameKind.local := by decide +kernel
theorem k__law_task__law_maps_here : List.lookup ("_law_maps_here" : Str) (defScope s__law_task).names = some NameKind.local := by decide +kernel
theorem k__law_task__law_at : List.lookup ("_law_at" : Str) (defScope s__law_task).names = some NameKind.local := by decide +kernel
theorem k__law_task__law_done : List.lookup ("_law_done" : Str) (defScope s__law_task).names = some NameKind.local := by decide +kernel
theorem k__law_task__law_pairs : List.lookup ("_law_pairs" : Str) (defScope s__law_task).names = some NameKind.local := by decide +kernel
theorem k__law_task__law_side : List.lookup ("_law_side" : Str) (defScope s__law_task).names = some NameKind.local := by decide +kernel
theorem k__law_task__law_turned : List.lookup ("_law_turned" : Str) (defScope s__law_task).names = some NameKind.cell := by decide +kernel
theorem k__law_task__law_aims : List.lookup ("_law_aims" : Str) (defScope s__law_task).names = some NameKind.local := by decide +kernel
theorem k__law_task__law_row : List.lookup ("_law_row" : Str) (defScope s__law_task).names = some NameKind.local := by decide +kernel
theorem k__law_task__law_number : List.lookup ("_law_number" : Str) (defScope s__law_task).names = some NameKind.local := by decide +kernel
theorem k__law_task__law_order : List.lookup ("_law_order" : Str) (defScope s__law_task).names = some NameKind.local := by decide +kernel
theorem k__law_task__law_nexts : List.lookup ("_law_nexts" : Str) (defScope s__law_task).names = some NameKind.local := by decide +kernel
theorem k__law_task__law_maps_by : List.lookup ("_law_maps_by" : Str) (defScope s__law_task).names = some NameKind.local := by decide +kernel
theorem k__law_task__law_stops : List.lookup ("_law_stops" : Str) (defScope s__law_task).names = some NameKind.local := by decide +kernel
theorem k__law_task__law_fronts : List.lookup ("_law_fronts" : Str) (defScope s__law_task).names = some NameKind.local := by decide +kernel
theorem k__law_task__law_classes : List.lookup ("_law_classes" : Str) (defScope s__law_task).names = some NameKind.globalImplicit := by decide +kernel
theorem k__law_task__law_rests : List.lookup ("_law_rests" : Str) (defScope s__law_task).names = some NameKind.globalImplicit := by decide +kernel
theorem k__law_task__law_bounds : List.lookup ("_law_bounds" : Str) (defScope s__law_task).names = some NameKind.globalImplicit := by decide +kernel
theorem k__law_task__law_cuts : List.lookup ("_law_cuts" : Str) (defScope s__law_task).names = some NameKind.globalImplicit := by decide +kernel
theorem k__law_task__law_next : List.lookup ("_law_next" : Str) (defScope s__law_task).names = some NameKind.globalImplicit := by decide +kernel
theorem k__law_task__law_variants : List.lookup ("_law_variants" : Str) (defScope s__law_task).names = some NameKind.globalImplicit := by decide +kernel
theorem k__law_task_len : List.lookup ("len" : Str) (defScope s__law_task).names = some NameKind.globalImplicit := by decide +kernel
theorem k__law_task_enumerate : List.lookup ("enumerate" : Str) (defScope s__law_task).names = some NameKind.globalImplicit := by decide +kernel
theorem k__law_task_range : List.lookup ("range" : Str) (defScope s__law_task).names = some NameKind.globalImplicit := by decide +kernel
theorem k__law_task_max : List.lookup ("max" : Str) (defScope s__law_task).names = some NameKind.globalImplicit := by decide +kernel
theorem k__law_task_tuple : List.lookup ("tuple" : Str) (defScope s__law_task).names = some NameKind.globalImplicit := by decide +kernel
theorem k__law_task__law_some : List.lookup ("_law_some" : Str) (defScope s__law_task).names = some NameKind.globalImplicit := by decide +kernel
theorem k__law_task__law_ends : List.lookup ("_law_ends" : Str) (defScope s__law_task).names = some NameKind.globalImplicit := by decide +kernel
abbrev s__law_maps : Stmt := topS 56
abbrev N__law_maps : List Str := ["_law_deck_here", "_law_many", "_law_found", "_law_turn", "_law_number", "_law_own", "_law_k"]
abbrev p__law_maps : List Str := ["_law_deck_here", "_law_many"]
theorem sc__law_maps : FnScope N__law_maps p__law_maps (defScope s__law_maps) := ⟨rfl, rfl, rfl, by decide +kernel, rfl, by decide +kernel, by decide +kernel⟩
theorem k__law_maps__law_deck_here : List.lookup ("_law_deck_here" : Str) (defScope s__law_maps).names = some NameKind.cell := by decide +kernel
theorem k__law_maps__law_many : List.lookup ("_law_many" : Str) (defScope s__law_maps).names = some NameKind.cell := by decide +kernel
theorem k__law_maps__law_found : List.lookup ("_law_found" : Str) (defScope s__law_maps).names = some NameKind.local := by decide +kernel
theorem k__law_maps__law_turn : List.lookup ("_law_turn" : Str) (defScope s__law_maps).names = some NameKind.local := by decide +kernel
theorem k__law_maps__law_number : List.lookup ("_law_number" : Str) (defScope s__law_maps).names = some NameKind.cell := by decide +kernel
theorem k__law_maps__law_own : List.lookup ("_law_own" : Str) (defScope s__law_maps).names = some NameKind.local := by decide +kernel
theorem k__law_maps_range : List.lookup ("range" : Str) (defScope s__law_maps).names = some NameKind.globalImplicit := by decide +kernel
theorem k__law_maps__law_next : List.lookup ("_law_next" : Str) (defScope s__law_maps).names = some NameKind.globalImplicit := by decide +kernel
theorem k__law_maps_tuple : List.lookup ("tuple" : Str) (defScope s__law_maps).names = some NameKind.globalImplicit := by decide +kernel
abbrev s_is_tuple_of : Stmt := topS 18
abbrev N_is_tuple_of : List Str := ["thing", "least", "most"]
abbrev p_is_tuple_of : List Str := ["thing", "least", "most"]
theorem sc_is_tuple_of : FnScope N_is_tuple_of p_is_tuple_of (defScope s_is_tuple_of) := ⟨rfl, rfl, rfl, by decide +kernel, rfl, by decide +kernel, by decide +kernel⟩
theorem k_is_tuple_of_thing : List.lookup ("thing" : Str) (defScope s_is_tuple_of).names = some NameKind.local := by decide +kernel
theorem k_is_tuple_of_least : List.lookup ("least" : Str) (defScope s_is_tuple_of).names = some NameKind.local := by decide +kernel
theorem k_is_tuple_of_most : List.lookup ("most" : Str) (defScope s_is_tuple_of).names = some NameKind.local := by decide +kernel
theorem k_is_tuple_of_isinstance : List.lookup ("isinstance" : Str) (defScope s_is_tuple_of).names = some NameKind.globalImplicit := by decide +kernel
theorem k_is_tuple_of_tuple : List.lookup ("tuple" : Str) (defScope s_is_tuple_of).names = some NameKind.globalImplicit := by decide +kernel
theorem k_is_tuple_of_len : List.lookup ("len" : Str) (defScope s_is_tuple_of).names = some NameKind.globalImplicit := by decide +kernel
abbrev s_is_whole : Stmt := topS 8
abbrev N_is_whole : List Str := ["thing"]
abbrev p_is_whole : List Str := ["thing"]
theorem sc_is_whole : FnScope N_is_whole p_is_whole (defScope s_is_whole) := ⟨rfl, rfl, rfl, by decide +kernel, rfl, by decide +kernel, by decide +kernel⟩
theorem k_is_whole_thing : List.lookup ("thing" : Str) (defScope s_is_whole).names = some NameKind.local := by decide +kernel
theorem k_is_whole_isinstance : List.lookup ("isinstance" : Str) (defScope s_is_whole).names = some NameKind.globalImplicit := by decide +kernel
theorem k_is_whole_int : List.lookup ("int" : Str) (defScope s_is_whole).names = some NameKind.globalImplicit := by decide +kernel
theorem k_is_whole_bool : List.lookup ("bool" : Str) (defScope s_is_whole).names = some NameKind.globalImplicit := by decide +kernel
abbrev s_is_between : Stmt := topS 16
abbrev N_is_between : List Str := ["thing", "low", "high"]
abbrev p_is_between : List Str := ["thing", "low", "high"]
theorem sc_is_between : FnScope N_is_between p_is_between (defScope s_is_between) := ⟨rfl, rfl, rfl, by decide +kernel, rfl, by decide +kernel, by decide +kernel⟩
theorem k_is_between_thing : List.lookup ("thing" : Str) (defScope s_is_between).names = some NameKind.local := by decide +kernel
theorem k_is_between_low : List.lookup ("low" : Str) (defScope s_is_between).names = some NameKind.local := by decide +kernel
theorem k_is_between_high : List.lookup ("high" : Str) (defScope s_is_between).names = some NameKind.local := by decide +kernel
theorem k_is_between_is_whole : List.lookup ("is_whole" : Str) (defScope s_is_between).names = some NameKind.globalImplicit := by decide +kernel
abbrev s_is_from : Stmt := topS 15
abbrev N_is_from : List Str := ["thing", "low"]
abbrev p_is_from : List Str := ["thing", "low"]
theorem sc_is_from : FnScope N_is_from p_is_from (defScope s_is_from) := ⟨rfl, rfl, rfl, by decide +kernel, rfl, by decide +kernel, by decide +kernel⟩
theorem k_is_from_thing : List.lookup ("thing" : Str) (defScope s_is_from).names = some NameKind.local := by decide +kernel
theorem k_is_from_low : List.lookup ("low" : Str) (defScope s_is_from).names = some NameKind.local := by decide +kernel
theorem k_is_from_is_whole : List.lookup ("is_whole" : Str) (defScope s_is_from).names = some NameKind.globalImplicit := by decide +kernel
abbrev s_is_pair : Stmt := topS 22
abbrev N_is_pair : List Str := ["thing"]
abbrev p_is_pair : List Str := ["thing"]
theorem sc_is_pair : FnScope N_is_pair p_is_pair (defScope s_is_pair) := ⟨rfl, rfl, rfl, by decide +kernel, rfl, by decide +kernel, by decide +kernel⟩
theorem k_is_pair_thing : List.lookup ("thing" : Str) (defScope s_is_pair).names = some NameKind.local := by decide +kernel
theorem k_is_pair_is_tuple_of : List.lookup ("is_tuple_of" : Str) (defScope s_is_pair).names = some NameKind.globalImplicit := by decide +kernel
theorem k_is_pair_is_between : List.lookup ("is_between" : Str) (defScope s_is_pair).names = some NameKind.globalImplicit := by decide +kernel
theorem k_is_pair_MOST_COST : List.lookup ("MOST_COST" : Str) (defScope s_is_pair).names = some NameKind.globalImplicit := by decide +kernel
theorem k_is_pair_is_from : List.lookup ("is_from" : Str) (defScope s_is_pair).names = some NameKind.globalImplicit := by decide +kernel
abbrev s_are_pairs : Stmt := topS 23
abbrev N_are_pairs : List Str := ["thing", "most", "pair"]
abbrev p_are_pairs : List Str := ["thing", "most"]
theorem sc_are_pairs : FnScope N_are_pairs p_are_pairs (defScope s_are_pairs) := ⟨rfl, rfl, rfl, by decide +kernel, rfl, by decide +kernel, by decide +kernel⟩
theorem k_are_pairs_thing : List.lookup ("thing" : Str) (defScope s_are_pairs).names = some NameKind.local := by decide +kernel
theorem k_are_pairs_most : List.lookup ("most" : Str) (defScope s_are_pairs).names = some NameKind.local := by decide +kernel
theorem k_are_pairs_is_tuple_of : List.lookup ("is_tuple_of" : Str) (defScope s_are_pairs).names = some NameKind.globalImplicit := by decide +kernel
theorem k_are_pairs_all : List.lookup ("all" : Str) (defScope s_are_pairs).names = some NameKind.globalImplicit := by decide +kernel
abbrev s_are_within : Stmt := topS 20
abbrev N_are_within : List Str := ["numbers", "many", "number"]
abbrev p_are_within : List Str := ["numbers", "many"]
theorem sc_are_within : FnScope N_are_within p_are_within (defScope s_are_within) := ⟨rfl, rfl, rfl, by decide +kernel, rfl, by decide +kernel, by decide +kernel⟩
theorem k_are_within_numbers : List.lookup ("numbers" : Str) (defScope s_are_within).names = some NameKind.local := by decide +kernel
theorem k_are_within_many : List.lookup ("many" : Str) (defScope s_are_within).names = some NameKind.cell := by decide +kernel
theorem k_are_within_all : List.lookup ("all" : Str) (defScope s_are_within).names = some NameKind.globalImplicit := by decide +kernel
abbrev s_are_pairs_within : Stmt := topS 24
abbrev N_are_pairs_within : List Str := ["pairs", "many", "cost", "number"]
abbrev p_are_pairs_within : List Str := ["pairs", "many"]
theorem sc_are_pairs_within : FnScope N_are_pairs_within p_are_pairs_within (defScope s_are_pairs_within) := ⟨rfl, rfl, rfl, by decide +kernel, rfl, by decide +kernel, by decide +kernel⟩
theorem k_are_pairs_within_pairs : List.lookup ("pairs" : Str) (defScope s_are_pairs_within).names = some NameKind.local := by decide +kernel
theorem k_are_pairs_within_many : List.lookup ("many" : Str) (defScope s_are_pairs_within).names = some NameKind.local := by decide +kernel
theorem k_are_pairs_within_are_within : List.lookup ("are_within" : Str) (defScope s_are_pairs_within).names = some NameKind.globalImplicit := by decide +kernel
abbrev s_is_truth : Stmt := topS 17
abbrev N_is_truth : List Str := ["thing"]
abbrev p_is_truth : List Str := ["thing"]
theorem sc_is_truth : FnScope N_is_truth p_is_truth (defScope s_is_truth) := ⟨rfl, rfl, rfl, by decide +kernel, rfl, by decide +kernel, by decide +kernel⟩
theorem k_is_truth_thing : List.lookup ("thing" : Str) (defScope s_is_truth).names = some NameKind.local := by decide +kernel
theorem k_is_truth_isinstance : List.lookup ("isinstance" : Str) (defScope s_is_truth).names = some NameKind.globalImplicit := by decide +kernel
theorem k_is_truth_bool : List.lookup ("bool" : Str) (defScope s_is_truth).names = some NameKind.globalImplicit := by decide +kernel
abbrev s_is_table_row : Stmt := topS 36
abbrev N_is_table_row : List Str := ["row", "many", "nexts", "done", "name", "bound", "cut"]
abbrev p_is_table_row : List Str := ["row", "many"]
theorem sc_is_table_row : FnScope N_is_table_row p_is_table_row (defScope s_is_table_row) := ⟨rfl, rfl, rfl, by decide +kernel, rfl, by decide +kernel, by decide +kernel⟩
theorem k_is_table_row_row : List.lookup ("row" : Str) (defScope s_is_table_row).names = some NameKind.local := by decide +kernel
theorem k_is_table_row_many : List.lookup ("many" : Str) (defScope s_is_table_row).names = some NameKind.local := by decide +kernel
theorem k_is_table_row_nexts : List.lookup ("nexts" : Str) (defScope s_is_table_row).names = some NameKind.local := by decide +kernel
theorem k_is_table_row_done : List.lookup ("done" : Str) (defScope s_is_table_row).names = some NameKind.local := by decide +kernel
theorem k_is_table_row_name : List.lookup ("name" : Str) (defScope s_is_table_row).names = some NameKind.local := by decide +kernel
theorem k_is_table_row_bound : List.lookup ("bound" : Str) (defScope s_is_table_row).names = some NameKind.local := by decide +kernel
theorem k_is_table_row_cut : List.lookup ("cut" : Str) (defScope s_is_table_row).names = some NameKind.local := by decide +kernel
theorem k_is_table_row_is_tuple_of : List.lookup ("is_tuple_of" : Str) (defScope s_is_table_row).names = some NameKind.globalImplicit := by decide +kernel
theorem k_is_table_row_are_pairs : List.lookup ("are_pairs" : Str) (defScope s_is_table_row).names = some NameKind.globalImplicit := by decide +kernel
theorem k_is_table_row_MOST_NEXTS : List.lookup ("MOST_NEXTS" : Str) (defScope s_is_table_row).names = some NameKind.globalImplicit := by decide +kernel
theorem k_is_table_row_are_pairs_within : List.lookup ("are_pairs_within" : Str) (defScope s_is_table_row).names = some NameKind.globalImplicit := by decide +kernel
theorem k_is_table_row_is_truth : List.lookup ("is_truth" : Str) (defScope s_is_table_row).names = some NameKind.globalImplicit := by decide +kernel
theorem k_is_table_row_is_between : List.lookup ("is_between" : Str) (defScope s_is_table_row).names = some NameKind.globalImplicit := by decide +kernel
theorem k_is_table_row_MOST_NAME : List.lookup ("MOST_NAME" : Str) (defScope s_is_table_row).names = some NameKind.globalImplicit := by decide +kernel
theorem k_is_table_row_MOST_BOUND : List.lookup ("MOST_BOUND" : Str) (defScope s_is_table_row).names = some NameKind.globalImplicit := by decide +kernel
abbrev s_are_numbers : Stmt := topS 19
abbrev N_are_numbers : List Str := ["thing", "low", "number"]
abbrev p_are_numbers : List Str := ["thing", "low"]
theorem sc_are_numbers : FnScope N_are_numbers p_are_numbers (defScope s_are_numbers) := ⟨rfl, rfl, rfl, by decide +kernel, rfl, by decide +kernel, by decide +kernel⟩
theorem k_are_numbers_thing : List.lookup ("thing" : Str) (defScope s_are_numbers).names = some NameKind.local := by decide +kernel
theorem k_are_numbers_low : List.lookup ("low" : Str) (defScope s_are_numbers).names = some NameKind.cell := by decide +kernel
theorem k_are_numbers_isinstance : List.lookup ("isinstance" : Str) (defScope s_are_numbers).names = some NameKind.globalImplicit := by decide +kernel
theorem k_are_numbers_tuple : List.lookup ("tuple" : Str) (defScope s_are_numbers).names = some NameKind.globalImplicit := by decide +kernel
theorem k_are_numbers_all : List.lookup ("all" : Str) (defScope s_are_numbers).names = some NameKind.globalImplicit := by decide +kernel
abbrev s_is_turn : Stmt := topS 37
abbrev N_is_turn : List Str := ["turn", "many"]
abbrev p_is_turn : List Str := ["turn", "many"]
theorem sc_is_turn : FnScope N_is_turn p_is_turn (defScope s_is_turn) := ⟨rfl, rfl, rfl, by decide +kernel, rfl, by decide +kernel, by decide +kernel⟩
theorem k_is_turn_turn : List.lookup ("turn" : Str) (defScope s_is_turn).names = some NameKind.local := by decide +kernel
theorem k_is_turn_many : List.lookup ("many" : Str) (defScope s_is_turn).names = some NameKind.local := by decide +kernel
theorem k_is_turn_are_numbers : List.lookup ("are_numbers" : Str) (defScope s_is_turn).names = some NameKind.globalImplicit := by decide +kernel
theorem k_is_turn_len : List.lookup ("len" : Str) (defScope s_is_turn).names = some NameKind.globalImplicit := by decide +kernel
theorem k_is_turn_are_within : List.lookup ("are_within" : Str) (defScope s_is_turn).names = some NameKind.globalImplicit := by decide +kernel
abbrev s_wrong_turn : Stmt := topS 38
abbrev N_wrong_turn : List Str := ["turns", "many", "number", "turn"]
abbrev p_wrong_turn : List Str := ["turns", "many"]
theorem sc_wrong_turn : FnScope N_wrong_turn p_wrong_turn (defScope s_wrong_turn) := ⟨rfl, rfl, rfl, by decide +kernel, rfl, by decide +kernel, by decide +kernel⟩
theorem k_wrong_turn_turns : List.lookup ("turns" : Str) (defScope s_wrong_turn).names = some NameKind.local := by decide +kernel
theorem k_wrong_turn_many : List.lookup ("many" : Str) (defScope s_wrong_turn).names = some NameKind.local := by decide +kernel
theorem k_wrong_turn_number : List.lookup ("number" : Str) (defScope s_wrong_turn).names = some NameKind.local := by decide +kernel
theorem k_wrong_turn_turn : List.lookup ("turn" : Str) (defScope s_wrong_turn).names = some NameKind.local := by decide +kernel
theorem k_wrong_turn_isinstance : List.lookup ("isinstance" : Str) (defScope s_wrong_turn).names = some NameKind.globalImplicit := by decide +kernel
theorem k_wrong_turn_tuple : List.lookup ("tuple" : Str) (defScope s_wrong_turn).names = some NameKind.globalImplicit := by decide +kernel
theorem k_wrong_turn_len : List.lookup ("len" : Str) (defScope s_wrong_turn).names = some NameKind.globalImplicit := by decide +kernel
theorem k_wrong_turn_MOST_TURNS : List.lookup ("MOST_TURNS" : Str) (defScope s_wrong_turn).names = some NameKind.globalImplicit := by decide +kernel
theorem k_wrong_turn_enumerate : List.lookup ("enumerate" : Str) (defScope s_wrong_turn).names = some NameKind.globalImplicit := by decide +kernel
theorem k_wrong_turn_is_turn : List.lookup ("is_turn" : Str) (defScope s_wrong_turn).names = some NameKind.globalImplicit := by decide +kernel
abbrev s_are_rising : Stmt := topS 21
abbrev N_are_rising : List Str := ["numbers", "low", "high"]
abbrev p_are_rising : List Str := ["numbers"]
theorem sc_are_rising : FnScope N_are_rising p_are_rising (defScope s_are_rising) := ⟨rfl, rfl, rfl, by decide +kernel, rfl, by decide +kernel, by decide +kernel⟩
theorem k_are_rising_numbers : List.lookup ("numbers" : Str) (defScope s_are_rising).names = some NameKind.local := by decide +kernel
theorem k_are_rising_all : List.lookup ("all" : Str) (defScope s_are_rising).names = some NameKind.globalImplicit := by decide +kernel
theorem k_are_rising_zip : List.lookup ("zip" : Str) (defScope s_are_rising).names = some NameKind.globalImplicit := by decide +kernel
abbrev s_are_ends : Stmt := topS 39
abbrev N_are_ends : List Str := ["ends", "many"]
abbrev p_are_ends : List Str := ["ends", "many"]
theorem sc_are_ends : FnScope N_are_ends p_are_ends (defScope s_are_ends) := ⟨rfl, rfl, rfl, by decide +kernel, rfl, by decide +kernel, by decide +kernel⟩
theorem k_are_ends_ends : List.lookup ("ends" : Str) (defScope s_are_ends).names = some NameKind.local := by decide +kernel
theorem k_are_ends_many : List.lookup ("many" : Str) (defScope s_are_ends).names = some NameKind.local := by decide +kernel
theorem k_are_ends_are_numbers : List.lookup ("are_numbers" : Str) (defScope s_are_ends).names = some NameKind.globalImplicit := by decide +kernel
theorem k_are_ends_are_within : List.lookup ("are_within" : Str) (defScope s_are_ends).names = some NameKind.globalImplicit := by decide +kernel
theorem k_are_ends_are_rising : List.lookup ("are_rising" : Str) (defScope s_are_ends).names = some NameKind.globalImplicit := by decide +kernel
abbrev s_are_heads : Stmt := topS 40
abbrev N_are_heads : List Str := ["heads", "ends", "many", "head"]
abbrev p_are_heads : List Str := ["heads", "ends", "many"]
theorem sc_are_heads : FnScope N_are_heads p_are_heads (defScope s_are_heads) := ⟨rfl, rfl, rfl, by decide +kernel, rfl, by decide +kernel, by decide +kernel⟩
theorem k_are_heads_heads : List.lookup ("heads" : Str) (defScope s_are_heads).names = some NameKind.local := by decide +kernel
theorem k_are_heads_ends : List.lookup ("ends" : Str) (defScope s_are_heads).names = some NameKind.local := by decide +kernel
theorem k_are_heads_many : List.lookup ("many" : Str) (defScope s_are_heads).names = some NameKind.cell := by decide +kernel
theorem k_are_heads_is_tuple_of : List.lookup ("is_tuple_of" : Str) (defScope s_are_heads).names = some NameKind.globalImplicit := by decide +kernel
theorem k_are_heads_all : List.lookup ("all" : Str) (defScope s_are_heads).names = some NameKind.globalImplicit := by decide +kernel
abbrev s_wrong_place : Stmt := topS 41
abbrev N_wrong_place : List Str := ["rows", "turns", "ends", "heads", "many", "number", "row", "turn"]
abbrev p_wrong_place : List Str := ["rows", "turns", "ends", "heads"]
theorem sc_wrong_place : FnScope N_wrong_place p_wrong_place (defScope s_wrong_place) := ⟨rfl, rfl, rfl, by decide +kernel, rfl, by decide +kernel, by decide +kernel⟩
theorem k_wrong_place_rows : List.lookup ("rows" : Str) (defScope s_wrong_place).names = some NameKind.local := by decide +kernel
theorem k_wrong_place_turns : List.lookup ("turns" : Str) (defScope s_wrong_place).names = some NameKind.local := by decide +kernel
theorem k_wrong_place_ends : List.lookup ("ends" : Str) (defScope s_wrong_place).names = some NameKind.local := by decide +kernel
theorem k_wrong_place_heads : List.lookup ("heads" : Str) (defScope s_wrong_place).names = some NameKind.local := by decide +kernel
theorem k_wrong_place_many : List.lookup ("many" : Str) (defScope s_wrong_place).names = some NameKind.local := by decide +kernel
theorem k_wrong_place_number : List.lookup ("number" : Str) (defScope s_wrong_place).names = some NameKind.local := by decide +kernel
theorem k_wrong_place_row : List.lookup ("row" : Str) (defScope s_wrong_place).names = some NameKind.local := by decide +kernel
theorem k_wrong_place_turn : List.lookup ("turn" : Str) (defScope s_wrong_place).names = some NameKind.local := by decide +kernel
theorem k_wrong_place_is_tuple_of : List.lookup ("is_tuple_of" : Str) (defScope s_wrong_place).names = some NameKind.globalImplicit := by decide +kernel
theorem k_wrong_place_MOST_TOLD : List.lookup ("MOST_TOLD" : Str) (defScope s_wrong_place).names = some NameKind.globalImplicit := by decide +kernel
theorem k_wrong_place_len : List.lookup ("len" : Str) (defScope s_wrong_place).names = some NameKind.globalImplicit := by decide +kernel
theorem k_wrong_place_enumerate : List.lookup ("enumerate" : Str) (defScope s_wrong_place).names = some NameKind.globalImplicit := by decide +kernel
theorem k_wrong_place_is_table_row : List.lookup ("is_table_row" : Str) (defScope s_wrong_place).names = some NameKind.globalImplicit := by decide +kernel
theorem k_wrong_place_wrong_turn : List.lookup ("wrong_turn" : Str) (defScope s_wrong_place).names = some NameKind.globalImplicit := by decide +kernel
theorem k_wrong_place_are_ends : List.lookup ("are_ends" : Str) (defScope s_wrong_place).names = some NameKind.globalImplicit := by decide +kernel
theorem k_wrong_place_are_heads : List.lookup ("are_heads" : Str) (defScope s_wrong_place).names = some NameKind.globalImplicit := by decide +kernel
abbrev s_Told___init__ : Stmt := inClass (topS 42) 0
abbrev N_Told___init__ : List Str := ["self", "rows", "turns", "ends", "heads", "place"]
abbrev p_Told___init__ : List Str := ["self", "rows", "turns", "ends", "heads"]
theorem sc_Told___init__ : FnScope N_Told___init__ p_Told___init__ (defScope s_Told___init__) := ⟨rfl, rfl, rfl, by decide +kernel, rfl, by decide +kernel, by decide +kernel⟩
theorem k_Told___init___self : List.lookup ("self" : Str) (defScope s_Told___init__).names = some NameKind.local := by decide +kernel
theorem k_Told___init___rows : List.lookup ("rows" : Str) (defScope s_Told___init__).names = some NameKind.local := by decide +kernel
theorem k_Told___init___turns : List.lookup ("turns" : Str) (defScope s_Told___init__).names = some NameKind.local := by decide +kernel
theorem k_Told___init___ends : List.lookup ("ends" : Str) (defScope s_Told___init__).names = some NameKind.local := by decide +kernel
theorem k_Told___init___heads : List.lookup ("heads" : Str) (defScope s_Told___init__).names = some NameKind.local := by decide +kernel
theorem k_Told___init___place : List.lookup ("place" : Str) (defScope s_Told___init__).names = some NameKind.local := by decide +kernel
theorem k_Told___init___wrong_place : List.lookup ("wrong_place" : Str) (defScope s_Told___init__).names = some NameKind.globalImplicit := by decide +kernel
theorem k_Told___init___BadTask : List.lookup ("BadTask" : Str) (defScope s_Told___init__).names = some NameKind.globalImplicit := by decide +kernel
abbrev s__law_told : Stmt := topS 55
abbrev N__law_told : List Str := ["_law_data"]
abbrev p__law_told : List Str := ["_law_data"]
theorem sc__law_told : FnScope N__law_told p__law_told (defScope s__law_told) := ⟨rfl, rfl, rfl, by decide +kernel, rfl, by decide +kernel, by decide +kernel⟩
theorem k__law_told__law_data : List.lookup ("_law_data" : Str) (defScope s__law_told).names = some NameKind.local := by decide +kernel
theorem k__law_told_Told : List.lookup ("Told" : Str) (defScope s__law_told).names = some NameKind.globalImplicit := by decide +kernel
abbrev s_Told_named : Stmt := inClass (topS 42) 8
abbrev N_Told_named : List Str := ["self", "standing"]
abbrev p_Told_named : List Str := ["self", "standing"]
theorem sc_Told_named : FnScope N_Told_named p_Told_named (defScope s_Told_named) := ⟨rfl, rfl, rfl, by decide +kernel, rfl, by decide +kernel, by decide +kernel⟩
theorem k_Told_named_self : List.lookup ("self" : Str) (defScope s_Told_named).names = some NameKind.local := by decide +kernel
theorem k_Told_named_standing : List.lookup ("standing" : Str) (defScope s_Told_named).names = some NameKind.local := by decide +kernel
theorem k_Told_named_NAME : List.lookup ("NAME" : Str) (defScope s_Told_named).names = some NameKind.globalImplicit := by decide +kernel
abbrev s_Told_turnings : Stmt := inClass (topS 42) 11
abbrev N_Told_turnings : List Str := ["self"]
abbrev p_Told_turnings : List Str := ["self"]
theorem sc_Told_turnings : FnScope N_Told_turnings p_Told_turnings (defScope s_Told_turnings) := ⟨rfl, rfl, rfl, by decide +kernel, rfl, by decide +kernel, by decide +kernel⟩
theorem k_Told_turnings_self : List.lookup ("self" : Str) (defScope s_Told_turnings).names = some NameKind.local := by decide +kernel
theorem k_Told_turnings_len : List.lookup ("len" : Str) (defScope s_Told_turnings).names = some NameKind.globalImplicit := by decide +kernel
abbrev s_Told_turned : Stmt := inClass (topS 42) 12
abbrev N_Told_turned : List Str := ["self", "number", "standing"]
abbrev p_Told_turned : List Str := ["self", "number", "standing"]
theorem sc_Told_turned : FnScope N_Told_turned p_Told_turned (defScope s_Told_turned) := ⟨rfl, rfl, rfl, by decide +kernel, rfl, by decide +kernel, by decide +kernel⟩
theorem k_Told_turned_self : List.lookup ("self" : Str) (defScope s_Told_turned).names = some NameKind.local := by decide +kernel
theorem k_Told_turned_number : List.lookup ("number" : Str) (defScope s_Told_turned).names = some NameKind.local := by decide +kernel
theorem k_Told_turned_standing : List.lookup ("standing" : Str) (defScope s_Told_turned).names = some NameKind.local := by decide +kernel
abbrev s_all_turned : Stmt := topS 6
abbrev N_all_turned : List Str := ["task", "standing", "met", "waiting", "one", "number", "other"]
abbrev p_all_turned : List Str := ["task", "standing"]
theorem sc_all_turned : FnScope N_all_turned p_all_turned (defScope s_all_turned) := ⟨rfl, rfl, rfl, by decide +kernel, rfl, by decide +kernel, by decide +kernel⟩
theorem k_all_turned_task : List.lookup ("task" : Str) (defScope s_all_turned).names = some NameKind.local := by decide +kernel
theorem k_all_turned_standing : List.lookup ("standing" : Str) (defScope s_all_turned).names = some NameKind.local := by decide +kernel
theorem k_all_turned_met : List.lookup ("met" : Str) (defScope s_all_turned).names = some NameKind.local := by decide +kernel
theorem k_all_turned_waiting : List.lookup ("waiting" : Str) (defScope s_all_turned).names = some NameKind.local := by decide +kernel
theorem k_all_turned_one : List.lookup ("one" : Str) (defScope s_all_turned).names = some NameKind.local := by decide +kernel
theorem k_all_turned_number : List.lookup ("number" : Str) (defScope s_all_turned).names = some NameKind.local := by decide +kernel
theorem k_all_turned_other : List.lookup ("other" : Str) (defScope s_all_turned).names = some NameKind.local := by decide +kernel
theorem k_all_turned_range : List.lookup ("range" : Str) (defScope s_all_turned).names = some NameKind.globalImplicit := by decide +kernel
theorem k_all_turned_list : List.lookup ("list" : Str) (defScope s_all_turned).names = some NameKind.globalImplicit := by decide +kernel
abbrev s_label : Stmt := topS 5
abbrev N_label : List Str := ["task", "word", "standing", "one"]
abbrev p_label : List Str := ["task", "word", "standing"]
theorem sc_label : FnScope N_label p_label (defScope s_label) := ⟨rfl, rfl, rfl, by decide +kernel, rfl, by decide +kernel, by decide +kernel⟩
theorem k_label_task : List.lookup ("task" : Str) (defScope s_label).names = some NameKind.cell := by decide +kernel
theorem k_label_word : List.lookup ("word" : Str) (defScope s_label).names = some NameKind.local := by decide +kernel
theorem k_label_standing : List.lookup ("standing" : Str) (defScope s_label).names = some NameKind.local := by decide +kernel
theorem k_label_min : List.lookup ("min" : Str) (defScope s_label).names = some NameKind.globalImplicit := by decide +kernel
theorem k_label_all_turned : List.lookup ("all_turned" : Str) (defScope s_label).names = some NameKind.globalImplicit := by decide +kernel
abbrev s__law_label : Stmt := topS 54
abbrev N__law_label : List Str := ["_law_data", "_law_word", "_law_at", "_law_rows", "_law_maps_by", "_law_stops", "_law_fronts", "_law_seen", "_law_left", "_law_one", "_law_own"]
abbrev p__law_label : List Str := ["_law_data", "_law_word", "_law_at"]
theorem sc__law_label : FnScope N__law_label p__law_label (defScope s__law_label) := ⟨rfl, rfl, rfl, by decide +kernel, rfl, by decide +kernel, by decide +kernel⟩
theorem k__law_label__law_data : List.lookup ("_law_data" : Str) (defScope s__law_label).names = some NameKind.local := by decide +kernel
theorem k__law_label__law_word : List.lookup ("_law_word" : Str) (defScope s__law_label).names = some NameKind.local := by decide +kernel
theorem k__law_label__law_at : List.lookup ("_law_at" : Str) (defScope s__law_label).names = some NameKind.local := by decide +kernel
theorem k__law_label__law_rows : List.lookup ("_law_rows" : Str) (defScope s__law_label).names = some NameKind.cell := by decide +kernel
theorem k__law_label__law_maps_by : List.lookup ("_law_maps_by" : Str) (defScope s__law_label).names = some NameKind.local := by decide +kernel
theorem k__law_label__law_stops : List.lookup ("_law_stops" : Str) (defScope s__law_label).names = some NameKind.local := by decide +kernel
theorem k__law_label__law_fronts : List.lookup ("_law_fronts" : Str) (defScope s__law_label).names = some NameKind.local := by decide +kernel
theorem k__law_label__law_seen : List.lookup ("_law_seen" : Str) (defScope s__law_label).names = some NameKind.local := by decide +kernel
theorem k__law_label__law_left : List.lookup ("_law_left" : Str) (defScope s__law_label).names = some NameKind.local := by decide +kernel
theorem k__law_label__law_one : List.lookup ("_law_one" : Str) (defScope s__law_label).names = some NameKind.local := by decide +kernel
theorem k__law_label__law_own : List.lookup ("_law_own" : Str) (defScope s__law_label).names = some NameKind.local := by decide +kernel
theorem k__law_label_min : List.lookup ("min" : Str) (defScope s__law_label).names = some NameKind.globalImplicit := by decide +kernel
abbrev s_law : Stmt := topS 57
abbrev N_law : List Str := ["_law_script", "_law_deck_here", "_law_rows", "_law_maps_by", "_law_stops", "_law_fronts", "_law_shared", "_law_named", "_law_row", "_law_data", "_law_task_here", "_law_at", "_law_word", "_law_found"]
abbrev p_law : List Str := ["_law_script"]
theorem sc_law : FnScope N_law p_law (defScope s_law) := ⟨rfl, rfl, rfl, by decide +kernel, rfl, by decide +kernel, by decide +kernel⟩
theorem k_law__law_script : List.lookup ("_law_script" : Str) (defScope s_law).names = some NameKind.local := by decide +kernel
theorem k_law__law_deck_here : List.lookup ("_law_deck_here" : Str) (defScope s_law).names = some NameKind.local := by decide +kernel
theorem k_law__law_rows : List.lookup ("_law_rows" : Str) (defScope s_law).names = some NameKind.local := by decide +kernel
theorem k_law__law_maps_by : List.lookup ("_law_maps_by" : Str) (defScope s_law).names = some NameKind.local := by decide +kernel
theorem k_law__law_stops : List.lookup ("_law_stops" : Str) (defScope s_law).names = some NameKind.local := by decide +kernel
theorem k_law__law_fronts : List.lookup ("_law_fronts" : Str) (defScope s_law).names = some NameKind.local := by decide +kernel
theorem k_law__law_shared : List.lookup ("_law_shared" : Str) (defScope s_law).names = some NameKind.local := by decide +kernel
theorem k_law__law_named : List.lookup ("_law_named" : Str) (defScope s_law).names = some NameKind.local := by decide +kernel
theorem k_law__law_row : List.lookup ("_law_row" : Str) (defScope s_law).names = some NameKind.local := by decide +kernel
theorem k_law__law_data : List.lookup ("_law_data" : Str) (defScope s_law).names = some NameKind.local := by decide +kernel
theorem k_law__law_task_here : List.lookup ("_law_task_here" : Str) (defScope s_law).names = some NameKind.local := by decide +kernel
theorem k_law__law_at : List.lookup ("_law_at" : Str) (defScope s_law).names = some NameKind.local := by decide +kernel
theorem k_law__law_word : List.lookup ("_law_word" : Str) (defScope s_law).names = some NameKind.local := by decide +kernel
theorem k_law__law_found : List.lookup ("_law_found" : Str) (defScope s_law).names = some NameKind.local := by decide +kernel
theorem k_law__law_deck : List.lookup ("_law_deck" : Str) (defScope s_law).names = some NameKind.globalImplicit := by decide +kernel
theorem k_law__law_task : List.lookup ("_law_task" : Str) (defScope s_law).names = some NameKind.globalImplicit := by decide +kernel
theorem k_law__law_next : List.lookup ("_law_next" : Str) (defScope s_law).names = some NameKind.globalImplicit := by decide +kernel
theorem k_law__law_maps : List.lookup ("_law_maps" : Str) (defScope s_law).names = some NameKind.globalImplicit := by decide +kernel
theorem k_law_len : List.lookup ("len" : Str) (defScope s_law).names = some NameKind.globalImplicit := by decide +kernel
theorem k_law_int : List.lookup ("int" : Str) (defScope s_law).names = some NameKind.globalImplicit := by decide +kernel
theorem k_law_tuple : List.lookup ("tuple" : Str) (defScope s_law).names = some NameKind.globalImplicit := by decide +kernel
theorem k_law__law_told : List.lookup ("_law_told" : Str) (defScope s_law).names = some NameKind.globalImplicit := by decide +kernel
theorem k_law_range : List.lookup ("range" : Str) (defScope s_law).names = some NameKind.globalImplicit := by decide +kernel
theorem k_law_label : List.lookup ("label" : Str) (defScope s_law).names = some NameKind.globalImplicit := by decide +kernel
theorem k_law_repr : List.lookup ("repr" : Str) (defScope s_law).names = some NameKind.globalImplicit := by decide +kernel
theorem k_law__law_label : List.lookup ("_law_label" : Str) (defScope s_law).names = some NameKind.globalImplicit := by decide +kernel
end K04

namespace K04
open PySem PySem.Spec PyProof.Rows L2 Sd
def m__law_deck : M Fl := sq (bd (ret []) fun l => if l.length ≤ 100000 then bd (stL 1 l) fun _ => ret .nx else fl) (sq (bd (bd (bd (bd (rd 0) fun x => bd (ret []) fun xs => ret (x :: xs)) fun ds => lf (lenF ds)) fun x => bd (ret []) fun xs => ret (x :: xs)) fun l => if l.length ≤ 100000 then bd (stL 2 l) fun _ => ret .nx else fl) (sq (forM (st 3) (bd (bd (rd 0) fun x => bd (ret none) fun i => bd (bd (ret (.int 63)) fun i => bd (lf (isI i)) fun k => ret (some k)) fun j => lf (slD x i j)) itM) (sq (asM 3 (bd (bd (rd 3) fun x => bd (ret []) fun xs => ret (x :: xs)) fun ds => lf (absF ds))) (sq (appM 2 (bd (rd 3) fun x => bd (ret (.int 2147483629)) fun y => lf (modD x y))) (whGo (andT (bd (rd 3) fun x => bd (bd (ret (.int 10)) fun x => bd (ret (.int 18)) fun y => lf (powD x y)) fun y => lf ((geD x y).bind isB)) (bd (bd (slotM 1) fun l => ret (.int l.length)) fun x => bd (ret (.int 900)) fun y => lf ((ltD x y).bind isB))) (sq (appM 1 (bd (rd 3) fun x => bd (ret (.int 2147483629)) fun y => lf (modD x y))) (asM 3 (bd (rd 3) fun x => bd (ret (.int 2147483629)) fun y => lf (fdivD x y)))) 100000)))) (rtM (bd (bd (mvS 1) fun x => bd (bd (rd 2) fun x => bd (bd (ret (.int 0)) fun x => bd (ret []) fun xs => ret (x :: xs)) fun xs => ret (x :: xs)) fun xs => ret (x :: xs)) lstS))))
def d__law_deck : Mn := runD 1 4 m__law_deck
def m__law_next : M Fl := sq (ifM (bd (bd (hasS 0) fun _ => bd (ret (.int 0)) fun i => bd (lf (isI i)) fun k => bd (slotM 0) fun l => lf (atI l k)) fun x => bd (nilM x) fun t => ret (!t)) (rtM (bd (bd (hasS 0) fun _ => bd (ret (.int 0)) fun i => bd (lf (isI i)) fun k => bd (slotM 0) fun l => lf (atI l k)) popZ)) (ret .nx)) (sq (asM 1 (bd (hasS 0) fun _ => bd (ret (.int 2)) fun i => bd (lf (isI i)) fun k => bd (slotM 0) fun l => lf (atI l k))) (sq (setM 0 (bd (rd 1) fun x => bd (ret (.int 1)) fun y => lf (addD x y)) (ret (.int 2))) (sq (asM 2 (bd (bd (bd (hasS 0) fun _ => bd (ret (.int 1)) fun i => bd (lf (isI i)) fun k => bd (slotM 0) fun l => lf (atI l k)) fun x => bd (bd (bd (rd 1) fun x => bd (ret (.int 1)) fun y => lf (addD x y)) fun x => bd (bd (bd (bd (hasS 0) fun _ => bd (ret (.int 1)) fun i => bd (lf (isI i)) fun k => bd (slotM 0) fun l => lf (atI l k)) fun x => bd (ret []) fun xs => ret (x :: xs)) fun ds => lf (lenF ds)) fun y => lf (modD x y)) fun i => bd (lf (isI i)) fun k => bd (seqM x) fun l => lf (atI l k)) fun x => bd (bd (ret (.int 7)) fun x => bd (rd 1) fun y => lf (mulD x y)) fun y => lf (addD x y))) (rtM (bd (bd (bd (bd (bd (rd 2) fun x => bd (bd (ret (.int 48271)) fun x => bd (bd (rd 1) fun x => bd (ret (.int 1)) fun y => lf (addD x y)) fun y => lf (mulD x y)) fun y => lf (addD x y)) fun x => bd (ret (.int 5)) fun y => lf (powD x y)) fun x => bd (ret (.int 2147483647)) fun y => lf (modD x y)) fun x => bd (bd (ret (.int 69621)) fun x => bd (rd 2) fun y => lf (mulD x y)) fun y => lf (addD x y)) fun x => bd (ret (.int 2147483629)) fun y => lf (modD x y))))))
def d__law_next : Mn := runD 1 3 m__law_next
def m__law_classes : M Fl := sq (asM 2 (bd (ret (.int 2)) fun x => bd (bd (bd (bd (rd 0) fun x => bd (ret []) fun xs => ret (x :: xs)) fun ds => callM d__law_next ds) fun x => bd (bd (rd 1) fun x => bd (ret (.int 1)) fun y => lf (subD x y)) fun y => lf (modD x y)) fun y => lf (addD x y))) (sq (asM 3 (bd (bd (bd (bd (bd (ret (.int 0)) fun x => bd (bd (ret (.int 1)) fun x => bd (bd (ret (.int 1)) fun x => bd (bd (ret (.int 2)) fun x => bd (bd (ret (.int 3)) fun x => bd (bd (ret (.int 5)) fun x => bd (ret []) fun xs => ret (x :: xs)) fun xs => ret (x :: xs)) fun xs => ret (x :: xs)) fun xs => ret (x :: xs)) fun xs => ret (x :: xs)) fun xs => ret (x :: xs)) fun xs => lf (few xs (.lst xs))) fun x => bd (bd (bd (bd (ret (.int 1)) fun x => bd (bd (ret (.int 1)) fun x => bd (bd (ret (.int 1)) fun x => bd (bd (ret (.int 1)) fun x => bd (ret []) fun xs => ret (x :: xs)) fun xs => ret (x :: xs)) fun xs => ret (x :: xs)) fun xs => ret (x :: xs)) fun xs => lf (few xs (.lst xs))) fun x => bd (bd (bd (bd (ret (.int 0)) fun x => bd (bd (ret (.int 0)) fun x => bd (bd (ret (.int 1)) fun x => bd (bd (ret (.int 9)) fun x => bd (ret []) fun xs => ret (x :: xs)) fun xs => ret (x :: xs)) fun xs => ret (x :: xs)) fun xs => ret (x :: xs)) fun xs => lf (few xs (.lst xs))) fun x => bd (bd (bd (bd (ret (.int 1)) fun x => bd (bd (ret (.int 2)) fun x => bd (bd (ret (.int 3)) fun x => bd (bd (ret (.int 4)) fun x => bd (bd (ret (.int 7)) fun x => bd (bd (ret (.int 9)) fun x => bd (ret []) fun xs => ret (x :: xs)) fun xs => ret (x :: xs)) fun xs => ret (x :: xs)) fun xs => ret (x :: xs)) fun xs => ret (x :: xs)) fun xs => ret (x :: xs)) fun xs => lf (few xs (.lst xs))) fun x => bd (ret []) fun xs => ret (x :: xs)) fun xs => ret (x :: xs)) fun xs => ret (x :: xs)) fun xs => ret (x :: xs)) fun xs => lf (few xs (.lst xs))) fun x => bd (bd (bd (bd (rd 0) fun x => bd (ret []) fun xs => ret (x :: xs)) fun ds => callM d__law_next ds) fun x => bd (ret (.int 4)) fun y => lf (modD x y)) fun i => bd (lf (isI i)) fun k => bd (seqM x) fun l => lf (atI l k))) (sq (bd (ret []) fun l => if l.length ≤ 100000 then bd (stL 4 l) fun _ => ret .nx else fl) (sq (forM (st 5) (bd (rd 2) fun x => lf (rng1 x)) (sq (asM 6 (bd (bd (rd 0) fun x => bd (ret []) fun xs => ret (x :: xs)) fun ds => callM d__law_next ds)) (sq (asM 7 (bd (bd (bd (bd (bd (rd 6) fun x => bd (ret (.int 12)) fun y => lf (modD x y)) fun x => bd (ret (.int 0)) fun y => lf (eqD x y)) fun x => bd (bd (bd (bd (rd 6) fun x => bd (ret (.int 4)) fun y => lf (modD x y)) fun x => bd (ret (.int 0)) fun y => lf (eqD x y)) fun x => bd (ret []) fun xs => ret (x :: xs)) fun xs => ret (x :: xs)) fun xs => lf (few xs (.lst xs))) fun x => bd (bd (bd (bd (rd 5) fun x => bd (ret (.int 0)) fun y => lf (gtD x y)) fun x => bd (ret []) fun xs => ret (x :: xs)) fun ds => lf (intF ds)) fun i => bd (lf (isI i)) fun k => bd (seqM x) fun l => lf (atI l k))) (sq (bd (ret []) fun l => if l.length ≤ 100000 then bd (stL 8 l) fun _ => ret .nx else fl) (sq (forM (st 9) (bd (bd (bd (bd (ret (.int 1)) fun x => bd (bd (ret (.int 2)) fun x => bd (bd (ret (.int 2)) fun x => bd (bd (ret (.int 3)) fun x => bd (bd (ret (.int 0)) fun x => bd (bd (ret (.int 3)) fun x => bd (bd (ret (.int 4)) fun x => bd (ret []) fun xs => ret (x :: xs)) fun xs => ret (x :: xs)) fun xs => ret (x :: xs)) fun xs => ret (x :: xs)) fun xs => ret (x :: xs)) fun xs => ret (x :: xs)) fun xs => ret (x :: xs)) fun xs => lf (few xs (.lst xs))) fun x => bd (bd (bd (rd 6) fun x => bd (ret (.int 12)) fun y => lf (fdivD x y)) fun x => bd (ret (.int 7)) fun y => lf (modD x y)) fun i => bd (lf (isI i)) fun k => bd (seqM x) fun l => lf (atI l k)) fun x => lf (rng1 x)) (sq (asM 10 (bd (bd (rd 0) fun x => bd (ret []) fun xs => ret (x :: xs)) fun ds => callM d__law_next ds)) (appM 8 (bd (bd (bd (hasS 3) fun _ => bd (bd (rd 10) fun x => bd (bd (bd (rd 3) fun x => bd (ret []) fun xs => ret (x :: xs)) fun ds => lf (lenF ds)) fun y => lf (modD x y)) fun i => bd (lf (isI i)) fun k => bd (slotM 3) fun l => lf (atI l k)) fun x => bd (bd (bd (bd (rd 10) fun x => bd (ret (.int 8)) fun y => lf (fdivD x y)) fun x => bd (rd 2) fun y => lf (modD x y)) fun x => bd (ret []) fun xs => ret (x :: xs)) fun xs => ret (x :: xs)) fun xs => lf (few xs (.tup xs)))))) (appM 4 (bd (bd (rd 7) fun x => bd (bd (rd 8) fun x => bd (ret []) fun xs => ret (x :: xs)) fun xs => ret (x :: xs)) fun xs => lf (few xs (.tup xs))))))))) (rtM (rd 4)))))
def d__law_classes : Mn := runD 2 11 m__law_classes
def m__law_rests : M Fl := sq (asL 1 (lcM [8] (st 8) (ret true) (bd (bd (bd (ret .non) fun x => bd (bd (ret (.int 0)) fun x => bd (ret []) fun xs => ret (x :: xs)) fun xs => ret (x :: xs)) fun xs => lf (few xs (.lst xs))) fun x => bd (bd (bd (bd (hasS 8) fun _ => bd (ret (.int 0)) fun i => bd (lf (isI i)) fun k => bd (slotM 8) fun l => lf (atI l k)) fun x => bd (ret []) fun xs => ret (x :: xs)) fun ds => lf (intF ds)) fun i => bd (lf (isI i)) fun k => bd (seqM x) fun l => lf (atI l k)) (bd (rd 0) itM))) (sq (forM (st 2) (bd (rd 0) itM) (forM (tsT 2 (tsC (st 3) (tsC (tsT 2 (tsC (st 4) (tsC (st 5) (tsN)))) (tsN)))) (bd (rd 0) fun x => bd (itM x) fun l => ret (numD l)) (forM (tsT 2 (tsC (st 6) (tsC (st 7) (tsN)))) (bd (rd 5) itM) (ifM (andT (bd (bd (rd 4) fun x => lf (isB x)) fun t => ret (!t)) (bd (bd (hasS 1) fun _ => bd (rd 7) fun i => bd (lf (isI i)) fun k => bd (slotM 1) fun l => lf (atI l k)) fun x => bd (ret .non) fun y => lf ((isNotD x y).bind isB))) (ifM (orT (bd (bd (hasS 1) fun _ => bd (rd 3) fun i => bd (lf (isI i)) fun k => bd (slotM 1) fun l => lf (atI l k)) fun x => bd (ret .non) fun y => lf ((isD x y).bind isB)) (bd (bd (rd 6) fun x => bd (bd (hasS 1) fun _ => bd (rd 7) fun i => bd (lf (isI i)) fun k => bd (slotM 1) fun l => lf (atI l k)) fun y => lf (addD x y)) fun x => bd (bd (hasS 1) fun _ => bd (rd 3) fun i => bd (lf (isI i)) fun k => bd (slotM 1) fun l => lf (atI l k)) fun y => lf ((ltD x y).bind isB))) (setM 1 (bd (rd 6) fun x => bd (bd (hasS 1) fun _ => bd (rd 7) fun i => bd (lf (isI i)) fun k => bd (slotM 1) fun l => lf (atI l k)) fun y => lf (addD x y)) (rd 3)) (ret .nx)) (ret .nx))))) (rtM (rd 1)))
def d__law_rests : Mn := runD 1 9 m__law_rests
def m__law_bounds : M Fl := sq (asM 2 (bd (bd (rd 0) fun x => bd (ret []) fun xs => ret (x :: xs)) fun ds => callM d__law_next ds)) (sq (tgM (tsT 2 (tsC (st 3) (tsC (st 4) (tsN)))) (bd (bd (bd (bd (bd (ret (.int 1)) fun x => bd (bd (ret (.int 1)) fun x => bd (ret []) fun xs => ret (x :: xs)) fun xs => ret (x :: xs)) fun xs => lf (few xs (.tup xs))) fun x => bd (bd (bd (bd (ret (.int 1)) fun x => bd (bd (ret (.int 2)) fun x => bd (ret []) fun xs => ret (x :: xs)) fun xs => ret (x :: xs)) fun xs => lf (few xs (.tup xs))) fun x => bd (bd (bd (bd (ret (.int 2)) fun x => bd (bd (ret (.int 3)) fun x => bd (ret []) fun xs => ret (x :: xs)) fun xs => ret (x :: xs)) fun xs => lf (few xs (.tup xs))) fun x => bd (bd (bd (bd (ret (.int 0)) fun x => bd (bd (ret (.int 1)) fun x => bd (ret []) fun xs => ret (x :: xs)) fun xs => ret (x :: xs)) fun xs => lf (few xs (.tup xs))) fun x => bd (bd (bd (bd (ret (.int 1)) fun x => bd (bd (ret (.int 1)) fun x => bd (ret []) fun xs => ret (x :: xs)) fun xs => ret (x :: xs)) fun xs => lf (few xs (.tup xs))) fun x => bd (bd (bd (bd (ret (.int 1)) fun x => bd (bd (ret (.int 3)) fun x => bd (ret []) fun xs => ret (x :: xs)) fun xs => ret (x :: xs)) fun xs => lf (few xs (.tup xs))) fun x => bd (ret []) fun xs => ret (x :: xs)) fun xs => ret (x :: xs)) fun xs => ret (x :: xs)) fun xs => ret (x :: xs)) fun xs => ret (x :: xs)) fun xs => ret (x :: xs)) fun xs => lf (few xs (.lst xs))) fun x => bd (bd (rd 2) fun x => bd (ret (.int 6)) fun y => lf (modD x y)) fun i => bd (lf (isI i)) fun k => bd (seqM x) fun l => lf (atI l k))) (sq (asM 6 (bd (bd (bd (bd (bd (ret (.int 0)) fun x => bd (ret []) fun xs => ret (x :: xs)) fun xs => lf (few xs (.lst xs))) fun x => bd (bd (lcM [5] (st 5) (bd (rd 5) fun x => bd (ret .non) fun y => lf ((isNotD x y).bind isB)) (rd 5) (bd (rd 1) itM)) fun l => ret (.lst l)) fun y => lf (addD x y)) fun x => bd (ret []) fun xs => ret (x :: xs)) fun ds => lf (maxF ds))) (sq (bd (ret []) fun l => if l.length ≤ 100000 then bd (stL 7 l) fun _ => ret .nx else fl) (sq (forM (st 5) (bd (rd 1) itM) (ifM (bd (rd 5) fun x => bd (ret .non) fun y => lf ((isD x y).bind isB)) (appM 7 (bd (rd 6) fun x => bd (bd (bd (rd 2) fun x => bd (ret (.int 6)) fun y => lf (fdivD x y)) fun x => bd (ret (.int 5)) fun y => lf (modD x y)) fun y => lf (addD x y))) (appM 7 (bd (bd (rd 5) fun x => bd (rd 3) fun y => lf (mulD x y)) fun x => bd (rd 4) fun y => lf (fdivD x y))))) (rtM (rd 7))))))
def d__law_bounds : Mn := runD 2 8 m__law_bounds
def m__law_cuts : M Fl := sq (asM 3 (bd (bd (rd 0) fun x => bd (ret []) fun xs => ret (x :: xs)) fun ds => callM d__law_next ds)) (sq (asL 5 (lcM [4, 11] (tsT 2 (tsC (st 4) (tsC (st 11) (tsN)))) (ret true) (andM (bd (rd 11) fun x => bd (ret .non) fun y => lf (isD x y)) (andM (bd (bd (bd (rd 3) fun x => bd (bd (ret (.int 2)) fun x => bd (rd 4) fun y => lf (addD x y)) fun y => lf (fdivD x y)) fun x => bd (ret (.int 3)) fun y => lf (modD x y)) fun x => bd (ret (.int 0)) fun y => lf (gtD x y)) (bd (bd (rd 3) fun x => bd (ret (.int 4)) fun y => lf (modD x y)) fun x => bd (ret (.int 0)) fun y => lf (gtD x y)))) (bd (rd 2) fun x => bd (itM x) fun l => ret (numD l)))) (sq (forM (st 6) (bd (rd 1) itM) (forM (tsT 2 (tsC (st 4) (tsC (tsT 2 (tsC (st 7) (tsC (st 8) (tsN)))) (tsN)))) (bd (rd 1) fun x => bd (itM x) fun l => ret (numD l)) (forM (tsT 2 (tsC (st 9) (tsC (st 10) (tsN)))) (bd (rd 8) itM) (ifM (bd (bd (hasS 5) fun _ => bd (rd 4) fun i => bd (lf (isI i)) fun k => bd (slotM 5) fun l => lf (atI l k)) fun x => lf (isB x)) (setM 5 (ret (.bl true)) (rd 10)) (ret .nx))))) (rtM (rd 5))))
def d__law_cuts : Mn := runD 3 12 m__law_cuts
def m__law_variants : M Fl := sq (bd (ret []) fun l => if l.length ≤ 100000 then bd (stL 3 l) fun _ => ret .nx else fl) (sq (asM 4 (ret (.int 0))) (sq (forM (st 5) (bd (rd 1) fun x => lf (rng1 x)) (sq (bd (ret []) fun l => if l.length ≤ 100000 then bd (stL 6 l) fun _ => ret .nx else fl) (sq (forM (st 7) (bd (rd 2) fun x => lf (rng1 x)) (sq (asM 8 (bd (ret (.int 1)) fun x => bd (bd (bd (bd (bd (bd (bd (rd 0) fun x => bd (ret []) fun xs => ret (x :: xs)) fun ds => callM d__law_next ds) fun x => bd (ret (.int 4)) fun y => lf (modD x y)) fun x => bd (ret (.int 0)) fun y => lf (eqD x y)) fun x => bd (ret []) fun xs => ret (x :: xs)) fun ds => lf (intF ds)) fun y => lf (addD x y))) (sq (appM 6 (bd (rd 4) fun x => bd (bd (rd 4) fun x => bd (rd 8) fun y => lf (addD x y)) fun y => bd (lf (rgD x y)) fun l => ret (.lst l))) (asM 4 (bd (rd 4) fun x => bd (rd 8) fun y => lf (addD x y)))))) (appM 3 (rd 6))))) (rtM (rd 3))))
def d__law_variants : Mn := runD 3 9 m__law_variants
def m__law_some : M Fl := rtM (bd (hasS 1) fun _ => bd (bd (bd (bd (rd 0) fun x => bd (ret []) fun xs => ret (x :: xs)) fun ds => callM d__law_next ds) fun x => bd (bd (bd (rd 1) fun x => bd (ret []) fun xs => ret (x :: xs)) fun ds => lf (lenF ds)) fun y => lf (modD x y)) fun i => bd (lf (isI i)) fun k => bd (slotM 1) fun l => lf (atI l k))
def d__law_some : Mn := runD 2 2 m__law_some
def m__law_ends : M Fl := sq (asM 3 (bd (bd (bd (lcM [1, 2] (tsT 2 (tsC (st 1) (tsC (st 2) (tsN)))) (bd (bd (hasS 2) fun _ => bd (ret (.int 1)) fun i => bd (lf (isI i)) fun k => bd (slotM 2) fun l => lf (atI l k)) fun x => lf (isB x)) (rd 1) (bd (rd 0) fun x => bd (itM x) fun l => ret (numD l))) fun l => ret (.lst l)) fun x => bd (ret []) fun xs => ret (x :: xs)) fun ds => lf (tupleF ds))) (sq (bd (ret []) fun l => if l.length ≤ 100000 then bd (stL 4 l) fun _ => ret .nx else fl) (sq (forM (st 5) (bd (bd (bd (rd 0) fun x => bd (ret []) fun xs => ret (x :: xs)) fun ds => lf (lenF ds)) fun x => lf (rng1 x)) (sq (asM 6 (bd (ret []) fun xs => lf (few xs (.lst xs)))) (sq (forM (tsT 2 (tsC (st 1) (tsC (st 2) (tsN)))) (bd (rd 0) fun x => bd (itM x) fun l => ret (numD l)) (asM 6 (bd (rd 6) fun x => bd (bd (lcM [7, 8] (tsT 2 (tsC (st 7) (tsC (st 8) (tsN)))) (andT (bd (rd 8) fun x => bd (rd 5) fun y => lf ((eqD x y).bind isB)) (bd (bd (bd (hasS 2) fun _ => bd (ret (.int 1)) fun i => bd (lf (isI i)) fun k => bd (slotM 2) fun l => lf (atI l k)) fun x => lf (isB x)) fun t => ret (!t))) (bd (bd (rd 7) fun x => bd (bd (rd 1) fun x => bd (ret []) fun xs => ret (x :: xs)) fun xs => ret (x :: xs)) fun xs => lf (few xs (.tup xs))) (bd (bd (hasS 2) fun _ => bd (ret (.int 0)) fun i => bd (lf (isI i)) fun k => bd (slotM 2) fun l => lf (atI l k)) itM)) fun l => ret (.lst l)) fun y => lf (addD x y)))) (appM 4 (bd (bd (rd 6) fun x => bd (ret []) fun xs => ret (x :: xs)) fun ds => lf (tupleF ds)))))) (rtM (bd (bd (rd 3) fun x => bd (bd (bd (bd (rd 4) fun x => bd (ret []) fun xs => ret (x :: xs)) fun ds => lf (tupleF ds)) fun x => bd (ret []) fun xs => ret (x :: xs)) fun xs => ret (x :: xs)) fun xs => lf (few xs (.tup xs))))))
def d__law_ends : Mn := runD 1 9 m__law_ends
def m__law_task : M Fl := sq (asM 2 (bd (bd (rd 0) fun x => bd (bd (rd 1) fun x => bd (ret []) fun xs => ret (x :: xs)) fun xs => ret (x :: xs)) fun ds => callM d__law_classes ds)) (sq (asM 3 (bd (bd (rd 2) fun x => bd (ret []) fun xs => ret (x :: xs)) fun ds => callM d__law_rests ds)) (sq (asM 4 (bd (bd (rd 0) fun x => bd (bd (rd 3) fun x => bd (ret []) fun xs => ret (x :: xs)) fun xs => ret (x :: xs)) fun ds => callM d__law_bounds ds)) (sq (asM 5 (bd (bd (rd 0) fun x => bd (bd (rd 2) fun x => bd (bd (rd 3) fun x => bd (ret []) fun xs => ret (x :: xs)) fun xs => ret (x :: xs)) fun xs => ret (x :: xs)) fun ds => callM d__law_cuts ds)) (sq (asM 6 (bd (ret (.int 1)) fun x => bd (bd (bd (bd (rd 0) fun x => bd (ret []) fun xs => ret (x :: xs)) fun ds => callM d__law_next ds) fun x => bd (ret (.int 2)) fun y => lf (modD x y)) fun y => lf (addD x y))) (sq (asM 7 (bd (bd (rd 0) fun x => bd (bd (bd (bd (rd 2) fun x => bd (ret []) fun xs => ret (x :: xs)) fun ds => lf (lenF ds)) fun x => bd (bd (rd 6) fun x => bd (ret []) fun xs => ret (x :: xs)) fun xs => ret (x :: xs)) fun xs => ret (x :: xs)) fun ds => callM d__law_variants ds)) (sq (bd (ret []) fun l => if l.length ≤ 100000 then bd (stL 8 l) fun _ => ret .nx else fl) (sq (bd (ret []) fun l => if l.length ≤ 100000 then bd (stL 9 l) fun _ => ret .nx else fl) (sq (forM (tsT 2 (tsC (st 10) (tsC (tsT 2 (tsC (st 11) (tsC (st 12) (tsN)))) (tsN)))) (bd (rd 2) fun x => bd (itM x) fun l => ret (numD l)) (forM (st 13) (bd (rd 6) fun x => lf (rng1 x)) (sq (asM 14 (bd (bd (rd 0) fun x => bd (ret []) fun xs => ret (x :: xs)) fun ds => callM d__law_next ds)) (sq (asM 15 (bd (lcM [23, 24, 25] (tsT 2 (tsC (st 23) (tsC (tsT 2 (tsC (st 24) (tsC (st 25) (tsN)))) (tsN)))) (ret true) (bd (bd (rd 24) fun x => bd (bd (rd 25) fun x => bd (bd (bd (bd (rd 14) fun x => bd (bd (ret (.int 3)) fun x => bd (rd 23) fun y => lf (addD x y)) fun y => lf (fdivD x y)) fun x => bd (rd 6) fun y => lf (modD x y)) fun x => bd (ret []) fun xs => ret (x :: xs)) fun xs => ret (x :: xs)) fun xs => ret (x :: xs)) fun xs => lf (few xs (.tup xs))) (bd (rd 12) fun x => bd (itM x) fun l => ret (numD l))) fun l => ret (.lst l))) (forM (st 16) (bd (bd (bd (hasS 7) fun _ => bd (rd 10) fun i => bd (lf (isI i)) fun k => bd (slotM 7) fun l => lf (atI l k)) fun x => bd (rd 13) fun i => bd (lf (isI i)) fun k => bd (seqM x) fun l => lf (atI l k)) itM) (sq (asM 17 (bd (bd (bd (rd 0) fun x => bd (ret []) fun xs => ret (x :: xs)) fun ds => callM d__law_next ds) fun x => bd (bd (bd (ret (.int 1)) fun x => bd (bd (bd (bd (rd 15) fun x => bd (ret []) fun xs => ret (x :: xs)) fun ds => lf (lenF ds)) fun x => bd (ret []) fun xs => ret (x :: xs)) fun xs => ret (x :: xs)) fun ds => lf (maxF ds)) fun y => lf (modD x y))) (sq (asM 18 (bd (bd (rd 15) fun x => bd (bd (rd 17) fun i => bd (lf (isI i)) fun k => ret (some k)) fun i => bd (ret none) fun j => lf (slD x i j)) fun x => bd (bd (rd 15) fun x => bd (ret none) fun i => bd (bd (rd 17) fun i => bd (lf (isI i)) fun k => ret (some k)) fun j => lf (slD x i j)) fun y => lf (addD x y))) (sq (asM 19 (bd (bd (bd (lcM [24, 25, 26] (tsT 3 (tsC (st 24) (tsC (st 25) (tsC (st 26) (tsN))))) (ret true) (bd (bd (rd 24) fun x => bd (bd (bd (bd (rd 0) fun x => bd (bd (bd (bd (hasS 7) fun _ => bd (rd 25) fun i => bd (lf (isI i)) fun k => bd (slotM 7) fun l => lf (atI l k)) fun x => bd (rd 26) fun i => bd (lf (isI i)) fun k => bd (seqM x) fun l => lf (atI l k)) fun x => bd (ret []) fun xs => ret (x :: xs)) fun xs => ret (x :: xs)) fun ds => callM d__law_some ds) fun x => bd (ret []) fun xs => ret (x :: xs)) fun xs => ret (x :: xs)) fun xs => lf (few xs (.tup xs))) (bd (rd 18) itM)) fun l => ret (.lst l)) fun x => bd (ret []) fun xs => ret (x :: xs)) fun ds => lf (tupleF ds))) (sq (appM 8 (bd (bd (rd 19) fun x => bd (bd (rd 11) fun x => bd (bd (bd (bd (ret (.int 2)) fun x => bd (rd 10) fun y => lf (mulD x y)) fun x => bd (rd 13) fun y => lf (addD x y)) fun x => bd (bd (bd (hasS 4) fun _ => bd (rd 10) fun i => bd (lf (isI i)) fun k => bd (slotM 4) fun l => lf (atI l k)) fun x => bd (bd (bd (hasS 5) fun _ => bd (rd 10) fun i => bd (lf (isI i)) fun k => bd (slotM 5) fun l => lf (atI l k)) fun x => bd (ret []) fun xs => ret (x :: xs)) fun xs => ret (x :: xs)) fun xs => ret (x :: xs)) fun xs => ret (x :: xs)) fun xs => ret (x :: xs)) fun xs => lf (few xs (.tup xs)))) (appM 9 (bd (bd (rd 0) fun x => bd (bd (bd (bd (hasS 7) fun _ => bd (rd 10) fun i => bd (lf (isI i)) fun k => bd (slotM 7) fun l => lf (atI l k)) fun x => bd (bd (bd (rd 6) fun x => bd (ret (.int 1)) fun y => lf (subD x y)) fun x => bd (rd 13) fun y => lf (subD x y)) fun i => bd (lf (isI i)) fun k => bd (seqM x) fun l => lf (atI l k)) fun x => bd (ret []) fun xs => ret (x :: xs)) fun xs => ret (x :: xs)) fun ds => callM d__law_some ds))))))))))) (sq (asM 20 (bd (bd (bd (bd (ret []) fun xs => lf (few xs (.tup xs))) fun x => bd (bd (bd (bd (bd (bd (rd 9) fun x => bd (ret []) fun xs => ret (x :: xs)) fun ds => lf (tupleF ds)) fun x => bd (ret []) fun xs => ret (x :: xs)) fun xs => lf (few xs (.tup xs))) fun x => bd (ret []) fun xs => ret (x :: xs)) fun xs => ret (x :: xs)) fun xs => lf (few xs (.lst xs))) fun x => bd (bd (rd 6) fun x => bd (ret (.int 1)) fun y => lf (subD x y)) fun i => bd (lf (isI i)) fun k => bd (seqM x) fun l => lf (atI l k))) (sq (ifM (bd (bd (bd (bd (rd 0) fun x => bd (ret []) fun xs => ret (x :: xs)) fun ds => callM d__law_next ds) fun x => bd (ret (.int 2)) fun y => lf (modD x y)) fun x => bd (ret (.int 0)) fun y => lf ((eqD x y).bind isB)) (rtM (bd (bd (bd (bd (rd 8) fun x => bd (ret []) fun xs => ret (x :: xs)) fun ds => lf (tupleF ds)) fun x => bd (bd (rd 20) fun x => bd (bd (ret .non) fun x => bd (bd (ret .non) fun x => bd (ret []) fun xs => ret (x :: xs)) fun xs => ret (x :: xs)) fun xs => ret (x :: xs)) fun xs => ret (x :: xs)) fun xs => lf (few xs (.tup xs)))) (ret .nx)) (sq (tgM (tsT 2 (tsC (st 21) (tsC (st 22) (tsN)))) (bd (bd (rd 8) fun x => bd (ret []) fun xs => ret (x :: xs)) fun ds => callM d__law_ends ds)) (rtM (bd (bd (bd (bd (rd 8) fun x => bd (ret []) fun xs => ret (x :: xs)) fun ds => lf (tupleF ds)) fun x => bd (bd (rd 20) fun x => bd (bd (rd 21) fun x => bd (bd (rd 22) fun x => bd (ret []) fun xs => ret (x :: xs)) fun xs => ret (x :: xs)) fun xs => ret (x :: xs)) fun xs => ret (x :: xs)) fun xs => lf (few xs (.tup xs)))))))))))))))
def d__law_task : Mn := runD 2 27 m__law_task
def m__law_maps : M Fl := sq (bd (ret []) fun l => if l.length ≤ 100000 then bd (stL 2 l) fun _ => ret .nx else fl) (sq (forM (st 3) (bd (bd (bd (bd (rd 0) fun x => bd (ret []) fun xs => ret (x :: xs)) fun ds => callM d__law_next ds) fun x => bd (ret (.int 4)) fun y => lf (modD x y)) fun x => lf (rng1 x)) (sq (asM 4 (bd (bd (rd 0) fun x => bd (ret []) fun xs => ret (x :: xs)) fun ds => callM d__law_next ds)) (sq (asM 5 (bd (bd (bd (lcM [6] (st 6) (ret true) (bd (bd (bd (rd 0) fun x => bd (ret []) fun xs => ret (x :: xs)) fun ds => callM d__law_next ds) fun x => bd (rd 1) fun y => lf (modD x y)) (bd (rd 1) fun x => lf (rng1 x))) fun l => ret (.lst l)) fun x => bd (ret []) fun xs => ret (x :: xs)) fun ds => lf (tupleF ds))) (sq (ifM (bd (bd (rd 4) fun x => bd (ret (.int 3)) fun y => lf (modD x y)) fun x => bd (ret (.int 0)) fun y => lf ((eqD x y).bind isB)) (asM 5 (bd (bd (bd (lcM [6] (st 6) (ret true) (bd (bd (bd (rd 6) fun x => bd (ret (.int 1)) fun y => lf (addD x y)) fun x => bd (bd (rd 4) fun x => bd (ret (.int 3)) fun y => lf (fdivD x y)) fun y => lf (addD x y)) fun x => bd (rd 1) fun y => lf (modD x y)) (bd (rd 1) fun x => lf (rng1 x))) fun l => ret (.lst l)) fun x => bd (ret []) fun xs => ret (x :: xs)) fun ds => lf (tupleF ds))) (ret .nx)) (sq (ifM (bd (bd (rd 4) fun x => bd (ret (.int 7)) fun y => lf (modD x y)) fun x => bd (ret (.int 0)) fun y => lf ((eqD x y).bind isB)) (asM 5 (bd (rd 1) fun x => bd (lf (isI x)) fun j => bd (lf (rgD (.int 0) (.int j))) fun l => ret (.tup l))) (ret .nx)) (appM 2 (rd 5))))))) (rtM (bd (bd (rd 2) fun x => bd (ret []) fun xs => ret (x :: xs)) fun ds => lf (tupleF ds))))
def d__law_maps : Mn := runD 2 7 m__law_maps
def m_is_tuple_of : M Fl := rtM (andM (bd (rd 0) fun d => bd (lf (isiT d)) fun t => ret (.bl t)) (bd (rd 1) fun x => bd (bd (bd (rd 0) fun x => bd (ret []) fun xs => ret (x :: xs)) fun ds => lf (lenF ds)) fun y => bd (lf ((leD x y).bind isB)) fun t => if t then bd (rd 2) fun z => lf (leD y z) else ret (.bl false)))
def d_is_tuple_of : Mn := runD 3 3 m_is_tuple_of
def m_is_whole : M Fl := rtM (andM (bd (rd 0) fun d => bd (lf (isiI d)) fun t => ret (.bl t)) (notM (bd (rd 0) fun d => bd (lf (isiB d)) fun t => ret (.bl t))))
def d_is_whole : Mn := runD 1 1 m_is_whole
def m_is_between : M Fl := rtM (andM (bd (bd (rd 0) fun x => bd (ret []) fun xs => ret (x :: xs)) fun ds => callM d_is_whole ds) (bd (rd 1) fun x => bd (rd 0) fun y => bd (lf ((leD x y).bind isB)) fun t => if t then bd (rd 2) fun z => lf (leD y z) else ret (.bl false)))
def d_is_between : Mn := runD 3 3 m_is_between
def m_is_from : M Fl := rtM (andM (bd (bd (rd 0) fun x => bd (ret []) fun xs => ret (x :: xs)) fun ds => callM d_is_whole ds) (bd (rd 0) fun x => bd (rd 1) fun y => lf (geD x y)))
def d_is_from : Mn := runD 2 2 m_is_from
def m_is_pair : M Fl := rtM (andM (bd (bd (rd 0) fun x => bd (bd (ret (.int 2)) fun x => bd (bd (ret (.int 2)) fun x => bd (ret []) fun xs => ret (x :: xs)) fun xs => ret (x :: xs)) fun xs => ret (x :: xs)) fun ds => callM d_is_tuple_of ds) (andM (bd (bd (bd (hasS 0) fun _ => bd (ret (.int 0)) fun i => bd (lf (isI i)) fun k => bd (slotM 0) fun l => lf (atI l k)) fun x => bd (bd (ret (.int 0)) fun x => bd (bd (ret (.int 1000)) fun x => bd (ret []) fun xs => ret (x :: xs)) fun xs => ret (x :: xs)) fun xs => ret (x :: xs)) fun ds => callM d_is_between ds) (bd (bd (bd (hasS 0) fun _ => bd (ret (.int 1)) fun i => bd (lf (isI i)) fun k => bd (slotM 0) fun l => lf (atI l k)) fun x => bd (bd (ret (.int 0)) fun x => bd (ret []) fun xs => ret (x :: xs)) fun xs => ret (x :: xs)) fun ds => callM d_is_from ds)))
def d_is_pair : Mn := runD 1 1 m_is_pair
def m_are_pairs : M Fl := rtM (andM (bd (bd (rd 0) fun x => bd (bd (ret (.int 0)) fun x => bd (bd (rd 1) fun x => bd (ret []) fun xs => ret (x :: xs)) fun xs => ret (x :: xs)) fun xs => ret (x :: xs)) fun ds => callM d_is_tuple_of ds) (bd (bd (bd (lcM [2] (st 2) (ret true) (bd (bd (rd 2) fun x => bd (ret []) fun xs => ret (x :: xs)) fun ds => callM d_is_pair ds) (bd (rd 0) itM)) fun l => ret (.lst l)) fun x => bd (ret []) fun xs => ret (x :: xs)) fun ds => lf (allF ds)))
def d_are_pairs : Mn := runD 2 3 m_are_pairs
def m_are_within : M Fl := rtM (bd (bd (bd (lcM [2] (st 2) (ret true) (bd (rd 2) fun x => bd (rd 1) fun y => lf (ltD x y)) (bd (rd 0) itM)) fun l => ret (.lst l)) fun x => bd (ret []) fun xs => ret (x :: xs)) fun ds => lf (allF ds))
def d_are_within : Mn := runD 2 3 m_are_within
def m_are_pairs_within : M Fl := rtM (bd (bd (bd (lcM [2, 3] (tsT 2 (tsC (st 2) (tsC (st 3) (tsN)))) (ret true) (rd 3) (bd (rd 0) itM)) fun l => ret (.lst l)) fun x => bd (bd (rd 1) fun x => bd (ret []) fun xs => ret (x :: xs)) fun xs => ret (x :: xs)) fun ds => callM d_are_within ds)
def d_are_pairs_within : Mn := runD 2 4 m_are_pairs_within
def m_is_truth : M Fl := rtM (bd (rd 0) fun d => bd (lf (isiB d)) fun t => ret (.bl t))
def d_is_truth : Mn := runD 1 1 m_is_truth
def m_is_table_row : M Fl := sq (ifM (bd (bd (bd (bd (rd 0) fun x => bd (bd (ret (.int 5)) fun x => bd (bd (ret (.int 5)) fun x => bd (ret []) fun xs => ret (x :: xs)) fun xs => ret (x :: xs)) fun xs => ret (x :: xs)) fun ds => callM d_is_tuple_of ds) fun x => lf (isB x)) fun t => ret (!t)) (rtM (ret (.bl false))) (ret .nx)) (sq (tgM (tsT 5 (tsC (st 2) (tsC (st 3) (tsC (st 4) (tsC (st 5) (tsC (st 6) (tsN))))))) (rd 0)) (sq (ifM (orT (bd (bd (bd (bd (rd 2) fun x => bd (bd (ret (.int 8)) fun x => bd (ret []) fun xs => ret (x :: xs)) fun xs => ret (x :: xs)) fun ds => callM d_are_pairs ds) fun x => lf (isB x)) fun t => ret (!t)) (bd (bd (bd (bd (rd 2) fun x => bd (bd (rd 1) fun x => bd (ret []) fun xs => ret (x :: xs)) fun xs => ret (x :: xs)) fun ds => callM d_are_pairs_within ds) fun x => lf (isB x)) fun t => ret (!t))) (rtM (ret (.bl false))) (ret .nx)) (sq (ifM (orT (bd (bd (bd (bd (rd 3) fun x => bd (ret []) fun xs => ret (x :: xs)) fun ds => callM d_is_truth ds) fun x => lf (isB x)) fun t => ret (!t)) (bd (bd (bd (bd (rd 6) fun x => bd (ret []) fun xs => ret (x :: xs)) fun ds => callM d_is_truth ds) fun x => lf (isB x)) fun t => ret (!t))) (rtM (ret (.bl false))) (ret .nx)) (rtM (andM (bd (bd (rd 4) fun x => bd (bd (ret (.int 0)) fun x => bd (bd (ret (.int 99)) fun x => bd (ret []) fun xs => ret (x :: xs)) fun xs => ret (x :: xs)) fun xs => ret (x :: xs)) fun ds => callM d_is_between ds) (bd (bd (rd 5) fun x => bd (bd (ret (.int 0)) fun x => bd (bd (ret (.int 100000)) fun x => bd (ret []) fun xs => ret (x :: xs)) fun xs => ret (x :: xs)) fun xs => ret (x :: xs)) fun ds => callM d_is_between ds))))))
def d_is_table_row : Mn := runD 2 7 m_is_table_row
def m_are_numbers : M Fl := rtM (andM (bd (rd 0) fun d => bd (lf (isiT d)) fun t => ret (.bl t)) (bd (bd (bd (lcM [2] (st 2) (ret true) (bd (bd (rd 2) fun x => bd (bd (rd 1) fun x => bd (ret []) fun xs => ret (x :: xs)) fun xs => ret (x :: xs)) fun ds => callM d_is_from ds) (bd (rd 0) itM)) fun l => ret (.lst l)) fun x => bd (ret []) fun xs => ret (x :: xs)) fun ds => lf (allF ds)))
def d_are_numbers : Mn := runD 2 3 m_are_numbers
def m_is_turn : M Fl := rtM (andM (bd (bd (rd 0) fun x => bd (bd (ret (.int 0)) fun x => bd (ret []) fun xs => ret (x :: xs)) fun xs => ret (x :: xs)) fun ds => callM d_are_numbers ds) (andM (bd (bd (bd (rd 0) fun x => bd (ret []) fun xs => ret (x :: xs)) fun ds => lf (lenF ds)) fun x => bd (rd 1) fun y => lf (eqD x y)) (bd (bd (rd 0) fun x => bd (bd (rd 1) fun x => bd (ret []) fun xs => ret (x :: xs)) fun xs => ret (x :: xs)) fun ds => callM d_are_within ds)))
def d_is_turn : Mn := runD 2 2 m_is_turn
def m_wrong_turn : M Fl := sq (ifM (bd (bd (bd (rd 0) fun d => bd (lf (isiT d)) fun t => ret (.bl t)) fun x => lf (isB x)) fun t => ret (!t)) (rtM (ret (.int 0))) (ret .nx)) (sq (ifM (bd (bd (bd (rd 0) fun x => bd (ret []) fun xs => ret (x :: xs)) fun ds => lf (lenF ds)) fun x => bd (ret (.int 3)) fun y => lf ((gtD x y).bind isB)) (rtM (ret (.int 3))) (ret .nx)) (sq (forM (tsT 2 (tsC (st 2) (tsC (st 3) (tsN)))) (bd (rd 0) fun x => bd (itM x) fun l => ret (numD l)) (ifM (bd (bd (bd (bd (rd 3) fun x => bd (bd (rd 1) fun x => bd (ret []) fun xs => ret (x :: xs)) fun xs => ret (x :: xs)) fun ds => callM d_is_turn ds) fun x => lf (isB x)) fun t => ret (!t)) (rtM (rd 2)) (ret .nx))) (rtM (ret .non))))
def d_wrong_turn : Mn := runD 2 4 m_wrong_turn
def m_are_rising : M Fl := rtM (bd (bd (bd (lcM [1, 2] (tsT 2 (tsC (st 1) (tsC (st 2) (tsN)))) (ret true) (bd (rd 1) fun x => bd (rd 2) fun y => lf (ltD x y)) (bd (rd 0) fun x => bd (bd (rd 0) fun x => bd (bd (ret (.int 1)) fun i => bd (lf (isI i)) fun k => ret (some k)) fun i => bd (ret none) fun j => lf (slD x i j)) fun y => lf (zipD x y))) fun l => ret (.lst l)) fun x => bd (ret []) fun xs => ret (x :: xs)) fun ds => lf (allF ds))
def d_are_rising : Mn := runD 1 3 m_are_rising
def m_are_ends : M Fl := sq (ifM (bd (rd 0) fun x => bd (ret .non) fun y => lf ((isD x y).bind isB)) (rtM (ret (.bl true))) (ret .nx)) (rtM (andM (bd (bd (rd 0) fun x => bd (bd (ret (.int 0)) fun x => bd (ret []) fun xs => ret (x :: xs)) fun xs => ret (x :: xs)) fun ds => callM d_are_numbers ds) (andM (bd (bd (rd 0) fun x => bd (bd (rd 1) fun x => bd (ret []) fun xs => ret (x :: xs)) fun xs => ret (x :: xs)) fun ds => callM d_are_within ds) (bd (bd (rd 0) fun x => bd (ret []) fun xs => ret (x :: xs)) fun ds => callM d_are_rising ds))))
def d_are_ends : Mn := runD 2 2 m_are_ends
def m_are_heads : M Fl := sq (ifM (bd (rd 1) fun x => bd (ret .non) fun y => lf ((isD x y).bind isB)) (rtM (bd (rd 0) fun x => bd (ret .non) fun y => lf (isD x y))) (ret .nx)) (sq (ifM (bd (bd (bd (bd (rd 0) fun x => bd (bd (rd 2) fun x => bd (bd (rd 2) fun x => bd (ret []) fun xs => ret (x :: xs)) fun xs => ret (x :: xs)) fun xs => ret (x :: xs)) fun ds => callM d_is_tuple_of ds) fun x => lf (isB x)) fun t => ret (!t)) (rtM (ret (.bl false))) (ret .nx)) (rtM (bd (bd (bd (lcM [3] (st 3) (ret true) (andM (bd (bd (rd 3) fun x => bd (bd (ret (.int 200)) fun x => bd (ret []) fun xs => ret (x :: xs)) fun xs => ret (x :: xs)) fun ds => callM d_are_pairs ds) (bd (bd (rd 3) fun x => bd (bd (rd 2) fun x => bd (ret []) fun xs => ret (x :: xs)) fun xs => ret (x :: xs)) fun ds => callM d_are_pairs_within ds)) (bd (rd 0) itM)) fun l => ret (.lst l)) fun x => bd (ret []) fun xs => ret (x :: xs)) fun ds => lf (allF ds))))
def d_are_heads : Mn := runD 3 4 m_are_heads
def m_wrong_place : M Fl := sq (ifM (bd (bd (bd (bd (rd 0) fun x => bd (bd (ret (.int 1)) fun x => bd (bd (ret (.int 24)) fun x => bd (ret []) fun xs => ret (x :: xs)) fun xs => ret (x :: xs)) fun xs => ret (x :: xs)) fun ds => callM d_is_tuple_of ds) fun x => lf (isB x)) fun t => ret (!t)) (rtM (bd (ret []) fun xs => lf (few xs (.tup xs)))) (ret .nx)) (sq (asM 4 (bd (bd (rd 0) fun x => bd (ret []) fun xs => ret (x :: xs)) fun ds => lf (lenF ds))) (sq (forM (tsT 2 (tsC (st 5) (tsC (st 6) (tsN)))) (bd (rd 0) fun x => bd (itM x) fun l => ret (numD l)) (ifM (bd (bd (bd (bd (rd 6) fun x => bd (bd (rd 4) fun x => bd (ret []) fun xs => ret (x :: xs)) fun xs => ret (x :: xs)) fun ds => callM d_is_table_row ds) fun x => lf (isB x)) fun t => ret (!t)) (rtM (bd (bd (ret (.str "row")) fun x => bd (bd (rd 5) fun x => bd (ret []) fun xs => ret (x :: xs)) fun xs => ret (x :: xs)) fun xs => lf (few xs (.tup xs)))) (ret .nx))) (sq (asM 7 (bd (bd (rd 1) fun x => bd (bd (rd 4) fun x => bd (ret []) fun xs => ret (x :: xs)) fun xs => ret (x :: xs)) fun ds => callM d_wrong_turn ds)) (sq (ifM (bd (rd 7) fun x => bd (ret .non) fun y => lf ((isNotD x y).bind isB)) (rtM (bd (bd (ret (.str "turn")) fun x => bd (bd (rd 7) fun x => bd (ret []) fun xs => ret (x :: xs)) fun xs => ret (x :: xs)) fun xs => lf (few xs (.tup xs)))) (ret .nx)) (sq (ifM (bd (bd (bd (bd (rd 2) fun x => bd (bd (rd 4) fun x => bd (ret []) fun xs => ret (x :: xs)) fun xs => ret (x :: xs)) fun ds => callM d_are_ends ds) fun x => lf (isB x)) fun t => ret (!t)) (rtM (bd (bd (ret (.str "ends")) fun x => bd (ret []) fun xs => ret (x :: xs)) fun xs => lf (few xs (.tup xs)))) (ret .nx)) (sq (ifM (bd (bd (bd (bd (rd 3) fun x => bd (bd (rd 2) fun x => bd (bd (rd 4) fun x => bd (ret []) fun xs => ret (x :: xs)) fun xs => ret (x :: xs)) fun xs => ret (x :: xs)) fun ds => callM d_are_heads ds) fun x => lf (isB x)) fun t => ret (!t)) (rtM (bd (bd (ret (.str "heads")) fun x => bd (ret []) fun xs => ret (x :: xs)) fun xs => lf (few xs (.tup xs)))) (ret .nx)) (rtM (ret .non))))))))
def d_wrong_place : Mn := runD 4 8 m_wrong_place
def m_Told___init__ : M Fl := sq (asM 5 (bd (bd (rd 1) fun x => bd (bd (rd 2) fun x => bd (bd (rd 3) fun x => bd (bd (rd 4) fun x => bd (ret []) fun xs => ret (x :: xs)) fun xs => ret (x :: xs)) fun xs => ret (x :: xs)) fun xs => ret (x :: xs)) fun ds => callM d_wrong_place ds)) (sq (ifM (bd (rd 5) fun x => bd (ret .non) fun y => lf ((isNotD x y).bind isB)) (fl) (ret .nx)) (sq (sfM 0 "table" (rd 1) (rd 0)) (sq (sfM 0 "maps" (rd 2) (rd 0)) (sq (sfM 0 "targets" (rd 3) (rd 0)) (sfM 0 "heads" (rd 4) (rd 0))))))
def d_Told___init__ : Mn := runD 5 6 m_Told___init__
def m__law_told : M Fl := rtM (bd (bd (bd (hasS 0) fun _ => bd (ret (.int 0)) fun i => bd (lf (isI i)) fun k => bd (slotM 0) fun l => lf (atI l k)) fun x => bd (ret []) fun xs => ret (x :: xs)) fun ds => bd (bd (bd (hasS 0) fun _ => bd (ret (.int 1)) fun i => bd (lf (isI i)) fun k => bd (slotM 0) fun l => lf (atI l k)) fun x => bd (bd (bd (hasS 0) fun _ => bd (ret (.int 2)) fun i => bd (lf (isI i)) fun k => bd (slotM 0) fun l => lf (atI l k)) fun x => bd (bd (bd (hasS 0) fun _ => bd (ret (.int 3)) fun i => bd (lf (isI i)) fun k => bd (slotM 0) fun l => lf (atI l k)) fun x => bd (ret []) fun xs => ret (x :: xs)) fun xs => ret (x :: xs)) fun xs => ret (x :: xs)) fun zs => if ds.length = 1 ∧ zs.length = 3 then mkM 0 d_Told___init__ (ds ++ ([] ++ (zs ++ []))) else fl)
def d__law_told : Mn := runD 1 1 m__law_told
def m_Told_named : M Fl := rtM (bd (bd (bd (bd (bd (rd 0) (fldM 0 "table")) fun x => bd (bd (hasS 1) fun _ => bd (ret (.int 0)) fun i => bd (lf (isI i)) fun k => bd (slotM 1) fun l => lf (atI l k)) fun i => bd (lf (isI i)) fun k => bd (seqM x) fun l => lf (atI l k)) fun x => bd (ret (.int 2)) fun i => bd (lf (isI i)) fun k => bd (seqM x) fun l => lf (atI l k)) fun x => bd (ret []) fun xs => ret (x :: xs)) fun xs => lf (few xs (.tup xs)))
def d_Told_named : Mn := runD 2 2 m_Told_named
def m_Told_turnings : M Fl := rtM (bd (bd (bd (rd 0) (fldM 0 "maps")) fun x => bd (ret []) fun xs => ret (x :: xs)) fun ds => lf (lenF ds))
def d_Told_turnings : Mn := runD 1 1 m_Told_turnings
def m_Told_turned : M Fl := rtM (bd (bd (bd (bd (bd (rd 0) (fldM 0 "maps")) fun x => bd (rd 1) fun i => bd (lf (isI i)) fun k => bd (seqM x) fun l => lf (atI l k)) fun x => bd (bd (hasS 2) fun _ => bd (ret (.int 0)) fun i => bd (lf (isI i)) fun k => bd (slotM 2) fun l => lf (atI l k)) fun i => bd (lf (isI i)) fun k => bd (seqM x) fun l => lf (atI l k)) fun x => bd (ret []) fun xs => ret (x :: xs)) fun xs => lf (few xs (.tup xs)))
def d_Told_turned : Mn := runD 3 3 m_Told_turned
def m_all_turned : M Fl := sq (newTM 2 (rd 1) (ret (.bl true))) (sq (bd (bd (rd 1) fun x => bd (ret []) fun xs => ret (x :: xs)) fun l => if l.length ≤ 100000 then bd (stL 3 l) fun _ => ret .nx else fl) (sq (whGo (bd (mutM 3) fun l => ret (!l.isEmpty)) (sq (asM 4 (popM 3)) (forM (st 5) (bd (bd (rd 0) fun d => bd (insC 0 "turnings" d) fun _ => callM d_Told_turnings [d]) fun x => lf (rng1 x)) (sq (asM 6 (bd (rd 0) fun d => bd (insC 0 "turned" d) fun _ => bd (bd (rd 5) fun x => bd (bd (rd 4) fun x => bd (ret []) fun xs => ret (x :: xs)) fun xs => ret (x :: xs)) fun ds => callM d_Told_turned (d :: ds))) (ifM (bd (rd 6) fun d => bd (lf (keyI d)) fun ks => bd (dicT 2) fun l => ret (!l.any fun q => decide (q.1 = ks))) (sq (setTM 2 (ret (.bl true)) (rd 6)) (appM 3 (rd 6))) (ret .nx))))) 100000) (rtM (bd (dicT 2) fun l => ret (.lst (kT l))))))
def d_all_turned : Mn := runD 2 7 m_all_turned
def m_label : M Fl := sq (ifM (bd (rd 1) fun x => bd (ret (.str "standing")) fun y => lf ((eqD x y).bind isB)) (rtM (rd 2)) (ret .nx)) (sq (ifM (bd (rd 1) fun x => bd (ret (.str "name")) fun y => lf ((eqD x y).bind isB)) (rtM (bd (rd 0) fun d => bd (insC 0 "named" d) fun _ => bd (bd (rd 2) fun x => bd (ret []) fun xs => ret (x :: xs)) fun ds => callM d_Told_named (d :: ds))) (ret .nx)) (rtM (bd (bd (bd (lcM [3] (st 3) (ret true) (bd (rd 0) fun d => bd (insC 0 "named" d) fun _ => bd (bd (rd 3) fun x => bd (ret []) fun xs => ret (x :: xs)) fun ds => callM d_Told_named (d :: ds)) (bd (bd (bd (rd 0) fun x => bd (bd (rd 2) fun x => bd (ret []) fun xs => ret (x :: xs)) fun xs => ret (x :: xs)) fun ds => callM d_all_turned ds) itM)) fun l => ret (.lst l)) fun x => bd (ret []) fun xs => ret (x :: xs)) fun ds => lf (minT ds))))
def d_label : Mn := runD 3 4 m_label
def m__law_label : M Fl := sq (tgM (tsT 4 (tsC (st 3) (tsC (st 4) (tsC (st 5) (tsC (st 6) (tsN)))))) (rd 0)) (sq (ifM (bd (rd 1) fun x => bd (ret (.str "standing")) fun y => lf ((eqD x y).bind isB)) (rtM (bd (bd (rd 2) fun x => bd (ret []) fun xs => ret (x :: xs)) fun xs => lf (few xs (.tup xs)))) (ret .nx)) (sq (bd (bd (rd 2) fun x => bd (ret []) fun xs => ret (x :: xs)) fun l => if l.length ≤ 100000 then bd (stL 7 l) fun _ => ret .nx else fl) (sq (bd (bd (rd 2) fun x => bd (ret []) fun xs => ret (x :: xs)) fun l => if l.length ≤ 100000 then bd (stL 8 l) fun _ => ret .nx else fl) (sq (whGo (andT (bd (slotL 8) fun l => ret (!l.isEmpty)) (bd (rd 1) fun x => bd (ret (.str "turn")) fun y => lf ((eqD x y).bind isB))) (sq (asM 9 (popM 8)) (forM (st 10) (bd (rd 4) itM) (ifM (bd (bd (hasS 10) fun _ => bd (rd 9) fun i => bd (lf (isI i)) fun k => bd (slotM 10) fun l => lf (atI l k)) fun d => bd (slotL 7) fun l => lf ((notInD d (.lst l)).bind isB)) (sq (appM 7 (bd (hasS 10) fun _ => bd (rd 9) fun i => bd (lf (isI i)) fun k => bd (slotM 10) fun l => lf (atI l k))) (appM 8 (bd (hasS 10) fun _ => bd (rd 9) fun i => bd (lf (isI i)) fun k => bd (slotM 10) fun l => lf (atI l k)))) (ret .nx)))) 100000) (rtM (bd (bd (bd (bd (bd (lcM [9] (st 9) (ret true) (bd (bd (hasS 3) fun _ => bd (rd 9) fun i => bd (lf (isI i)) fun k => bd (slotM 3) fun l => lf (atI l k)) fun x => bd (ret (.int 2)) fun i => bd (lf (isI i)) fun k => bd (seqM x) fun l => lf (atI l k)) (bd (rd 7) itM)) fun l => ret (.lst l)) fun x => bd (ret []) fun xs => ret (x :: xs)) fun ds => lf (minG ds)) fun x => bd (ret []) fun xs => ret (x :: xs)) fun xs => lf (few xs (.tup xs))))))))
def d__law_label : Mn := runD 3 11 m__law_label
def m_law : M Fl := sq (asM 1 (bd (bd (rd 0) fun x => bd (ret []) fun xs => ret (x :: xs)) fun ds => callM d__law_deck ds)) (sq (tgM (tsT 4 (tsC (st 2) (tsC (st 3) (tsC (st 4) (tsC (st 5) (tsN)))))) (bd (bd (rd 1) fun x => bd (bd (ret (.int 6)) fun x => bd (ret []) fun xs => ret (x :: xs)) fun xs => ret (x :: xs)) fun ds => callM d__law_task ds)) (sq (ifM (bd (bd (bd (bd (rd 1) fun x => bd (ret []) fun xs => ret (x :: xs)) fun ds => callM d__law_next ds) fun x => bd (ret (.int 2)) fun y => lf (modD x y)) fun x => bd (ret (.int 0)) fun y => lf ((eqD x y).bind isB)) (asM 3 (bd (bd (rd 1) fun x => bd (bd (bd (bd (rd 2) fun x => bd (ret []) fun xs => ret (x :: xs)) fun ds => lf (lenF ds)) fun x => bd (ret []) fun xs => ret (x :: xs)) fun xs => ret (x :: xs)) fun ds => callM d__law_maps ds)) (ret .nx)) (sq (asM 6 (bd (ret (.int 1)) fun x => bd (bd (bd (bd (rd 1) fun x => bd (ret []) fun xs => ret (x :: xs)) fun ds => callM d__law_next ds) fun x => bd (ret (.int 9)) fun y => lf (modD x y)) fun y => lf (addD x y))) (sq (bd (ret []) fun l => if l.length ≤ 100000 then bd (stL 7 l) fun _ => ret .nx else fl) (sq (forM (st 8) (bd (rd 2) itM) (appM 7 (bd (bd (bd (rd 8) fun x => bd (ret none) fun i => bd (bd (ret (.int 2)) fun i => bd (lf (isI i)) fun k => ret (some k)) fun j => lf (slD x i j)) fun x => bd (bd (bd (bd (bd (bd (bd (hasS 8) fun _ => bd (ret (.int 2)) fun i => bd (lf (isI i)) fun k => bd (slotM 8) fun l => lf (atI l k)) fun x => bd (bd (bd (bd (bd (bd (rd 1) fun x => bd (ret []) fun xs => ret (x :: xs)) fun ds => callM d__law_next ds) fun x => bd (rd 6) fun y => lf (modD x y)) fun x => bd (ret (.int 90)) fun y => lf (addD x y)) fun x => bd (ret []) fun xs => ret (x :: xs)) fun xs => ret (x :: xs)) fun xs => lf (few xs (.lst xs))) fun x => bd (bd (bd (bd (rd 6) fun x => bd (ret (.int 8)) fun y => lf (ltD x y)) fun x => bd (ret []) fun xs => ret (x :: xs)) fun ds => lf (intF ds)) fun i => bd (lf (isI i)) fun k => bd (seqM x) fun l => lf (atI l k)) fun x => bd (ret []) fun xs => ret (x :: xs)) fun xs => lf (few xs (.tup xs))) fun y => lf (addD x y)) fun x => bd (bd (rd 8) fun x => bd (bd (ret (.int 3)) fun i => bd (lf (isI i)) fun k => ret (some k)) fun i => bd (ret none) fun j => lf (slD x i j)) fun y => lf (addD x y)))) (sq (asM 2 (bd (bd (rd 7) fun x => bd (ret []) fun xs => ret (x :: xs)) fun ds => lf (tupleF ds))) (sq (asM 9 (bd (bd (rd 2) fun x => bd (bd (rd 3) fun x => bd (bd (rd 4) fun x => bd (bd (rd 5) fun x => bd (ret []) fun xs => ret (x :: xs)) fun xs => ret (x :: xs)) fun xs => ret (x :: xs)) fun xs => ret (x :: xs)) fun xs => lf (few xs (.tup xs)))) (sq (asM 10 (bd (bd (rd 9) fun x => bd (ret []) fun xs => ret (x :: xs)) fun ds => callM d__law_told ds)) (sq (forM (st 11) (bd (bd (bd (rd 2) fun x => bd (ret []) fun xs => ret (x :: xs)) fun ds => lf (lenF ds)) fun x => lf (rng1 x)) (forM (st 12) (bd (bd (bd (ret (.str "standing")) fun x => bd (bd (ret (.str "name")) fun x => bd (bd (ret (.str "turn")) fun x => bd (ret []) fun xs => ret (x :: xs)) fun xs => ret (x :: xs)) fun xs => ret (x :: xs)) fun xs => lf (few xs (.tup xs))) itM) (sq (asM 13 (bd (bd (rd 10) fun x => bd (bd (rd 12) fun x => bd (bd (bd (bd (rd 11) fun x => bd (ret []) fun xs => ret (x :: xs)) fun xs => lf (few xs (.tup xs))) fun x => bd (ret []) fun xs => ret (x :: xs)) fun xs => ret (x :: xs)) fun xs => ret (x :: xs)) fun ds => callM d_label ds)) (ifM (bd (bd (bd (rd 13) fun x => bd (ret []) fun xs => ret (x :: xs)) fun ds => lf (reprF ds)) fun x => bd (bd (bd (bd (bd (rd 9) fun x => bd (bd (rd 12) fun x => bd (bd (rd 11) fun x => bd (ret []) fun xs => ret (x :: xs)) fun xs => ret (x :: xs)) fun xs => ret (x :: xs)) fun ds => callM d__law_label ds) fun x => bd (ret []) fun xs => ret (x :: xs)) fun ds => lf (reprF ds)) fun y => lf ((neD x y).bind isB)) (rtM (ret (.bl false))) (ret .nx))))) (rtM (ret (.bl true))))))))))))
def d_law : Mn := runD 1 14 m_law
end K04

namespace K04
open PySem PySem.Spec PyProof.Rows L2 Sd
structure Ev (K : PySem.W.Frag) (mg : Str → Option Value) (cl : Nat → Addr) : Prop where
  b_abs : mg "abs" = none
  b_all : mg "all" = none
  b_bool : mg "bool" = none
  b_enumerate : mg "enumerate" = none
  b_int : mg "int" = none
  b_isinstance : mg "isinstance" = none
  b_len : mg "len" = none
  b_list : mg "list" = none
  b_max : mg "max" = none
  b_min : mg "min" = none
  b_range : mg "range" = none
  b_repr : mg "repr" = none
  b_tuple : mg "tuple" = none
  b_zip : mg "zip" = none
  g_MOST_BOUND : GlD K cl mg "MOST_BOUND" (.int 100000)
  g_MOST_COST : GlD K cl mg "MOST_COST" (.int 1000)
  g_MOST_HEADS : GlD K cl mg "MOST_HEADS" (.int 200)
  g_MOST_NAME : GlD K cl mg "MOST_NAME" (.int 99)
  g_MOST_NEXTS : GlD K cl mg "MOST_NEXTS" (.int 8)
  g_MOST_TOLD : GlD K cl mg "MOST_TOLD" (.int 24)
  g_MOST_TURNS : GlD K cl mg "MOST_TURNS" (.int 3)
  g_NAME : GlD K cl mg "NAME" (.int 2)
  a__law_deck : At K mg "_law_deck" s__law_deck
  a__law_next : At K mg "_law_next" s__law_next
  a__law_classes : At K mg "_law_classes" s__law_classes
  a__law_rests : At K mg "_law_rests" s__law_rests
  a__law_bounds : At K mg "_law_bounds" s__law_bounds
  a__law_cuts : At K mg "_law_cuts" s__law_cuts
  a__law_variants : At K mg "_law_variants" s__law_variants
  a__law_some : At K mg "_law_some" s__law_some
  a__law_ends : At K mg "_law_ends" s__law_ends
  a__law_task : At K mg "_law_task" s__law_task
  a__law_maps : At K mg "_law_maps" s__law_maps
  a_is_tuple_of : At K mg "is_tuple_of" s_is_tuple_of
  a_is_whole : At K mg "is_whole" s_is_whole
  a_is_between : At K mg "is_between" s_is_between
  a_is_from : At K mg "is_from" s_is_from
  a_is_pair : At K mg "is_pair" s_is_pair
  a_are_pairs : At K mg "are_pairs" s_are_pairs
  a_are_within : At K mg "are_within" s_are_within
  a_are_pairs_within : At K mg "are_pairs_within" s_are_pairs_within
  a_is_truth : At K mg "is_truth" s_is_truth
  a_is_table_row : At K mg "is_table_row" s_is_table_row
  a_are_numbers : At K mg "are_numbers" s_are_numbers
  a_is_turn : At K mg "is_turn" s_is_turn
  a_wrong_turn : At K mg "wrong_turn" s_wrong_turn
  a_are_rising : At K mg "are_rising" s_are_rising
  a_are_ends : At K mg "are_ends" s_are_ends
  a_are_heads : At K mg "are_heads" s_are_heads
  a_wrong_place : At K mg "wrong_place" s_wrong_place
  a__law_told : At K mg "_law_told" s__law_told
  a_all_turned : At K mg "all_turned" s_all_turned
  a_label : At K mg "label" s_label
  a__law_label : At K mg "_law_label" s__law_label
  a_law : At K mg "law" s_law
  cc0 : Cls K (cl 0)
  na0_heads : NoAttr K (cl 0) "heads"
  na0_maps : NoAttr K (cl 0) "maps"
  na0_table : NoAttr K (cl 0) "table"
  na0_targets : NoAttr K (cl 0) "targets"
  t0_named : Mt K (cl 0) "named" "Told.named" s_Told_named
  t0_turned : Mt K (cl 0) "turned" "Told.turned" s_Told_turned
  t0_turnings : Mt K (cl 0) "turnings" "Told.turnings" s_Told_turnings
  nk_Told___init__ : ∃ ta, EmT K ta ∧ NtK K mg (cl 0) "Told" "Told.__init__" s_Told___init__ [("turns", L2.V.ref ta), ("ends", L2.V.non), ("heads", L2.V.non)]
section
variable {P : Program} {w : World} {K : PySem.W.Frag} {mg : Str → Option Value} {base : Heap} {cl : Nat → Addr}
theorem c__law_deck (V : Ev K mg cl) : FD P w K mg base cl 1 "_law_deck" d__law_deck :=
  FD.mk' V.a__law_deck sc__law_deck (fun _ _ _ _ _ _ us hl => match us, hl with | [_], _ => rfl) fun f cdv A o s H E hr => (dens_cons (den_setDsp (n := 1) sc__law_deck.nd rfl (.inl k__law_deck__law_digits) dena_nil (.inr k__law_deck__law_digits)) (dens_cons (den_setDsp (n := 2) sc__law_deck.nd rfl (.inl k__law_deck__law_cells) (dena_cons (den_cb ca_len k__law_deck_len V.b_len PySem.boot_len (dena_cons (den_var (n := 0) rfl (.inl k__law_deck__law_script)) dena_nil)) dena_nil) (.inr k__law_deck__law_cells)) (dens_cons (den_for PassesOwn.never rfl (tg_name (pg_name (i := 3) sc__law_deck.nd rfl (.inl k__law_deck__law_cell) (.inr k__law_deck__law_cell))) (deni_seq (den_sl (den_var (n := 0) rfl (.inl k__law_deck__law_script)) deno_none (deno_some den_int))) (dens_cons (den_set (n := 3) sc__law_deck.nd rfl (.inl k__law_deck__law_cell) (den_cb ca_abs k__law_deck_abs V.b_abs b_abs (dena_cons (den_var (n := 3) rfl (.inl k__law_deck__law_cell)) dena_nil)) (hf := (.inr k__law_deck__law_cell))) (dens_cons (den_app (n := 2) rfl (.inl k__law_deck__law_cells) (den_op opd_mod (den_var (n := 3) rfl (.inl k__law_deck__law_cell)) den_int)) (dens_last (den_while PassesOwn.never (DenW.t (denw_and (dent_cmp opd_ge (den_var (n := 3) rfl (.inl k__law_deck__law_cell)) (den_op opd_pow den_int den_int)) (denw_and1 (dent_cmp opd_lt (den_lenN (n := 1) rfl (.inl k__law_deck__law_digits) k__law_deck_len V.b_len) den_int)))) (dens_cons (den_app (n := 1) rfl (.inl k__law_deck__law_digits) (den_op opd_mod (den_var (n := 3) rfl (.inl k__law_deck__law_cell)) den_int)) (dens_last (den_set (n := 3) sc__law_deck.nd rfl (.inl k__law_deck__law_cell) (den_op opd_fdiv (den_var (n := 3) rfl (.inl k__law_deck__law_cell)) den_int) (hf := (.inr k__law_deck__law_cell)))))))))) (dens_last (den_ret (den_lstS (dena_cons (den_mv (n := 1) rfl (.inl k__law_deck__law_digits)) (dena_cons (den_var (n := 2) rfl (.inl k__law_deck__law_cells)) (dena_cons den_int dena_nil)))))))))
theorem c__law_next (V : Ev K mg cl) : FD P w K mg base cl 1 "_law_next" d__law_next :=
  FD.mk' V.a__law_next sc__law_next (fun _ _ _ _ _ _ us hl => match us, hl with | [_], _ => rfl) fun f cdv A o s H E hr => (dens_cons (den_if (dent_neNil hr.u0 (den_ixN (n := 0) rfl (.inl k__law_next__law_deck_here) den_int (fun _ _ => rfl))) (dens_last (den_ret (den_popZ (den_ixN (n := 0) rfl (.inl k__law_next__law_deck_here) den_int (fun _ _ => rfl))))) dens_nil) (dens_cons (den_set (n := 1) sc__law_next.nd rfl (.inl k__law_next__law_at) (den_ixN (n := 0) rfl (.inl k__law_next__law_deck_here) den_int (fun _ _ => rfl)) (hf := (.inr k__law_next__law_at))) (dens_cons (den_setIx (n := 0) rfl (.inl k__law_next__law_deck_here) (den_op opd_add (den_var (n := 1) rfl (.inl k__law_next__law_at)) den_int) den_int) (dens_cons (den_set (n := 2) sc__law_next.nd rfl (.inl k__law_next__law_cell) (den_op opd_add (den_ix (den_ixN (n := 0) rfl (.inl k__law_next__law_deck_here) den_int (fun _ _ => rfl)) (den_op opd_mod (den_op opd_add (den_var (n := 1) rfl (.inl k__law_next__law_at)) den_int) (den_cb ca_len k__law_next_len V.b_len PySem.boot_len (dena_cons (den_ixN (n := 0) rfl (.inl k__law_next__law_deck_here) den_int (fun _ _ => rfl)) dena_nil))) (fun _ _ => rfl)) (den_op opd_mul den_int (den_var (n := 1) rfl (.inl k__law_next__law_at)))) (hf := (.inr k__law_next__law_cell))) (dens_last (den_ret (den_op opd_mod (den_op opd_add (den_op opd_mod (den_op opd_pow (den_op opd_add (den_var (n := 2) rfl (.inl k__law_next__law_cell)) (den_op opd_mul den_int (den_op opd_add (den_var (n := 1) rfl (.inl k__law_next__law_at)) den_int))) den_int) den_int) (den_op opd_mul den_int (den_var (n := 2) rfl (.inl k__law_next__law_cell)))) den_int)))))))
theorem c__law_classes (V : Ev K mg cl) : FD P w K mg base cl 2 "_law_classes" d__law_classes :=
  FD.mk' V.a__law_classes sc__law_classes (fun _ _ _ _ _ _ us hl => match us, hl with | [_, _], _ => rfl) fun f cdv A o s H E hr => (dens_cons (den_set (n := 2) sc__law_classes.nd rfl (.inl k__law_classes__law_many) (den_op opd_add den_int (den_op opd_mod (den_call (c__law_next V) (hr.mono (by decide)) k__law_classes__law_next (dena_cons (den_var (n := 0) rfl (.inl k__law_classes__law_deck_here)) dena_nil)) (den_op opd_sub (den_var (n := 1) rfl (.inl k__law_classes__law_most)) den_int))) (hf := (.inr k__law_classes__law_many))) (dens_cons (den_set (n := 3) sc__law_classes.nd rfl (.inl k__law_classes__law_costs) (den_ix (den_lst (dena_cons (den_lst (dena_cons den_int (dena_cons den_int (dena_cons den_int (dena_cons den_int (dena_cons den_int (dena_cons den_int dena_nil))))))) (dena_cons (den_lst (dena_cons den_int (dena_cons den_int (dena_cons den_int (dena_cons den_int dena_nil))))) (dena_cons (den_lst (dena_cons den_int (dena_cons den_int (dena_cons den_int (dena_cons den_int dena_nil))))) (dena_cons (den_lst (dena_cons den_int (dena_cons den_int (dena_cons den_int (dena_cons den_int (dena_cons den_int (dena_cons den_int dena_nil))))))) dena_nil))))) (den_op opd_mod (den_call (c__law_next V) (hr.mono (by decide)) k__law_classes__law_next (dena_cons (den_var (n := 0) rfl (.inl k__law_classes__law_deck_here)) dena_nil)) den_int) (fun _ _ => rfl)) (hf := (.inr k__law_classes__law_costs))) (dens_cons (den_setDsp (n := 4) sc__law_classes.nd rfl (.inl k__law_classes__law_found) dena_nil (.inr k__law_classes__law_found)) (dens_cons (den_for PassesOwn.never rfl (tg_name (pg_name (i := 5) sc__law_classes.nd rfl (.inl k__law_classes__law_at) (.inr k__law_classes__law_at))) (deni_range1 k__law_classes_range V.b_range (den_var (n := 2) rfl (.inl k__law_classes__law_many))) (dens_cons (den_set (n := 6) sc__law_classes.nd rfl (.inl k__law_classes__law_number) (den_call (c__law_next V) (hr.mono (by decide)) k__law_classes__law_next (dena_cons (den_var (n := 0) rfl (.inl k__law_classes__law_deck_here)) dena_nil)) (hf := (.inr k__law_classes__law_number))) (dens_cons (den_set (n := 7) sc__law_classes.nd rfl (.inl k__law_classes__law_done) (den_ix (den_lst (dena_cons (den_cmp (opd_eq hr.u) (den_op opd_mod (den_var (n := 6) rfl (.inl k__law_classes__law_number)) den_int) den_int) (dena_cons (den_cmp (opd_eq hr.u) (den_op opd_mod (den_var (n := 6) rfl (.inl k__law_classes__law_number)) den_int) den_int) dena_nil))) (den_cty ca_int k__law_classes_int V.b_int b_int (dena_cons (den_cmp opd_gt (den_var (n := 5) rfl (.inl k__law_classes__law_at)) den_int) dena_nil)) (fun _ _ => rfl)) (hf := (.inr k__law_classes__law_done))) (dens_cons (den_setDsp (n := 8) sc__law_classes.nd rfl (.inl k__law_classes__law_pairs) dena_nil (.inr k__law_classes__law_pairs)) (dens_cons (den_for PassesOwn.never rfl (tg_name (pg_name (i := 9) sc__law_classes.nd rfl (.inl k__law_classes__law_k) (.inr k__law_classes__law_k))) (deni_range1 k__law_classes_range V.b_range (den_ix (den_lst (dena_cons den_int (dena_cons den_int (dena_cons den_int (dena_cons den_int (dena_cons den_int (dena_cons den_int (dena_cons den_int dena_nil)))))))) (den_op opd_mod (den_op opd_fdiv (den_var (n := 6) rfl (.inl k__law_classes__law_number)) den_int) den_int) (fun _ _ => rfl))) (dens_cons (den_set (n := 10) sc__law_classes.nd rfl (.inl k__law_classes__law_draw) (den_call (c__law_next V) (hr.mono (by decide)) k__law_classes__law_next (dena_cons (den_var (n := 0) rfl (.inl k__law_classes__law_deck_here)) dena_nil)) (hf := (.inr k__law_classes__law_draw))) (dens_last (den_app (n := 8) rfl (.inl k__law_classes__law_pairs) (den_tup (dena_cons (den_ixN (n := 3) rfl (.inl k__law_classes__law_costs) (den_op opd_mod (den_var (n := 10) rfl (.inl k__law_classes__law_draw)) (den_cb ca_len k__law_classes_len V.b_len PySem.boot_len (dena_cons (den_var (n := 3) rfl (.inl k__law_classes__law_costs)) dena_nil))) (fun _ _ => rfl)) (dena_cons (den_op opd_mod (den_op opd_fdiv (den_var (n := 10) rfl (.inl k__law_classes__law_draw)) den_int) (den_var (n := 2) rfl (.inl k__law_classes__law_many))) dena_nil))))))) (dens_last (den_app (n := 4) rfl (.inl k__law_classes__law_found) (den_tup (dena_cons (den_var (n := 7) rfl (.inl k__law_classes__law_done)) (dena_cons (den_var (n := 8) rfl (.inl k__law_classes__law_pairs)) dena_nil)))))))))) (dens_last (den_ret (den_var (n := 4) rfl (.inl k__law_classes__law_found))))))))
theorem c__law_rests (V : Ev K mg cl) : FD P w K mg base cl 1 "_law_rests" d__law_rests :=
  FD.mk' V.a__law_rests sc__law_rests (fun _ _ _ _ _ _ us hl => match us, hl with | [_], _ => rfl) fun f cdv A o s H E hr => (dens_cons (den_setLc (n := 1) (own := [("_law_one", 8)]) rfl sc__law_rests.nd rfl k__law_rests__law_rests_here (sw_true rfl k__law_rests__law_rests_here rfl (by decide +kernel)) (blkOk_by (N := N__law_rests) (sc := defScope s__law_rests) (by decide +kernel)) (fun _ _ _ _ _ => by (exact (tg_name (pg_name (i := 8) sc__law_rests.nd rfl (Or.inl rfl))))) (deni_seq (den_var (n := 0) rfl (.inl k__law_rests__law_classes_here))) (fun _ _ _ _ _ => dents_nil) (fun _ _ _ _ _ => (den_ix (den_lst (dena_cons den_non (dena_cons den_int dena_nil))) (den_cty ca_int (by rfl) V.b_int b_int (dena_cons (den_ixN (n := 8) rfl (by first | exact .inl rfl | exact .inr (.inl rfl) | exact .inr (.inr rfl)) den_int (fun _ _ => rfl)) dena_nil)) (fun _ _ => rfl)))) (dens_cons (den_for PassesOwn.never rfl (tg_name (pg_name (i := 2) sc__law_rests.nd rfl (.inl k__law_rests__law_turn) (.inr k__law_rests__law_turn))) (deni_seq (den_var (n := 0) rfl (.inl k__law_rests__law_classes_here))) (dens_last (den_for PassesOwn.never rfl (tg_tup (K' := K) rfl rfl (tgs_cons (tg_name (pg_name (i := 3) sc__law_rests.nd rfl (.inl k__law_rests__law_at) (.inr k__law_rests__law_at))) (tgs_cons (tg_tup (K' := K) rfl rfl (tgs_cons (tg_name (pg_name (i := 4) sc__law_rests.nd rfl (.inl k__law_rests__law_done) (.inr k__law_rests__law_done))) (tgs_cons (tg_name (pg_name (i := 5) sc__law_rests.nd rfl (.inl k__law_rests__law_pairs) (.inr k__law_rests__law_pairs))) tgs_nil))) tgs_nil))) (deni_enum k__law_rests_enumerate V.b_enumerate (den_var (n := 0) rfl (.inl k__law_rests__law_classes_here))) (dens_last (den_for PassesOwn.never rfl (tg_tup (K' := K) rfl rfl (tgs_cons (tg_name (pg_name (i := 6) sc__law_rests.nd rfl (.inl k__law_rests__law_cost) (.inr k__law_rests__law_cost))) (tgs_cons (tg_name (pg_name (i := 7) sc__law_rests.nd rfl (.inl k__law_rests__law_other) (.inr k__law_rests__law_other))) tgs_nil))) (deni_seq (den_var (n := 5) rfl (.inl k__law_rests__law_pairs))) (dens_last (den_if (DenW.t (denw_and (dent_not (dent_val (den_var (n := 4) rfl (.inl k__law_rests__law_done)))) (denw_and1 (dent_cmp opd_isNot (den_ixN (n := 1) rfl (.inl k__law_rests__law_rests_here) (den_var (n := 7) rfl (.inl k__law_rests__law_other)) (fun _ _ => rfl)) den_non)))) (dens_last (den_if (DenW.t (denw_or (dent_cmp opd_is (den_ixN (n := 1) rfl (.inl k__law_rests__law_rests_here) (den_var (n := 3) rfl (.inl k__law_rests__law_at)) (fun _ _ => rfl)) den_non) (denw_or1 (dent_cmp opd_lt (den_op opd_add (den_var (n := 6) rfl (.inl k__law_rests__law_cost)) (den_ixN (n := 1) rfl (.inl k__law_rests__law_rests_here) (den_var (n := 7) rfl (.inl k__law_rests__law_other)) (fun _ _ => rfl))) (den_ixN (n := 1) rfl (.inl k__law_rests__law_rests_here) (den_var (n := 3) rfl (.inl k__law_rests__law_at)) (fun _ _ => rfl)))))) (dens_last (den_setIx (n := 1) rfl (.inl k__law_rests__law_rests_here) (den_op opd_add (den_var (n := 6) rfl (.inl k__law_rests__law_cost)) (den_ixN (n := 1) rfl (.inl k__law_rests__law_rests_here) (den_var (n := 7) rfl (.inl k__law_rests__law_other)) (fun _ _ => rfl))) (den_var (n := 3) rfl (.inl k__law_rests__law_at)))) dens_nil)) dens_nil))))))) (dens_last (den_ret (den_var (n := 1) rfl (.inl k__law_rests__law_rests_here))))))
theorem c__law_bounds (V : Ev K mg cl) : FD P w K mg base cl 2 "_law_bounds" d__law_bounds :=
  FD.mk' V.a__law_bounds sc__law_bounds (fun _ _ _ _ _ _ us hl => match us, hl with | [_, _], _ => rfl) fun f cdv A o s H E hr => (dens_cons (den_set (n := 2) sc__law_bounds.nd rfl (.inl k__law_bounds__law_number) (den_call (c__law_next V) (hr.mono (by decide)) k__law_bounds__law_next (dena_cons (den_var (n := 0) rfl (.inl k__law_bounds__law_deck_here)) dena_nil)) (hf := (.inr k__law_bounds__law_number))) (dens_cons (den_asg (tg_tup (K' := K) rfl rfl (tgs_cons (tg_name (pg_name (i := 3) sc__law_bounds.nd rfl (.inl k__law_bounds__law_part) (.inr k__law_bounds__law_part))) (tgs_cons (tg_name (pg_name (i := 4) sc__law_bounds.nd rfl (.inl k__law_bounds__law_whole) (.inr k__law_bounds__law_whole))) tgs_nil))) (den_ix (den_lst (dena_cons (den_tup (dena_cons den_int (dena_cons den_int dena_nil))) (dena_cons (den_tup (dena_cons den_int (dena_cons den_int dena_nil))) (dena_cons (den_tup (dena_cons den_int (dena_cons den_int dena_nil))) (dena_cons (den_tup (dena_cons den_int (dena_cons den_int dena_nil))) (dena_cons (den_tup (dena_cons den_int (dena_cons den_int dena_nil))) (dena_cons (den_tup (dena_cons den_int (dena_cons den_int dena_nil))) dena_nil))))))) (den_op opd_mod (den_var (n := 2) rfl (.inl k__law_bounds__law_number)) den_int) (fun _ _ => rfl))) (dens_cons (den_set (n := 6) sc__law_bounds.nd rfl (.inl k__law_bounds__law_greatest) (den_cb (ca_max rfl) k__law_bounds_max V.b_max b_max (dena_cons (den_op opd_add (den_lst (dena_cons den_int dena_nil)) (den_lc (own := [("_law_rest", 5)]) rfl sc__law_bounds.nd (blkOk_by (N := N__law_bounds) (sc := defScope s__law_bounds) (by decide +kernel)) (fun _ _ _ _ _ => by (exact (tg_name (pg_name (i := 5) sc__law_bounds.nd rfl (Or.inl rfl))))) (deni_seq (den_var (n := 1) rfl (.inl k__law_bounds__law_rests_here))) (fun _ _ _ _ _ => (dents_one (dent_cmp opd_isNot (den_var (n := 5) rfl (by first | exact .inl rfl | exact .inr (.inl rfl) | exact .inr (.inr rfl))) den_non))) (fun _ _ _ _ _ => (den_var (n := 5) rfl (by first | exact .inl rfl | exact .inr (.inl rfl) | exact .inr (.inr rfl)))))) dena_nil)) (hf := (.inr k__law_bounds__law_greatest))) (dens_cons (den_setDsp (n := 7) sc__law_bounds.nd rfl (.inl k__law_bounds__law_found) dena_nil (.inr k__law_bounds__law_found)) (dens_cons (den_for PassesOwn.never rfl (tg_name (pg_name (i := 5) sc__law_bounds.nd rfl (.inl k__law_bounds__law_rest) (.inr k__law_bounds__law_rest))) (deni_seq (den_var (n := 1) rfl (.inl k__law_bounds__law_rests_here))) (dens_last (den_if (dent_cmp opd_is (den_var (n := 5) rfl (.inl k__law_bounds__law_rest)) den_non) (dens_last (den_app (n := 7) rfl (.inl k__law_bounds__law_found) (den_op opd_add (den_var (n := 6) rfl (.inl k__law_bounds__law_greatest)) (den_op opd_mod (den_op opd_fdiv (den_var (n := 2) rfl (.inl k__law_bounds__law_number)) den_int) den_int)))) (dens_last (den_app (n := 7) rfl (.inl k__law_bounds__law_found) (den_op opd_fdiv (den_op opd_mul (den_var (n := 5) rfl (.inl k__law_bounds__law_rest)) (den_var (n := 3) rfl (.inl k__law_bounds__law_part))) (den_var (n := 4) rfl (.inl k__law_bounds__law_whole)))))))) (dens_last (den_ret (den_var (n := 7) rfl (.inl k__law_bounds__law_found)))))))))
theorem c__law_cuts (V : Ev K mg cl) : FD P w K mg base cl 2 "_law_cuts" d__law_cuts :=
  FD.mk' V.a__law_cuts sc__law_cuts (fun _ _ _ _ _ _ us hl => match us, hl with | [_, _, _], _ => rfl) fun f cdv A o s H E hr => (dens_cons (den_set (n := 3) sc__law_cuts.nd rfl (.inr k__law_cuts__law_number) (den_call (c__law_next V) (hr.mono (by decide)) k__law_cuts__law_next (dena_cons (den_var (n := 0) rfl (.inl k__law_cuts__law_deck_here)) dena_nil)) (hf := (.inl rfl))) (dens_cons (den_setLc (n := 5) (own := [("_law_at", 4), ("_law_rest", 11)]) rfl sc__law_cuts.nd rfl k__law_cuts__law_found (sw_true rfl k__law_cuts__law_found rfl (by decide +kernel)) (blkOk_by (N := N__law_cuts) (sc := defScope s__law_cuts) (by decide +kernel)) (fun _ _ _ _ _ => by (exact (tg_tup (K' := K) rfl rfl (tgs_cons (tg_name (pg_name (i := 4) sc__law_cuts.nd rfl (Or.inl rfl))) (tgs_cons (tg_name (pg_name (i := 11) sc__law_cuts.nd rfl (Or.inl rfl))) tgs_nil))))) (deni_enum k__law_cuts_enumerate V.b_enumerate (den_var (n := 2) rfl (.inl k__law_cuts__law_rests_here))) (fun _ _ _ _ _ => dents_nil) (fun _ _ _ _ _ => (den_and (den_cmp opd_is (den_var (n := 11) rfl (by first | exact .inl rfl | exact .inr (.inl rfl) | exact .inr (.inr rfl))) den_non) (den_and (den_cmp opd_gt (den_op opd_mod (den_op opd_fdiv (den_var (n := 3) rfl (by first | exact .inl rfl | exact .inr (.inl rfl) | exact .inr (.inr rfl))) (den_op opd_add den_int (den_var (n := 4) rfl (by first | exact .inl rfl | exact .inr (.inl rfl) | exact .inr (.inr rfl))))) den_int) den_int) (den_one (den_cmp opd_gt (den_op opd_mod (den_var (n := 3) rfl (by first | exact .inl rfl | exact .inr (.inl rfl) | exact .inr (.inr rfl))) den_int) den_int)))))) (dens_cons (den_for PassesOwn.never rfl (tg_name (pg_name (i := 6) sc__law_cuts.nd rfl (.inl k__law_cuts__law_turn) (.inr k__law_cuts__law_turn))) (deni_seq (den_var (n := 1) rfl (.inl k__law_cuts__law_classes_here))) (dens_last (den_for PassesOwn.never rfl (tg_tup (K' := K) rfl rfl (tgs_cons (tg_name (pg_name (i := 4) sc__law_cuts.nd rfl (.inl k__law_cuts__law_at) (.inr k__law_cuts__law_at))) (tgs_cons (tg_tup (K' := K) rfl rfl (tgs_cons (tg_name (pg_name (i := 7) sc__law_cuts.nd rfl (.inl k__law_cuts__law_done) (.inr k__law_cuts__law_done))) (tgs_cons (tg_name (pg_name (i := 8) sc__law_cuts.nd rfl (.inl k__law_cuts__law_pairs) (.inr k__law_cuts__law_pairs))) tgs_nil))) tgs_nil))) (deni_enum k__law_cuts_enumerate V.b_enumerate (den_var (n := 1) rfl (.inl k__law_cuts__law_classes_here))) (dens_last (den_for PassesOwn.never rfl (tg_tup (K' := K) rfl rfl (tgs_cons (tg_name (pg_name (i := 9) sc__law_cuts.nd rfl (.inl k__law_cuts__law_cost) (.inr k__law_cuts__law_cost))) (tgs_cons (tg_name (pg_name (i := 10) sc__law_cuts.nd rfl (.inl k__law_cuts__law_other) (.inr k__law_cuts__law_other))) tgs_nil))) (deni_seq (den_var (n := 8) rfl (.inl k__law_cuts__law_pairs))) (dens_last (den_if (dent_val (den_ixN (n := 5) rfl (.inl k__law_cuts__law_found) (den_var (n := 4) rfl (.inl k__law_cuts__law_at)) (fun _ _ => rfl))) (dens_last (den_setIx (n := 5) rfl (.inl k__law_cuts__law_found) den_bl (den_var (n := 10) rfl (.inl k__law_cuts__law_other)))) dens_nil))))))) (dens_last (den_ret (den_var (n := 5) rfl (.inl k__law_cuts__law_found)))))))
theorem c__law_variants (V : Ev K mg cl) : FD P w K mg base cl 2 "_law_variants" d__law_variants :=
  FD.mk' V.a__law_variants sc__law_variants (fun _ _ _ _ _ _ us hl => match us, hl with | [_, _, _], _ => rfl) fun f cdv A o s H E hr => (dens_cons (den_setDsp (n := 3) sc__law_variants.nd rfl (.inl k__law_variants__law_found) dena_nil (.inr k__law_variants__law_found)) (dens_cons (den_set (n := 4) sc__law_variants.nd rfl (.inl k__law_variants__law_at) den_int (hf := (.inr k__law_variants__law_at))) (dens_cons (den_for PassesOwn.never rfl (tg_name (pg_name (i := 5) sc__law_variants.nd rfl (.inl k__law_variants__law_one) (.inr k__law_variants__law_one))) (deni_range1 k__law_variants_range V.b_range (den_var (n := 1) rfl (.inl k__law_variants__law_many))) (dens_cons (den_setDsp (n := 6) sc__law_variants.nd rfl (.inl k__law_variants__law_own) dena_nil (.inr k__law_variants__law_own)) (dens_cons (den_for PassesOwn.never rfl (tg_name (pg_name (i := 7) sc__law_variants.nd rfl (.inl k__law_variants__law_side) (.inr k__law_variants__law_side))) (deni_range1 k__law_variants_range V.b_range (den_var (n := 2) rfl (.inl k__law_variants__law_sides))) (dens_cons (den_set (n := 8) sc__law_variants.nd rfl (.inl k__law_variants__law_more) (den_op opd_add den_int (den_cty ca_int k__law_variants_int V.b_int b_int (dena_cons (den_cmp (opd_eq hr.u) (den_op opd_mod (den_call (c__law_next V) (hr.mono (by decide)) k__law_variants__law_next (dena_cons (den_var (n := 0) rfl (.inl k__law_variants__law_deck_here)) dena_nil)) den_int) den_int) dena_nil))) (hf := (.inr k__law_variants__law_more))) (dens_cons (den_app (n := 6) rfl (.inl k__law_variants__law_own) (den_lstRg rfl k__law_variants_list V.b_list k__law_variants_range V.b_range (den_var (n := 4) rfl (.inl k__law_variants__law_at)) (den_op opd_add (den_var (n := 4) rfl (.inl k__law_variants__law_at)) (den_var (n := 8) rfl (.inl k__law_variants__law_more))))) (dens_last (den_set (n := 4) sc__law_variants.nd rfl (.inl k__law_variants__law_at) (den_op opd_add (den_var (n := 4) rfl (.inl k__law_variants__law_at)) (den_var (n := 8) rfl (.inl k__law_variants__law_more))) (hf := (.inr k__law_variants__law_at))))))) (dens_last (den_app (n := 3) rfl (.inl k__law_variants__law_found) (den_var (n := 6) rfl (.inl k__law_variants__law_own))))))) (dens_last (den_ret (den_var (n := 3) rfl (.inl k__law_variants__law_found)))))))
theorem c__law_some (V : Ev K mg cl) : FD P w K mg base cl 2 "_law_some" d__law_some :=
  FD.mk' V.a__law_some sc__law_some (fun _ _ _ _ _ _ us hl => match us, hl with | [_, _], _ => rfl) fun f cdv A o s H E hr => (dens_last (den_ret (den_ixN (n := 1) rfl (.inl k__law_some__law_rows) (den_op opd_mod (den_call (c__law_next V) (hr.mono (by decide)) k__law_some__law_next (dena_cons (den_var (n := 0) rfl (.inl k__law_some__law_deck_here)) dena_nil)) (den_cb ca_len k__law_some_len V.b_len PySem.boot_len (dena_cons (den_var (n := 1) rfl (.inl k__law_some__law_rows)) dena_nil))) (fun _ _ => rfl))))
theorem c__law_ends (V : Ev K mg cl) : FD P w K mg base cl 1 "_law_ends" d__law_ends :=
  FD.mk' V.a__law_ends sc__law_ends (fun _ _ _ _ _ _ us hl => match us, hl with | [_], _ => rfl) fun f cdv A o s H E hr => (dens_cons (den_set (n := 3) sc__law_ends.nd rfl (.inl k__law_ends__law_stops) (den_cty ca_tuple k__law_ends_tuple V.b_tuple b_tuple (dena_cons (den_lc (own := [("_law_at", 1), ("_law_row", 2)]) rfl sc__law_ends.nd (blkOk_by (N := N__law_ends) (sc := defScope s__law_ends) (by decide +kernel)) (fun _ _ _ _ _ => by (exact (tg_tup (K' := K) rfl rfl (tgs_cons (tg_name (pg_name (i := 1) sc__law_ends.nd rfl (Or.inl rfl))) (tgs_cons (tg_name (pg_name (i := 2) sc__law_ends.nd rfl (Or.inl rfl))) tgs_nil))))) (deni_enum k__law_ends_enumerate V.b_enumerate (den_var (n := 0) rfl (.inl k__law_ends__law_rows))) (fun _ _ _ _ _ => (dents_one (dent_val (den_ixN (n := 2) rfl (by first | exact .inl rfl | exact .inr (.inl rfl) | exact .inr (.inr rfl)) den_int (fun _ _ => rfl))))) (fun _ _ _ _ _ => (den_var (n := 1) rfl (by first | exact .inl rfl | exact .inr (.inl rfl) | exact .inr (.inr rfl))))) dena_nil)) (hf := (.inr k__law_ends__law_stops))) (dens_cons (den_setDsp (n := 4) sc__law_ends.nd rfl (.inl k__law_ends__law_fronts) dena_nil (.inr k__law_ends__law_fronts)) (dens_cons (den_for PassesOwn.never rfl (tg_name (pg_name (i := 5) sc__law_ends.nd rfl (.inr k__law_ends__law_target) (.inl rfl))) (deni_range1 k__law_ends_range V.b_range (den_cb ca_len k__law_ends_len V.b_len PySem.boot_len (dena_cons (den_var (n := 0) rfl (.inl k__law_ends__law_rows)) dena_nil))) (dens_cons (den_set (n := 6) sc__law_ends.nd rfl (.inl k__law_ends__law_own) (den_lst dena_nil) (hf := (.inr k__law_ends__law_own))) (dens_cons (den_for PassesOwn.never rfl (tg_tup (K' := K) rfl rfl (tgs_cons (tg_name (pg_name (i := 1) sc__law_ends.nd rfl (.inr k__law_ends__law_at) (.inl rfl))) (tgs_cons (tg_name (pg_name (i := 2) sc__law_ends.nd rfl (.inr k__law_ends__law_row) (.inl rfl))) tgs_nil))) (deni_enum k__law_ends_enumerate V.b_enumerate (den_var (n := 0) rfl (.inl k__law_ends__law_rows))) (dens_last (den_set (n := 6) sc__law_ends.nd rfl (.inl k__law_ends__law_own) (den_op opd_add (den_var (n := 6) rfl (.inl k__law_ends__law_own)) (den_lc (own := [("_law_cost", 7), ("_law_other", 8)]) rfl sc__law_ends.nd (blkOk_by (N := N__law_ends) (sc := defScope s__law_ends) (by decide +kernel)) (fun _ _ _ _ _ => by (exact (tg_tup (K' := K) rfl rfl (tgs_cons (tg_name (pg_name (i := 7) sc__law_ends.nd rfl (Or.inl rfl))) (tgs_cons (tg_name (pg_name (i := 8) sc__law_ends.nd rfl (Or.inl rfl))) tgs_nil))))) (deni_seq (den_ixN (n := 2) rfl (.inr (.inl k__law_ends__law_row)) den_int (fun _ _ => rfl))) (fun _ _ _ _ _ => (dents_one (DenW.t (denw_and (dent_cmp (opd_eq hr.u) (den_var (n := 8) rfl (by first | exact .inl rfl | exact .inr (.inl rfl) | exact .inr (.inr rfl))) (den_var (n := 5) rfl (by first | exact .inl rfl | exact .inr (.inl rfl) | exact .inr (.inr rfl)))) (denw_and1 (dent_not (dent_val (den_ixN (n := 2) rfl (by first | exact .inl rfl | exact .inr (.inl rfl) | exact .inr (.inr rfl)) den_int (fun _ _ => rfl))))))))) (fun _ _ _ _ _ => (den_tup (dena_cons (den_var (n := 7) rfl (by first | exact .inl rfl | exact .inr (.inl rfl) | exact .inr (.inr rfl))) (dena_cons (den_var (n := 1) rfl (by first | exact .inl rfl | exact .inr (.inl rfl) | exact .inr (.inr rfl))) dena_nil)))))) (hf := (.inr k__law_ends__law_own))))) (dens_last (den_app (n := 4) rfl (.inl k__law_ends__law_fronts) (den_cty ca_tuple k__law_ends_tuple V.b_tuple b_tuple (dena_cons (den_var (n := 6) rfl (.inl k__law_ends__law_own)) dena_nil))))))) (dens_last (den_ret (den_tup (dena_cons (den_var (n := 3) rfl (.inl k__law_ends__law_stops)) (dena_cons (den_cty ca_tuple k__law_ends_tuple V.b_tuple b_tuple (dena_cons (den_var (n := 4) rfl (.inl k__law_ends__law_fronts)) dena_nil)) dena_nil))))))))
theorem c__law_task (V : Ev K mg cl) : FD P w K mg base cl 3 "_law_task" d__law_task :=
  FD.mk' V.a__law_task sc__law_task (fun _ _ _ _ _ _ us hl => match us, hl with | [_, _], _ => rfl) fun f cdv A o s H E hr => (dens_cons (den_set (n := 2) sc__law_task.nd rfl (.inl k__law_task__law_classes_here) (den_call (c__law_classes V) (hr.mono (by decide)) k__law_task__law_classes (dena_cons (den_var (n := 0) rfl (.inr (.inl k__law_task__law_deck_here))) (dena_cons (den_var (n := 1) rfl (.inl k__law_task__law_most)) dena_nil))) (hf := (.inr k__law_task__law_classes_here))) (dens_cons (den_set (n := 3) sc__law_task.nd rfl (.inl k__law_task__law_rests_here) (den_call (c__law_rests V) (hr.mono (by decide)) k__law_task__law_rests (dena_cons (den_var (n := 2) rfl (.inl k__law_task__law_classes_here)) dena_nil)) (hf := (.inr k__law_task__law_rests_here))) (dens_cons (den_set (n := 4) sc__law_task.nd rfl (.inl k__law_task__law_bounds_here) (den_call (c__law_bounds V) (hr.mono (by decide)) k__law_task__law_bounds (dena_cons (den_var (n := 0) rfl (.inr (.inl k__law_task__law_deck_here))) (dena_cons (den_var (n := 3) rfl (.inl k__law_task__law_rests_here)) dena_nil))) (hf := (.inr k__law_task__law_bounds_here))) (dens_cons (den_set (n := 5) sc__law_task.nd rfl (.inl k__law_task__law_cuts_here) (den_call (c__law_cuts V) (hr.mono (by decide)) k__law_task__law_cuts (dena_cons (den_var (n := 0) rfl (.inr (.inl k__law_task__law_deck_here))) (dena_cons (den_var (n := 2) rfl (.inl k__law_task__law_classes_here)) (dena_cons (den_var (n := 3) rfl (.inl k__law_task__law_rests_here)) dena_nil)))) (hf := (.inr k__law_task__law_cuts_here))) (dens_cons (den_set (n := 6) sc__law_task.nd rfl (.inr k__law_task__law_sides) (den_op opd_add den_int (den_op opd_mod (den_call (c__law_next V) (hr.mono (by decide)) k__law_task__law_next (dena_cons (den_var (n := 0) rfl (.inr (.inl k__law_task__law_deck_here))) dena_nil)) den_int)) (hf := (.inl rfl))) (dens_cons (den_set (n := 7) sc__law_task.nd rfl (.inr k__law_task__law_variants_here) (den_call (c__law_variants V) (hr.mono (by decide)) k__law_task__law_variants (dena_cons (den_var (n := 0) rfl (.inr (.inl k__law_task__law_deck_here))) (dena_cons (den_cb ca_len k__law_task_len V.b_len PySem.boot_len (dena_cons (den_var (n := 2) rfl (.inl k__law_task__law_classes_here)) dena_nil)) (dena_cons (den_var (n := 6) rfl (.inr (.inl k__law_task__law_sides))) dena_nil)))) (hf := (.inl rfl))) (dens_cons (den_setDsp (n := 8) sc__law_task.nd rfl (.inl k__law_task__law_rows) dena_nil (.inr k__law_task__law_rows)) (dens_cons (den_setDsp (n := 9) sc__law_task.nd rfl (.inl k__law_task__law_maps_here) dena_nil (.inr k__law_task__law_maps_here)) (dens_cons (den_for PassesOwn.never rfl (tg_tup (K' := K) rfl rfl (tgs_cons (tg_name (pg_name (i := 10) sc__law_task.nd rfl (.inl k__law_task__law_at) (.inr k__law_task__law_at))) (tgs_cons (tg_tup (K' := K) rfl rfl (tgs_cons (tg_name (pg_name (i := 11) sc__law_task.nd rfl (.inl k__law_task__law_done) (.inr k__law_task__law_done))) (tgs_cons (tg_name (pg_name (i := 12) sc__law_task.nd rfl (.inl k__law_task__law_pairs) (.inr k__law_task__law_pairs))) tgs_nil))) tgs_nil))) (deni_enum k__law_task_enumerate V.b_enumerate (den_var (n := 2) rfl (.inl k__law_task__law_classes_here))) (dens_last (den_for PassesOwn.never rfl (tg_name (pg_name (i := 13) sc__law_task.nd rfl (.inl k__law_task__law_side) (.inr k__law_task__law_side))) (deni_range1 k__law_task_range V.b_range (den_var (n := 6) rfl (.inr (.inl k__law_task__law_sides)))) (dens_cons (den_set (n := 14) sc__law_task.nd rfl (.inr k__law_task__law_turned) (den_call (c__law_next V) (hr.mono (by decide)) k__law_task__law_next (dena_cons (den_var (n := 0) rfl (.inr (.inl k__law_task__law_deck_here))) dena_nil)) (hf := (.inl rfl))) (dens_cons (den_setLcD (n := 15) (own := [("_law_k", 23), ("_law_cost", 24), ("_law_other", 25)]) rfl sc__law_task.nd rfl k__law_task__law_aims (sw_true rfl k__law_task__law_aims rfl (by decide +kernel)) (blkOk_by (N := N__law_task) (sc := defScope s__law_task) (by decide +kernel)) (fun _ _ _ _ _ => by (exact (tg_tup (K' := K) rfl rfl (tgs_cons (tg_name (pg_name (i := 23) sc__law_task.nd rfl (Or.inl rfl))) (tgs_cons (tg_tup (K' := K) rfl rfl (tgs_cons (tg_name (pg_name (i := 24) sc__law_task.nd rfl (Or.inl rfl))) (tgs_cons (tg_name (pg_name (i := 25) sc__law_task.nd rfl (Or.inl rfl))) tgs_nil))) tgs_nil))))) (deni_enum k__law_task_enumerate V.b_enumerate (den_var (n := 12) rfl (.inl k__law_task__law_pairs))) (fun _ _ _ _ _ => dents_nil) (fun _ _ _ _ _ => (den_tup (dena_cons (den_var (n := 24) rfl (by first | exact .inl rfl | exact .inr (.inl rfl) | exact .inr (.inr rfl))) (dena_cons (den_var (n := 25) rfl (by first | exact .inl rfl | exact .inr (.inl rfl) | exact .inr (.inr rfl))) (dena_cons (den_op opd_mod (den_op opd_fdiv (den_var (n := 14) rfl (by first | exact .inl rfl | exact .inr (.inl rfl) | exact .inr (.inr rfl))) (den_op opd_add den_int (den_var (n := 23) rfl (by first | exact .inl rfl | exact .inr (.inl rfl) | exact .inr (.inr rfl))))) (den_var (n := 6) rfl (by first | exact .inl rfl | exact .inr (.inl rfl) | exact .inr (.inr rfl)))) dena_nil)))))) (dens_last (den_for PassesOwn.never rfl (tg_name (pg_name (i := 16) sc__law_task.nd rfl (.inl k__law_task__law_row) (.inr k__law_task__law_row))) (deni_seq (den_ix (den_ixN (n := 7) rfl (.inr (.inl k__law_task__law_variants_here)) (den_var (n := 10) rfl (.inl k__law_task__law_at)) (fun _ _ => rfl)) (den_var (n := 13) rfl (.inl k__law_task__law_side)) (fun _ _ => rfl))) (dens_cons (den_set (n := 17) sc__law_task.nd rfl (.inl k__law_task__law_number) (den_op opd_mod (den_call (c__law_next V) (hr.mono (by decide)) k__law_task__law_next (dena_cons (den_var (n := 0) rfl (.inr (.inl k__law_task__law_deck_here))) dena_nil)) (den_cb (ca_max rfl) k__law_task_max V.b_max b_max (dena_cons den_int (dena_cons (den_cb ca_len k__law_task_len V.b_len PySem.boot_len (dena_cons (den_var (n := 15) rfl (.inl k__law_task__law_aims)) dena_nil)) dena_nil)))) (hf := (.inr k__law_task__law_number))) (dens_cons (den_set (n := 18) sc__law_task.nd rfl (.inl k__law_task__law_order) (den_op opd_add (den_sl (den_var (n := 15) rfl (.inl k__law_task__law_aims)) (deno_some (den_var (n := 17) rfl (.inl k__law_task__law_number))) deno_none) (den_sl (den_var (n := 15) rfl (.inl k__law_task__law_aims)) deno_none (deno_some (den_var (n := 17) rfl (.inl k__law_task__law_number))))) (hf := (.inr k__law_task__law_order))) (dens_cons (den_set (n := 19) sc__law_task.nd rfl (.inl k__law_task__law_nexts) (den_cty ca_tuple k__law_task_tuple V.b_tuple b_tuple (dena_cons (den_lc (own := [("_law_cost", 24), ("_law_other", 25), ("_law_way", 26)]) rfl sc__law_task.nd (blkOk_by (N := N__law_task) (sc := defScope s__law_task) (by decide +kernel)) (fun _ _ _ _ _ => by (exact (tg_tup (K' := K) rfl rfl (tgs_cons (tg_name (pg_name (i := 24) sc__law_task.nd rfl (Or.inl rfl))) (tgs_cons (tg_name (pg_name (i := 25) sc__law_task.nd rfl (Or.inl rfl))) (tgs_cons (tg_name (pg_name (i := 26) sc__law_task.nd rfl (Or.inl rfl))) tgs_nil)))))) (deni_seq (den_var (n := 18) rfl (.inl k__law_task__law_order))) (fun _ _ _ _ _ => dents_nil) (fun _ _ _ _ _ => (den_tup (dena_cons (den_var (n := 24) rfl (by first | exact .inl rfl | exact .inr (.inl rfl) | exact .inr (.inr rfl))) (dena_cons (den_call (c__law_some V) (hr.mono (by decide)) (by rfl) (dena_cons (den_var (n := 0) rfl (by first | exact .inl rfl | exact .inr (.inl rfl) | exact .inr (.inr rfl))) (dena_cons (den_ix (den_ixN (n := 7) rfl (by first | exact .inl rfl | exact .inr (.inl rfl) | exact .inr (.inr rfl)) (den_var (n := 25) rfl (by first | exact .inl rfl | exact .inr (.inl rfl) | exact .inr (.inr rfl))) (fun _ _ => rfl)) (den_var (n := 26) rfl (by first | exact .inl rfl | exact .inr (.inl rfl) | exact .inr (.inr rfl))) (fun _ _ => rfl)) dena_nil))) dena_nil))))) dena_nil)) (hf := (.inr k__law_task__law_nexts))) (dens_cons (den_app (n := 8) rfl (.inl k__law_task__law_rows) (den_tup (dena_cons (den_var (n := 19) rfl (.inl k__law_task__law_nexts)) (dena_cons (den_var (n := 11) rfl (.inl k__law_task__law_done)) (dena_cons (den_op opd_add (den_op opd_mul den_int (den_var (n := 10) rfl (.inl k__law_task__law_at))) (den_var (n := 13) rfl (.inl k__law_task__law_side))) (dena_cons (den_ixN (n := 4) rfl (.inl k__law_task__law_bounds_here) (den_var (n := 10) rfl (.inl k__law_task__law_at)) (fun _ _ => rfl)) (dena_cons (den_ixN (n := 5) rfl (.inl k__law_task__law_cuts_here) (den_var (n := 10) rfl (.inl k__law_task__law_at)) (fun _ _ => rfl)) dena_nil))))))) (dens_last (den_app (n := 9) rfl (.inl k__law_task__law_maps_here) (den_call (c__law_some V) (hr.mono (by decide)) k__law_task__law_some (dena_cons (den_var (n := 0) rfl (.inr (.inl k__law_task__law_deck_here))) (dena_cons (den_ix (den_ixN (n := 7) rfl (.inr (.inl k__law_task__law_variants_here)) (den_var (n := 10) rfl (.inl k__law_task__law_at)) (fun _ _ => rfl)) (den_op opd_sub (den_op opd_sub (den_var (n := 6) rfl (.inr (.inl k__law_task__law_sides))) den_int) (den_var (n := 13) rfl (.inl k__law_task__law_side))) (fun _ _ => rfl)) dena_nil)))))))))))))))) (dens_cons (den_set (n := 20) sc__law_task.nd rfl (.inl k__law_task__law_maps_by) (den_ix (den_lst (dena_cons (den_tup dena_nil) (dena_cons (den_tup (dena_cons (den_cty ca_tuple k__law_task_tuple V.b_tuple b_tuple (dena_cons (den_var (n := 9) rfl (.inl k__law_task__law_maps_here)) dena_nil)) dena_nil)) dena_nil))) (den_op opd_sub (den_var (n := 6) rfl (.inr (.inl k__law_task__law_sides))) den_int) (fun _ _ => rfl)) (hf := (.inr k__law_task__law_maps_by))) (dens_cons (den_if (dent_cmp (opd_eq hr.u) (den_op opd_mod (den_call (c__law_next V) (hr.mono (by decide)) k__law_task__law_next (dena_cons (den_var (n := 0) rfl (.inr (.inl k__law_task__law_deck_here))) dena_nil)) den_int) den_int) (dens_last (den_ret (den_tup (dena_cons (den_cty ca_tuple k__law_task_tuple V.b_tuple b_tuple (dena_cons (den_var (n := 8) rfl (.inl k__law_task__law_rows)) dena_nil)) (dena_cons (den_var (n := 20) rfl (.inl k__law_task__law_maps_by)) (dena_cons den_non (dena_cons den_non dena_nil))))))) dens_nil) (dens_cons (den_asg (tg_tup (K' := K) rfl rfl (tgs_cons (tg_name (pg_name (i := 21) sc__law_task.nd rfl (.inl k__law_task__law_stops) (.inr k__law_task__law_stops))) (tgs_cons (tg_name (pg_name (i := 22) sc__law_task.nd rfl (.inl k__law_task__law_fronts) (.inr k__law_task__law_fronts))) tgs_nil))) (den_call (c__law_ends V) (hr.mono (by decide)) k__law_task__law_ends (dena_cons (den_var (n := 8) rfl (.inl k__law_task__law_rows)) dena_nil))) (dens_last (den_ret (den_tup (dena_cons (den_cty ca_tuple k__law_task_tuple V.b_tuple b_tuple (dena_cons (den_var (n := 8) rfl (.inl k__law_task__law_rows)) dena_nil)) (dena_cons (den_var (n := 20) rfl (.inl k__law_task__law_maps_by)) (dena_cons (den_var (n := 21) rfl (.inl k__law_task__law_stops)) (dena_cons (den_var (n := 22) rfl (.inl k__law_task__law_fronts)) dena_nil)))))))))))))))))))
theorem c__law_maps (V : Ev K mg cl) : FD P w K mg base cl 2 "_law_maps" d__law_maps :=
  FD.mk' V.a__law_maps sc__law_maps (fun _ _ _ _ _ _ us hl => match us, hl with | [_, _], _ => rfl) fun f cdv A o s H E hr => (dens_cons (den_setDsp (n := 2) sc__law_maps.nd rfl (.inl k__law_maps__law_found) dena_nil (.inr k__law_maps__law_found)) (dens_cons (den_for PassesOwn.never rfl (tg_name (pg_name (i := 3) sc__law_maps.nd rfl (.inl k__law_maps__law_turn) (.inr k__law_maps__law_turn))) (deni_range1 k__law_maps_range V.b_range (den_op opd_mod (den_call (c__law_next V) (hr.mono (by decide)) k__law_maps__law_next (dena_cons (den_var (n := 0) rfl (.inr (.inl k__law_maps__law_deck_here))) dena_nil)) den_int)) (dens_cons (den_set (n := 4) sc__law_maps.nd rfl (.inr k__law_maps__law_number) (den_call (c__law_next V) (hr.mono (by decide)) k__law_maps__law_next (dena_cons (den_var (n := 0) rfl (.inr (.inl k__law_maps__law_deck_here))) dena_nil)) (hf := (.inl rfl))) (dens_cons (den_set (n := 5) sc__law_maps.nd rfl (.inl k__law_maps__law_own) (den_cty ca_tuple k__law_maps_tuple V.b_tuple b_tuple (dena_cons (den_lc (own := [("_law_k", 6)]) rfl sc__law_maps.nd (blkOk_by (N := N__law_maps) (sc := defScope s__law_maps) (by decide +kernel)) (fun _ _ _ _ _ => by (exact (tg_name (pg_name (i := 6) sc__law_maps.nd rfl (Or.inl rfl))))) (deni_range1 k__law_maps_range V.b_range (den_var (n := 1) rfl (.inr (.inl k__law_maps__law_many)))) (fun _ _ _ _ _ => dents_nil) (fun _ _ _ _ _ => (den_op opd_mod (den_call (c__law_next V) (hr.mono (by decide)) (by rfl) (dena_cons (den_var (n := 0) rfl (by first | exact .inl rfl | exact .inr (.inl rfl) | exact .inr (.inr rfl))) dena_nil)) (den_var (n := 1) rfl (by first | exact .inl rfl | exact .inr (.inl rfl) | exact .inr (.inr rfl)))))) dena_nil)) (hf := (.inr k__law_maps__law_own))) (dens_cons (den_if (dent_cmp (opd_eq hr.u) (den_op opd_mod (den_var (n := 4) rfl (.inr (.inl k__law_maps__law_number))) den_int) den_int) (dens_last (den_set (n := 5) sc__law_maps.nd rfl (.inl k__law_maps__law_own) (den_cty ca_tuple k__law_maps_tuple V.b_tuple b_tuple (dena_cons (den_lc (own := [("_law_k", 6)]) rfl sc__law_maps.nd (blkOk_by (N := N__law_maps) (sc := defScope s__law_maps) (by decide +kernel)) (fun _ _ _ _ _ => by (exact (tg_name (pg_name (i := 6) sc__law_maps.nd rfl (Or.inl rfl))))) (deni_range1 k__law_maps_range V.b_range (den_var (n := 1) rfl (.inr (.inl k__law_maps__law_many)))) (fun _ _ _ _ _ => dents_nil) (fun _ _ _ _ _ => (den_op opd_mod (den_op opd_add (den_op opd_add (den_var (n := 6) rfl (by first | exact .inl rfl | exact .inr (.inl rfl) | exact .inr (.inr rfl))) den_int) (den_op opd_fdiv (den_var (n := 4) rfl (by first | exact .inl rfl | exact .inr (.inl rfl) | exact .inr (.inr rfl))) den_int)) (den_var (n := 1) rfl (by first | exact .inl rfl | exact .inr (.inl rfl) | exact .inr (.inr rfl)))))) dena_nil)) (hf := (.inr k__law_maps__law_own)))) dens_nil) (dens_cons (den_if (dent_cmp (opd_eq hr.u) (den_op opd_mod (den_var (n := 4) rfl (.inr (.inl k__law_maps__law_number))) den_int) den_int) (dens_last (den_set (n := 5) sc__law_maps.nd rfl (.inl k__law_maps__law_own) (den_tupRg1 rfl k__law_maps_tuple V.b_tuple k__law_maps_range V.b_range (den_var (n := 1) rfl (.inr (.inl k__law_maps__law_many)))) (hf := (.inr k__law_maps__law_own)))) dens_nil) (dens_last (den_app (n := 2) rfl (.inl k__law_maps__law_found) (den_var (n := 5) rfl (.inl k__law_maps__law_own))))))))) (dens_last (den_ret (den_cty ca_tuple k__law_maps_tuple V.b_tuple b_tuple (dena_cons (den_var (n := 2) rfl (.inl k__law_maps__law_found)) dena_nil))))))
theorem c_is_tuple_of (V : Ev K mg cl) : FD P w K mg base cl 1 "is_tuple_of" d_is_tuple_of :=
  FD.mk' V.a_is_tuple_of sc_is_tuple_of (fun _ _ _ _ _ _ us hl => match us, hl with | [_, _, _], _ => rfl) fun f cdv A o s H E hr => (dens_last (den_ret (den_and (den_isi isi_tuple V.b_isinstance V.b_tuple k_is_tuple_of_isinstance k_is_tuple_of_tuple b_tuple (den_var (n := 0) rfl (.inl k_is_tuple_of_thing))) (den_one (den_chain opd_le opd_le (den_var (n := 1) rfl (.inl k_is_tuple_of_least)) (den_cb ca_len k_is_tuple_of_len V.b_len PySem.boot_len (dena_cons (den_var (n := 0) rfl (.inl k_is_tuple_of_thing)) dena_nil)) (den_var (n := 2) rfl (.inl k_is_tuple_of_most)))))))
theorem c_is_whole (V : Ev K mg cl) : FD P w K mg base cl 1 "is_whole" d_is_whole :=
  FD.mk' V.a_is_whole sc_is_whole (fun _ _ _ _ _ _ us hl => match us, hl with | [_], _ => rfl) fun f cdv A o s H E hr => (dens_last (den_ret (den_and (den_isi isi_int V.b_isinstance V.b_int k_is_whole_isinstance k_is_whole_int b_int (den_var (n := 0) rfl (.inl k_is_whole_thing))) (den_one (den_not (den_isi isi_bool V.b_isinstance V.b_bool k_is_whole_isinstance k_is_whole_bool b_bool (den_var (n := 0) rfl (.inl k_is_whole_thing))))))))
theorem c_is_between (V : Ev K mg cl) : FD P w K mg base cl 2 "is_between" d_is_between :=
  FD.mk' V.a_is_between sc_is_between (fun _ _ _ _ _ _ us hl => match us, hl with | [_, _, _], _ => rfl) fun f cdv A o s H E hr => (dens_last (den_ret (den_and (den_call (c_is_whole V) (hr.mono (by decide)) k_is_between_is_whole (dena_cons (den_var (n := 0) rfl (.inl k_is_between_thing)) dena_nil)) (den_one (den_chain opd_le opd_le (den_var (n := 1) rfl (.inl k_is_between_low)) (den_var (n := 0) rfl (.inl k_is_between_thing)) (den_var (n := 2) rfl (.inl k_is_between_high)))))))
theorem c_is_from (V : Ev K mg cl) : FD P w K mg base cl 2 "is_from" d_is_from :=
  FD.mk' V.a_is_from sc_is_from (fun _ _ _ _ _ _ us hl => match us, hl with | [_, _], _ => rfl) fun f cdv A o s H E hr => (dens_last (den_ret (den_and (den_call (c_is_whole V) (hr.mono (by decide)) k_is_from_is_whole (dena_cons (den_var (n := 0) rfl (.inl k_is_from_thing)) dena_nil)) (den_one (den_cmp opd_ge (den_var (n := 0) rfl (.inl k_is_from_thing)) (den_var (n := 1) rfl (.inl k_is_from_low)))))))
theorem c_is_pair (V : Ev K mg cl) : FD P w K mg base cl 3 "is_pair" d_is_pair :=
  FD.mk' V.a_is_pair sc_is_pair (fun _ _ _ _ _ _ us hl => match us, hl with | [_], _ => rfl) fun f cdv A o s H E hr => (dens_last (den_ret (den_and (den_call (c_is_tuple_of V) (hr.mono (by decide)) k_is_pair_is_tuple_of (dena_cons (den_var (n := 0) rfl (.inl k_is_pair_thing)) (dena_cons den_int (dena_cons den_int dena_nil)))) (den_and (den_call (c_is_between V) (hr.mono (by decide)) k_is_pair_is_between (dena_cons (den_ixN (n := 0) rfl (.inl k_is_pair_thing) den_int (fun _ _ => rfl)) (dena_cons den_int (dena_cons (den_glob k_is_pair_MOST_COST V.g_MOST_COST) dena_nil)))) (den_one (den_call (c_is_from V) (hr.mono (by decide)) k_is_pair_is_from (dena_cons (den_ixN (n := 0) rfl (.inl k_is_pair_thing) den_int (fun _ _ => rfl)) (dena_cons den_int dena_nil))))))))
theorem c_are_pairs (V : Ev K mg cl) : FD P w K mg base cl 4 "are_pairs" d_are_pairs :=
  FD.mk' V.a_are_pairs sc_are_pairs (fun _ _ _ _ _ _ us hl => match us, hl with | [_, _], _ => rfl) fun f cdv A o s H E hr => (dens_last (den_ret (den_and (den_call (c_is_tuple_of V) (hr.mono (by decide)) k_are_pairs_is_tuple_of (dena_cons (den_var (n := 0) rfl (.inl k_are_pairs_thing)) (dena_cons den_int (dena_cons (den_var (n := 1) rfl (.inl k_are_pairs_most)) dena_nil)))) (den_one (den_cb (ca_all rfl) k_are_pairs_all V.b_all b_all (dena_cons (den_lc (own := [("pair", 2)]) rfl sc_are_pairs.nd (blkOk_by (N := N_are_pairs) (sc := defScope s_are_pairs) (by decide +kernel)) (fun _ _ _ _ _ => by (exact (tg_name (pg_name (i := 2) sc_are_pairs.nd rfl (Or.inl rfl))))) (deni_seq (den_var (n := 0) rfl (.inl k_are_pairs_thing))) (fun _ _ _ _ _ => dents_nil) (fun _ _ _ _ _ => (den_call (c_is_pair V) (hr.mono (by decide)) (by rfl) (dena_cons (den_var (n := 2) rfl (by first | exact .inl rfl | exact .inr (.inl rfl) | exact .inr (.inr rfl))) dena_nil)))) dena_nil))))))
theorem c_are_within (V : Ev K mg cl) : FD P w K mg base cl 1 "are_within" d_are_within :=
  FD.mk' V.a_are_within sc_are_within (fun _ _ _ _ _ _ us hl => match us, hl with | [_, _], _ => rfl) fun f cdv A o s H E hr => (dens_last (den_ret (den_cb (ca_all rfl) k_are_within_all V.b_all b_all (dena_cons (den_lc (own := [("number", 2)]) rfl sc_are_within.nd (blkOk_by (N := N_are_within) (sc := defScope s_are_within) (by decide +kernel)) (fun _ _ _ _ _ => by (exact (tg_name (pg_name (i := 2) sc_are_within.nd rfl (Or.inl rfl))))) (deni_seq (den_var (n := 0) rfl (.inl k_are_within_numbers))) (fun _ _ _ _ _ => dents_nil) (fun _ _ _ _ _ => (den_cmp opd_lt (den_var (n := 2) rfl (by first | exact .inl rfl | exact .inr (.inl rfl) | exact .inr (.inr rfl))) (den_var (n := 1) rfl (by first | exact .inl rfl | exact .inr (.inl rfl) | exact .inr (.inr rfl)))))) dena_nil))))
theorem c_are_pairs_within (V : Ev K mg cl) : FD P w K mg base cl 2 "are_pairs_within" d_are_pairs_within :=
  FD.mk' V.a_are_pairs_within sc_are_pairs_within (fun _ _ _ _ _ _ us hl => match us, hl with | [_, _], _ => rfl) fun f cdv A o s H E hr => (dens_last (den_ret (den_call (c_are_within V) (hr.mono (by decide)) k_are_pairs_within_are_within (dena_cons (den_lc (own := [("cost", 2), ("number", 3)]) rfl sc_are_pairs_within.nd (blkOk_by (N := N_are_pairs_within) (sc := defScope s_are_pairs_within) (by decide +kernel)) (fun _ _ _ _ _ => by (exact (tg_tup (K' := K) rfl rfl (tgs_cons (tg_name (pg_name (i := 2) sc_are_pairs_within.nd rfl (Or.inl rfl))) (tgs_cons (tg_name (pg_name (i := 3) sc_are_pairs_within.nd rfl (Or.inl rfl))) tgs_nil))))) (deni_seq (den_var (n := 0) rfl (.inl k_are_pairs_within_pairs))) (fun _ _ _ _ _ => dents_nil) (fun _ _ _ _ _ => (den_var (n := 3) rfl (by first | exact .inl rfl | exact .inr (.inl rfl) | exact .inr (.inr rfl))))) (dena_cons (den_var (n := 1) rfl (.inl k_are_pairs_within_many)) dena_nil)))))
theorem c_is_truth (V : Ev K mg cl) : FD P w K mg base cl 1 "is_truth" d_is_truth :=
  FD.mk' V.a_is_truth sc_is_truth (fun _ _ _ _ _ _ us hl => match us, hl with | [_], _ => rfl) fun f cdv A o s H E hr => (dens_last (den_ret (den_isi isi_bool V.b_isinstance V.b_bool k_is_truth_isinstance k_is_truth_bool b_bool (den_var (n := 0) rfl (.inl k_is_truth_thing)))))
theorem c_is_table_row (V : Ev K mg cl) : FD P w K mg base cl 5 "is_table_row" d_is_table_row :=
  FD.mk' V.a_is_table_row sc_is_table_row (fun _ _ _ _ _ _ us hl => match us, hl with | [_, _], _ => rfl) fun f cdv A o s H E hr => (dens_cons (den_if (dent_not (dent_val (den_call (c_is_tuple_of V) (hr.mono (by decide)) k_is_table_row_is_tuple_of (dena_cons (den_var (n := 0) rfl (.inl k_is_table_row_row)) (dena_cons den_int (dena_cons den_int dena_nil)))))) (dens_last (den_ret den_bl)) dens_nil) (dens_cons (den_asg (tg_tup (K' := K) rfl rfl (tgs_cons (tg_name (pg_name (i := 2) sc_is_table_row.nd rfl (.inl k_is_table_row_nexts) (.inr k_is_table_row_nexts))) (tgs_cons (tg_name (pg_name (i := 3) sc_is_table_row.nd rfl (.inl k_is_table_row_done) (.inr k_is_table_row_done))) (tgs_cons (tg_name (pg_name (i := 4) sc_is_table_row.nd rfl (.inl k_is_table_row_name) (.inr k_is_table_row_name))) (tgs_cons (tg_name (pg_name (i := 5) sc_is_table_row.nd rfl (.inl k_is_table_row_bound) (.inr k_is_table_row_bound))) (tgs_cons (tg_name (pg_name (i := 6) sc_is_table_row.nd rfl (.inl k_is_table_row_cut) (.inr k_is_table_row_cut))) tgs_nil)))))) (den_var (n := 0) rfl (.inl k_is_table_row_row))) (dens_cons (den_if (DenW.t (denw_or (dent_not (dent_val (den_call (c_are_pairs V) (hr.mono (by decide)) k_is_table_row_are_pairs (dena_cons (den_var (n := 2) rfl (.inl k_is_table_row_nexts)) (dena_cons (den_glob k_is_table_row_MOST_NEXTS V.g_MOST_NEXTS) dena_nil))))) (denw_or1 (dent_not (dent_val (den_call (c_are_pairs_within V) (hr.mono (by decide)) k_is_table_row_are_pairs_within (dena_cons (den_var (n := 2) rfl (.inl k_is_table_row_nexts)) (dena_cons (den_var (n := 1) rfl (.inl k_is_table_row_many)) dena_nil)))))))) (dens_last (den_ret den_bl)) dens_nil) (dens_cons (den_if (DenW.t (denw_or (dent_not (dent_val (den_call (c_is_truth V) (hr.mono (by decide)) k_is_table_row_is_truth (dena_cons (den_var (n := 3) rfl (.inl k_is_table_row_done)) dena_nil)))) (denw_or1 (dent_not (dent_val (den_call (c_is_truth V) (hr.mono (by decide)) k_is_table_row_is_truth (dena_cons (den_var (n := 6) rfl (.inl k_is_table_row_cut)) dena_nil))))))) (dens_last (den_ret den_bl)) dens_nil) (dens_last (den_ret (den_and (den_call (c_is_between V) (hr.mono (by decide)) k_is_table_row_is_between (dena_cons (den_var (n := 4) rfl (.inl k_is_table_row_name)) (dena_cons den_int (dena_cons (den_glob k_is_table_row_MOST_NAME V.g_MOST_NAME) dena_nil)))) (den_one (den_call (c_is_between V) (hr.mono (by decide)) k_is_table_row_is_between (dena_cons (den_var (n := 5) rfl (.inl k_is_table_row_bound)) (dena_cons den_int (dena_cons (den_glob k_is_table_row_MOST_BOUND V.g_MOST_BOUND) dena_nil))))))))))))
theorem c_are_numbers (V : Ev K mg cl) : FD P w K mg base cl 3 "are_numbers" d_are_numbers :=
  FD.mk' V.a_are_numbers sc_are_numbers (fun _ _ _ _ _ _ us hl => match us, hl with | [_, _], _ => rfl) fun f cdv A o s H E hr => (dens_last (den_ret (den_and (den_isi isi_tuple V.b_isinstance V.b_tuple k_are_numbers_isinstance k_are_numbers_tuple b_tuple (den_var (n := 0) rfl (.inl k_are_numbers_thing))) (den_one (den_cb (ca_all rfl) k_are_numbers_all V.b_all b_all (dena_cons (den_lc (own := [("number", 2)]) rfl sc_are_numbers.nd (blkOk_by (N := N_are_numbers) (sc := defScope s_are_numbers) (by decide +kernel)) (fun _ _ _ _ _ => by (exact (tg_name (pg_name (i := 2) sc_are_numbers.nd rfl (Or.inl rfl))))) (deni_seq (den_var (n := 0) rfl (.inl k_are_numbers_thing))) (fun _ _ _ _ _ => dents_nil) (fun _ _ _ _ _ => (den_call (c_is_from V) (hr.mono (by decide)) (by rfl) (dena_cons (den_var (n := 2) rfl (by first | exact .inl rfl | exact .inr (.inl rfl) | exact .inr (.inr rfl))) (dena_cons (den_var (n := 1) rfl (by first | exact .inl rfl | exact .inr (.inl rfl) | exact .inr (.inr rfl))) dena_nil))))) dena_nil))))))
theorem c_is_turn (V : Ev K mg cl) : FD P w K mg base cl 4 "is_turn" d_is_turn :=
  FD.mk' V.a_is_turn sc_is_turn (fun _ _ _ _ _ _ us hl => match us, hl with | [_, _], _ => rfl) fun f cdv A o s H E hr => (dens_last (den_ret (den_and (den_call (c_are_numbers V) (hr.mono (by decide)) k_is_turn_are_numbers (dena_cons (den_var (n := 0) rfl (.inl k_is_turn_turn)) (dena_cons den_int dena_nil))) (den_and (den_cmp (opd_eq hr.u) (den_cb ca_len k_is_turn_len V.b_len PySem.boot_len (dena_cons (den_var (n := 0) rfl (.inl k_is_turn_turn)) dena_nil)) (den_var (n := 1) rfl (.inl k_is_turn_many))) (den_one (den_call (c_are_within V) (hr.mono (by decide)) k_is_turn_are_within (dena_cons (den_var (n := 0) rfl (.inl k_is_turn_turn)) (dena_cons (den_var (n := 1) rfl (.inl k_is_turn_many)) dena_nil))))))))
theorem c_wrong_turn (V : Ev K mg cl) : FD P w K mg base cl 5 "wrong_turn" d_wrong_turn :=
  FD.mk' V.a_wrong_turn sc_wrong_turn (fun _ _ _ _ _ _ us hl => match us, hl with | [_, _], _ => rfl) fun f cdv A o s H E hr => (dens_cons (den_if (dent_not (dent_val (den_isi isi_tuple V.b_isinstance V.b_tuple k_wrong_turn_isinstance k_wrong_turn_tuple b_tuple (den_var (n := 0) rfl (.inl k_wrong_turn_turns))))) (dens_last (den_ret den_int)) dens_nil) (dens_cons (den_if (dent_cmp opd_gt (den_cb ca_len k_wrong_turn_len V.b_len PySem.boot_len (dena_cons (den_var (n := 0) rfl (.inl k_wrong_turn_turns)) dena_nil)) (den_glob k_wrong_turn_MOST_TURNS V.g_MOST_TURNS)) (dens_last (den_ret (den_glob k_wrong_turn_MOST_TURNS V.g_MOST_TURNS))) dens_nil) (dens_cons (den_for PassesOwn.never rfl (tg_tup (K' := K) rfl rfl (tgs_cons (tg_name (pg_name (i := 2) sc_wrong_turn.nd rfl (.inl k_wrong_turn_number) (.inr k_wrong_turn_number))) (tgs_cons (tg_name (pg_name (i := 3) sc_wrong_turn.nd rfl (.inl k_wrong_turn_turn) (.inr k_wrong_turn_turn))) tgs_nil))) (deni_enum k_wrong_turn_enumerate V.b_enumerate (den_var (n := 0) rfl (.inl k_wrong_turn_turns))) (dens_last (den_if (dent_not (dent_val (den_call (c_is_turn V) (hr.mono (by decide)) k_wrong_turn_is_turn (dena_cons (den_var (n := 3) rfl (.inl k_wrong_turn_turn)) (dena_cons (den_var (n := 1) rfl (.inl k_wrong_turn_many)) dena_nil))))) (dens_last (den_ret (den_var (n := 2) rfl (.inl k_wrong_turn_number)))) dens_nil))) (dens_last (den_ret den_non)))))
theorem c_are_rising (V : Ev K mg cl) : FD P w K mg base cl 1 "are_rising" d_are_rising :=
  FD.mk' V.a_are_rising sc_are_rising (fun _ _ _ _ _ _ us hl => match us, hl with | [_], _ => rfl) fun f cdv A o s H E hr => (dens_last (den_ret (den_cb (ca_all rfl) k_are_rising_all V.b_all b_all (dena_cons (den_lc (own := [("low", 1), ("high", 2)]) rfl sc_are_rising.nd (blkOk_by (N := N_are_rising) (sc := defScope s_are_rising) (by decide +kernel)) (fun _ _ _ _ _ => by (exact (tg_tup (K' := K) rfl rfl (tgs_cons (tg_name (pg_name (i := 1) sc_are_rising.nd rfl (Or.inl rfl))) (tgs_cons (tg_name (pg_name (i := 2) sc_are_rising.nd rfl (Or.inl rfl))) tgs_nil))))) (deni_zip k_are_rising_zip V.b_zip (den_var (n := 0) rfl (.inl k_are_rising_numbers)) (den_sl (den_var (n := 0) rfl (.inl k_are_rising_numbers)) (deno_some den_int) deno_none)) (fun _ _ _ _ _ => dents_nil) (fun _ _ _ _ _ => (den_cmp opd_lt (den_var (n := 1) rfl (by first | exact .inl rfl | exact .inr (.inl rfl) | exact .inr (.inr rfl))) (den_var (n := 2) rfl (by first | exact .inl rfl | exact .inr (.inl rfl) | exact .inr (.inr rfl)))))) dena_nil))))
theorem c_are_ends (V : Ev K mg cl) : FD P w K mg base cl 4 "are_ends" d_are_ends :=
  FD.mk' V.a_are_ends sc_are_ends (fun _ _ _ _ _ _ us hl => match us, hl with | [_, _], _ => rfl) fun f cdv A o s H E hr => (dens_cons (den_if (dent_cmp opd_is (den_var (n := 0) rfl (.inl k_are_ends_ends)) den_non) (dens_last (den_ret den_bl)) dens_nil) (dens_last (den_ret (den_and (den_call (c_are_numbers V) (hr.mono (by decide)) k_are_ends_are_numbers (dena_cons (den_var (n := 0) rfl (.inl k_are_ends_ends)) (dena_cons den_int dena_nil))) (den_and (den_call (c_are_within V) (hr.mono (by decide)) k_are_ends_are_within (dena_cons (den_var (n := 0) rfl (.inl k_are_ends_ends)) (dena_cons (den_var (n := 1) rfl (.inl k_are_ends_many)) dena_nil))) (den_one (den_call (c_are_rising V) (hr.mono (by decide)) k_are_ends_are_rising (dena_cons (den_var (n := 0) rfl (.inl k_are_ends_ends)) dena_nil))))))))
theorem c_are_heads (V : Ev K mg cl) : FD P w K mg base cl 5 "are_heads" d_are_heads :=
  FD.mk' V.a_are_heads sc_are_heads (fun _ _ _ _ _ _ us hl => match us, hl with | [_, _, _], _ => rfl) fun f cdv A o s H E hr => (dens_cons (den_if (dent_cmp opd_is (den_var (n := 1) rfl (.inl k_are_heads_ends)) den_non) (dens_last (den_ret (den_cmp opd_is (den_var (n := 0) rfl (.inl k_are_heads_heads)) den_non))) dens_nil) (dens_cons (den_if (dent_not (dent_val (den_call (c_is_tuple_of V) (hr.mono (by decide)) k_are_heads_is_tuple_of (dena_cons (den_var (n := 0) rfl (.inl k_are_heads_heads)) (dena_cons (den_var (n := 2) rfl (.inr (.inl k_are_heads_many))) (dena_cons (den_var (n := 2) rfl (.inr (.inl k_are_heads_many))) dena_nil)))))) (dens_last (den_ret den_bl)) dens_nil) (dens_last (den_ret (den_cb (ca_all rfl) k_are_heads_all V.b_all b_all (dena_cons (den_lc (own := [("head", 3)]) rfl sc_are_heads.nd (blkOk_by (N := N_are_heads) (sc := defScope s_are_heads) (by decide +kernel)) (fun _ _ _ _ _ => by (exact (tg_name (pg_name (i := 3) sc_are_heads.nd rfl (Or.inl rfl))))) (deni_seq (den_var (n := 0) rfl (.inl k_are_heads_heads))) (fun _ _ _ _ _ => dents_nil) (fun _ _ _ _ _ => (den_and (den_call (c_are_pairs V) (hr.mono (by decide)) (by rfl) (dena_cons (den_var (n := 3) rfl (by first | exact .inl rfl | exact .inr (.inl rfl) | exact .inr (.inr rfl))) (dena_cons (den_glob (by rfl) V.g_MOST_HEADS) dena_nil))) (den_one (den_call (c_are_pairs_within V) (hr.mono (by decide)) (by rfl) (dena_cons (den_var (n := 3) rfl (by first | exact .inl rfl | exact .inr (.inl rfl) | exact .inr (.inr rfl))) (dena_cons (den_var (n := 2) rfl (by first | exact .inl rfl | exact .inr (.inl rfl) | exact .inr (.inr rfl))) dena_nil))))))) dena_nil))))))
theorem c_wrong_place (V : Ev K mg cl) : FD P w K mg base cl 6 "wrong_place" d_wrong_place :=
  FD.mk' V.a_wrong_place sc_wrong_place (fun _ _ _ _ _ _ us hl => match us, hl with | [_, _, _, _], _ => rfl) fun f cdv A o s H E hr => (dens_cons (den_if (dent_not (dent_val (den_call (c_is_tuple_of V) (hr.mono (by decide)) k_wrong_place_is_tuple_of (dena_cons (den_var (n := 0) rfl (.inl k_wrong_place_rows)) (dena_cons den_int (dena_cons (den_glob k_wrong_place_MOST_TOLD V.g_MOST_TOLD) dena_nil)))))) (dens_last (den_ret (den_tup dena_nil))) dens_nil) (dens_cons (den_set (n := 4) sc_wrong_place.nd rfl (.inl k_wrong_place_many) (den_cb ca_len k_wrong_place_len V.b_len PySem.boot_len (dena_cons (den_var (n := 0) rfl (.inl k_wrong_place_rows)) dena_nil)) (hf := (.inr k_wrong_place_many))) (dens_cons (den_for PassesOwn.never rfl (tg_tup (K' := K) rfl rfl (tgs_cons (tg_name (pg_name (i := 5) sc_wrong_place.nd rfl (.inl k_wrong_place_number) (.inr k_wrong_place_number))) (tgs_cons (tg_name (pg_name (i := 6) sc_wrong_place.nd rfl (.inl k_wrong_place_row) (.inr k_wrong_place_row))) tgs_nil))) (deni_enum k_wrong_place_enumerate V.b_enumerate (den_var (n := 0) rfl (.inl k_wrong_place_rows))) (dens_last (den_if (dent_not (dent_val (den_call (c_is_table_row V) (hr.mono (by decide)) k_wrong_place_is_table_row (dena_cons (den_var (n := 6) rfl (.inl k_wrong_place_row)) (dena_cons (den_var (n := 4) rfl (.inl k_wrong_place_many)) dena_nil))))) (dens_last (den_ret (den_tup (dena_cons den_str (dena_cons (den_var (n := 5) rfl (.inl k_wrong_place_number)) dena_nil))))) dens_nil))) (dens_cons (den_set (n := 7) sc_wrong_place.nd rfl (.inl k_wrong_place_turn) (den_call (c_wrong_turn V) (hr.mono (by decide)) k_wrong_place_wrong_turn (dena_cons (den_var (n := 1) rfl (.inl k_wrong_place_turns)) (dena_cons (den_var (n := 4) rfl (.inl k_wrong_place_many)) dena_nil))) (hf := (.inr k_wrong_place_turn))) (dens_cons (den_if (dent_cmp opd_isNot (den_var (n := 7) rfl (.inl k_wrong_place_turn)) den_non) (dens_last (den_ret (den_tup (dena_cons den_str (dena_cons (den_var (n := 7) rfl (.inl k_wrong_place_turn)) dena_nil))))) dens_nil) (dens_cons (den_if (dent_not (dent_val (den_call (c_are_ends V) (hr.mono (by decide)) k_wrong_place_are_ends (dena_cons (den_var (n := 2) rfl (.inl k_wrong_place_ends)) (dena_cons (den_var (n := 4) rfl (.inl k_wrong_place_many)) dena_nil))))) (dens_last (den_ret (den_tup (dena_cons den_str dena_nil)))) dens_nil) (dens_cons (den_if (dent_not (dent_val (den_call (c_are_heads V) (hr.mono (by decide)) k_wrong_place_are_heads (dena_cons (den_var (n := 3) rfl (.inl k_wrong_place_heads)) (dena_cons (den_var (n := 2) rfl (.inl k_wrong_place_ends)) (dena_cons (den_var (n := 4) rfl (.inl k_wrong_place_many)) dena_nil)))))) (dens_last (den_ret (den_tup (dena_cons den_str dena_nil)))) dens_nil) (dens_last (den_ret den_non)))))))))
theorem c_Told___init__ (V : Ev K mg cl) {fa : Addr} {fd : FuncData} (Fu : Fun K "__init__" "Told.__init__" s_Told___init__ fa fd) : FnG P w K mg base CX0 7 fa fd p_Told___init__ (spF K cl d_Told___init__) :=
  FG.mk' Fu sc_Told___init__ fun cdv A o s H E hr => (dens_cons (den_set (n := 5) sc_Told___init__.nd rfl (.inl k_Told___init___place) (den_call (c_wrong_place V) (hr.mono (by decide)) k_Told___init___wrong_place (dena_cons (den_var (n := 1) rfl (.inl k_Told___init___rows)) (dena_cons (den_var (n := 2) rfl (.inl k_Told___init___turns)) (dena_cons (den_var (n := 3) rfl (.inl k_Told___init___ends)) (dena_cons (den_var (n := 4) rfl (.inl k_Told___init___heads)) dena_nil))))) (hf := (.inr k_Told___init___place))) (dens_cons (den_if (dent_cmp opd_isNot (den_var (n := 5) rfl (.inl k_Told___init___place)) den_non) (dens_last den_never) dens_nil) (dens_cons (den_setF V.cc0 V.na0_table (den_var (n := 1) rfl (.inl k_Told___init___rows)) (den_var (n := 0) rfl (.inl k_Told___init___self))) (dens_cons (den_setF V.cc0 V.na0_maps (den_var (n := 2) rfl (.inl k_Told___init___turns)) (den_var (n := 0) rfl (.inl k_Told___init___self))) (dens_cons (den_setF V.cc0 V.na0_targets (den_var (n := 3) rfl (.inl k_Told___init___ends)) (den_var (n := 0) rfl (.inl k_Told___init___self))) (dens_last (den_setF V.cc0 V.na0_heads (den_var (n := 4) rfl (.inl k_Told___init___heads)) (den_var (n := 0) rfl (.inl k_Told___init___self)))))))))
theorem fk_Told___init___0 (V : Ev K mg cl) : FK P w K mg base cl 7 0 "Told" 1 ["turns", "ends", "heads"] (fun ds es => ds ++ ([] ++ (es ++ []))) d_Told___init__ := by
  obtain ⟨ta, em, m⟩ := V.nk_Told___init__
  exact m.fk (ma := []) (mb := []) (fun Fu => c_Told___init__ V Fu) (by simp) (by simp) (fun ι g => .nil) (fun ι g => .nil) (fun Dd doc pm an cdv ct us mv ws h1 h2 h3 => match us, mv, ws, h1, h2, h3 with | [_, _], [], [_, _, _], _, _, _ => rfl)
theorem c__law_told (V : Ev K mg cl) : FD P w K mg base cl 9 "_law_told" d__law_told :=
  FD.mk' V.a__law_told sc__law_told (fun _ _ _ _ _ _ us hl => match us, hl with | [_], _ => rfl) fun f cdv A o s H E hr => (dens_last (den_ret (den_makeK (fk_Told___init___0 V) (hr.mono (by decide)) k__law_told_Told (dena_cons (den_ixN (n := 0) rfl (.inl k__law_told__law_data) den_int (fun _ _ => rfl)) dena_nil) (denk_cons (den_ixN (n := 0) rfl (.inl k__law_told__law_data) den_int (fun _ _ => rfl)) (denk_cons (den_ixN (n := 0) rfl (.inl k__law_told__law_data) den_int (fun _ _ => rfl)) (denk_cons (den_ixN (n := 0) rfl (.inl k__law_told__law_data) den_int (fun _ _ => rfl)) denk_nil))))))
theorem c_Told_named (V : Ev K mg cl) {fa : Addr} {fd : FuncData} (Fu : Fun K "named" "Told.named" s_Told_named fa fd) : FnG P w K mg base CX0 1 fa fd p_Told_named (spF K cl d_Told_named) ∧ Binds K fd p_Told_named [] :=
  FM.mk' Fu sc_Told_named (fun _ _ _ _ _ _ us hl => match us, hl with | [_, _], _ => rfl) fun cdv A o s H E hr => (dens_last (den_ret (den_tup (dena_cons (den_ix (den_ix (den_fld V.cc0 V.na0_table (den_var (n := 0) rfl (.inl k_Told_named_self))) (den_ixN (n := 1) rfl (.inl k_Told_named_standing) den_int (fun _ _ => rfl)) (fun _ _ => rfl)) (den_glob k_Told_named_NAME V.g_NAME) (fun _ _ => rfl)) dena_nil))))
theorem m0_named (V : Ev K mg cl) : FM P w K mg base cl 1 0 "named" d_Told_named := V.t0_named.fm fun Fu => c_Told_named V Fu
theorem c_Told_turnings (V : Ev K mg cl) {fa : Addr} {fd : FuncData} (Fu : Fun K "turnings" "Told.turnings" s_Told_turnings fa fd) : FnG P w K mg base CX0 1 fa fd p_Told_turnings (spF K cl d_Told_turnings) ∧ Binds K fd p_Told_turnings [] :=
  FM.mk' Fu sc_Told_turnings (fun _ _ _ _ _ _ us hl => match us, hl with | [_], _ => rfl) fun cdv A o s H E hr => (dens_last (den_ret (den_cb ca_len k_Told_turnings_len V.b_len PySem.boot_len (dena_cons (den_fld V.cc0 V.na0_maps (den_var (n := 0) rfl (.inl k_Told_turnings_self))) dena_nil))))
theorem m0_turnings (V : Ev K mg cl) : FM P w K mg base cl 1 0 "turnings" d_Told_turnings := V.t0_turnings.fm fun Fu => c_Told_turnings V Fu
theorem c_Told_turned (V : Ev K mg cl) {fa : Addr} {fd : FuncData} (Fu : Fun K "turned" "Told.turned" s_Told_turned fa fd) : FnG P w K mg base CX0 1 fa fd p_Told_turned (spF K cl d_Told_turned) ∧ Binds K fd p_Told_turned [] :=
  FM.mk' Fu sc_Told_turned (fun _ _ _ _ _ _ us hl => match us, hl with | [_, _, _], _ => rfl) fun cdv A o s H E hr => (dens_last (den_ret (den_tup (dena_cons (den_ix (den_ix (den_fld V.cc0 V.na0_maps (den_var (n := 0) rfl (.inl k_Told_turned_self))) (den_var (n := 1) rfl (.inl k_Told_turned_number)) (fun _ _ => rfl)) (den_ixN (n := 2) rfl (.inl k_Told_turned_standing) den_int (fun _ _ => rfl)) (fun _ _ => rfl)) dena_nil))))
theorem m0_turned (V : Ev K mg cl) : FM P w K mg base cl 1 0 "turned" d_Told_turned := V.t0_turned.fm fun Fu => c_Told_turned V Fu
theorem c_all_turned (V : Ev K mg cl) : FD P w K mg base cl 2 "all_turned" d_all_turned :=
  FD.mk' V.a_all_turned sc_all_turned (fun _ _ _ _ _ _ us hl => match us, hl with | [_, _], _ => rfl) fun f cdv A o s H E hr => (dens_cons (den_setT0 (n := 2) hr.u0 sc_all_turned.nd rfl (.inl k_all_turned_met) (den_var (n := 1) rfl (.inl k_all_turned_standing)) den_bl (.inr k_all_turned_met)) (dens_cons (den_setDsp (n := 3) sc_all_turned.nd rfl (.inl k_all_turned_waiting) (dena_cons (den_var (n := 1) rfl (.inl k_all_turned_standing)) dena_nil) (.inr k_all_turned_waiting)) (dens_cons (den_while PassesOwn.never (dent_truM (n := 3) rfl (.inl k_all_turned_waiting)) (dens_cons (den_set (n := 4) sc_all_turned.nd rfl (.inl k_all_turned_one) (den_pop (n := 3) rfl (.inl k_all_turned_waiting)) (hf := (.inr k_all_turned_one))) (dens_last (den_for PassesOwn.never rfl (tg_name (pg_name (i := 5) sc_all_turned.nd rfl (.inl k_all_turned_number) (.inr k_all_turned_number))) (deni_range1 k_all_turned_range V.b_range (den_meth0 (pl := _) (m0_turnings V) V.cc0 (hr.mono (by decide)) (den_var (n := 0) rfl (.inl k_all_turned_task)))) (dens_cons (den_set (n := 6) sc_all_turned.nd rfl (.inl k_all_turned_other) (den_meth (pl := _) (m0_turned V) V.cc0 (hr.mono (by decide)) (den_var (n := 0) rfl (.inl k_all_turned_task)) (dena_cons (den_var (n := 5) rfl (.inl k_all_turned_number)) (dena_cons (den_var (n := 4) rfl (.inl k_all_turned_one)) dena_nil))) (hf := (.inr k_all_turned_other))) (dens_last (den_if (dent_notInT (n := 2) (Nat.lt_of_le_of_lt (Nat.add_le_add_left (by decide) _) hr.u1) (den_var (n := 6) rfl (.inl k_all_turned_other)) rfl (.inl k_all_turned_met)) (dens_cons (den_setTI (n := 2) (Nat.lt_of_le_of_lt (Nat.add_le_add_left (by decide) _) hr.u1) rfl (.inl k_all_turned_met) den_bl (den_var (n := 6) rfl (.inl k_all_turned_other))) (dens_last (den_app (n := 3) rfl (.inl k_all_turned_waiting) (den_var (n := 6) rfl (.inl k_all_turned_other))))) dens_nil))))))) (dens_last (den_ret (den_listT (n := 2) rfl k_all_turned_list V.b_list rfl (.inl k_all_turned_met)))))))
theorem c_label (V : Ev K mg cl) : FD P w K mg base cl 3 "label" d_label :=
  FD.mk' V.a_label sc_label (fun _ _ _ _ _ _ us hl => match us, hl with | [_, _, _], _ => rfl) fun f cdv A o s H E hr => (dens_cons (den_if (dent_cmp (opd_eq hr.u) (den_var (n := 1) rfl (.inl k_label_word)) den_str) (dens_last (den_ret (den_var (n := 2) rfl (.inl k_label_standing)))) dens_nil) (dens_cons (den_if (dent_cmp (opd_eq hr.u) (den_var (n := 1) rfl (.inl k_label_word)) den_str) (dens_last (den_ret (den_meth (pl := _) (m0_named V) V.cc0 (hr.mono (by decide)) (den_var (n := 0) rfl (.inr (.inl k_label_task))) (dena_cons (den_var (n := 2) rfl (.inl k_label_standing)) dena_nil)))) dens_nil) (dens_last (den_ret (den_cb (ca_minT rfl (Nat.lt_of_le_of_lt (Nat.add_le_add_left (by decide) _) hr.u1)) k_label_min V.b_min b_min (dena_cons (den_lc (own := [("one", 3)]) rfl sc_label.nd (blkOk_by (N := N_label) (sc := defScope s_label) (by decide +kernel)) (fun _ _ _ _ _ => by (exact (tg_name (pg_name (i := 3) sc_label.nd rfl (Or.inl rfl))))) (deni_seq (den_call (c_all_turned V) (hr.mono (by decide)) k_label_all_turned (dena_cons (den_var (n := 0) rfl (.inr (.inl k_label_task))) (dena_cons (den_var (n := 2) rfl (.inl k_label_standing)) dena_nil)))) (fun _ _ _ _ _ => dents_nil) (fun _ _ _ _ _ => (den_meth (pl := _) (m0_named V) V.cc0 (hr.mono (by decide)) (den_var (n := 0) rfl (by first | exact .inl rfl | exact .inr (.inl rfl) | exact .inr (.inr rfl))) (dena_cons (den_var (n := 3) rfl (by first | exact .inl rfl | exact .inr (.inl rfl) | exact .inr (.inr rfl))) dena_nil)))) dena_nil))))))
theorem c__law_label (V : Ev K mg cl) : FD P w K mg base cl 1 "_law_label" d__law_label :=
  FD.mk' V.a__law_label sc__law_label (fun _ _ _ _ _ _ us hl => match us, hl with | [_, _, _], _ => rfl) fun f cdv A o s H E hr => (dens_cons (den_asg (tg_tup (K' := K) rfl rfl (tgs_cons (tg_name (pg_name (i := 3) sc__law_label.nd rfl (.inr k__law_label__law_rows) (.inl rfl))) (tgs_cons (tg_name (pg_name (i := 4) sc__law_label.nd rfl (.inl k__law_label__law_maps_by) (.inr k__law_label__law_maps_by))) (tgs_cons (tg_name (pg_name (i := 5) sc__law_label.nd rfl (.inl k__law_label__law_stops) (.inr k__law_label__law_stops))) (tgs_cons (tg_name (pg_name (i := 6) sc__law_label.nd rfl (.inl k__law_label__law_fronts) (.inr k__law_label__law_fronts))) tgs_nil))))) (den_var (n := 0) rfl (.inl k__law_label__law_data))) (dens_cons (den_if (dent_cmp (opd_eq hr.u) (den_var (n := 1) rfl (.inl k__law_label__law_word)) den_str) (dens_last (den_ret (den_tup (dena_cons (den_var (n := 2) rfl (.inl k__law_label__law_at)) dena_nil)))) dens_nil) (dens_cons (den_setDsp (n := 7) sc__law_label.nd rfl (.inl k__law_label__law_seen) (dena_cons (den_var (n := 2) rfl (.inl k__law_label__law_at)) dena_nil) (.inr k__law_label__law_seen)) (dens_cons (den_setDsp (n := 8) sc__law_label.nd rfl (.inl k__law_label__law_left) (dena_cons (den_var (n := 2) rfl (.inl k__law_label__law_at)) dena_nil) (.inr k__law_label__law_left)) (dens_cons (den_while PassesOwn.never (DenW.t (denw_and (dent_neNilN (n := 8) hr.u0 rfl (.inl k__law_label__law_left)) (denw_and1 (dent_cmp (opd_eq hr.u) (den_var (n := 1) rfl (.inl k__law_label__law_word)) den_str)))) (dens_cons (den_set (n := 9) sc__law_label.nd rfl (.inl k__law_label__law_one) (den_pop (n := 8) rfl (.inl k__law_label__law_left)) (hf := (.inr k__law_label__law_one))) (dens_last (den_for PassesOwn.never rfl (tg_name (pg_name (i := 10) sc__law_label.nd rfl (.inl k__law_label__law_own) (.inr k__law_label__law_own))) (deni_seq (den_var (n := 4) rfl (.inl k__law_label__law_maps_by))) (dens_last (den_if (dent_notInN (n := 7) hr.u1 (den_ixN (n := 10) rfl (.inl k__law_label__law_own) (den_var (n := 9) rfl (.inl k__law_label__law_one)) (fun _ _ => rfl)) rfl (.inl k__law_label__law_seen)) (dens_cons (den_app (n := 7) rfl (.inl k__law_label__law_seen) (den_ixN (n := 10) rfl (.inl k__law_label__law_own) (den_var (n := 9) rfl (.inl k__law_label__law_one)) (fun _ _ => rfl))) (dens_last (den_app (n := 8) rfl (.inl k__law_label__law_left) (den_ixN (n := 10) rfl (.inl k__law_label__law_own) (den_var (n := 9) rfl (.inl k__law_label__law_one)) (fun _ _ => rfl))))) dens_nil)))))) (dens_last (den_ret (den_tup (dena_cons (den_cb (ca_minG rfl) k__law_label_min V.b_min b_min (dena_cons (den_lc (own := [("_law_one", 9)]) rfl sc__law_label.nd (blkOk_by (N := N__law_label) (sc := defScope s__law_label) (by decide +kernel)) (fun _ _ _ _ _ => by (exact (tg_name (pg_name (i := 9) sc__law_label.nd rfl (Or.inl rfl))))) (deni_seq (den_var (n := 7) rfl (.inl k__law_label__law_seen))) (fun _ _ _ _ _ => dents_nil) (fun _ _ _ _ _ => (den_ix (den_ixN (n := 3) rfl (by first | exact .inl rfl | exact .inr (.inl rfl) | exact .inr (.inr rfl)) (den_var (n := 9) rfl (by first | exact .inl rfl | exact .inr (.inl rfl) | exact .inr (.inr rfl))) (fun _ _ => rfl)) den_int (fun _ _ => rfl)))) dena_nil)) dena_nil)))))))))
theorem c_law (V : Ev K mg cl) {fa : Addr} {fd : FuncData} (Fu : Fun K "law" "law" s_law fa fd) : FnG P w K mg base CX0 10 fa fd p_law (spF K cl d_law) ∧ Binds K fd p_law [] :=
  FM.mk' Fu sc_law (fun _ _ _ _ _ _ us hl => match us, hl with | [_], _ => rfl) fun cdv A o s H E hr => (dens_cons (den_set (n := 1) sc_law.nd rfl (.inl k_law__law_deck_here) (den_call (c__law_deck V) (hr.mono (by decide)) k_law__law_deck (dena_cons (den_var (n := 0) rfl (.inl k_law__law_script)) dena_nil)) (hf := (.inr k_law__law_deck_here))) (dens_cons (den_asg (tg_tup (K' := K) rfl rfl (tgs_cons (tg_name (pg_name (i := 2) sc_law.nd rfl (.inl k_law__law_rows) (.inr k_law__law_rows))) (tgs_cons (tg_name (pg_name (i := 3) sc_law.nd rfl (.inl k_law__law_maps_by) (.inr k_law__law_maps_by))) (tgs_cons (tg_name (pg_name (i := 4) sc_law.nd rfl (.inl k_law__law_stops) (.inr k_law__law_stops))) (tgs_cons (tg_name (pg_name (i := 5) sc_law.nd rfl (.inl k_law__law_fronts) (.inr k_law__law_fronts))) tgs_nil))))) (den_call (c__law_task V) (hr.mono (by decide)) k_law__law_task (dena_cons (den_var (n := 1) rfl (.inl k_law__law_deck_here)) (dena_cons den_int dena_nil)))) (dens_cons (den_if (dent_cmp (opd_eq hr.u) (den_op opd_mod (den_call (c__law_next V) (hr.mono (by decide)) k_law__law_next (dena_cons (den_var (n := 1) rfl (.inl k_law__law_deck_here)) dena_nil)) den_int) den_int) (dens_last (den_set (n := 3) sc_law.nd rfl (.inl k_law__law_maps_by) (den_call (c__law_maps V) (hr.mono (by decide)) k_law__law_maps (dena_cons (den_var (n := 1) rfl (.inl k_law__law_deck_here)) (dena_cons (den_cb ca_len k_law_len V.b_len PySem.boot_len (dena_cons (den_var (n := 2) rfl (.inl k_law__law_rows)) dena_nil)) dena_nil))) (hf := (.inr k_law__law_maps_by)))) dens_nil) (dens_cons (den_set (n := 6) sc_law.nd rfl (.inl k_law__law_shared) (den_op opd_add den_int (den_op opd_mod (den_call (c__law_next V) (hr.mono (by decide)) k_law__law_next (dena_cons (den_var (n := 1) rfl (.inl k_law__law_deck_here)) dena_nil)) den_int)) (hf := (.inr k_law__law_shared))) (dens_cons (den_setDsp (n := 7) sc_law.nd rfl (.inl k_law__law_named) dena_nil (.inr k_law__law_named)) (dens_cons (den_for PassesOwn.never rfl (tg_name (pg_name (i := 8) sc_law.nd rfl (.inl k_law__law_row) (.inr k_law__law_row))) (deni_seq (den_var (n := 2) rfl (.inl k_law__law_rows))) (dens_last (den_app (n := 7) rfl (.inl k_law__law_named) (den_op opd_add (den_op opd_add (den_sl (den_var (n := 8) rfl (.inl k_law__law_row)) deno_none (deno_some den_int)) (den_tup (dena_cons (den_ix (den_lst (dena_cons (den_ixN (n := 8) rfl (.inl k_law__law_row) den_int (fun _ _ => rfl)) (dena_cons (den_op opd_add (den_op opd_mod (den_call (c__law_next V) (hr.mono (by decide)) k_law__law_next (dena_cons (den_var (n := 1) rfl (.inl k_law__law_deck_here)) dena_nil)) (den_var (n := 6) rfl (.inl k_law__law_shared))) den_int) dena_nil))) (den_cty ca_int k_law_int V.b_int b_int (dena_cons (den_cmp opd_lt (den_var (n := 6) rfl (.inl k_law__law_shared)) den_int) dena_nil)) (fun _ _ => rfl)) dena_nil))) (den_sl (den_var (n := 8) rfl (.inl k_law__law_row)) (deno_some den_int) deno_none))))) (dens_cons (den_set (n := 2) sc_law.nd rfl (.inl k_law__law_rows) (den_cty ca_tuple k_law_tuple V.b_tuple b_tuple (dena_cons (den_var (n := 7) rfl (.inl k_law__law_named)) dena_nil)) (hf := (.inr k_law__law_rows))) (dens_cons (den_set (n := 9) sc_law.nd rfl (.inl k_law__law_data) (den_tup (dena_cons (den_var (n := 2) rfl (.inl k_law__law_rows)) (dena_cons (den_var (n := 3) rfl (.inl k_law__law_maps_by)) (dena_cons (den_var (n := 4) rfl (.inl k_law__law_stops)) (dena_cons (den_var (n := 5) rfl (.inl k_law__law_fronts)) dena_nil))))) (hf := (.inr k_law__law_data))) (dens_cons (den_set (n := 10) sc_law.nd rfl (.inl k_law__law_task_here) (den_call (c__law_told V) (hr.mono (by decide)) k_law__law_told (dena_cons (den_var (n := 9) rfl (.inl k_law__law_data)) dena_nil)) (hf := (.inr k_law__law_task_here))) (dens_cons (den_for PassesOwn.never rfl (tg_name (pg_name (i := 11) sc_law.nd rfl (.inl k_law__law_at) (.inr k_law__law_at))) (deni_range1 k_law_range V.b_range (den_cb ca_len k_law_len V.b_len PySem.boot_len (dena_cons (den_var (n := 2) rfl (.inl k_law__law_rows)) dena_nil))) (dens_last (den_for PassesOwn.never rfl (tg_name (pg_name (i := 12) sc_law.nd rfl (.inl k_law__law_word) (.inr k_law__law_word))) (deni_seq (den_tup (dena_cons den_str (dena_cons den_str (dena_cons den_str dena_nil))))) (dens_cons (den_set (n := 13) sc_law.nd rfl (.inl k_law__law_found) (den_call (c_label V) (hr.mono (by decide)) k_law_label (dena_cons (den_var (n := 10) rfl (.inl k_law__law_task_here)) (dena_cons (den_var (n := 12) rfl (.inl k_law__law_word)) (dena_cons (den_tup (dena_cons (den_var (n := 11) rfl (.inl k_law__law_at)) dena_nil)) dena_nil)))) (hf := (.inr k_law__law_found))) (dens_last (den_if (dent_cmp (opd_ne hr.u) (den_cb (ca_repr hr.g hr.u) k_law_repr V.b_repr b_repr (dena_cons (den_var (n := 13) rfl (.inl k_law__law_found)) dena_nil)) (den_cb (ca_repr hr.g hr.u) k_law_repr V.b_repr b_repr (dena_cons (den_call (c__law_label V) (hr.mono (by decide)) k_law__law_label (dena_cons (den_var (n := 9) rfl (.inl k_law__law_data)) (dena_cons (den_var (n := 12) rfl (.inl k_law__law_word)) (dena_cons (den_var (n := 11) rfl (.inl k_law__law_at)) dena_nil)))) dena_nil))) (dens_last (den_ret den_bl)) dens_nil)))))) (dens_last (den_ret den_bl))))))))))))
theorem ev {C0 : Addr}
    (b_abs : mg "abs" = none)
    (b_all : mg "all" = none)
    (b_bool : mg "bool" = none)
    (b_enumerate : mg "enumerate" = none)
    (b_int : mg "int" = none)
    (b_isinstance : mg "isinstance" = none)
    (b_len : mg "len" = none)
    (b_list : mg "list" = none)
    (b_max : mg "max" = none)
    (b_min : mg "min" = none)
    (b_range : mg "range" = none)
    (b_repr : mg "repr" = none)
    (b_tuple : mg "tuple" = none)
    (b_zip : mg "zip" = none)
    (g_MOST_BOUND : GlD K (fun i => [C0].getD i 0) mg "MOST_BOUND" (.int 100000))
    (g_MOST_COST : GlD K (fun i => [C0].getD i 0) mg "MOST_COST" (.int 1000))
    (g_MOST_HEADS : GlD K (fun i => [C0].getD i 0) mg "MOST_HEADS" (.int 200))
    (g_MOST_NAME : GlD K (fun i => [C0].getD i 0) mg "MOST_NAME" (.int 99))
    (g_MOST_NEXTS : GlD K (fun i => [C0].getD i 0) mg "MOST_NEXTS" (.int 8))
    (g_MOST_TOLD : GlD K (fun i => [C0].getD i 0) mg "MOST_TOLD" (.int 24))
    (g_MOST_TURNS : GlD K (fun i => [C0].getD i 0) mg "MOST_TURNS" (.int 3))
    (g_NAME : GlD K (fun i => [C0].getD i 0) mg "NAME" (.int 2))
    (a__law_deck : At K mg "_law_deck" s__law_deck)
    (a__law_next : At K mg "_law_next" s__law_next)
    (a__law_classes : At K mg "_law_classes" s__law_classes)
    (a__law_rests : At K mg "_law_rests" s__law_rests)
    (a__law_bounds : At K mg "_law_bounds" s__law_bounds)
    (a__law_cuts : At K mg "_law_cuts" s__law_cuts)
    (a__law_variants : At K mg "_law_variants" s__law_variants)
    (a__law_some : At K mg "_law_some" s__law_some)
    (a__law_ends : At K mg "_law_ends" s__law_ends)
    (a__law_task : At K mg "_law_task" s__law_task)
    (a__law_maps : At K mg "_law_maps" s__law_maps)
    (a_is_tuple_of : At K mg "is_tuple_of" s_is_tuple_of)
    (a_is_whole : At K mg "is_whole" s_is_whole)
    (a_is_between : At K mg "is_between" s_is_between)
    (a_is_from : At K mg "is_from" s_is_from)
    (a_is_pair : At K mg "is_pair" s_is_pair)
    (a_are_pairs : At K mg "are_pairs" s_are_pairs)
    (a_are_within : At K mg "are_within" s_are_within)
    (a_are_pairs_within : At K mg "are_pairs_within" s_are_pairs_within)
    (a_is_truth : At K mg "is_truth" s_is_truth)
    (a_is_table_row : At K mg "is_table_row" s_is_table_row)
    (a_are_numbers : At K mg "are_numbers" s_are_numbers)
    (a_is_turn : At K mg "is_turn" s_is_turn)
    (a_wrong_turn : At K mg "wrong_turn" s_wrong_turn)
    (a_are_rising : At K mg "are_rising" s_are_rising)
    (a_are_ends : At K mg "are_ends" s_are_ends)
    (a_are_heads : At K mg "are_heads" s_are_heads)
    (a_wrong_place : At K mg "wrong_place" s_wrong_place)
    (a__law_told : At K mg "_law_told" s__law_told)
    (a_all_turned : At K mg "all_turned" s_all_turned)
    (a_label : At K mg "label" s_label)
    (a__law_label : At K mg "_law_label" s__law_label)
    (a_law : At K mg "law" s_law)
    (cc0 : Cls K C0)
    (na0_heads : NoAttr K C0 "heads")
    (na0_maps : NoAttr K C0 "maps")
    (na0_table : NoAttr K C0 "table")
    (na0_targets : NoAttr K C0 "targets")
    (t0_named : Mt K C0 "named" "Told.named" s_Told_named)
    (t0_turned : Mt K C0 "turned" "Told.turned" s_Told_turned)
    (t0_turnings : Mt K C0 "turnings" "Told.turnings" s_Told_turnings)
    (nk_Told___init__ : ∃ ta, EmT K ta ∧ NtK K mg C0 "Told" "Told.__init__" s_Told___init__ [("turns", L2.V.ref ta), ("ends", L2.V.non), ("heads", L2.V.non)]) : Ev K mg (fun i => [C0].getD i 0) := ⟨b_abs, b_all, b_bool, b_enumerate, b_int, b_isinstance, b_len, b_list, b_max, b_min, b_range, b_repr, b_tuple, b_zip, g_MOST_BOUND, g_MOST_COST, g_MOST_HEADS, g_MOST_NAME, g_MOST_NEXTS, g_MOST_TOLD, g_MOST_TURNS, g_NAME, a__law_deck, a__law_next, a__law_classes, a__law_rests, a__law_bounds, a__law_cuts, a__law_variants, a__law_some, a__law_ends, a__law_task, a__law_maps, a_is_tuple_of, a_is_whole, a_is_between, a_is_from, a_is_pair, a_are_pairs, a_are_within, a_are_pairs_within, a_is_truth, a_is_table_row, a_are_numbers, a_is_turn, a_wrong_turn, a_are_rising, a_are_ends, a_are_heads, a_wrong_place, a__law_told, a_all_turned, a_label, a__law_label, a_law, cc0, na0_heads, na0_maps, na0_table, na0_targets, t0_named, t0_turned, t0_turnings, nk_Told___init__⟩
theorem fin {fa : Addr} (V : Ev K mg cl) (hmg : mg "law" = some (.ref fa)) : ∃ fd : FuncData, (∀ (s : Shared) (u : Value), BindsTo s fd ⟨[u], []⟩ [("_law_script", u)]) ∧ ∃ cl : Nat → Addr, ∀ base : Heap, K.In base → base.Ns mainGlobals mg → FnG P w K mg base CX0 10 fa fd ["_law_script"] (spF K cl d_law) := by
  obtain ⟨f, fd, Fu, hm⟩ := V.a_law.ex
  have e := hmg.symm.trans hm
  cases e
  refine ⟨fd, fun s u => ?_, cl, fun base _ _ => (c_law V Fu).1⟩
  obtain ⟨oc, od, kV, doc, pm, an, cdv, ct, osl, rfl, lk, hcd⟩ := Fu.ex
  exact .of_eq rfl
end
end K04

namespace K04
open Sd
theorem is_non (i : Int) : isD (.int i) .non = some (.bl false) := rfl
end K04

namespace K04
open Sd
/-! the deck -/
def Rg (l : List Int) : Prop := ∀ x ∈ l, 0 ≤ x ∧ x < 2147483629
theorem Rg.cons {x : Int} {l : List Int} (h : Rg l) (hx : 0 ≤ x ∧ x < 2147483629) : Rg (l ++ [x]) := fun y hy => (List.mem_append.mp hy).elim (h y) fun z => by
  have : y = x := by simpa using z
  exact this ▸ hx
structure Dk (k : Nat) (rest st : List SO) : Prop where
  ex : ∃ (dg cs : List Int) (a : Int), st = .lst (pI dg) :: .lst [.ref 0, .lst (pI cs), .int a] :: rest ∧ Rg dg ∧ cs ≠ [] ∧ Rg cs ∧ cs.length ≤ 100 ∧ 0 ≤ a ∧ a ≤ k
theorem mod_rg (i : Int) : 0 ≤ i % 2147483629 ∧ i % 2147483629 < 2147483629 := ⟨Int.emod_nonneg _ (by decide), Int.emod_lt_of_pos _ (by decide)⟩
theorem x_pow18 : powD (.int 10) (.int 18) = some (.int (10 ^ 18)) := x_pow (k := 18) (by decide) (by decide)
theorem app_pI (l : List Int) (x : Int) : pI l ++ [.int x] = pI (l ++ [x]) := by simp [pI]
theorem f_deck {ns : List Int} (hn : ns.length ≤ 63) : ∃ st, d__law_deck [.scr ns] [] = some (.ref 1, st) ∧ Dk 0 [] st := by
  have hsl : slD (.scr ns) none (some 63) = some (.lst (ns.map D.int)) := by
    show some (D.lst (cutD (ns.map D.int) none (some ((63 : Nat) : Int)))) = _
    rw [cut_to, List.take_of_length_le (by simpa using hn)]
  have e : ∃ s', Sd.forM (Sd.st 3) (bd (bd (rd 0) fun x => bd (ret none) fun i => bd (bd (ret (.int 63)) fun i => bd (lf (isI i)) fun k => ret (some k)) fun j => lf (slD x i j)) itM) (sq (asM 3 (bd (bd (rd 3) fun x => bd (ret []) fun xs => ret (x :: xs)) fun ds => lf (absF ds))) (sq (appM 2 (bd (rd 3) fun x => bd (ret (.int 2147483629)) fun y => lf (modD x y))) (whGo (andT (bd (rd 3) fun x => bd (bd (ret (.int 10)) fun x => bd (ret (.int 18)) fun y => lf (powD x y)) fun y => lf ((geD x y).bind isB)) (bd (bd (slotM 1) fun l => ret (.int l.length)) fun x => bd (ret (.int 900)) fun y => lf ((ltD x y).bind isB))) (sq (appM 1 (bd (rd 3) fun x => bd (ret (.int 2147483629)) fun y => lf (modD x y))) (asM 3 (bd (rd 3) fun x => bd (ret (.int 2147483629)) fun y => lf (fdivD x y)))) 100000))) ⟨[.dat (.scr ns), .chg [], .chg [.int (ns.length : Int)], .un], []⟩ = some (.nx, s') ∧ ∃ dg cs v, s' = ⟨[.dat (.scr ns), .chg (pI dg), .chg (pI cs), v], []⟩ ∧ Rg dg ∧ dg.length ≤ 900 ∧ cs.length = 1 + ns.length ∧ Rg cs := by
    refine forMI (l := ns) (f := D.int) (fun pre s => ∃ dg cs v, s = ⟨[.dat (.scr ns), .chg (pI dg), .chg (pI cs), v], []⟩ ∧ Rg dg ∧ dg.length ≤ 900 ∧ cs.length = 1 + pre.length ∧ Rg cs) (s1 := ⟨[.dat (.scr ns), .chg (pI []), .chg (pI [(ns.length : Int)]), .un], []⟩) ?_ ?_ ?_
    · simp only [hsl, runD, entry, x_sq, x_asM, x_rtM, x_tgM, x_ifM, few0, few1, few2, few3, few4, few5, few6, few7, few8, few9, x_andM, x_orM, x_notM, x_andT, x_orT, bd, Sd.ret, lf, fl, rd, Sd.st, stL, appM, mutS, putS, setM, slotM, hasS, seqM, itM, popZ, mvS, lstS, callM, sfM, x_isB, x_isI, x_lt, x_le, x_gt, x_ge, x_add, x_sub, tsC, tsN, len_tup, len_lst, x_tupL, x_tupT, x_lstL, x_lstT, x_intB, x_abs, Option.bind_some, Option.bind_none, List.map_cons, List.map_nil, List.length_cons, List.length_nil, List.replicate, List.cons_append, List.nil_append, List.getElem?_cons_zero, List.getElem?_cons_succ, List.set_cons_zero, List.set_cons_succ, Nat.reduceAdd, Nat.reduceSub, Nat.reduceLT, ite_true, ite_false, reduceIte, reduceCtorEq, Nat.reduceLeDiff, Bool.false_eq_true]
      rfl
    · exact ⟨[], _, _, rfl, fun _ h => absurd h (by simp), by simp, rfl, fun x hx => by
        have : x = (ns.length : Int) := by simpa using hx
        omega⟩
    · rintro pre x post s hx ⟨dg, cs, v, rfl, hd, hdl, hcl, hc⟩
      have hlen : pre.length < ns.length := by rw [hx]; simp
      have hcs : (pI cs).length < 100000 := by rw [pI_len]; omega
      generalize hy : (if x < 0 then -x else x) = y
      have hy0 : 0 ≤ y := by
        rw [← hy]
        split <;> omega
      have w : ∃ s', whGo (andT (bd (rd 3) fun x => bd (bd (ret (.int 10)) fun x => bd (ret (.int 18)) fun y => lf (powD x y)) fun y => lf ((geD x y).bind isB)) (bd (bd (slotM 1) fun l => ret (.int l.length)) fun x => bd (ret (.int 900)) fun y => lf ((ltD x y).bind isB))) (sq (appM 1 (bd (rd 3) fun x => bd (ret (.int 2147483629)) fun y => lf (modD x y))) (asM 3 (bd (rd 3) fun x => bd (ret (.int 2147483629)) fun y => lf (fdivD x y)))) 100000 ⟨[.dat (.scr ns), .chg (pI dg), .chg (pI (cs ++ [y % 2147483629])), .dat (.int y)], []⟩ = some (.nx, s') ∧ ∃ dg' y', s' = ⟨[.dat (.scr ns), .chg (pI dg'), .chg (pI (cs ++ [y % 2147483629])), .dat (.int y')], []⟩ ∧ Rg dg' ∧ dg'.length ≤ 900 := by
        refine (whI (fun s => ∃ dg' y', s = ⟨[.dat (.scr ns), .chg (pI dg'), .chg (pI (cs ++ [y % 2147483629])), .dat (.int y')], []⟩ ∧ Rg dg' ∧ dg'.length ≤ 900) (fun (s : S) => match s.r[1]? with | some (SV.chg l) => 1000 - l.length | _ => 0) ?_ 100000 _ ⟨dg, y, rfl, hd, hdl⟩ (by show 1000 - (pI dg).length < 100000; omega)).imp fun s' h => ⟨h.1, h.2.1⟩
        rintro s ⟨dg', y', rfl, hd', hl'⟩
        by_cases h1 : (10 : Int) ^ 18 ≤ y'
        · by_cases h2 : ((pI dg').length : Int) < 900
          · right
            have h3 : (pI dg').length < 100000 := by omega
            refine ⟨⟨[.dat (.scr ns), .chg (pI (dg' ++ [y' % 2147483629])), .chg (pI (cs ++ [y % 2147483629])), .dat (.int (y' / 2147483629))], []⟩, ?_, ?_, ⟨_, _, rfl, hd'.cons (mod_rg _), by rw [pI_len] at h2; simp; omega⟩, ?_⟩
            · simp only [x_pow18, decide_eq_true h1, decide_eq_true h2, runD, entry, x_sq, x_asM, x_rtM, x_tgM, x_ifM, few0, few1, few2, few3, few4, few5, few6, few7, few8, few9, x_andM, x_orM, x_notM, x_andT, x_orT, bd, Sd.ret, lf, fl, rd, Sd.st, stL, appM, mutS, putS, setM, slotM, hasS, seqM, itM, popZ, mvS, lstS, callM, sfM, x_isB, x_isI, x_lt, x_le, x_gt, x_ge, x_add, x_sub, tsC, tsN, len_tup, len_lst, x_tupL, x_tupT, x_lstL, x_lstT, x_intB, x_abs, Option.bind_some, Option.bind_none, List.map_cons, List.map_nil, List.length_cons, List.length_nil, List.replicate, List.cons_append, List.nil_append, List.getElem?_cons_zero, List.getElem?_cons_succ, List.set_cons_zero, List.set_cons_succ, Nat.reduceAdd, Nat.reduceSub, Nat.reduceLT, ite_true, ite_false, reduceIte, reduceCtorEq, Nat.reduceLeDiff, Bool.false_eq_true]
            · simp only [x_mod (show (0 : Int) < 2147483629 by decide), x_fdiv (show (0 : Int) < 2147483629 by decide) (by decide), h3, app_pI, runD, entry, x_sq, x_asM, x_rtM, x_tgM, x_ifM, few0, few1, few2, few3, few4, few5, few6, few7, few8, few9, x_andM, x_orM, x_notM, x_andT, x_orT, bd, Sd.ret, lf, fl, rd, Sd.st, stL, appM, mutS, putS, setM, slotM, hasS, seqM, itM, popZ, mvS, lstS, callM, sfM, x_isB, x_isI, x_lt, x_le, x_gt, x_ge, x_add, x_sub, tsC, tsN, len_tup, len_lst, x_tupL, x_tupT, x_lstL, x_lstT, x_intB, x_abs, Option.bind_some, Option.bind_none, List.map_cons, List.map_nil, List.length_cons, List.length_nil, List.replicate, List.cons_append, List.nil_append, List.getElem?_cons_zero, List.getElem?_cons_succ, List.set_cons_zero, List.set_cons_succ, Nat.reduceAdd, Nat.reduceSub, Nat.reduceLT, ite_true, ite_false, reduceIte, reduceCtorEq, Nat.reduceLeDiff, Bool.false_eq_true]
            · show 1000 - (pI (dg' ++ [y' % 2147483629])).length < 1000 - (pI dg').length
              rw [pI_len] at h2 ⊢
              rw [pI_len, List.length_append]
              simp
              omega
          · left
            simp only [x_pow18, decide_eq_true h1, decide_eq_false h2, runD, entry, x_sq, x_asM, x_rtM, x_tgM, x_ifM, few0, few1, few2, few3, few4, few5, few6, few7, few8, few9, x_andM, x_orM, x_notM, x_andT, x_orT, bd, Sd.ret, lf, fl, rd, Sd.st, stL, appM, mutS, putS, setM, slotM, hasS, seqM, itM, popZ, mvS, lstS, callM, sfM, x_isB, x_isI, x_lt, x_le, x_gt, x_ge, x_add, x_sub, tsC, tsN, len_tup, len_lst, x_tupL, x_tupT, x_lstL, x_lstT, x_intB, x_abs, Option.bind_some, Option.bind_none, List.map_cons, List.map_nil, List.length_cons, List.length_nil, List.replicate, List.cons_append, List.nil_append, List.getElem?_cons_zero, List.getElem?_cons_succ, List.set_cons_zero, List.set_cons_succ, Nat.reduceAdd, Nat.reduceSub, Nat.reduceLT, ite_true, ite_false, reduceIte, reduceCtorEq, Nat.reduceLeDiff, Bool.false_eq_true]
        · left
          simp only [x_pow18, decide_eq_false h1, runD, entry, x_sq, x_asM, x_rtM, x_tgM, x_ifM, few0, few1, few2, few3, few4, few5, few6, few7, few8, few9, x_andM, x_orM, x_notM, x_andT, x_orT, bd, Sd.ret, lf, fl, rd, Sd.st, stL, appM, mutS, putS, setM, slotM, hasS, seqM, itM, popZ, mvS, lstS, callM, sfM, x_isB, x_isI, x_lt, x_le, x_gt, x_ge, x_add, x_sub, tsC, tsN, len_tup, len_lst, x_tupL, x_tupT, x_lstL, x_lstT, x_intB, x_abs, Option.bind_some, Option.bind_none, List.map_cons, List.map_nil, List.length_cons, List.length_nil, List.replicate, List.cons_append, List.nil_append, List.getElem?_cons_zero, List.getElem?_cons_succ, List.set_cons_zero, List.set_cons_succ, Nat.reduceAdd, Nat.reduceSub, Nat.reduceLT, ite_true, ite_false, reduceIte, reduceCtorEq, Nat.reduceLeDiff, Bool.false_eq_true]
      obtain ⟨s', e1, dg', y', rfl, k1, k2⟩ := w
      refine ⟨⟨[.dat (.scr ns), .chg (pI dg), .chg (pI cs), .dat (.int x)], []⟩, _, rfl, ?_, dg', cs ++ [y % 2147483629], .dat (.int y'), rfl, k1, k2, by simp; omega, hc.cons (mod_rg _)⟩
      simp only [x_mod (show (0 : Int) < 2147483629 by decide), hy, hcs, app_pI, e1, runD, entry, x_sq, x_asM, x_rtM, x_tgM, x_ifM, few0, few1, few2, few3, few4, few5, few6, few7, few8, few9, x_andM, x_orM, x_notM, x_andT, x_orT, bd, Sd.ret, lf, fl, rd, Sd.st, stL, appM, mutS, putS, setM, slotM, hasS, seqM, itM, popZ, mvS, lstS, callM, sfM, x_isB, x_isI, x_lt, x_le, x_gt, x_ge, x_add, x_sub, tsC, tsN, len_tup, len_lst, x_tupL, x_tupT, x_lstL, x_lstT, x_intB, x_abs, Option.bind_some, Option.bind_none, List.map_cons, List.map_nil, List.length_cons, List.length_nil, List.replicate, List.cons_append, List.nil_append, List.getElem?_cons_zero, List.getElem?_cons_succ, List.set_cons_zero, List.set_cons_succ, Nat.reduceAdd, Nat.reduceSub, Nat.reduceLT, ite_true, ite_false, reduceIte, reduceCtorEq, Nat.reduceLeDiff, Bool.false_eq_true]
  obtain ⟨s', e1, dg, cs, v, rfl, h1, h2, h3, h4⟩ := e
  refine ⟨.lst (pI dg) :: .lst [.ref 0, .lst (pI cs), .int 0] :: [], ?_, ⟨dg, cs, 0, rfl, h1, fun e => by subst e; simp at h3; omega, h4, by omega, by omega, by omega⟩⟩
  have hz : lenF [.scr ns] = some (.int ns.length) := rfl
  simp only [d__law_deck, m__law_deck, hz, e1, runD, entry, x_sq, x_asM, x_rtM, x_tgM, x_ifM, few0, few1, few2, few3, few4, few5, few6, few7, few8, few9, x_andM, x_orM, x_notM, x_andT, x_orT, bd, Sd.ret, lf, fl, rd, Sd.st, stL, appM, mutS, putS, setM, slotM, hasS, seqM, itM, popZ, mvS, lstS, callM, sfM, x_isB, x_isI, x_lt, x_le, x_gt, x_ge, x_add, x_sub, tsC, tsN, len_tup, len_lst, x_tupL, x_tupT, x_lstL, x_lstT, x_intB, x_abs, Option.bind_some, Option.bind_none, List.map_cons, List.map_nil, List.length_cons, List.length_nil, List.replicate, List.cons_append, List.nil_append, List.getElem?_cons_zero, List.getElem?_cons_succ, List.set_cons_zero, List.set_cons_succ, Nat.reduceAdd, Nat.reduceSub, Nat.reduceLT, ite_true, ite_false, reduceIte, reduceCtorEq, Nat.reduceLeDiff, Bool.false_eq_true]
section
variable {k : Nat} {rest st : List SO}
theorem at30 (x y z : D) : L2.atI [x, y, z] 0 = some x := rfl
theorem at31 (x y z : D) : L2.atI [x, y, z] 1 = some y := rfl
theorem at32 (x y z : D) : L2.atI [x, y, z] 2 = some z := rfl
theorem ix32 : L2.ixN 3 2 = some 2 := rfl
theorem x_mulS {i j : Int} (h : i.natAbs < 18446744073709551616) (k : j.natAbs < 18446744073709551616) : mulD (.int i) (.int j) = some (.int (i * j)) := x_mul (Nat.lt_trans h (by decide)) (Nat.lt_trans k (by decide))
theorem at_mod {cs : List Int} (h : cs ≠ []) (a : Int) : ∃ c ∈ cs, L2.atI (pI cs) (a % (cs.length : Int)) = some (.int c) := by
  have hl : 0 < cs.length := List.length_pos_iff.mpr h
  have h0 : 0 ≤ a % (cs.length : Int) := Int.emod_nonneg _ (by omega)
  have h1 : a % (cs.length : Int) < cs.length := Int.emod_lt_of_pos _ (by omega)
  obtain ⟨j, hj⟩ := Int.eq_ofNat_of_zero_le h0
  have hj1 : j < cs.length := by omega
  refine ⟨cs[j], List.getElem_mem hj1, ?_⟩
  rw [hj]
  exact atI_nat (by rw [pI_at, List.getElem?_eq_getElem hj1]; rfl)
theorem f_next (h : Dk k rest st) (hk : k ≤ 1000000) : ∃ v st', d__law_next [.ref 1] st = some (.int v, st') ∧ (0 ≤ v ∧ v < 2147483629) ∧ Dk (k + 1) rest st' := by
  obtain ⟨dg, cs, a, rfl, h1, h2, h3, h4, h5, h6⟩ := h.ex
  cases dg with
  | cons d dg =>
    refine ⟨d, .lst (pI dg) :: .lst [.ref 0, .lst (pI cs), .int a] :: rest, ?_, h1 d (List.mem_cons_self ..), ⟨dg, cs, a, rfl, fun x hx => h1 x (List.mem_cons_of_mem _ hx), h2, h3, h4, h5, by omega⟩⟩
    have e : pI (d :: dg) = .int d :: pI dg := rfl
    simp only [d__law_next, m__law_next, e, nilM, List.isEmpty_cons, Bool.not_false, at30, runD, entry, x_sq, x_asM, x_rtM, x_tgM, x_ifM, few0, few1, few2, few3, few4, few5, few6, few7, few8, few9, x_andM, x_orM, x_notM, x_andT, x_orT, bd, Sd.ret, lf, fl, rd, Sd.st, stL, appM, mutS, putS, setM, slotM, hasS, seqM, itM, popZ, mvS, lstS, callM, sfM, x_isB, x_isI, x_lt, x_le, x_gt, x_ge, x_add, x_sub, tsC, tsN, len_tup, len_lst, x_tupL, x_tupT, x_lstL, x_lstT, x_intB, x_abs, Option.bind_some, Option.bind_none, List.map_cons, List.map_nil, List.length_cons, List.length_nil, List.replicate, List.cons_append, List.nil_append, List.getElem?_cons_zero, List.getElem?_cons_succ, List.set_cons_zero, List.set_cons_succ, Nat.reduceAdd, Nat.reduceSub, Nat.reduceLT, ite_true, ite_false, reduceIte, reduceCtorEq, Nat.reduceLeDiff, Bool.false_eq_true]
  | nil =>
    obtain ⟨c, hc, ec⟩ := at_mod h2 (a + 1)
    have hc := h3 c hc
    have hl : 0 < cs.length := List.length_pos_iff.mpr h2
    refine ⟨_, .lst (pI []) :: .lst [.ref 0, .lst (pI cs), .int (a + 1)] :: rest, ?_, mod_rg (((c + 7 * a + 48271 * (a + 1)) ^ 5) % 2147483647 + 69621 * (c + 7 * a)), ⟨[], cs, a + 1, rfl, h1, h2, h3, h4, by omega, by omega⟩⟩
    have e : pI [] = [] := rfl
    have m1 := x_mulS (i := 7) (j := a) (by decide) (by omega)
    have m2 := x_mulS (i := 48271) (j := a + 1) (by decide) (by omega)
    have m3 := x_mulS (i := 69621) (j := c + 7 * a) (by decide) (by omega)
    have m4 := x_pow (i := c + 7 * a + 48271 * (a + 1)) (k := 5) (by omega) (by decide)
    have m4 : powD (.int (c + 7 * a + 48271 * (a + 1))) (.int 5) = some (.int ((c + 7 * a + 48271 * (a + 1)) ^ 5)) := m4
    simp only [d__law_next, m__law_next, e, nilM, List.isEmpty_nil, Bool.not_true, at30, at31, at32, ix32, x_mod (show (0 : Int) < cs.length by omega), x_mod (show (0 : Int) < 2147483647 by decide), x_mod (show (0 : Int) < 2147483629 by decide), pI_len, ec, m1, m2, m3, m4, runD, entry, x_sq, x_asM, x_rtM, x_tgM, x_ifM, few0, few1, few2, few3, few4, few5, few6, few7, few8, few9, x_andM, x_orM, x_notM, x_andT, x_orT, bd, Sd.ret, lf, fl, rd, Sd.st, stL, appM, mutS, putS, setM, slotM, hasS, seqM, itM, popZ, mvS, lstS, callM, sfM, x_isB, x_isI, x_lt, x_le, x_gt, x_ge, x_add, x_sub, tsC, tsN, len_tup, len_lst, x_tupL, x_tupT, x_lstL, x_lstT, x_intB, x_abs, Option.bind_some, Option.bind_none, List.map_cons, List.map_nil, List.length_cons, List.length_nil, List.replicate, List.cons_append, List.nil_append, List.getElem?_cons_zero, List.getElem?_cons_succ, List.set_cons_zero, List.set_cons_succ, Nat.reduceAdd, Nat.reduceSub, Nat.reduceLT, ite_true, ite_false, reduceIte, reduceCtorEq, Nat.reduceLeDiff, Bool.false_eq_true]
theorem Dk.up {k' : Nat} (h : Dk k rest st) (l : k ≤ k') : Dk k' rest st := by
  obtain ⟨dg, cs, a, h1, h2, h3, h4, h5, h6, h7⟩ := h.ex
  exact ⟨dg, cs, a, h1, h2, h3, h4, h5, h6, by omega⟩
theorem pI_empty (ns : List Int) : (pI ns).isEmpty = ns.isEmpty := by cases ns <;> rfl
theorem rng_map {n : Nat} (h : n ≤ 1000) : rng1 (.int n) = some ((List.range n).map fun (i : Nat) => D.int ((i : Nat) : Int)) := by
  show (if (n : Int).natAbs < 1000000 then some (rangeL 0 (n : Int).toNat) else none) = _
  rw [if_pos (by omega)]
  simp [rangeL]
theorem pI_app (a c : List Int) : pI a ++ pI c = pI (a ++ c) := by simp [pI]
end
end K04

namespace K04
open Sd
/-! small tasks -/
abbrev Cl1 := Bool × List (Int × Int)
def pJ (l : List (Int × Int)) : List D := l.map fun q => .tup [.int q.1, .int q.2]
theorem pJ_app (a : List (Int × Int)) (x y : Int) : pJ a ++ [.tup [.int x, .int y]] = pJ (a ++ [(x, y)]) := by simp [pJ]
theorem pJ_len (a : List (Int × Int)) : (pJ a).length = a.length := by simp [pJ]
def pC (q : Cl1) : D := .tup [.bl q.1, .lst (pJ q.2)]
theorem pC_app (a : List Cl1) (b : Bool) (l : List (Int × Int)) : a.map pC ++ [.tup [.bl b, .lst (pJ l)]] = (a ++ [(b, l)]).map pC := by simp [pC]
def PrOk (n : Int) (l : List (Int × Int)) : Prop := l.length ≤ 4 ∧ ∀ q ∈ l, (0 ≤ q.1 ∧ q.1 ≤ 9) ∧ 0 ≤ q.2 ∧ q.2 < n
theorem at_modD {l : List D} (hl : l ≠ []) (v : Int) {n : Int} (hn : n = l.length) : ∃ d ∈ l, L2.atI l (v % n) = some d := by
  subst hn
  have hp : 0 < l.length := List.length_pos_iff.mpr hl
  obtain ⟨j, hj⟩ := Int.eq_ofNat_of_zero_le (Int.emod_nonneg v (show (l.length : Int) ≠ 0 by omega))
  have hj1 : j < l.length := by
    have := Int.emod_lt_of_pos v (show 0 < (l.length : Int) by omega)
    omega
  refine ⟨l[j], List.getElem_mem hj1, ?_⟩
  rw [hj]
  exact atI_nat (List.getElem?_eq_getElem hj1)
theorem at_two (x y : D) (t : Bool) : L2.atI [x, y] (if t = true then 1 else 0) = some (if t = true then y else x) := by cases t <;> rfl
section
variable {k : Nat} {rest st : List SO}
abbrev sC (m n : Int) (c : List Int) (cs : List Cl1) (v5 v6 v7 v8 v9 v10 : SV) (st : List SO) : S := ⟨[.dat (.ref 1), .dat (.int m), .dat (.int n), .dat (.lst (pI c)), .chg (cs.map pC), v5, v6, v7, v8, v9, v10], st⟩
theorem cls_in {m n : Int} {c : List Int} {cs : List Cl1} {v5 v7 v9 v10 : SV} {num : Int} (hn : 2 ≤ n ∧ n ≤ 40) (hc : c ≠ []) (hc9 : ∀ x ∈ c, 0 ≤ x ∧ x ≤ 9) (h : Dk k rest st) (hk : k ≤ 900000) :
    ∃ s', (Sd.forM (Sd.st 9) (bd (bd (bd (bd (ret (.int 1)) fun x => bd (bd (ret (.int 2)) fun x => bd (bd (ret (.int 2)) fun x => bd (bd (ret (.int 3)) fun x => bd (bd (ret (.int 0)) fun x => bd (bd (ret (.int 3)) fun x => bd (bd (ret (.int 4)) fun x => bd (ret []) fun xs => ret (x :: xs)) fun xs => ret (x :: xs)) fun xs => ret (x :: xs)) fun xs => ret (x :: xs)) fun xs => ret (x :: xs)) fun xs => ret (x :: xs)) fun xs => ret (x :: xs)) fun xs => lf (few xs (.lst xs))) fun x => bd (bd (bd (rd 6) fun x => bd (ret (.int 12)) fun y => lf (fdivD x y)) fun x => bd (ret (.int 7)) fun y => lf (modD x y)) fun i => bd (lf (isI i)) fun k => bd (seqM x) fun l => lf (L2.atI l k)) fun x => lf (rng1 x)) (sq (asM 10 (bd (bd (rd 0) fun x => bd (ret []) fun xs => ret (x :: xs)) fun ds => callM d__law_next ds)) (appM 8 (bd (bd (bd (hasS 3) fun _ => bd (bd (rd 10) fun x => bd (bd (bd (rd 3) fun x => bd (ret []) fun xs => ret (x :: xs)) fun ds => lf (lenF ds)) fun y => lf (modD x y)) fun i => bd (lf (isI i)) fun k => bd (slotM 3) fun l => lf (L2.atI l k)) fun x => bd (bd (bd (bd (rd 10) fun x => bd (ret (.int 8)) fun y => lf (fdivD x y)) fun x => bd (rd 2) fun y => lf (modD x y)) fun x => bd (ret []) fun xs => ret (x :: xs)) fun xs => ret (x :: xs)) fun xs => lf (few xs (.tup xs)))))) (sC m n c cs v5 (.dat (.int num)) v7 (.chg []) v9 v10 st) = some (.nx, s') ∧ ∃ ps v9 v10 st', s' = sC m n c cs v5 (.dat (.int num)) v7 (.chg (pJ ps)) v9 v10 st' ∧ PrOk n ps ∧ Dk (k + 4) rest st' := by
  obtain ⟨d, hd, ed⟩ := at_modD (l := [.int 1, .int 2, .int 2, .int 3, .int 0, .int 3, .int 4]) (by simp) (num / 12) (n := 7) rfl
  obtain ⟨t, rfl, ht⟩ : ∃ t : Nat, d = .int t ∧ t ≤ 4 := by
    simp only [List.mem_cons, List.not_mem_nil, or_false] at hd
    rcases hd with rfl | rfl | rfl | rfl | rfl | rfl | rfl
    · exact ⟨1, rfl, by decide⟩
    · exact ⟨2, rfl, by decide⟩
    · exact ⟨2, rfl, by decide⟩
    · exact ⟨3, rfl, by decide⟩
    · exact ⟨0, rfl, by decide⟩
    · exact ⟨3, rfl, by decide⟩
    · exact ⟨4, rfl, by decide⟩
  have hr := rng_map (n := t) (by omega)
  have key := forMI (ts := (Sd.st 9)) (mi := (bd (bd (bd (bd (ret (.int 1)) fun x => bd (bd (ret (.int 2)) fun x => bd (bd (ret (.int 2)) fun x => bd (bd (ret (.int 3)) fun x => bd (bd (ret (.int 0)) fun x => bd (bd (ret (.int 3)) fun x => bd (bd (ret (.int 4)) fun x => bd (ret []) fun xs => ret (x :: xs)) fun xs => ret (x :: xs)) fun xs => ret (x :: xs)) fun xs => ret (x :: xs)) fun xs => ret (x :: xs)) fun xs => ret (x :: xs)) fun xs => ret (x :: xs)) fun xs => lf (few xs (.lst xs))) fun x => bd (bd (bd (rd 6) fun x => bd (ret (.int 12)) fun y => lf (fdivD x y)) fun x => bd (ret (.int 7)) fun y => lf (modD x y)) fun i => bd (lf (isI i)) fun k => bd (seqM x) fun l => lf (L2.atI l k)) fun x => lf (rng1 x))) (mb := (sq (asM 10 (bd (bd (rd 0) fun x => bd (ret []) fun xs => ret (x :: xs)) fun ds => callM d__law_next ds)) (appM 8 (bd (bd (bd (hasS 3) fun _ => bd (bd (rd 10) fun x => bd (bd (bd (rd 3) fun x => bd (ret []) fun xs => ret (x :: xs)) fun ds => lf (lenF ds)) fun y => lf (modD x y)) fun i => bd (lf (isI i)) fun k => bd (slotM 3) fun l => lf (L2.atI l k)) fun x => bd (bd (bd (bd (rd 10) fun x => bd (ret (.int 8)) fun y => lf (fdivD x y)) fun x => bd (rd 2) fun y => lf (modD x y)) fun x => bd (ret []) fun xs => ret (x :: xs)) fun xs => ret (x :: xs)) fun xs => lf (few xs (.tup xs)))))) (l := List.range t) (f := fun (i : Nat) => D.int ((i : Nat) : Int)) (s := sC m n c cs v5 (.dat (.int num)) v7 (.chg []) v9 v10 st) (s1 := sC m n c cs v5 (.dat (.int num)) v7 (.chg []) v9 v10 st) (fun pre s => ∃ ps v9 v10 st', s = sC m n c cs v5 (.dat (.int num)) v7 (.chg (pJ ps)) v9 v10 st' ∧ ps.length = pre.length ∧ (∀ q ∈ ps, (0 ≤ q.1 ∧ q.1 ≤ 9) ∧ 0 ≤ q.2 ∧ q.2 < n) ∧ Dk (k + pre.length) rest st') (by
      simp only [sC, x_fdiv (show (0 : Int) < 12 by decide) (by decide), x_mod (show (0 : Int) < 7 by decide), ed, hr, runD, entry, x_sq, x_asM, x_rtM, x_tgM, x_ifM, few0, few1, few2, few3, few4, few5, few6, few7, few8, few9, x_andM, x_orM, x_notM, x_andT, x_orT, bd, Sd.ret, lf, fl, rd, Sd.st, stL, appM, mutS, putS, setM, slotM, hasS, seqM, itM, popZ, mvS, lstS, callM, sfM, x_isB, x_isI, x_lt, x_le, x_gt, x_ge, x_add, x_sub, tsC, tsN, len_tup, len_lst, x_tupL, x_tupT, x_lstL, x_lstT, x_intB, x_abs, Option.bind_some, Option.bind_none, List.map_cons, List.map_nil, List.length_cons, List.length_nil, List.replicate, List.cons_append, List.nil_append, List.getElem?_cons_zero, List.getElem?_cons_succ, List.set_cons_zero, List.set_cons_succ, Nat.reduceAdd, Nat.reduceSub, Nat.reduceLT, ite_true, ite_false, reduceIte, reduceCtorEq, Nat.reduceLeDiff, Bool.false_eq_true]) ⟨[], v9, v10, st, rfl, rfl, fun _ h => absurd h (by simp), h⟩ (by
      rintro pre i post s hx ⟨ps, v9, v10, st1, rfl, g1, g2, g3⟩
      have hl : pre.length < t := by
        have := congrArg List.length hx
        simp at this
        omega
      obtain ⟨x, st2, e2, hx2, g4⟩ := f_next g3 (by omega)
      obtain ⟨w, hw, ew⟩ := at_modD (l := pI c) (by simpa [pI] using hc) x (n := c.length) (by simp [pI])
      obtain ⟨y, hy, rfl⟩ : ∃ y ∈ c, D.int y = w := by simpa [pI] using hw
      have hlen : (pJ ps).length < 100000 := by rw [pJ_len]; omega
      have hcl : (0 : Int) < c.length := by
        have := List.length_pos_iff.mpr hc
        omega
      refine ⟨sC m n c cs v5 (.dat (.int num)) v7 (.chg (pJ ps)) (.dat (.int i)) v10 st1, sC m n c cs v5 (.dat (.int num)) v7 (.chg (pJ (ps ++ [(y, x / 8 % n)]))) (.dat (.int i)) (.dat (.int x)) st2, rfl, ?_, ps ++ [(y, x / 8 % n)], _, _, st2, rfl, by simp [g1], fun q hq => ?_, g4.up (by simp; omega)⟩
      · simp only [sC, e2, x_fdiv (show (0 : Int) < 8 by decide) (by decide), x_mod (show (0 : Int) < n by omega), pI_len, x_mod hcl, ew, hlen, pJ_app, runD, entry, x_sq, x_asM, x_rtM, x_tgM, x_ifM, few0, few1, few2, few3, few4, few5, few6, few7, few8, few9, x_andM, x_orM, x_notM, x_andT, x_orT, bd, Sd.ret, lf, fl, rd, Sd.st, stL, appM, mutS, putS, setM, slotM, hasS, seqM, itM, popZ, mvS, lstS, callM, sfM, x_isB, x_isI, x_lt, x_le, x_gt, x_ge, x_add, x_sub, tsC, tsN, len_tup, len_lst, x_tupL, x_tupT, x_lstL, x_lstT, x_intB, x_abs, Option.bind_some, Option.bind_none, List.map_cons, List.map_nil, List.length_cons, List.length_nil, List.replicate, List.cons_append, List.nil_append, List.getElem?_cons_zero, List.getElem?_cons_succ, List.set_cons_zero, List.set_cons_succ, Nat.reduceAdd, Nat.reduceSub, Nat.reduceLT, ite_true, ite_false, reduceIte, reduceCtorEq, Nat.reduceLeDiff, Bool.false_eq_true]
      · rcases List.mem_append.mp hq with hq | hq
        · exact g2 q hq
        · have : q = (y, x / 8 % n) := by simpa using hq
          rw [this]
          exact ⟨hc9 y hy, Int.emod_nonneg _ (by omega), Int.emod_lt_of_pos _ (by omega)⟩)
  obtain ⟨s', e1, ps, v9', v10', st', rfl, g1, g2, g3⟩ := key
  have g1 : ps.length = t := by simpa using g1
  exact ⟨_, e1, ps, v9', v10', st', rfl, ⟨by omega, g2⟩, g3.up (by simp; omega)⟩
structure ClsOk (m : Int) (cs : List Cl1) : Prop where
  len : 2 ≤ (cs.length : Int) ∧ (cs.length : Int) ≤ m
  one : ∀ q ∈ cs, PrOk cs.length q.2
theorem f_classes (h : Dk k rest st) {m : Int} (hm : 2 ≤ m ∧ m ≤ 40) (hk : k ≤ 800000) : ∃ cs st', d__law_classes [.ref 1, .int m] st = some (.lst (cs.map pC), st') ∧ ClsOk m cs ∧ Dk (k + 500) rest st' := by
  obtain ⟨x, st1, e1, hx, h1⟩ := f_next h (by omega)
  obtain ⟨y, st2, e2, hy, h2⟩ := f_next h1 (by omega)
  have hn0 : 0 ≤ x % (m - 1) := Int.emod_nonneg _ (by omega)
  have hn1 : x % (m - 1) < m - 1 := Int.emod_lt_of_pos _ (by omega)
  obtain ⟨n, hn⟩ := Int.eq_ofNat_of_zero_le (show 0 ≤ 2 + x % (m - 1) by omega)
  obtain ⟨d, hd, ed⟩ := at_modD (l := [.lst (pI [0, 1, 1, 2, 3, 5]), .lst (pI [1, 1, 1, 1]), .lst (pI [0, 0, 1, 9]), .lst (pI [1, 2, 3, 4, 7, 9])]) (by simp) y (n := 4) rfl
  obtain ⟨c, rfl, hc, hc9⟩ : ∃ c : List Int, d = .lst (pI c) ∧ c ≠ [] ∧ ∀ x ∈ c, 0 ≤ x ∧ x ≤ 9 := by
    simp only [List.mem_cons, List.not_mem_nil, or_false] at hd
    rcases hd with rfl | rfl | rfl | rfl
    · exact ⟨_, rfl, by simp, by decide⟩
    · exact ⟨_, rfl, by simp, by decide⟩
    · exact ⟨_, rfl, by simp, by decide⟩
    · exact ⟨_, rfl, by simp, by decide⟩
  have hr := rng_map (n := n) (by omega)
  have key := forMI (ts := (Sd.st 5)) (mi := (bd (rd 2) fun x => lf (rng1 x))) (mb := (sq (asM 6 (bd (bd (rd 0) fun x => bd (ret []) fun xs => ret (x :: xs)) fun ds => callM d__law_next ds)) (sq (asM 7 (bd (bd (bd (bd (bd (rd 6) fun x => bd (ret (.int 12)) fun y => lf (modD x y)) fun x => bd (ret (.int 0)) fun y => lf (eqD x y)) fun x => bd (bd (bd (bd (rd 6) fun x => bd (ret (.int 4)) fun y => lf (modD x y)) fun x => bd (ret (.int 0)) fun y => lf (eqD x y)) fun x => bd (ret []) fun xs => ret (x :: xs)) fun xs => ret (x :: xs)) fun xs => lf (few xs (.lst xs))) fun x => bd (bd (bd (bd (rd 5) fun x => bd (ret (.int 0)) fun y => lf (gtD x y)) fun x => bd (ret []) fun xs => ret (x :: xs)) fun ds => lf (intF ds)) fun i => bd (lf (isI i)) fun k => bd (seqM x) fun l => lf (L2.atI l k))) (sq (bd (ret []) fun l => if l.length ≤ 100000 then bd (stL 8 l) fun _ => ret .nx else fl) (sq (Sd.forM (Sd.st 9) (bd (bd (bd (bd (ret (.int 1)) fun x => bd (bd (ret (.int 2)) fun x => bd (bd (ret (.int 2)) fun x => bd (bd (ret (.int 3)) fun x => bd (bd (ret (.int 0)) fun x => bd (bd (ret (.int 3)) fun x => bd (bd (ret (.int 4)) fun x => bd (ret []) fun xs => ret (x :: xs)) fun xs => ret (x :: xs)) fun xs => ret (x :: xs)) fun xs => ret (x :: xs)) fun xs => ret (x :: xs)) fun xs => ret (x :: xs)) fun xs => ret (x :: xs)) fun xs => lf (few xs (.lst xs))) fun x => bd (bd (bd (rd 6) fun x => bd (ret (.int 12)) fun y => lf (fdivD x y)) fun x => bd (ret (.int 7)) fun y => lf (modD x y)) fun i => bd (lf (isI i)) fun k => bd (seqM x) fun l => lf (L2.atI l k)) fun x => lf (rng1 x)) (sq (asM 10 (bd (bd (rd 0) fun x => bd (ret []) fun xs => ret (x :: xs)) fun ds => callM d__law_next ds)) (appM 8 (bd (bd (bd (hasS 3) fun _ => bd (bd (rd 10) fun x => bd (bd (bd (rd 3) fun x => bd (ret []) fun xs => ret (x :: xs)) fun ds => lf (lenF ds)) fun y => lf (modD x y)) fun i => bd (lf (isI i)) fun k => bd (slotM 3) fun l => lf (L2.atI l k)) fun x => bd (bd (bd (bd (rd 10) fun x => bd (ret (.int 8)) fun y => lf (fdivD x y)) fun x => bd (rd 2) fun y => lf (modD x y)) fun x => bd (ret []) fun xs => ret (x :: xs)) fun xs => ret (x :: xs)) fun xs => lf (few xs (.tup xs)))))) (appM 4 (bd (bd (rd 7) fun x => bd (bd (rd 8) fun x => bd (ret []) fun xs => ret (x :: xs)) fun xs => ret (x :: xs)) fun xs => lf (few xs (.tup xs))))))))) (l := List.range n) (f := fun (i : Nat) => D.int ((i : Nat) : Int)) (s := sC m n c [] .un .un .un .un .un .un st2) (s1 := sC m n c [] .un .un .un .un .un .un st2) (fun pre s => ∃ cs v5 v6 v7 v8 v9 v10 st', s = sC m n c cs v5 v6 v7 v8 v9 v10 st' ∧ cs.length = pre.length ∧ (∀ q ∈ cs, PrOk n q.2) ∧ Dk (k + 2 + 5 * pre.length) rest st') (by
      simp only [sC, hr, runD, entry, x_sq, x_asM, x_rtM, x_tgM, x_ifM, few0, few1, few2, few3, few4, few5, few6, few7, few8, few9, x_andM, x_orM, x_notM, x_andT, x_orT, bd, Sd.ret, lf, fl, rd, Sd.st, stL, appM, mutS, putS, setM, slotM, hasS, seqM, itM, popZ, mvS, lstS, callM, sfM, x_isB, x_isI, x_lt, x_le, x_gt, x_ge, x_add, x_sub, tsC, tsN, len_tup, len_lst, x_tupL, x_tupT, x_lstL, x_lstT, x_intB, x_abs, Option.bind_some, Option.bind_none, List.map_cons, List.map_nil, List.length_cons, List.length_nil, List.replicate, List.cons_append, List.nil_append, List.getElem?_cons_zero, List.getElem?_cons_succ, List.set_cons_zero, List.set_cons_succ, Nat.reduceAdd, Nat.reduceSub, Nat.reduceLT, ite_true, ite_false, reduceIte, reduceCtorEq, Nat.reduceLeDiff, Bool.false_eq_true]) ⟨[], .un, .un, .un, .un, .un, .un, st2, rfl, rfl, fun _ h => absurd h (by simp), h2.up (by simp)⟩ (by
      rintro pre i post s hx ⟨cs, v5, v6, v7, v8, v9, v10, st3, rfl, g1, g2, g3⟩
      have hl : pre.length < n := by
        have := congrArg List.length hx
        simp at this
        omega
      obtain ⟨z, st4, e4, hz, g4⟩ := f_next g3 (by omega)
      obtain ⟨s', e5, ps, w9, w10, st5, rfl, g5, g6⟩ := cls_in (m := m) (n := n) (c := c) (cs := cs) (v5 := .dat (.int i)) (v7 := .dat (.bl (if decide ((0 : Int) < i) = true then decide (z % 4 = 0) else decide (z % 12 = 0)))) (v9 := v9) (v10 := v10) (num := z) (by omega) hc hc9 g4 (by omega)
      have hlen : (cs.map pC).length < 100000 := by rw [List.length_map]; omega
      have e7 : (if decide ((0 : Int) < i) = true then D.bl (decide (z % 4 = 0)) else D.bl (decide (z % 12 = 0))) = D.bl (if decide ((0 : Int) < i) = true then decide (z % 4 = 0) else decide (z % 12 = 0)) := by split <;> rfl
      refine ⟨sC m n c cs (.dat (.int i)) v6 v7 v8 v9 v10 st3, sC m n c (cs ++ [((if decide ((0 : Int) < i) = true then decide (z % 4 = 0) else decide (z % 12 = 0)), ps)]) (.dat (.int i)) (.dat (.int z)) (.dat (.bl (if decide ((0 : Int) < i) = true then decide (z % 4 = 0) else decide (z % 12 = 0)))) (.dat (.lst (pJ ps))) w9 w10 st5, rfl, ?_, _, _, _, _, _, _, _, st5, rfl, by simp [g1], fun q hq => ?_, g6.up (by simp; omega)⟩
      · simp only [sC] at e5
        simp only [sC, e4, x_mod (show (0 : Int) < 12 by decide), x_mod (show (0 : Int) < 4 by decide), eq_int, at_two, e7, e5, hlen, pC_app, runD, entry, x_sq, x_asM, x_rtM, x_tgM, x_ifM, few0, few1, few2, few3, few4, few5, few6, few7, few8, few9, x_andM, x_orM, x_notM, x_andT, x_orT, bd, Sd.ret, lf, fl, rd, Sd.st, stL, appM, mutS, putS, setM, slotM, hasS, seqM, itM, popZ, mvS, lstS, callM, sfM, x_isB, x_isI, x_lt, x_le, x_gt, x_ge, x_add, x_sub, tsC, tsN, len_tup, len_lst, x_tupL, x_tupT, x_lstL, x_lstT, x_intB, x_abs, Option.bind_some, Option.bind_none, List.map_cons, List.map_nil, List.length_cons, List.length_nil, List.replicate, List.cons_append, List.nil_append, List.getElem?_cons_zero, List.getElem?_cons_succ, List.set_cons_zero, List.set_cons_succ, Nat.reduceAdd, Nat.reduceSub, Nat.reduceLT, ite_true, ite_false, reduceIte, reduceCtorEq, Nat.reduceLeDiff, Bool.false_eq_true]
      · rcases List.mem_append.mp hq with hq | hq
        · exact g2 q hq
        · have : q = ((if decide ((0 : Int) < i) = true then decide (z % 4 = 0) else decide (z % 12 = 0)), ps) := by simpa using hq
          rw [this]
          exact g5)
  obtain ⟨s', e3, cs, v5, v6, v7, v8, v9, v10, st', rfl, g1, g2, g3⟩ := key
  have g1 : cs.length = n := by simpa using g1
  refine ⟨cs, st', ?_, ⟨by omega, fun q hq => by rw [g1]; exact g2 q hq⟩, g3.up (by simp; omega)⟩
  have ed : L2.atI [D.lst [.int 0, .int 1, .int 1, .int 2, .int 3, .int 5], .lst [.int 1, .int 1, .int 1, .int 1], .lst [.int 0, .int 0, .int 1, .int 9], .lst [.int 1, .int 2, .int 3, .int 4, .int 7, .int 9]] (y % 4) = some (.lst (pI c)) := ed
  simp only [sC, List.map_nil] at e3
  simp only [d__law_classes, m__law_classes, e1, e2, x_mod (show (0 : Int) < m - 1 by omega), x_mod (show (0 : Int) < 4 by decide), hn, ed, e3, runD, entry, x_sq, x_asM, x_rtM, x_tgM, x_ifM, few0, few1, few2, few3, few4, few5, few6, few7, few8, few9, x_andM, x_orM, x_notM, x_andT, x_orT, bd, Sd.ret, lf, fl, rd, Sd.st, stL, appM, mutS, putS, setM, slotM, hasS, seqM, itM, popZ, mvS, lstS, callM, sfM, x_isB, x_isI, x_lt, x_le, x_gt, x_ge, x_add, x_sub, tsC, tsN, len_tup, len_lst, x_tupL, x_tupT, x_lstL, x_lstT, x_intB, x_abs, Option.bind_some, Option.bind_none, List.map_cons, List.map_nil, List.length_cons, List.length_nil, List.replicate, List.cons_append, List.nil_append, List.getElem?_cons_zero, List.getElem?_cons_succ, List.set_cons_zero, List.set_cons_succ, Nat.reduceAdd, Nat.reduceSub, Nat.reduceLT, ite_true, ite_false, reduceIte, reduceCtorEq, Nat.reduceLeDiff, Bool.false_eq_true]
end
end K04

namespace K04
open Sd
/-! what is left from each class -/
def pO : Option Int → D
  | none => .non
  | some i => .int i
theorem num_map {α : Type} (l : List α) (f : α → D) : numD (l.map f) = l.zipIdx.map fun q => D.tupU [.int (q.2 : Nat), f q.1] := by
  unfold numD
  rw [List.zipIdx_map, List.map_map]
  rfl
theorem at_map {α : Type} {l : List α} {f : α → D} {i : Nat} {x : α} (h : l[i]? = some x) : L2.atI (l.map f) (i : Int) = some (f x) := atI_nat (by rw [List.getElem?_map, h]; rfl)
def ReOk (rs : List (Option Int)) : Prop := ∀ v, some v ∈ rs → 0 ≤ v ∧ v ≤ 9 * (rs.countP (·.isSome) : Nat)
theorem ReOk.set {rs : List (Option Int)} (h : ReOk rs) {i o : Nat} {c v : Int} {u : Option Int} (hi : rs[i]? = some u) (ho : rs[o]? = some (some v)) (hc : 0 ≤ c ∧ c ≤ 9) (hu : ∀ x, u = some x → c + v < x) : ReOk (rs.set i (some (c + v))) := by
  have hil : i < rs.length := (List.getElem?_eq_some_iff.mp hi).1
  have hie : rs[i] = u := (List.getElem?_eq_some_iff.mp hi).2
  have hv := h v (List.mem_of_getElem? ho)
  have hcnt : (rs.set i (some (c + v))).countP (·.isSome) = rs.countP (·.isSome) - (if u.isSome = true then 1 else 0) + 1 := by
    rw [List.countP_set (h := hil), hie]
    simp
  intro x hx
  rcases List.mem_or_eq_of_mem_set hx with hx | hx
  · have h1 := h x hx
    refine ⟨h1.1, Int.le_trans h1.2 ?_⟩
    rw [hcnt]
    split <;> omega
  · have : x = c + v := by simpa using hx
    subst this
    refine ⟨by omega, ?_⟩
    rw [hcnt]
    cases u with
    | none =>
      simp
      omega
    | some y =>
      have h1 := hu y rfl
      have h2 := h y (hie ▸ List.getElem_mem hil)
      have h3 : 0 < rs.countP (·.isSome) := List.countP_pos_iff.mpr ⟨some y, hie ▸ List.getElem_mem hil, rfl⟩
      simp
      omega
theorem pO_set (rs : List (Option Int)) (i : Nat) (x : Int) : (rs.map pO).set i (.int x) = (rs.set i (some x)).map pO := by
  rw [List.map_set]
  rfl
theorem is_pO (o : Option Int) : isD (pO o) .non = some (.bl o.isNone) := by cases o <;> rfl
theorem isNot_pO (o : Option Int) : isNotD (pO o) .non = some (.bl o.isSome) := by cases o <;> rfl
section
variable {k : Nat} {rest st : List SO}
abbrev sR (cs : List Cl1) (rs : List (Option Int)) (v2 v3 v4 v5 v6 v7 : SV) (st : List SO) : S := ⟨[.dat (.lst (cs.map pC)), .chg (rs.map pO), v2, v3, v4, v5, v6, v7, .un], st⟩
theorem t2 {u : List D → M Unit} {a c : D} : tsT 2 u (.tup [a, c]) = u [a, c] := x_tsT rfl
theorem u2 {u : List D → M Unit} {a c : D} : tsT 2 u (.tupU [a, c]) = u [a, c] := x_tsU rfl
theorem rests_in {cs : List Cl1} {rs : List (Option Int)} {v2 v6 v7 : SV} {i : Nat} {dn : Bool} {ps : List (Int × Int)} (hi : i < rs.length) (hp : PrOk rs.length ps) (h : ReOk rs) :
    ∃ s', (Sd.forM (tsT 2 (tsC (Sd.st 6) (tsC (Sd.st 7) (tsN)))) (bd (rd 5) itM) (ifM (andT (bd (bd (rd 4) fun x => lf (isB x)) fun t => ret (!t)) (bd (bd (hasS 1) fun _ => bd (rd 7) fun i => bd (lf (isI i)) fun k => bd (slotM 1) fun l => lf (L2.atI l k)) fun x => bd (ret .non) fun y => lf ((isNotD x y).bind isB))) (ifM (orT (bd (bd (hasS 1) fun _ => bd (rd 3) fun i => bd (lf (isI i)) fun k => bd (slotM 1) fun l => lf (L2.atI l k)) fun x => bd (ret .non) fun y => lf ((isD x y).bind isB)) (bd (bd (rd 6) fun x => bd (bd (hasS 1) fun _ => bd (rd 7) fun i => bd (lf (isI i)) fun k => bd (slotM 1) fun l => lf (L2.atI l k)) fun y => lf (addD x y)) fun x => bd (bd (hasS 1) fun _ => bd (rd 3) fun i => bd (lf (isI i)) fun k => bd (slotM 1) fun l => lf (L2.atI l k)) fun y => lf ((ltD x y).bind isB))) (setM 1 (bd (rd 6) fun x => bd (bd (hasS 1) fun _ => bd (rd 7) fun i => bd (lf (isI i)) fun k => bd (slotM 1) fun l => lf (L2.atI l k)) fun y => lf (addD x y)) (rd 3)) (ret .nx)) (ret .nx))) (sR cs rs v2 (.dat (.int i)) (.dat (.bl dn)) (.dat (.lst (pJ ps))) v6 v7 st) = some (.nx, s') ∧ ∃ rs' v6 v7, s' = sR cs rs' v2 (.dat (.int i)) (.dat (.bl dn)) (.dat (.lst (pJ ps))) v6 v7 st ∧ rs'.length = rs.length ∧ ReOk rs' := by
  refine forMI (l := ps) (f := fun q => .tup [.int q.1, .int q.2]) (fun pre s => ∃ rs' v6 v7, s = sR cs rs' v2 (.dat (.int i)) (.dat (.bl dn)) (.dat (.lst (pJ ps))) v6 v7 st ∧ rs'.length = rs.length ∧ ReOk rs') (s1 := sR cs rs v2 (.dat (.int i)) (.dat (.bl dn)) (.dat (.lst (pJ ps))) v6 v7 st) rfl ⟨rs, v6, v7, rfl, rfl, h⟩ ?_
  rintro pre q post s hx ⟨rs', v6, v7, rfl, g1, g2⟩
  have hq := hp.2 q (by rw [hx]; simp)
  obtain ⟨o, ho⟩ := Int.eq_ofNat_of_zero_le hq.2.1
  have hol : o < rs'.length := by omega
  have hil : i < rs'.length := by omega
  have eo : rs'[o]? = some rs'[o] := List.getElem?_eq_getElem hol
  have ei : rs'[i]? = some rs'[i] := List.getElem?_eq_getElem hil
  have ao := at_map (f := pO) eo
  have ai := at_map (f := pO) ei
  have ix := ixN_nat (n := (rs'.map pO).length) (k := i) (by simpa using hil)
  refine ⟨sR cs rs' v2 (.dat (.int i)) (.dat (.bl dn)) (.dat (.lst (pJ ps))) (.dat (.int q.1)) (.dat (.int o)) st, ?_⟩
  have ets : ∀ s2, (tsT 2 (tsC (Sd.st 6) (tsC (Sd.st 7) (tsN)))) (D.tup [.int q.1, .int q.2]) (sR cs rs' v2 (.dat (.int i)) (.dat (.bl dn)) (.dat (.lst (pJ ps))) v6 v7 st) = some ((), s2) ↔ s2 = sR cs rs' v2 (.dat (.int i)) (.dat (.bl dn)) (.dat (.lst (pJ ps))) (.dat (.int q.1)) (.dat (.int o)) st := by
    intro s2
    simp only [ho, sR, t2, runD, entry, x_sq, x_asM, x_rtM, x_tgM, x_ifM, few0, few1, few2, few3, few4, few5, few6, few7, few8, few9, x_andM, x_orM, x_notM, x_andT, x_orT, bd, Sd.ret, lf, fl, rd, Sd.st, stL, appM, mutS, putS, setM, slotM, hasS, seqM, itM, popZ, mvS, lstS, callM, sfM, x_isB, x_isI, x_lt, x_le, x_gt, x_ge, x_add, x_sub, tsC, tsN, len_tup, len_lst, x_tupL, x_tupT, x_lstL, x_lstT, x_intB, x_abs, Option.bind_some, Option.bind_none, List.map_cons, List.map_nil, List.length_cons, List.length_nil, List.replicate, List.cons_append, List.nil_append, List.getElem?_cons_zero, List.getElem?_cons_succ, List.set_cons_zero, List.set_cons_succ, Nat.reduceAdd, Nat.reduceSub, Nat.reduceLT, ite_true, ite_false, reduceIte, reduceCtorEq, Nat.reduceLeDiff, Bool.false_eq_true]
    simp [eq_comm]
  cases dn with
  | true =>
    refine ⟨sR cs rs' v2 (.dat (.int i)) (.dat (.bl true)) (.dat (.lst (pJ ps))) (.dat (.int q.1)) (.dat (.int o)) st, (ets _).mpr rfl, ?_, rs', .dat (.int q.1), .dat (.int o), rfl, g1, g2⟩
    simp only [sR, Bool.not_true, runD, entry, x_sq, x_asM, x_rtM, x_tgM, x_ifM, few0, few1, few2, few3, few4, few5, few6, few7, few8, few9, x_andM, x_orM, x_notM, x_andT, x_orT, bd, Sd.ret, lf, fl, rd, Sd.st, stL, appM, mutS, putS, setM, slotM, hasS, seqM, itM, popZ, mvS, lstS, callM, sfM, x_isB, x_isI, x_lt, x_le, x_gt, x_ge, x_add, x_sub, tsC, tsN, len_tup, len_lst, x_tupL, x_tupT, x_lstL, x_lstT, x_intB, x_abs, Option.bind_some, Option.bind_none, List.map_cons, List.map_nil, List.length_cons, List.length_nil, List.replicate, List.cons_append, List.nil_append, List.getElem?_cons_zero, List.getElem?_cons_succ, List.set_cons_zero, List.set_cons_succ, Nat.reduceAdd, Nat.reduceSub, Nat.reduceLT, ite_true, ite_false, reduceIte, reduceCtorEq, Nat.reduceLeDiff, Bool.false_eq_true]
  | false =>
    cases hO : rs'[o] with
    | none =>
      rw [hO] at ao
      refine ⟨sR cs rs' v2 (.dat (.int i)) (.dat (.bl false)) (.dat (.lst (pJ ps))) (.dat (.int q.1)) (.dat (.int o)) st, (ets _).mpr rfl, ?_, rs', .dat (.int q.1), .dat (.int o), rfl, g1, g2⟩
      simp only [sR, Bool.not_false, ao, isNot_pO, Option.isSome_none, runD, entry, x_sq, x_asM, x_rtM, x_tgM, x_ifM, few0, few1, few2, few3, few4, few5, few6, few7, few8, few9, x_andM, x_orM, x_notM, x_andT, x_orT, bd, Sd.ret, lf, fl, rd, Sd.st, stL, appM, mutS, putS, setM, slotM, hasS, seqM, itM, popZ, mvS, lstS, callM, sfM, x_isB, x_isI, x_lt, x_le, x_gt, x_ge, x_add, x_sub, tsC, tsN, len_tup, len_lst, x_tupL, x_tupT, x_lstL, x_lstT, x_intB, x_abs, Option.bind_some, Option.bind_none, List.map_cons, List.map_nil, List.length_cons, List.length_nil, List.replicate, List.cons_append, List.nil_append, List.getElem?_cons_zero, List.getElem?_cons_succ, List.set_cons_zero, List.set_cons_succ, Nat.reduceAdd, Nat.reduceSub, Nat.reduceLT, ite_true, ite_false, reduceIte, reduceCtorEq, Nat.reduceLeDiff, Bool.false_eq_true]
    | some v =>
      rw [hO] at ao eo
      have ao : L2.atI (rs'.map pO) (o : Int) = some (.int v) := ao
      have n1 : isNotD (.int v) .non = some (.bl true) := rfl
      cases hI : rs'[i] with
      | none =>
        rw [hI] at ai ei
        have ai : L2.atI (rs'.map pO) (i : Int) = some .non := ai
        have n2 : isD .non .non = some (.bl true) := rfl
        refine ⟨sR cs (rs'.set i (some (q.1 + v))) v2 (.dat (.int i)) (.dat (.bl false)) (.dat (.lst (pJ ps))) (.dat (.int q.1)) (.dat (.int o)) st, (ets _).mpr rfl, ?_, rs'.set i (some (q.1 + v)), .dat (.int q.1), .dat (.int o), rfl, by simp [g1], g2.set ei eo hq.1 (fun x hx => by cases hx)⟩
        simp only [sR, Bool.not_false, ao, ai, n1, n2, ix, pO_set, runD, entry, x_sq, x_asM, x_rtM, x_tgM, x_ifM, few0, few1, few2, few3, few4, few5, few6, few7, few8, few9, x_andM, x_orM, x_notM, x_andT, x_orT, bd, Sd.ret, lf, fl, rd, Sd.st, stL, appM, mutS, putS, setM, slotM, hasS, seqM, itM, popZ, mvS, lstS, callM, sfM, x_isB, x_isI, x_lt, x_le, x_gt, x_ge, x_add, x_sub, tsC, tsN, len_tup, len_lst, x_tupL, x_tupT, x_lstL, x_lstT, x_intB, x_abs, Option.bind_some, Option.bind_none, List.map_cons, List.map_nil, List.length_cons, List.length_nil, List.replicate, List.cons_append, List.nil_append, List.getElem?_cons_zero, List.getElem?_cons_succ, List.set_cons_zero, List.set_cons_succ, Nat.reduceAdd, Nat.reduceSub, Nat.reduceLT, ite_true, ite_false, reduceIte, reduceCtorEq, Nat.reduceLeDiff, Bool.false_eq_true]
      | some u =>
        rw [hI] at ai ei
        have ai : L2.atI (rs'.map pO) (i : Int) = some (.int u) := ai
        have n2 : isD (.int u) .non = some (.bl false) := rfl
        by_cases hlt : q.1 + v < u
        · refine ⟨sR cs (rs'.set i (some (q.1 + v))) v2 (.dat (.int i)) (.dat (.bl false)) (.dat (.lst (pJ ps))) (.dat (.int q.1)) (.dat (.int o)) st, (ets _).mpr rfl, ?_, rs'.set i (some (q.1 + v)), .dat (.int q.1), .dat (.int o), rfl, by simp [g1], g2.set ei eo hq.1 (fun x hx => by cases hx; exact hlt)⟩
          simp only [sR, Bool.not_false, ao, ai, n1, n2, ix, pO_set, decide_eq_true hlt, runD, entry, x_sq, x_asM, x_rtM, x_tgM, x_ifM, few0, few1, few2, few3, few4, few5, few6, few7, few8, few9, x_andM, x_orM, x_notM, x_andT, x_orT, bd, Sd.ret, lf, fl, rd, Sd.st, stL, appM, mutS, putS, setM, slotM, hasS, seqM, itM, popZ, mvS, lstS, callM, sfM, x_isB, x_isI, x_lt, x_le, x_gt, x_ge, x_add, x_sub, tsC, tsN, len_tup, len_lst, x_tupL, x_tupT, x_lstL, x_lstT, x_intB, x_abs, Option.bind_some, Option.bind_none, List.map_cons, List.map_nil, List.length_cons, List.length_nil, List.replicate, List.cons_append, List.nil_append, List.getElem?_cons_zero, List.getElem?_cons_succ, List.set_cons_zero, List.set_cons_succ, Nat.reduceAdd, Nat.reduceSub, Nat.reduceLT, ite_true, ite_false, reduceIte, reduceCtorEq, Nat.reduceLeDiff, Bool.false_eq_true]
        · refine ⟨sR cs rs' v2 (.dat (.int i)) (.dat (.bl false)) (.dat (.lst (pJ ps))) (.dat (.int q.1)) (.dat (.int o)) st, (ets _).mpr rfl, ?_, rs', .dat (.int q.1), .dat (.int o), rfl, g1, g2⟩
          simp only [sR, Bool.not_false, ao, ai, n1, n2, decide_eq_false hlt, runD, entry, x_sq, x_asM, x_rtM, x_tgM, x_ifM, few0, few1, few2, few3, few4, few5, few6, few7, few8, few9, x_andM, x_orM, x_notM, x_andT, x_orT, bd, Sd.ret, lf, fl, rd, Sd.st, stL, appM, mutS, putS, setM, slotM, hasS, seqM, itM, popZ, mvS, lstS, callM, sfM, x_isB, x_isI, x_lt, x_le, x_gt, x_ge, x_add, x_sub, tsC, tsN, len_tup, len_lst, x_tupL, x_tupT, x_lstL, x_lstT, x_intB, x_abs, Option.bind_some, Option.bind_none, List.map_cons, List.map_nil, List.length_cons, List.length_nil, List.replicate, List.cons_append, List.nil_append, List.getElem?_cons_zero, List.getElem?_cons_succ, List.set_cons_zero, List.set_cons_succ, Nat.reduceAdd, Nat.reduceSub, Nat.reduceLT, ite_true, ite_false, reduceIte, reduceCtorEq, Nat.reduceLeDiff, Bool.false_eq_true]
theorem rests_mid {cs : List Cl1} {rs : List (Option Int)} {m : Int} {v2 v3 v4 v5 v6 v7 : SV} (hc : ClsOk m cs) (hl : rs.length = cs.length) (h : ReOk rs) :
    ∃ s', (Sd.forM (tsT 2 (tsC (Sd.st 3) (tsC (tsT 2 (tsC (Sd.st 4) (tsC (Sd.st 5) (tsN)))) (tsN)))) (bd (rd 0) fun x => bd (itM x) fun l => ret (numD l)) (Sd.forM (tsT 2 (tsC (Sd.st 6) (tsC (Sd.st 7) (tsN)))) (bd (rd 5) itM) (ifM (andT (bd (bd (rd 4) fun x => lf (isB x)) fun t => ret (!t)) (bd (bd (hasS 1) fun _ => bd (rd 7) fun i => bd (lf (isI i)) fun k => bd (slotM 1) fun l => lf (L2.atI l k)) fun x => bd (ret .non) fun y => lf ((isNotD x y).bind isB))) (ifM (orT (bd (bd (hasS 1) fun _ => bd (rd 3) fun i => bd (lf (isI i)) fun k => bd (slotM 1) fun l => lf (L2.atI l k)) fun x => bd (ret .non) fun y => lf ((isD x y).bind isB)) (bd (bd (rd 6) fun x => bd (bd (hasS 1) fun _ => bd (rd 7) fun i => bd (lf (isI i)) fun k => bd (slotM 1) fun l => lf (L2.atI l k)) fun y => lf (addD x y)) fun x => bd (bd (hasS 1) fun _ => bd (rd 3) fun i => bd (lf (isI i)) fun k => bd (slotM 1) fun l => lf (L2.atI l k)) fun y => lf ((ltD x y).bind isB))) (setM 1 (bd (rd 6) fun x => bd (bd (hasS 1) fun _ => bd (rd 7) fun i => bd (lf (isI i)) fun k => bd (slotM 1) fun l => lf (L2.atI l k)) fun y => lf (addD x y)) (rd 3)) (ret .nx)) (ret .nx)))) (sR cs rs v2 v3 v4 v5 v6 v7 st) = some (.nx, s') ∧ ∃ rs' v3 v4 v5 v6 v7, s' = sR cs rs' v2 v3 v4 v5 v6 v7 st ∧ rs'.length = cs.length ∧ ReOk rs' := by
  refine forMI (l := cs.zipIdx) (f := fun q => D.tupU [.int (q.2 : Nat), pC q.1]) (fun pre s => ∃ rs' v3 v4 v5 v6 v7, s = sR cs rs' v2 v3 v4 v5 v6 v7 st ∧ rs'.length = cs.length ∧ ReOk rs') (s1 := sR cs rs v2 v3 v4 v5 v6 v7 st) ?_ ⟨rs, v3, v4, v5, v6, v7, rfl, hl, h⟩ ?_
  · rw [← num_map]
    rfl
  · rintro pre q post s hx ⟨rs', v3, v4, v5, v6, v7, rfl, g1, g2⟩
    have hq := zip_at (l := cs) (q := q) (by rw [hx]; simp)
    obtain ⟨s', e, rs2, w6, w7, rfl, k1, k2⟩ := rests_in (st := st) (cs := cs) (rs := rs') (v2 := v2) (v6 := v6) (v7 := v7) (i := q.2) (dn := q.1.1) (ps := q.1.2) (by omega) (by rw [g1]; exact hc.one q.1 (List.mem_of_getElem? hq.1)) g2
    refine ⟨sR cs rs' v2 (.dat (.int q.2)) (.dat (.bl q.1.1)) (.dat (.lst (pJ q.1.2))) v6 v7 st, _, ?_, e, rs2, _, _, _, _, _, rfl, by omega, k2⟩
    simp only [sR, pC, u2, t2, runD, entry, x_sq, x_asM, x_rtM, x_tgM, x_ifM, few0, few1, few2, few3, few4, few5, few6, few7, few8, few9, x_andM, x_orM, x_notM, x_andT, x_orT, bd, Sd.ret, lf, fl, rd, Sd.st, stL, appM, mutS, putS, setM, slotM, hasS, seqM, itM, popZ, mvS, lstS, callM, sfM, x_isB, x_isI, x_lt, x_le, x_gt, x_ge, x_add, x_sub, tsC, tsN, len_tup, len_lst, x_tupL, x_tupT, x_lstL, x_lstT, x_intB, x_abs, Option.bind_some, Option.bind_none, List.map_cons, List.map_nil, List.length_cons, List.length_nil, List.replicate, List.cons_append, List.nil_append, List.getElem?_cons_zero, List.getElem?_cons_succ, List.set_cons_zero, List.set_cons_succ, Nat.reduceAdd, Nat.reduceSub, Nat.reduceLT, ite_true, ite_false, reduceIte, reduceCtorEq, Nat.reduceLeDiff, Bool.false_eq_true]
theorem f_rests {cs : List Cl1} {m : Int} (hc : ClsOk m cs) (hm : m ≤ 40) : ∃ rs, d__law_rests [.lst (cs.map pC)] st = some (.lst (rs.map pO), st) ∧ rs.length = cs.length ∧ ReOk rs := by
  have e0 := lcMXA (own := [8]) (ts := (Sd.st 8)) (me := (bd (bd (bd (ret .non) fun x => bd (bd (ret (.int 0)) fun x => bd (ret []) fun xs => ret (x :: xs)) fun xs => ret (x :: xs)) fun xs => lf (few xs (.lst xs))) fun x => bd (bd (bd (bd (hasS 8) fun _ => bd (ret (.int 0)) fun i => bd (lf (isI i)) fun k => bd (slotM 8) fun l => lf (L2.atI l k)) fun x => bd (ret []) fun xs => ret (x :: xs)) fun ds => lf (intF ds)) fun i => bd (lf (isI i)) fun k => bd (seqM x) fun l => lf (L2.atI l k))) (mi := (bd (rd 0) itM)) (s := ⟨[.dat (.lst (cs.map pC)), .un, .un, .un, .un, .un, .un, .un, .un], st⟩) (s1 := ⟨[.dat (.lst (cs.map pC)), .un, .un, .un, .un, .un, .un, .un, .un], st⟩) (l := cs) (g := pC) (f := fun q => pO (if q.1 = true then some 0 else none)) (σ := fun q => ⟨[.dat (.lst (cs.map pC)), .un, .un, .un, .un, .un, .un, .un, .dat (pC q)], st⟩) rfl (by have := hc.len; omega) rfl (fun q hq => ⟨rfl, rfl, by
    obtain ⟨b, l⟩ := q
    simp only [pC, at20, at_two, runD, entry, x_sq, x_asM, x_rtM, x_tgM, x_ifM, few0, few1, few2, few3, few4, few5, few6, few7, few8, few9, x_andM, x_orM, x_notM, x_andT, x_orT, bd, Sd.ret, lf, fl, rd, Sd.st, stL, appM, mutS, putS, setM, slotM, hasS, seqM, itM, popZ, mvS, lstS, callM, sfM, x_isB, x_isI, x_lt, x_le, x_gt, x_ge, x_add, x_sub, tsC, tsN, len_tup, len_lst, x_tupL, x_tupT, x_lstL, x_lstT, x_intB, x_abs, Option.bind_some, Option.bind_none, List.map_cons, List.map_nil, List.length_cons, List.length_nil, List.replicate, List.cons_append, List.nil_append, List.getElem?_cons_zero, List.getElem?_cons_succ, List.set_cons_zero, List.set_cons_succ, Nat.reduceAdd, Nat.reduceSub, Nat.reduceLT, ite_true, ite_false, reduceIte, reduceCtorEq, Nat.reduceLeDiff, Bool.false_eq_true]
    cases b <;> rfl⟩)
  have hl := hc.len
  have key := forMI (ts := (Sd.st 2)) (mi := (bd (rd 0) itM)) (mb := (Sd.forM (tsT 2 (tsC (Sd.st 3) (tsC (tsT 2 (tsC (Sd.st 4) (tsC (Sd.st 5) (tsN)))) (tsN)))) (bd (rd 0) fun x => bd (itM x) fun l => ret (numD l)) (Sd.forM (tsT 2 (tsC (Sd.st 6) (tsC (Sd.st 7) (tsN)))) (bd (rd 5) itM) (ifM (andT (bd (bd (rd 4) fun x => lf (isB x)) fun t => ret (!t)) (bd (bd (hasS 1) fun _ => bd (rd 7) fun i => bd (lf (isI i)) fun k => bd (slotM 1) fun l => lf (L2.atI l k)) fun x => bd (ret .non) fun y => lf ((isNotD x y).bind isB))) (ifM (orT (bd (bd (hasS 1) fun _ => bd (rd 3) fun i => bd (lf (isI i)) fun k => bd (slotM 1) fun l => lf (L2.atI l k)) fun x => bd (ret .non) fun y => lf ((isD x y).bind isB)) (bd (bd (rd 6) fun x => bd (bd (hasS 1) fun _ => bd (rd 7) fun i => bd (lf (isI i)) fun k => bd (slotM 1) fun l => lf (L2.atI l k)) fun y => lf (addD x y)) fun x => bd (bd (hasS 1) fun _ => bd (rd 3) fun i => bd (lf (isI i)) fun k => bd (slotM 1) fun l => lf (L2.atI l k)) fun y => lf ((ltD x y).bind isB))) (setM 1 (bd (rd 6) fun x => bd (bd (hasS 1) fun _ => bd (rd 7) fun i => bd (lf (isI i)) fun k => bd (slotM 1) fun l => lf (L2.atI l k)) fun y => lf (addD x y)) (rd 3)) (ret .nx)) (ret .nx))))) (l := cs) (f := pC) (s := sR cs (cs.map fun q => if q.1 = true then some 0 else none) .un .un .un .un .un .un st) (s1 := sR cs (cs.map fun q => if q.1 = true then some 0 else none) .un .un .un .un .un .un st) (fun pre s => ∃ rs' v2 v3 v4 v5 v6 v7, s = sR cs rs' v2 v3 v4 v5 v6 v7 st ∧ rs'.length = cs.length ∧ ReOk rs') rfl ⟨_, _, _, _, _, _, _, rfl, by simp, fun v hv => by
      obtain ⟨q, _, hq⟩ := List.mem_map.mp hv
      have : v = 0 := by
        split at hq
        · exact (Option.some.inj hq).symm
        · cases hq
      omega⟩ (by
      rintro pre q post s hx ⟨rs', v2, v3, v4, v5, v6, v7, rfl, g1, g2⟩
      obtain ⟨s', e, rs2, w3, w4, w5, w6, w7, rfl, k1, k2⟩ := rests_mid (st := st) (v2 := .dat (pC q)) (v3 := v3) (v4 := v4) (v5 := v5) (v6 := v6) (v7 := v7) hc g1 g2
      exact ⟨sR cs rs' (.dat (pC q)) v3 v4 v5 v6 v7 st, _, rfl, e, rs2, _, _, _, _, _, _, rfl, k1, k2⟩)
  obtain ⟨s', e1, rs, v2, v3, v4, v5, v6, v7, rfl, g1, g2⟩ := key
  refine ⟨rs, ?_, g1, g2⟩
  have em : cs.map (fun q => pO (if q.1 = true then some 0 else none)) = (cs.map fun q => if q.1 = true then some 0 else none).map pO := by rw [List.map_map]; rfl
  rw [em] at e0
  simp only [sR] at e1
  simp only [d__law_rests, m__law_rests, e0, e1, runD, entry, x_sq, x_asM, x_rtM, x_tgM, x_ifM, few0, few1, few2, few3, few4, few5, few6, few7, few8, few9, x_andM, x_orM, x_notM, x_andT, x_orT, bd, Sd.ret, lf, fl, rd, Sd.st, stL, appM, mutS, putS, slotM, hasS, seqM, itM, popZ, mvS, lstS, callM, sfM, x_isB, x_isI, x_lt, x_le, x_gt, x_ge, x_add, x_sub, tsC, tsN, len_tup, len_lst, x_tupL, x_tupT, x_lstL, x_lstT, x_intB, x_abs, Option.bind_some, Option.bind_none, List.map_cons, List.map_nil, List.length_cons, List.length_nil, List.replicate, List.cons_append, List.nil_append, List.getElem?_cons_zero, List.getElem?_cons_succ, List.set_cons_zero, List.set_cons_succ, Nat.reduceAdd, Nat.reduceSub, Nat.reduceLT, ite_true, ite_false, reduceIte, reduceCtorEq, Nat.reduceLeDiff, Bool.false_eq_true, x_parM, x_asL]
end
end K04

namespace K04
open Sd
/-! rows of a table -/
structure Row where
  nx : List (Int × Int)
  dn : Bool
  nm : Int
  bo : Int
  cu : Bool
def pRow (r : Row) : D := .tup [.tup (pJ r.nx), .bl r.dn, .int r.nm, .int r.bo, .bl r.cu]
def goalsOf (rows : List Row) : List Int := (rows.zipIdx.filter fun q => q.1.dn).map fun q => (q.2 : Int)
def tailAt (t : Int) (q : Row × Nat) : List (Int × Int) := (q.1.nx.filter fun p => decide (p.2 = t) && !q.1.dn).map fun p => (p.1, (q.2 : Int))
def tailOf (rows : List Row) (t : Int) : List (Int × Int) := rows.zipIdx.flatMap (tailAt t)
theorem pJ_cat (a b : List (Int × Int)) : pJ a ++ pJ b = pJ (a ++ b) := by simp [pJ]
theorem tailAt_len (t : Int) (q : Row × Nat) : (tailAt t q).length ≤ q.1.nx.length := by
  unfold tailAt
  rw [List.length_map]
  exact List.length_filter_le ..
theorem flat_len {α β : Type} {f : α → List β} {c : Nat} : ∀ {l : List α}, (∀ x ∈ l, (f x).length ≤ c) → (l.flatMap f).length ≤ c * l.length
  | [], _ => by simp
  | x :: l, h => by
    have h1 := h x (List.mem_cons_self ..)
    have h2 := flat_len (l := l) fun y hy => h y (List.mem_cons_of_mem _ hy)
    rw [List.flatMap_cons, List.length_append, List.length_cons, Nat.mul_succ]
    omega
section
variable {k : Nat} {rest st : List SO} {rows : List Row}
theorem at50 (a b c d e : D) : L2.atI [a, b, c, d, e] 0 = some a := rfl
theorem at51 (a b c d e : D) : L2.atI [a, b, c, d, e] 1 = some b := rfl
theorem at52 (a b c d e : D) : L2.atI [a, b, c, d, e] 2 = some c := rfl
theorem at53 (a b c d e : D) : L2.atI [a, b, c, d, e] 3 = some d := rfl
abbrev sE (rows : List Row) (v1 v2 v3 v4 v5 v6 : SV) (st : List SO) : S := ⟨[.dat (.lst (rows.map pRow)), v1, v2, v3, v4, v5, v6, .un, .un], st⟩
theorem ends_goals (hl : rows.length ≤ 100) : (lcM [1, 2] (tsT 2 (tsC (Sd.st 1) (tsC (Sd.st 2) (tsN)))) (bd (bd (hasS 2) fun _ => bd (ret (.int 1)) fun i => bd (lf (isI i)) fun k => bd (slotM 2) fun l => lf (L2.atI l k)) fun x => lf (isB x)) (rd 1) (bd (rd 0) fun x => bd (itM x) fun l => ret (numD l))) (sE rows .un .un .un .un .un .un st) = some (pI (goalsOf rows), sE rows .un .un .un .un .un .un st) := by
  have e := lcMX (own := [1, 2]) (ts := (tsT 2 (tsC (Sd.st 1) (tsC (Sd.st 2) (tsN))))) (mc := (bd (bd (hasS 2) fun _ => bd (ret (.int 1)) fun i => bd (lf (isI i)) fun k => bd (slotM 2) fun l => lf (L2.atI l k)) fun x => lf (isB x))) (me := (rd 1)) (mi := (bd (rd 0) fun x => bd (itM x) fun l => ret (numD l))) (s := sE rows .un .un .un .un .un .un st) (s1 := sE rows .un .un .un .un .un .un st) (l := rows.zipIdx) (g := fun q => D.tupU [.int (q.2 : Nat), pRow q.1]) (p := fun q => q.1.dn) (f := fun q => .int (q.2 : Nat)) (σ := fun q => sE rows (.dat (.int (q.2 : Nat))) (.dat (pRow q.1)) .un .un .un .un st) (by
    rw [← num_map]
    rfl) (by simp; omega) rfl (fun q hq => ⟨by simp only [sE, wpS, u2, runD, entry, x_sq, x_asM, x_rtM, x_tgM, x_ifM, few0, few1, few2, few3, few4, few5, few6, few7, few8, few9, x_andM, x_orM, x_notM, x_andT, x_orT, bd, Sd.ret, lf, fl, rd, Sd.st, stL, appM, mutS, putS, setM, slotM, hasS, seqM, itM, popZ, mvS, lstS, callM, sfM, x_isB, x_isI, x_lt, x_le, x_gt, x_ge, x_add, x_sub, tsC, tsN, len_tup, len_lst, x_tupL, x_tupT, x_lstL, x_lstT, x_intB, x_abs, Option.bind_some, Option.bind_none, List.map_cons, List.map_nil, List.length_cons, List.length_nil, List.replicate, List.cons_append, List.nil_append, List.getElem?_cons_zero, List.getElem?_cons_succ, List.set_cons_zero, List.set_cons_succ, Nat.reduceAdd, Nat.reduceSub, Nat.reduceLT, ite_true, ite_false, reduceIte, reduceCtorEq, Nat.reduceLeDiff, Bool.false_eq_true]; rfl, rfl, by simp only [sE, pRow, at51, runD, entry, x_sq, x_asM, x_rtM, x_tgM, x_ifM, few0, few1, few2, few3, few4, few5, few6, few7, few8, few9, x_andM, x_orM, x_notM, x_andT, x_orT, bd, Sd.ret, lf, fl, rd, Sd.st, stL, appM, mutS, putS, setM, slotM, hasS, seqM, itM, popZ, mvS, lstS, callM, sfM, x_isB, x_isI, x_lt, x_le, x_gt, x_ge, x_add, x_sub, tsC, tsN, len_tup, len_lst, x_tupL, x_tupT, x_lstL, x_lstT, x_intB, x_abs, Option.bind_some, Option.bind_none, List.map_cons, List.map_nil, List.length_cons, List.length_nil, List.replicate, List.cons_append, List.nil_append, List.getElem?_cons_zero, List.getElem?_cons_succ, List.set_cons_zero, List.set_cons_succ, Nat.reduceAdd, Nat.reduceSub, Nat.reduceLT, ite_true, ite_false, reduceIte, reduceCtorEq, Nat.reduceLeDiff, Bool.false_eq_true], fun _ => rfl⟩)
  rw [e]
  simp only [pI, goalsOf, List.map_map]
  rfl
theorem ends_lc {v3 v4 v6 : SV} {t : Int} {q : Row × Nat} (hq : q.1.nx.length ≤ 100) : (lcM [7, 8] (tsT 2 (tsC (Sd.st 7) (tsC (Sd.st 8) (tsN)))) (andT (bd (rd 8) fun x => bd (rd 5) fun y => lf ((eqD x y).bind isB)) (bd (bd (bd (hasS 2) fun _ => bd (ret (.int 1)) fun i => bd (lf (isI i)) fun k => bd (slotM 2) fun l => lf (L2.atI l k)) fun x => lf (isB x)) fun t => ret (!t))) (bd (bd (rd 7) fun x => bd (bd (rd 1) fun x => bd (ret []) fun xs => ret (x :: xs)) fun xs => ret (x :: xs)) fun xs => lf (few xs (.tup xs))) (bd (bd (hasS 2) fun _ => bd (ret (.int 0)) fun i => bd (lf (isI i)) fun k => bd (slotM 2) fun l => lf (L2.atI l k)) itM)) (sE rows (.dat (.int (q.2 : Nat))) (.dat (pRow q.1)) v3 v4 (.dat (.int t)) v6 st) = some (pJ (tailAt t q), sE rows (.dat (.int (q.2 : Nat))) (.dat (pRow q.1)) v3 v4 (.dat (.int t)) v6 st) := by
  have e := lcMX (own := [7, 8]) (ts := (tsT 2 (tsC (Sd.st 7) (tsC (Sd.st 8) (tsN))))) (mc := (andT (bd (rd 8) fun x => bd (rd 5) fun y => lf ((eqD x y).bind isB)) (bd (bd (bd (hasS 2) fun _ => bd (ret (.int 1)) fun i => bd (lf (isI i)) fun k => bd (slotM 2) fun l => lf (L2.atI l k)) fun x => lf (isB x)) fun t => ret (!t)))) (me := (bd (bd (rd 7) fun x => bd (bd (rd 1) fun x => bd (ret []) fun xs => ret (x :: xs)) fun xs => ret (x :: xs)) fun xs => lf (few xs (.tup xs)))) (mi := (bd (bd (hasS 2) fun _ => bd (ret (.int 0)) fun i => bd (lf (isI i)) fun k => bd (slotM 2) fun l => lf (L2.atI l k)) itM)) (s := sE rows (.dat (.int (q.2 : Nat))) (.dat (pRow q.1)) v3 v4 (.dat (.int t)) v6 st) (s1 := sE rows (.dat (.int (q.2 : Nat))) (.dat (pRow q.1)) v3 v4 (.dat (.int t)) v6 st) (l := q.1.nx) (g := fun p => .tup [.int p.1, .int p.2]) (p := fun p => decide (p.2 = t) && !q.1.dn) (f := fun p => .tup [.int p.1, .int (q.2 : Nat)]) (σ := fun p => ⟨[.dat (.lst (rows.map pRow)), .dat (.int (q.2 : Nat)), .dat (pRow q.1), v3, v4, .dat (.int t), v6, .dat (.int p.1), .dat (.int p.2)], st⟩) (by
    simp only [sE, pRow, at50, runD, entry, x_sq, x_asM, x_rtM, x_tgM, x_ifM, few0, few1, few2, few3, few4, few5, few6, few7, few8, few9, x_andM, x_orM, x_notM, x_andT, x_orT, bd, Sd.ret, lf, fl, rd, Sd.st, stL, appM, mutS, putS, setM, slotM, hasS, seqM, itM, popZ, mvS, lstS, callM, sfM, x_isB, x_isI, x_lt, x_le, x_gt, x_ge, x_add, x_sub, tsC, tsN, len_tup, len_lst, x_tupL, x_tupT, x_lstL, x_lstT, x_intB, x_abs, Option.bind_some, Option.bind_none, List.map_cons, List.map_nil, List.length_cons, List.length_nil, List.replicate, List.cons_append, List.nil_append, List.getElem?_cons_zero, List.getElem?_cons_succ, List.set_cons_zero, List.set_cons_succ, Nat.reduceAdd, Nat.reduceSub, Nat.reduceLT, ite_true, ite_false, reduceIte, reduceCtorEq, Nat.reduceLeDiff, Bool.false_eq_true]
    rfl) (by omega) rfl (fun p hp => ⟨rfl, rfl, by
      by_cases h : p.2 = t
      · simp only [eq_int, pRow, at51, decide_eq_true h, Bool.true_and, runD, entry, x_sq, x_asM, x_rtM, x_tgM, x_ifM, few0, few1, few2, few3, few4, few5, few6, few7, few8, few9, x_andM, x_orM, x_notM, x_andT, x_orT, bd, Sd.ret, lf, fl, rd, Sd.st, stL, appM, mutS, putS, setM, slotM, hasS, seqM, itM, popZ, mvS, lstS, callM, sfM, x_isB, x_isI, x_lt, x_le, x_gt, x_ge, x_add, x_sub, tsC, tsN, len_tup, len_lst, x_tupL, x_tupT, x_lstL, x_lstT, x_intB, x_abs, Option.bind_some, Option.bind_none, List.map_cons, List.map_nil, List.length_cons, List.length_nil, List.replicate, List.cons_append, List.nil_append, List.getElem?_cons_zero, List.getElem?_cons_succ, List.set_cons_zero, List.set_cons_succ, Nat.reduceAdd, Nat.reduceSub, Nat.reduceLT, ite_true, ite_false, reduceIte, reduceCtorEq, Nat.reduceLeDiff, Bool.false_eq_true]
      · simp only [eq_int, pRow, at51, decide_eq_false h, Bool.false_and, runD, entry, x_sq, x_asM, x_rtM, x_tgM, x_ifM, few0, few1, few2, few3, few4, few5, few6, few7, few8, few9, x_andM, x_orM, x_notM, x_andT, x_orT, bd, Sd.ret, lf, fl, rd, Sd.st, stL, appM, mutS, putS, setM, slotM, hasS, seqM, itM, popZ, mvS, lstS, callM, sfM, x_isB, x_isI, x_lt, x_le, x_gt, x_ge, x_add, x_sub, tsC, tsN, len_tup, len_lst, x_tupL, x_tupT, x_lstL, x_lstT, x_intB, x_abs, Option.bind_some, Option.bind_none, List.map_cons, List.map_nil, List.length_cons, List.length_nil, List.replicate, List.cons_append, List.nil_append, List.getElem?_cons_zero, List.getElem?_cons_succ, List.set_cons_zero, List.set_cons_succ, Nat.reduceAdd, Nat.reduceSub, Nat.reduceLT, ite_true, ite_false, reduceIte, reduceCtorEq, Nat.reduceLeDiff, Bool.false_eq_true], fun _ => rfl⟩)
  rw [e]
  simp only [pJ, tailAt, List.map_map]
  rfl
theorem ends_in {v1 v2 v3 v4 : SV} {t : Int} (hl : rows.length ≤ 100) (hx : ∀ r ∈ rows, r.nx.length ≤ 4) : ∃ s', (Sd.forM (tsT 2 (tsC (Sd.st 1) (tsC (Sd.st 2) (tsN)))) (bd (rd 0) fun x => bd (itM x) fun l => ret (numD l)) (asM 6 (bd (rd 6) fun x => bd (bd (lcM [7, 8] (tsT 2 (tsC (Sd.st 7) (tsC (Sd.st 8) (tsN)))) (andT (bd (rd 8) fun x => bd (rd 5) fun y => lf ((eqD x y).bind isB)) (bd (bd (bd (hasS 2) fun _ => bd (ret (.int 1)) fun i => bd (lf (isI i)) fun k => bd (slotM 2) fun l => lf (L2.atI l k)) fun x => lf (isB x)) fun t => ret (!t))) (bd (bd (rd 7) fun x => bd (bd (rd 1) fun x => bd (ret []) fun xs => ret (x :: xs)) fun xs => ret (x :: xs)) fun xs => lf (few xs (.tup xs))) (bd (bd (hasS 2) fun _ => bd (ret (.int 0)) fun i => bd (lf (isI i)) fun k => bd (slotM 2) fun l => lf (L2.atI l k)) itM)) fun l => ret (.lst l)) fun y => lf (addD x y)))) (sE rows v1 v2 v3 v4 (.dat (.int t)) (.dat (.lst [])) st) = some (.nx, s') ∧ ∃ v1 v2, s' = sE rows v1 v2 v3 v4 (.dat (.int t)) (.dat (.lst (pJ (tailOf rows t)))) st := by
  refine forMI (l := rows.zipIdx) (f := fun q => D.tupU [.int (q.2 : Nat), pRow q.1]) (fun pre s => ∃ v1 v2, s = sE rows v1 v2 v3 v4 (.dat (.int t)) (.dat (.lst (pJ (pre.flatMap (tailAt t))))) st) (s1 := sE rows v1 v2 v3 v4 (.dat (.int t)) (.dat (.lst [])) st) ?_ ⟨v1, v2, rfl⟩ ?_
  · rw [← num_map]
    rfl
  · rintro pre q post s hp ⟨v1, v2, rfl⟩
    have hq : ∀ p ∈ pre ++ q :: post, p.1.nx.length ≤ 4 := fun p hp' => by
      rw [← hp] at hp'
      exact hx p.1 (List.mem_of_getElem? (zip_at hp').1)
    have hq1 := hq q (by simp)
    have e := ends_lc (st := st) (rows := rows) (v3 := v3) (v4 := v4) (v6 := .dat (.lst (pJ (pre.flatMap (tailAt t))))) (t := t) (q := q) (by omega)
    have hlen : pre.length < 100 := by
      have := congrArg List.length hp
      simp at this
      omega
    have h1 := flat_len (f := tailAt t) (c := 4) (l := pre) fun p hp' => Nat.le_trans (tailAt_len t p) (hq p (by simp [hp']))
    have h2 := tailAt_len t q
    have ca := x_catL (a := pJ (pre.flatMap (tailAt t))) (b := pJ (tailAt t q)) (by rw [List.length_append, pJ_len, pJ_len]; omega)
    refine ⟨sE rows (.dat (.int (q.2 : Nat))) (.dat (pRow q.1)) v3 v4 (.dat (.int t)) (.dat (.lst (pJ (pre.flatMap (tailAt t))))) st, sE rows (.dat (.int (q.2 : Nat))) (.dat (pRow q.1)) v3 v4 (.dat (.int t)) (.dat (.lst (pJ ((pre ++ [q]).flatMap (tailAt t))))) st, by simp only [sE, u2, runD, entry, x_sq, x_asM, x_rtM, x_tgM, x_ifM, few0, few1, few2, few3, few4, few5, few6, few7, few8, few9, x_andM, x_orM, x_notM, x_andT, x_orT, bd, Sd.ret, lf, fl, rd, Sd.st, stL, appM, mutS, putS, setM, slotM, hasS, seqM, itM, popZ, mvS, lstS, callM, sfM, x_isB, x_isI, x_lt, x_le, x_gt, x_ge, x_add, x_sub, tsC, tsN, len_tup, len_lst, x_tupL, x_tupT, x_lstL, x_lstT, x_intB, x_abs, Option.bind_some, Option.bind_none, List.map_cons, List.map_nil, List.length_cons, List.length_nil, List.replicate, List.cons_append, List.nil_append, List.getElem?_cons_zero, List.getElem?_cons_succ, List.set_cons_zero, List.set_cons_succ, Nat.reduceAdd, Nat.reduceSub, Nat.reduceLT, ite_true, ite_false, reduceIte, reduceCtorEq, Nat.reduceLeDiff, Bool.false_eq_true], ?_, _, _, rfl⟩
    simp only [sE] at e
    simp only [sE, e, ca, pJ_cat, List.flatMap_append, List.flatMap_cons, List.flatMap_nil, List.append_nil, runD, entry, x_sq, x_asM, x_rtM, x_tgM, x_ifM, few0, few1, few2, few3, few4, few5, few6, few7, few8, few9, x_andM, x_orM, x_notM, x_andT, x_orT, bd, Sd.ret, lf, fl, rd, Sd.st, stL, appM, mutS, putS, setM, slotM, hasS, seqM, itM, popZ, mvS, lstS, callM, sfM, x_isB, x_isI, x_lt, x_le, x_gt, x_ge, x_add, x_sub, tsC, tsN, len_tup, len_lst, x_tupL, x_tupT, x_lstL, x_lstT, x_intB, x_abs, Option.bind_some, Option.bind_none, List.map_cons, List.map_nil, List.length_cons, List.length_nil, List.replicate, List.cons_append, List.nil_append, List.getElem?_cons_zero, List.getElem?_cons_succ, List.set_cons_zero, List.set_cons_succ, Nat.reduceAdd, Nat.reduceSub, Nat.reduceLT, ite_true, ite_false, reduceIte, reduceCtorEq, Nat.reduceLeDiff, Bool.false_eq_true]
theorem f_ends (hl : rows.length ≤ 100) (hx : ∀ r ∈ rows, r.nx.length ≤ 4) : d__law_ends [.lst (rows.map pRow)] st = some (.tup [.tup (pI (goalsOf rows)), .tup ((List.range rows.length).map fun (i : Nat) => .tup (pJ (tailOf rows i)))], st) := by
  have e0 := ends_goals (st := st) hl
  have hr := rng_map (n := rows.length) (by omega)
  have key := forMI (ts := (Sd.st 5)) (mi := (bd (bd (bd (rd 0) fun x => bd (ret []) fun xs => ret (x :: xs)) fun ds => lf (lenF ds)) fun x => lf (rng1 x))) (mb := (sq (asM 6 (bd (ret []) fun xs => lf (few xs (.lst xs)))) (sq (Sd.forM (tsT 2 (tsC (Sd.st 1) (tsC (Sd.st 2) (tsN)))) (bd (rd 0) fun x => bd (itM x) fun l => ret (numD l)) (asM 6 (bd (rd 6) fun x => bd (bd (lcM [7, 8] (tsT 2 (tsC (Sd.st 7) (tsC (Sd.st 8) (tsN)))) (andT (bd (rd 8) fun x => bd (rd 5) fun y => lf ((eqD x y).bind isB)) (bd (bd (bd (hasS 2) fun _ => bd (ret (.int 1)) fun i => bd (lf (isI i)) fun k => bd (slotM 2) fun l => lf (L2.atI l k)) fun x => lf (isB x)) fun t => ret (!t))) (bd (bd (rd 7) fun x => bd (bd (rd 1) fun x => bd (ret []) fun xs => ret (x :: xs)) fun xs => ret (x :: xs)) fun xs => lf (few xs (.tup xs))) (bd (bd (hasS 2) fun _ => bd (ret (.int 0)) fun i => bd (lf (isI i)) fun k => bd (slotM 2) fun l => lf (L2.atI l k)) itM)) fun l => ret (.lst l)) fun y => lf (addD x y)))) (appM 4 (bd (bd (rd 6) fun x => bd (ret []) fun xs => ret (x :: xs)) fun ds => lf (tupleF ds)))))) (l := List.range rows.length) (f := fun (i : Nat) => D.int ((i : Nat) : Int)) (s := sE rows .un .un (.dat (.tup (pI (goalsOf rows)))) (.chg []) .un .un st) (s1 := sE rows .un .un (.dat (.tup (pI (goalsOf rows)))) (.chg []) .un .un st) (fun pre s => ∃ v1 v2 v5 v6, s = sE rows v1 v2 (.dat (.tup (pI (goalsOf rows)))) (.chg (pre.map fun (i : Nat) => .tup (pJ (tailOf rows i)))) v5 v6 st) (by
      simp only [sE, List.length_map, hr, runD, entry, x_sq, x_asM, x_rtM, x_tgM, x_ifM, few0, few1, few2, few3, few4, few5, few6, few7, few8, few9, x_andM, x_orM, x_notM, x_andT, x_orT, bd, Sd.ret, lf, fl, rd, Sd.st, stL, appM, mutS, putS, setM, slotM, hasS, seqM, itM, popZ, mvS, lstS, callM, sfM, x_isB, x_isI, x_lt, x_le, x_gt, x_ge, x_add, x_sub, tsC, tsN, len_tup, len_lst, x_tupL, x_tupT, x_lstL, x_lstT, x_intB, x_abs, Option.bind_some, Option.bind_none, List.map_cons, List.map_nil, List.length_cons, List.length_nil, List.replicate, List.cons_append, List.nil_append, List.getElem?_cons_zero, List.getElem?_cons_succ, List.set_cons_zero, List.set_cons_succ, Nat.reduceAdd, Nat.reduceSub, Nat.reduceLT, ite_true, ite_false, reduceIte, reduceCtorEq, Nat.reduceLeDiff, Bool.false_eq_true]) ⟨.un, .un, .un, .un, rfl⟩ (by
      rintro pre i post s hp ⟨v1, v2, v5, v6, rfl⟩
      have hlen : pre.length < 100 := by
        have := congrArg List.length hp
        simp at this
        omega
      obtain ⟨s', e, w1, w2, rfl⟩ := ends_in (st := st) (rows := rows) (v1 := v1) (v2 := v2) (v3 := .dat (.tup (pI (goalsOf rows)))) (v4 := .chg (pre.map fun (i : Nat) => .tup (pJ (tailOf rows i)))) (t := i) hl hx
      have hlt : (pre.map fun (i : Nat) => D.tup (pJ (tailOf rows i))).length < 100000 := by rw [List.length_map]; omega
      refine ⟨sE rows v1 v2 (.dat (.tup (pI (goalsOf rows)))) (.chg (pre.map fun (i : Nat) => .tup (pJ (tailOf rows i)))) (.dat (.int i)) v6 st, sE rows w1 w2 (.dat (.tup (pI (goalsOf rows)))) (.chg ((pre ++ [i]).map fun (i : Nat) => .tup (pJ (tailOf rows i)))) (.dat (.int i)) (.dat (.lst (pJ (tailOf rows i)))) st, rfl, ?_, _, _, _, _, rfl⟩
      simp only [sE] at e
      simp only [sE, e, hlt, List.map_append, runD, entry, x_sq, x_asM, x_rtM, x_tgM, x_ifM, few0, few1, few2, few3, few4, few5, few6, few7, few8, few9, x_andM, x_orM, x_notM, x_andT, x_orT, bd, Sd.ret, lf, fl, rd, Sd.st, stL, appM, mutS, putS, setM, slotM, hasS, seqM, itM, popZ, mvS, lstS, callM, sfM, x_isB, x_isI, x_lt, x_le, x_gt, x_ge, x_add, x_sub, tsC, tsN, len_tup, len_lst, x_tupL, x_tupT, x_lstL, x_lstT, x_intB, x_abs, Option.bind_some, Option.bind_none, List.map_cons, List.map_nil, List.length_cons, List.length_nil, List.replicate, List.cons_append, List.nil_append, List.getElem?_cons_zero, List.getElem?_cons_succ, List.set_cons_zero, List.set_cons_succ, Nat.reduceAdd, Nat.reduceSub, Nat.reduceLT, ite_true, ite_false, reduceIte, reduceCtorEq, Nat.reduceLeDiff, Bool.false_eq_true])
  obtain ⟨s', e1, v1, v2, v5, v6, rfl⟩ := key
  simp only [sE] at e0 e1
  simp only [d__law_ends, m__law_ends, e0, e1, runD, entry, x_sq, x_asM, x_rtM, x_tgM, x_ifM, few0, few1, few2, few3, few4, few5, few6, few7, few8, few9, x_andM, x_orM, x_notM, x_andT, x_orT, bd, Sd.ret, lf, fl, rd, Sd.st, stL, appM, mutS, putS, setM, slotM, hasS, seqM, itM, popZ, mvS, lstS, callM, sfM, x_isB, x_isI, x_lt, x_le, x_gt, x_ge, x_add, x_sub, tsC, tsN, len_tup, len_lst, x_tupL, x_tupT, x_lstL, x_lstT, x_intB, x_abs, Option.bind_some, Option.bind_none, List.map_cons, List.map_nil, List.length_cons, List.length_nil, List.replicate, List.cons_append, List.nil_append, List.getElem?_cons_zero, List.getElem?_cons_succ, List.set_cons_zero, List.set_cons_succ, Nat.reduceAdd, Nat.reduceSub, Nat.reduceLT, ite_true, ite_false, reduceIte, reduceCtorEq, Nat.reduceLeDiff, Bool.false_eq_true]
end
end K04

namespace K04
open Sd
/-! forms, and told tasks that are right -/
def pW (wh : List (List Int)) : List D := wh.map fun w => .tup (pI w)
/-- what an isinstance may look at -/
def plain : D → Bool
  | .tupU _ => false
  | .ins _ _ _ => false
  | .ref _ => false
  | _ => true
def isW : D → Bool
  | .int _ => true
  | _ => false
def btw (lo hi : Int) : D → Bool
  | .int i => decide (lo ≤ i) && decide (i ≤ hi)
  | _ => false
def frm (lo : Int) : D → Bool
  | .int i => decide (lo ≤ i)
  | _ => false
def tlen (lo hi : Int) : D → Bool
  | .tup l => decide (lo ≤ (l.length : Int)) && decide ((l.length : Int) ≤ hi)
  | _ => false
section
variable {st : List SO}
theorem f_is_whole {d : D} (h : plain d = true) : d_is_whole [d] st = some (.bl (isW d), st) := by
  cases d <;> first | rfl | cases h
theorem f_is_between {d : D} {lo hi : Int} (h : plain d = true) : d_is_between [d, .int lo, .int hi] st = some (.bl (btw lo hi d), st) := by
  simp only [d_is_between, m_is_between, f_is_whole h, runD, entry, x_sq, x_asM, x_rtM, x_tgM, x_ifM, few0, few1, few2, few3, few4, few5, few6, few7, few8, few9, x_andM, x_orM, x_notM, x_andT, x_orT, bd, Sd.ret, lf, fl, rd, Sd.st, stL, appM, mutS, putS, setM, slotM, hasS, seqM, itM, popZ, mvS, lstS, callM, sfM, x_isB, x_isI, x_lt, x_le, x_gt, x_ge, x_add, x_sub, tsC, tsN, len_tup, len_lst, x_tupL, x_tupT, x_lstL, x_lstT, x_intB, x_abs, Option.bind_some, Option.bind_none, List.map_cons, List.map_nil, List.length_cons, List.length_nil, List.replicate, List.cons_append, List.nil_append, List.getElem?_cons_zero, List.getElem?_cons_succ, List.set_cons_zero, List.set_cons_succ, Nat.reduceAdd, Nat.reduceSub, Nat.reduceLT, ite_true, ite_false, reduceIte, reduceCtorEq, Nat.reduceLeDiff, Bool.false_eq_true]
  cases d with
  | int i =>
    simp only [isW, btw, runD, entry, x_sq, x_asM, x_rtM, x_tgM, x_ifM, few0, few1, few2, few3, few4, few5, few6, few7, few8, few9, x_andM, x_orM, x_notM, x_andT, x_orT, bd, Sd.ret, lf, fl, rd, Sd.st, stL, appM, mutS, putS, setM, slotM, hasS, seqM, itM, popZ, mvS, lstS, callM, sfM, x_isB, x_isI, x_lt, x_le, x_gt, x_ge, x_add, x_sub, tsC, tsN, len_tup, len_lst, x_tupL, x_tupT, x_lstL, x_lstT, x_intB, x_abs, Option.bind_some, Option.bind_none, List.map_cons, List.map_nil, List.length_cons, List.length_nil, List.replicate, List.cons_append, List.nil_append, List.getElem?_cons_zero, List.getElem?_cons_succ, List.set_cons_zero, List.set_cons_succ, Nat.reduceAdd, Nat.reduceSub, Nat.reduceLT, ite_true, ite_false, reduceIte, reduceCtorEq, Nat.reduceLeDiff, Bool.false_eq_true]
    by_cases h1 : lo ≤ i <;> simp [h1] <;> rfl
  | _ => first | rfl | cases h
theorem f_is_tuple_of {d : D} {lo hi : Int} (h : plain d = true) : d_is_tuple_of [d, .int lo, .int hi] st = some (.bl (tlen lo hi d), st) := by
  cases d with
  | tup l =>
    simp only [d_is_tuple_of, m_is_tuple_of, isiT, lenF, tlen, runD, entry, x_sq, x_asM, x_rtM, x_tgM, x_ifM, few0, few1, few2, few3, few4, few5, few6, few7, few8, few9, x_andM, x_orM, x_notM, x_andT, x_orT, bd, Sd.ret, lf, fl, rd, Sd.st, stL, appM, mutS, putS, setM, slotM, hasS, seqM, itM, popZ, mvS, lstS, callM, sfM, x_isB, x_isI, x_lt, x_le, x_gt, x_ge, x_add, x_sub, tsC, tsN, len_tup, len_lst, x_tupL, x_tupT, x_lstL, x_lstT, x_intB, x_abs, Option.bind_some, Option.bind_none, List.map_cons, List.map_nil, List.length_cons, List.length_nil, List.replicate, List.cons_append, List.nil_append, List.getElem?_cons_zero, List.getElem?_cons_succ, List.set_cons_zero, List.set_cons_succ, Nat.reduceAdd, Nat.reduceSub, Nat.reduceLT, ite_true, ite_false, reduceIte, reduceCtorEq, Nat.reduceLeDiff, Bool.false_eq_true]
    by_cases h1 : lo ≤ (l.length : Int) <;> simp [h1] <;> rfl
  | _ => first | rfl | cases h
theorem all_true {α : Type} {l : List α} {f : α → D} (h : ∀ x ∈ l, f x = .bl true) : allF [.lst (l.map f)] = some (.bl true) := by
  have e : l.map f = l.map fun _ => D.bl ((fun _ => true) ()) := List.map_congr_left fun x hx => by rw [h x hx]
  rw [e, all_map l fun _ => true]
  simp
end
theorem at_end {st : List SO} {x : SO} : (st ++ [x])[st.length]? = some x := by simp
theorem set_end {st : List SO} {x y : SO} : (st ++ [x]).set st.length y = st ++ [y] := by simp
def sg2 (f : D → D → S) : D → S
  | .tupU [a, b] => f a b
  | _ => f .non .non
section
variable {st : List SO}
theorem f_is_from {d : D} {lo : Int} (h : plain d = true) : d_is_from [d, .int lo] st = some (.bl (frm lo d), st) := by
  simp only [d_is_from, m_is_from, f_is_whole h, runD, entry, x_sq, x_asM, x_rtM, x_tgM, x_ifM, few0, few1, few2, few3, few4, few5, few6, few7, few8, few9, x_andM, x_orM, x_notM, x_andT, x_orT, bd, Sd.ret, lf, fl, rd, Sd.st, stL, appM, mutS, putS, setM, slotM, hasS, seqM, itM, popZ, mvS, lstS, callM, sfM, x_isB, x_isI, x_lt, x_le, x_gt, x_ge, x_add, x_sub, tsC, tsN, len_tup, len_lst, x_tupL, x_tupT, x_lstL, x_lstT, x_intB, x_abs, Option.bind_some, Option.bind_none, List.map_cons, List.map_nil, List.length_cons, List.length_nil, List.replicate, List.cons_append, List.nil_append, List.getElem?_cons_zero, List.getElem?_cons_succ, List.set_cons_zero, List.set_cons_succ, Nat.reduceAdd, Nat.reduceSub, Nat.reduceLT, ite_true, ite_false, reduceIte, reduceCtorEq, Nat.reduceLeDiff, Bool.false_eq_true]
  cases d with
  | int i => rfl
  | _ => first | rfl | cases h
theorem f_are_numbers {ns : List Int} {lo : Int} (hl : ns.length ≤ 100000) : d_are_numbers [.tup (pI ns), .int lo] st = some (.bl (ns.all fun i => decide (lo ≤ i)), st) := by
  simp only [d_are_numbers, m_are_numbers, isiT, runD, entry, x_sq, x_asM, x_rtM, x_tgM, x_ifM, few0, few1, few2, few3, few4, few5, few6, few7, few8, few9, x_andM, x_orM, x_notM, x_andT, x_orT, bd, Sd.ret, lf, fl, rd, Sd.st, stL, appM, mutS, putS, setM, slotM, hasS, seqM, itM, popZ, mvS, lstS, callM, sfM, x_isB, x_isI, x_lt, x_le, x_gt, x_ge, x_add, x_sub, tsC, tsN, len_tup, len_lst, x_tupL, x_tupT, x_lstL, x_lstT, x_intB, x_abs, Option.bind_some, Option.bind_none, List.map_cons, List.map_nil, List.length_cons, List.length_nil, List.replicate, List.cons_append, List.nil_append, List.getElem?_cons_zero, List.getElem?_cons_succ, List.set_cons_zero, List.set_cons_succ, Nat.reduceAdd, Nat.reduceSub, Nat.reduceLT, ite_true, ite_false, reduceIte, reduceCtorEq, Nat.reduceLeDiff, Bool.false_eq_true]
  have e := lcMA (own := [2]) (ts := Sd.st 2) (me := (bd (bd (rd 2) fun x => bd (bd (rd 1) fun x => bd (ret []) fun xs => ret (x :: xs)) fun xs => ret (x :: xs)) fun ds => callM d_is_from ds)) (mi := bd (rd 0) itM) (s := ⟨[.dat (.tup (pI ns)), .dat (.int lo), .un], st⟩) (s1 := ⟨[.dat (.tup (pI ns)), .dat (.int lo), .un], st⟩) (ds := pI ns) (f := fun d => .bl (frm lo d)) (σ := fun d => ⟨[.dat (.tup (pI ns)), .dat (.int lo), .dat d], st⟩) rfl (by rw [pI_len]; exact hl) rfl (fun d hd => ⟨rfl, rfl, by
    obtain ⟨i, _, rfl⟩ := List.mem_map.mp hd
    show callM d_is_from [.int i, .int lo] _ = _
    rw [call_of (f_is_from rfl)]⟩)
  rw [e]
  simp only [pI, List.map_map, Function.comp_def, frm, all_map]
theorem zip_all : ∀ {ns : List Int}, ns.Pairwise (· < ·) → ((ns.zip (ns.drop 1)).all fun q => decide (q.1 < q.2)) = true
  | [], _ => rfl
  | [a], _ => rfl
  | a :: b :: r, h => by
    have h2 := zip_all (List.pairwise_cons.mp h).2
    have h1 := (List.pairwise_cons.mp h).1 b (List.mem_cons_self ..)
    simp only [List.drop_succ_cons, List.drop_zero, List.zip_cons_cons, List.all_cons] at h2 ⊢
    rw [h2, Bool.and_true, decide_eq_true_eq]
    exact h1
def lt2 : D → D
  | .tupU [.int a, .int b] => .bl (decide (a < b))
  | _ => .non
theorem f_are_rising {ns : List Int} (hl : ns.length ≤ 100000) (h : ns.Pairwise (· < ·)) : d_are_rising [.tup (pI ns)] st = some (.bl true, st) := by
  have hz : List.zipWith (fun a b => D.tupU [a, b]) (pI ns) ((pI ns).drop 1) = (ns.zip (ns.drop 1)).map fun q => D.tupU [.int q.1, .int q.2] := by
    unfold pI
    rw [← List.map_drop, List.zipWith_map, List.zip, List.map_zipWith]
  have e := lcMA (own := [1, 2]) (ts := tsT 2 (tsC (Sd.st 1) (tsC (Sd.st 2) (tsN)))) (me := bd (rd 1) fun x => bd (rd 2) fun y => lf (ltD x y)) (mi := bd (rd 0) fun x => bd (bd (rd 0) fun x => bd (bd (ret (.int 1)) fun i => bd (lf (isI i)) fun k => ret (some k)) fun i => bd (ret none) fun j => lf (slD x i j)) fun y => lf (zipD x y)) (s := ⟨[.dat (.tup (pI ns)), .un, .un], st⟩) (s1 := ⟨[.dat (.tup (pI ns)), .un, .un], st⟩) (ds := (ns.zip (ns.drop 1)).map fun q => D.tupU [.int q.1, .int q.2]) (f := lt2) (σ := sg2 fun a b => ⟨[.dat (.tup (pI ns)), .dat a, .dat b], st⟩) (by
    show (lf (zipD (.tup (pI ns)) (.tup (cutD (pI ns) (some 1) none))) : M (List D)) _ = _
    rw [show (1 : Int) = ((1 : Nat) : Int) from rfl, cut_from]
    show some (List.zipWith (fun a b => D.tupU [a, b]) (pI ns) ((pI ns).drop 1), _) = _
    rw [hz]) (by rw [List.length_map, List.length_zip]; omega) rfl (fun d hd => by
    obtain ⟨q, _, rfl⟩ := List.mem_map.mp hd
    exact ⟨rfl, rfl, rfl⟩)
  have e2 : d_are_rising [.tup (pI ns)] st = (match allF [.lst (((ns.zip (ns.drop 1)).map fun q => D.tupU [.int q.1, .int q.2]).map lt2)] with | some d => some (d, st) | none => none) := by
    simp only [d_are_rising, m_are_rising, e, runD, entry, x_sq, x_asM, x_rtM, x_tgM, x_ifM, few0, few1, few2, few3, few4, few5, few6, few7, few8, few9, x_andM, x_orM, x_notM, x_andT, x_orT, bd, Sd.ret, lf, fl, rd, Sd.st, stL, appM, mutS, putS, setM, slotM, hasS, seqM, itM, popZ, mvS, lstS, callM, sfM, x_isB, x_isI, x_lt, x_le, x_gt, x_ge, x_add, x_sub, tsC, tsN, len_tup, len_lst, x_tupL, x_tupT, x_lstL, x_lstT, x_intB, x_abs, Option.bind_some, Option.bind_none, List.map_cons, List.map_nil, List.length_cons, List.length_nil, List.replicate, List.cons_append, List.nil_append, List.getElem?_cons_zero, List.getElem?_cons_succ, List.set_cons_zero, List.set_cons_succ, Nat.reduceAdd, Nat.reduceSub, Nat.reduceLT, ite_true, ite_false, reduceIte, reduceCtorEq, Nat.reduceLeDiff, Bool.false_eq_true]
    cases allF [D.lst (List.map lt2 (List.map (fun q => D.tupU [D.int q.fst, D.int q.snd]) (ns.zip (List.drop 1 ns))))] <;> rfl
  rw [e2, List.map_map]
  show (match allF [.lst ((ns.zip (ns.drop 1)).map fun q => .bl (decide (q.1 < q.2)))] with | some d => some (d, st) | none => none) = _
  rw [all_map, zip_all h]

theorem within_t {r : List Int} {many : Int} (h : ∀ i ∈ r, i < many) (hl : r.length ≤ 1000) : d_are_within [.tup (pI r), .int many] st = some (.bl true, st) := by
  have e := lcMXA (own := [2]) (ts := (Sd.st 2)) (me := (bd (rd 2) fun x => bd (rd 1) fun y => lf (ltD x y))) (mi := (bd (rd 0) itM)) (s := ⟨[.dat (.tup (pI r)), .dat (.int many), .un], st⟩) (s1 := ⟨[.dat (.tup (pI r)), .dat (.int many), .un], st⟩) (l := r) (g := D.int) (f := fun _ => .bl true) (σ := fun i => ⟨[.dat (.tup (pI r)), .dat (.int many), .dat (.int i)], st⟩) rfl (by omega) rfl (fun i hi => ⟨rfl, rfl, by
    simp only [runD, entry, x_sq, x_asM, x_rtM, x_tgM, x_ifM, few0, few1, few2, few3, few4, few5, few6, few7, few8, few9, x_andM, x_orM, x_notM, x_andT, x_orT, bd, Sd.ret, lf, fl, rd, Sd.st, stL, appM, mutS, putS, setM, slotM, hasS, seqM, itM, popZ, mvS, lstS, callM, sfM, x_isB, x_isI, x_lt, x_le, x_gt, x_ge, x_add, x_sub, tsC, tsN, len_tup, len_lst, x_tupL, x_tupT, x_lstL, x_lstT, x_intB, x_abs, Option.bind_some, Option.bind_none, List.map_cons, List.map_nil, List.length_cons, List.length_nil, List.replicate, List.cons_append, List.nil_append, List.getElem?_cons_zero, List.getElem?_cons_succ, List.set_cons_zero, List.set_cons_succ, Nat.reduceAdd, Nat.reduceSub, Nat.reduceLT, ite_true, ite_false, reduceIte, reduceCtorEq, Nat.reduceLeDiff, Bool.false_eq_true, x_parM, x_asL, h i hi, decide_true]⟩)
  simp only [d_are_within, m_are_within, e, runD, entry, x_sq, x_asM, x_rtM, x_tgM, x_ifM, few0, few1, few2, few3, few4, few5, few6, few7, few8, few9, x_andM, x_orM, x_notM, x_andT, x_orT, bd, Sd.ret, lf, fl, rd, Sd.st, stL, appM, mutS, putS, setM, slotM, hasS, seqM, itM, popZ, mvS, lstS, callM, sfM, x_isB, x_isI, x_lt, x_le, x_gt, x_ge, x_add, x_sub, tsC, tsN, len_tup, len_lst, x_tupL, x_tupT, x_lstL, x_lstT, x_intB, x_abs, Option.bind_some, Option.bind_none, List.map_cons, List.map_nil, List.length_cons, List.length_nil, List.replicate, List.cons_append, List.nil_append, List.getElem?_cons_zero, List.getElem?_cons_succ, List.set_cons_zero, List.set_cons_succ, Nat.reduceAdd, Nat.reduceSub, Nat.reduceLT, ite_true, ite_false, reduceIte, reduceCtorEq, Nat.reduceLeDiff, Bool.false_eq_true, x_parM, x_asL, all_true fun x _ => rfl]
theorem within_l {r : List Int} {many : Int} (h : ∀ i ∈ r, i < many) (hl : r.length ≤ 1000) : d_are_within [.lst (pI r), .int many] st = some (.bl true, st) := by
  have e := lcMXA (own := [2]) (ts := (Sd.st 2)) (me := (bd (rd 2) fun x => bd (rd 1) fun y => lf (ltD x y))) (mi := (bd (rd 0) itM)) (s := ⟨[.dat (.lst (pI r)), .dat (.int many), .un], st⟩) (s1 := ⟨[.dat (.lst (pI r)), .dat (.int many), .un], st⟩) (l := r) (g := D.int) (f := fun _ => .bl true) (σ := fun i => ⟨[.dat (.lst (pI r)), .dat (.int many), .dat (.int i)], st⟩) rfl (by omega) rfl (fun i hi => ⟨rfl, rfl, by
    simp only [runD, entry, x_sq, x_asM, x_rtM, x_tgM, x_ifM, few0, few1, few2, few3, few4, few5, few6, few7, few8, few9, x_andM, x_orM, x_notM, x_andT, x_orT, bd, Sd.ret, lf, fl, rd, Sd.st, stL, appM, mutS, putS, setM, slotM, hasS, seqM, itM, popZ, mvS, lstS, callM, sfM, x_isB, x_isI, x_lt, x_le, x_gt, x_ge, x_add, x_sub, tsC, tsN, len_tup, len_lst, x_tupL, x_tupT, x_lstL, x_lstT, x_intB, x_abs, Option.bind_some, Option.bind_none, List.map_cons, List.map_nil, List.length_cons, List.length_nil, List.replicate, List.cons_append, List.nil_append, List.getElem?_cons_zero, List.getElem?_cons_succ, List.set_cons_zero, List.set_cons_succ, Nat.reduceAdd, Nat.reduceSub, Nat.reduceLT, ite_true, ite_false, reduceIte, reduceCtorEq, Nat.reduceLeDiff, Bool.false_eq_true, x_parM, x_asL, h i hi, decide_true]⟩)
  simp only [d_are_within, m_are_within, e, runD, entry, x_sq, x_asM, x_rtM, x_tgM, x_ifM, few0, few1, few2, few3, few4, few5, few6, few7, few8, few9, x_andM, x_orM, x_notM, x_andT, x_orT, bd, Sd.ret, lf, fl, rd, Sd.st, stL, appM, mutS, putS, setM, slotM, hasS, seqM, itM, popZ, mvS, lstS, callM, sfM, x_isB, x_isI, x_lt, x_le, x_gt, x_ge, x_add, x_sub, tsC, tsN, len_tup, len_lst, x_tupL, x_tupT, x_lstL, x_lstT, x_intB, x_abs, Option.bind_some, Option.bind_none, List.map_cons, List.map_nil, List.length_cons, List.length_nil, List.replicate, List.cons_append, List.nil_append, List.getElem?_cons_zero, List.getElem?_cons_succ, List.set_cons_zero, List.set_cons_succ, Nat.reduceAdd, Nat.reduceSub, Nat.reduceLT, ite_true, ite_false, reduceIte, reduceCtorEq, Nat.reduceLeDiff, Bool.false_eq_true, x_parM, x_asL, all_true fun x _ => rfl]
theorem f_is_pair {q : Int × Int} (h : (0 ≤ q.1 ∧ q.1 ≤ 1000) ∧ 0 ≤ q.2) : d_is_pair [.tup [.int q.1, .int q.2]] st = some (.bl true, st) := by
  have e1 := f_is_tuple_of (st := st) (d := .tup [.int q.1, .int q.2]) (lo := 2) (hi := 2) rfl
  rw [show tlen 2 2 (.tup [.int q.1, .int q.2]) = true from rfl] at e1
  have e2 := f_is_between (st := st) (d := .int q.1) (lo := 0) (hi := 1000) rfl
  rw [show btw 0 1000 (.int q.1) = true by simp [btw]; omega] at e2
  have e3 := f_is_from (st := st) (d := .int q.2) (lo := 0) rfl
  rw [show frm 0 (.int q.2) = true by simp [frm]; omega] at e3
  simp only [d_is_pair, m_is_pair, e1, e2, e3, at20, at21, runD, entry, x_sq, x_asM, x_rtM, x_tgM, x_ifM, few0, few1, few2, few3, few4, few5, few6, few7, few8, few9, x_andM, x_orM, x_notM, x_andT, x_orT, bd, Sd.ret, lf, fl, rd, Sd.st, stL, appM, mutS, putS, setM, slotM, hasS, seqM, itM, popZ, mvS, lstS, callM, sfM, x_isB, x_isI, x_lt, x_le, x_gt, x_ge, x_add, x_sub, tsC, tsN, len_tup, len_lst, x_tupL, x_tupT, x_lstL, x_lstT, x_intB, x_abs, Option.bind_some, Option.bind_none, List.map_cons, List.map_nil, List.length_cons, List.length_nil, List.replicate, List.cons_append, List.nil_append, List.getElem?_cons_zero, List.getElem?_cons_succ, List.set_cons_zero, List.set_cons_succ, Nat.reduceAdd, Nat.reduceSub, Nat.reduceLT, ite_true, ite_false, reduceIte, reduceCtorEq, Nat.reduceLeDiff, Bool.false_eq_true, x_parM, x_asL]
theorem f_are_pairs {l : List (Int × Int)} {mo : Nat} (hm : mo ≤ 1000) (hl : l.length ≤ mo) (h : ∀ q ∈ l, (0 ≤ q.1 ∧ q.1 ≤ 1000) ∧ 0 ≤ q.2) : d_are_pairs [.tup (pJ l), .int (mo : Nat)] st = some (.bl true, st) := by
  have e1 := f_is_tuple_of (st := st) (d := .tup (pJ l)) (lo := 0) (hi := (mo : Nat)) rfl
  rw [show tlen 0 (mo : Nat) (.tup (pJ l)) = true by simp [tlen, pJ_len]; omega] at e1
  have e := lcMXA (own := [2]) (ts := (Sd.st 2)) (me := (bd (bd (rd 2) fun x => bd (ret []) fun xs => ret (x :: xs)) fun ds => callM d_is_pair ds)) (mi := (bd (rd 0) itM)) (s := ⟨[.dat (.tup (pJ l)), .dat (.int (mo : Nat)), .un], st⟩) (s1 := ⟨[.dat (.tup (pJ l)), .dat (.int (mo : Nat)), .un], st⟩) (l := l) (g := fun q => .tup [.int q.1, .int q.2]) (f := fun _ => .bl true) (σ := fun q => ⟨[.dat (.tup (pJ l)), .dat (.int (mo : Nat)), .dat (.tup [.int q.1, .int q.2])], st⟩) rfl (by omega) rfl (fun q hq => ⟨rfl, rfl, by
    simp only [f_is_pair (h q hq), runD, entry, x_sq, x_asM, x_rtM, x_tgM, x_ifM, few0, few1, few2, few3, few4, few5, few6, few7, few8, few9, x_andM, x_orM, x_notM, x_andT, x_orT, bd, Sd.ret, lf, fl, rd, Sd.st, stL, appM, mutS, putS, setM, slotM, hasS, seqM, itM, popZ, mvS, lstS, callM, sfM, x_isB, x_isI, x_lt, x_le, x_gt, x_ge, x_add, x_sub, tsC, tsN, len_tup, len_lst, x_tupL, x_tupT, x_lstL, x_lstT, x_intB, x_abs, Option.bind_some, Option.bind_none, List.map_cons, List.map_nil, List.length_cons, List.length_nil, List.replicate, List.cons_append, List.nil_append, List.getElem?_cons_zero, List.getElem?_cons_succ, List.set_cons_zero, List.set_cons_succ, Nat.reduceAdd, Nat.reduceSub, Nat.reduceLT, ite_true, ite_false, reduceIte, reduceCtorEq, Nat.reduceLeDiff, Bool.false_eq_true, x_parM, x_asL]⟩)
  simp only [d_are_pairs, m_are_pairs, e1, e, all_true fun x _ => rfl, runD, entry, x_sq, x_asM, x_rtM, x_tgM, x_ifM, few0, few1, few2, few3, few4, few5, few6, few7, few8, few9, x_andM, x_orM, x_notM, x_andT, x_orT, bd, Sd.ret, lf, fl, rd, Sd.st, stL, appM, mutS, putS, setM, slotM, hasS, seqM, itM, popZ, mvS, lstS, callM, sfM, x_isB, x_isI, x_lt, x_le, x_gt, x_ge, x_add, x_sub, tsC, tsN, len_tup, len_lst, x_tupL, x_tupT, x_lstL, x_lstT, x_intB, x_abs, Option.bind_some, Option.bind_none, List.map_cons, List.map_nil, List.length_cons, List.length_nil, List.replicate, List.cons_append, List.nil_append, List.getElem?_cons_zero, List.getElem?_cons_succ, List.set_cons_zero, List.set_cons_succ, Nat.reduceAdd, Nat.reduceSub, Nat.reduceLT, ite_true, ite_false, reduceIte, reduceCtorEq, Nat.reduceLeDiff, Bool.false_eq_true, x_parM, x_asL]
theorem f_pw {l : List (Int × Int)} {many : Int} (hl : l.length ≤ 1000) (h : ∀ q ∈ l, q.2 < many) : d_are_pairs_within [.tup (pJ l), .int many] st = some (.bl true, st) := by
  have e := lcMXA (own := [2, 3]) (ts := (tsT 2 (tsC (Sd.st 2) (tsC (Sd.st 3) (tsN))))) (me := (rd 3)) (mi := (bd (rd 0) itM)) (s := ⟨[.dat (.tup (pJ l)), .dat (.int many), .un, .un], st⟩) (s1 := ⟨[.dat (.tup (pJ l)), .dat (.int many), .un, .un], st⟩) (l := l) (g := fun q => .tup [.int q.1, .int q.2]) (f := fun q => .int q.2) (σ := fun q => ⟨[.dat (.tup (pJ l)), .dat (.int many), .dat (.int q.1), .dat (.int q.2)], st⟩) rfl (by omega) rfl (fun q hq => ⟨rfl, rfl, rfl⟩)
  have e2 : l.map (fun q => D.int q.2) = pI (l.map (·.2)) := by simp [pI]
  rw [e2] at e
  have e3 := within_l (st := st) (r := l.map (·.2)) (many := many) (fun i hi => by
    obtain ⟨q, hq, rfl⟩ := List.mem_map.mp hi
    exact h q hq) (by rw [List.length_map]; omega)
  simp only [d_are_pairs_within, m_are_pairs_within, e, e3, runD, entry, x_sq, x_asM, x_rtM, x_tgM, x_ifM, few0, few1, few2, few3, few4, few5, few6, few7, few8, few9, x_andM, x_orM, x_notM, x_andT, x_orT, bd, Sd.ret, lf, fl, rd, Sd.st, stL, appM, mutS, putS, setM, slotM, hasS, seqM, itM, popZ, mvS, lstS, callM, sfM, x_isB, x_isI, x_lt, x_le, x_gt, x_ge, x_add, x_sub, tsC, tsN, len_tup, len_lst, x_tupL, x_tupT, x_lstL, x_lstT, x_intB, x_abs, Option.bind_some, Option.bind_none, List.map_cons, List.map_nil, List.length_cons, List.length_nil, List.replicate, List.cons_append, List.nil_append, List.getElem?_cons_zero, List.getElem?_cons_succ, List.set_cons_zero, List.set_cons_succ, Nat.reduceAdd, Nat.reduceSub, Nat.reduceLT, ite_true, ite_false, reduceIte, reduceCtorEq, Nat.reduceLeDiff, Bool.false_eq_true, x_parM, x_asL]
/-! told tasks -/
def PrV (N : Int) (l : List (Int × Int)) : Prop := ∀ q ∈ l, (0 ≤ q.1 ∧ q.1 ≤ 1000) ∧ 0 ≤ q.2 ∧ q.2 < N
structure RowV (N : Int) (r : Row) : Prop where
  n8 : r.nx.length ≤ 8
  nx : PrV N r.nx
  nm : 0 ≤ r.nm ∧ r.nm ≤ 99
  bo : 0 ≤ r.bo ∧ r.bo ≤ 100000
inductive EndV (N : Nat) : D → D → Prop
  | none : EndV N .non .non
  | some {gs : List Int} {ts : List (List (Int × Int))} (up : gs.Pairwise (· < ·)) (gl : gs.length ≤ 100) (g0 : ∀ i ∈ gs, 0 ≤ i ∧ i < N) (tl : ts.length = N) (t2 : ∀ t ∈ ts, t.length ≤ 200) (tp : ∀ t ∈ ts, PrV N t) : EndV N (.tup (pI gs)) (.tup (ts.map fun t => .tup (pJ t)))
structure TabV (rows : List Row) (wh : List (List Int)) (gD tD : D) : Prop where
  l1 : 1 ≤ rows.length
  l24 : rows.length ≤ 24
  row : ∀ r ∈ rows, RowV rows.length r
  w3 : wh.length ≤ 3
  wh : ∀ w ∈ wh, w.length = rows.length ∧ ∀ x ∈ w, 0 ≤ x ∧ x < rows.length
  en : EndV rows.length gD tD
theorem t5' {u : List D → M Unit} {a b c d e : D} : tsT 5 u (.tup [a, b, c, d, e]) = u [a, b, c, d, e] := x_tsT rfl
theorem f_truth (b : Bool) : d_is_truth [.bl b] st = some (.bl true, st) := rfl
theorem f_table_row {N : Nat} {r : Row} (h : RowV N r) : d_is_table_row [pRow r, .int (N : Nat)] st = some (.bl true, st) := by
  have e1 := f_is_tuple_of (st := st) (d := pRow r) (lo := 5) (hi := 5) rfl
  rw [show tlen 5 5 (pRow r) = true from rfl] at e1
  have e2 := f_are_pairs (st := st) (mo := 8) (by decide) h.n8 fun q hq => ⟨(h.nx q hq).1, (h.nx q hq).2.1⟩
  have e3 := f_pw (st := st) (many := (N : Nat)) (Nat.le_trans h.n8 (by decide)) fun q hq => (h.nx q hq).2.2
  have e4 := f_is_between (st := st) (d := .int r.nm) (lo := 0) (hi := 99) rfl
  rw [show btw 0 99 (.int r.nm) = true by have := h.nm; simp [btw]; omega] at e4
  have e5 := f_is_between (st := st) (d := .int r.bo) (lo := 0) (hi := 100000) rfl
  rw [show btw 0 100000 (.int r.bo) = true by have := h.bo; simp [btw]; omega] at e5
  have e2 : d_are_pairs [.tup (pJ r.nx), .int 8] st = some (.bl true, st) := e2
  unfold pRow at e1 ⊢
  simp only [d_is_table_row, m_is_table_row, e1, t5', e2, e3, f_truth, e4, e5, Bool.not_true, runD, entry, x_sq, x_asM, x_rtM, x_tgM, x_ifM, few0, few1, few2, few3, few4, few5, few6, few7, few8, few9, x_andM, x_orM, x_notM, x_andT, x_orT, bd, Sd.ret, lf, fl, rd, Sd.st, stL, appM, mutS, putS, setM, slotM, hasS, seqM, itM, popZ, mvS, lstS, callM, sfM, x_isB, x_isI, x_lt, x_le, x_gt, x_ge, x_add, x_sub, tsC, tsN, len_tup, len_lst, x_tupL, x_tupT, x_lstL, x_lstT, x_intB, x_abs, Option.bind_some, Option.bind_none, List.map_cons, List.map_nil, List.length_cons, List.length_nil, List.replicate, List.cons_append, List.nil_append, List.getElem?_cons_zero, List.getElem?_cons_succ, List.set_cons_zero, List.set_cons_succ, Nat.reduceAdd, Nat.reduceSub, Nat.reduceLT, ite_true, ite_false, reduceIte, reduceCtorEq, Nat.reduceLeDiff, Bool.false_eq_true, x_parM, x_asL]
theorem f_turn {N : Nat} (hN : N ≤ 24) {w : List Int} (hl : w.length = N) (h : ∀ x ∈ w, 0 ≤ x ∧ x < N) : d_is_turn [.tup (pI w), .int (N : Nat)] st = some (.bl true, st) := by
  have e1 := f_are_numbers (st := st) (ns := w) (lo := 0) (by omega)
  rw [show (w.all fun i => decide (0 ≤ i)) = true from List.all_eq_true.mpr fun x hx => by simpa using (h x hx).1] at e1
  have e2 := within_t (st := st) (r := w) (many := (N : Nat)) (fun i hi => (h i hi).2) (by omega)
  have e3 : eqD (.int ((pI w).length : Nat)) (.int (N : Nat)) = some (.bl true) := by
    rw [eq_int, pI_len, hl]
    simp
  simp only [d_is_turn, m_is_turn, e1, e2, e3, runD, entry, x_sq, x_asM, x_rtM, x_tgM, x_ifM, few0, few1, few2, few3, few4, few5, few6, few7, few8, few9, x_andM, x_orM, x_notM, x_andT, x_orT, bd, Sd.ret, lf, fl, rd, Sd.st, stL, appM, mutS, putS, setM, slotM, hasS, seqM, itM, popZ, mvS, lstS, callM, sfM, x_isB, x_isI, x_lt, x_le, x_gt, x_ge, x_add, x_sub, tsC, tsN, len_tup, len_lst, x_tupL, x_tupT, x_lstL, x_lstT, x_intB, x_abs, Option.bind_some, Option.bind_none, List.map_cons, List.map_nil, List.length_cons, List.length_nil, List.replicate, List.cons_append, List.nil_append, List.getElem?_cons_zero, List.getElem?_cons_succ, List.set_cons_zero, List.set_cons_succ, Nat.reduceAdd, Nat.reduceSub, Nat.reduceLT, ite_true, ite_false, reduceIte, reduceCtorEq, Nat.reduceLeDiff, Bool.false_eq_true, x_parM, x_asL]
theorem num_pW (wh : List (List Int)) : numD (pW wh) = wh.zipIdx.map fun q => D.tupU [.int (q.2 : Nat), .tup (pI q.1)] := num_map wh _
theorem f_wrong_turn {N : Nat} (hN : N ≤ 24) {wh : List (List Int)} (h3 : wh.length ≤ 3) (h : ∀ w ∈ wh, w.length = N ∧ ∀ x ∈ w, 0 ≤ x ∧ x < N) : d_wrong_turn [.tup (pW wh), .int (N : Nat)] st = some (.non, st) := by
  have hz : ((pW wh).length : Int) ≤ 3 := by
    simp [pW]
    omega
  have hg : decide ((3 : Int) < ((pW wh).length : Int)) = false := decide_eq_false (by omega)
  obtain ⟨s', e, v2, v3, rfl⟩ := forMI (l := wh.zipIdx) (f := fun q => D.tupU [.int (q.2 : Nat), .tup (pI q.1)]) (ts := (tsT 2 (tsC (Sd.st 2) (tsC (Sd.st 3) (tsN))))) (mi := (bd (rd 0) fun x => bd (itM x) fun l => ret (numD l))) (mb := (ifM (bd (bd (bd (bd (rd 3) fun x => bd (bd (rd 1) fun x => bd (ret []) fun xs => ret (x :: xs)) fun xs => ret (x :: xs)) fun ds => callM d_is_turn ds) fun x => lf (isB x)) fun t => ret (!t)) (rtM (rd 2)) (ret .nx))) (s := ⟨[.dat (.tup (pW wh)), .dat (.int (N : Nat)), .un, .un], st⟩) (s1 := ⟨[.dat (.tup (pW wh)), .dat (.int (N : Nat)), .un, .un], st⟩) (fun _ s => ∃ v2 v3, s = ⟨[.dat (.tup (pW wh)), .dat (.int (N : Nat)), v2, v3], st⟩) (by simp only [num_pW, runD, entry, x_sq, x_asM, x_rtM, x_tgM, x_ifM, few0, few1, few2, few3, few4, few5, few6, few7, few8, few9, x_andM, x_orM, x_notM, x_andT, x_orT, bd, Sd.ret, lf, fl, rd, Sd.st, stL, appM, mutS, putS, setM, slotM, hasS, seqM, itM, popZ, mvS, lstS, callM, sfM, x_isB, x_isI, x_lt, x_le, x_gt, x_ge, x_add, x_sub, tsC, tsN, len_tup, len_lst, x_tupL, x_tupT, x_lstL, x_lstT, x_intB, x_abs, Option.bind_some, Option.bind_none, List.map_cons, List.map_nil, List.length_cons, List.length_nil, List.replicate, List.cons_append, List.nil_append, List.getElem?_cons_zero, List.getElem?_cons_succ, List.set_cons_zero, List.set_cons_succ, Nat.reduceAdd, Nat.reduceSub, Nat.reduceLT, ite_true, ite_false, reduceIte, reduceCtorEq, Nat.reduceLeDiff, Bool.false_eq_true, x_parM, x_asL]) ⟨_, _, rfl⟩ (by
    rintro pre x post s hx ⟨v2, v3, rfl⟩
    have hm : x.1 ∈ wh := by
      have z : x ∈ wh.zipIdx := by rw [hx]; simp
      exact (List.mem_zipIdx' z).2 ▸ List.getElem_mem _
    have e := f_turn (st := st) hN (h x.1 hm).1 (h x.1 hm).2
    exact ⟨⟨[.dat (.tup (pW wh)), .dat (.int (N : Nat)), .dat (.int (x.2 : Nat)), .dat (.tup (pI x.1))], st⟩, ⟨[.dat (.tup (pW wh)), .dat (.int (N : Nat)), .dat (.int (x.2 : Nat)), .dat (.tup (pI x.1))], st⟩, by simp only [u2, runD, entry, x_sq, x_asM, x_rtM, x_tgM, x_ifM, few0, few1, few2, few3, few4, few5, few6, few7, few8, few9, x_andM, x_orM, x_notM, x_andT, x_orT, bd, Sd.ret, lf, fl, rd, Sd.st, stL, appM, mutS, putS, setM, slotM, hasS, seqM, itM, popZ, mvS, lstS, callM, sfM, x_isB, x_isI, x_lt, x_le, x_gt, x_ge, x_add, x_sub, tsC, tsN, len_tup, len_lst, x_tupL, x_tupT, x_lstL, x_lstT, x_intB, x_abs, Option.bind_some, Option.bind_none, List.map_cons, List.map_nil, List.length_cons, List.length_nil, List.replicate, List.cons_append, List.nil_append, List.getElem?_cons_zero, List.getElem?_cons_succ, List.set_cons_zero, List.set_cons_succ, Nat.reduceAdd, Nat.reduceSub, Nat.reduceLT, ite_true, ite_false, reduceIte, reduceCtorEq, Nat.reduceLeDiff, Bool.false_eq_true, x_parM, x_asL], by simp only [e, Bool.not_true, runD, entry, x_sq, x_asM, x_rtM, x_tgM, x_ifM, few0, few1, few2, few3, few4, few5, few6, few7, few8, few9, x_andM, x_orM, x_notM, x_andT, x_orT, bd, Sd.ret, lf, fl, rd, Sd.st, stL, appM, mutS, putS, setM, slotM, hasS, seqM, itM, popZ, mvS, lstS, callM, sfM, x_isB, x_isI, x_lt, x_le, x_gt, x_ge, x_add, x_sub, tsC, tsN, len_tup, len_lst, x_tupL, x_tupT, x_lstL, x_lstT, x_intB, x_abs, Option.bind_some, Option.bind_none, List.map_cons, List.map_nil, List.length_cons, List.length_nil, List.replicate, List.cons_append, List.nil_append, List.getElem?_cons_zero, List.getElem?_cons_succ, List.set_cons_zero, List.set_cons_succ, Nat.reduceAdd, Nat.reduceSub, Nat.reduceLT, ite_true, ite_false, reduceIte, reduceCtorEq, Nat.reduceLeDiff, Bool.false_eq_true, x_parM, x_asL], _, _, rfl⟩)
  have i1 : isiT (.tup (pW wh)) = some true := rfl
  simp only [d_wrong_turn, m_wrong_turn, i1, Bool.not_true, hg, e, runD, entry, x_sq, x_asM, x_rtM, x_tgM, x_ifM, few0, few1, few2, few3, few4, few5, few6, few7, few8, few9, x_andM, x_orM, x_notM, x_andT, x_orT, bd, Sd.ret, lf, fl, rd, Sd.st, stL, appM, mutS, putS, setM, slotM, hasS, seqM, itM, popZ, mvS, lstS, callM, sfM, x_isB, x_isI, x_lt, x_le, x_gt, x_ge, x_add, x_sub, tsC, tsN, len_tup, len_lst, x_tupL, x_tupT, x_lstL, x_lstT, x_intB, x_abs, Option.bind_some, Option.bind_none, List.map_cons, List.map_nil, List.length_cons, List.length_nil, List.replicate, List.cons_append, List.nil_append, List.getElem?_cons_zero, List.getElem?_cons_succ, List.set_cons_zero, List.set_cons_succ, Nat.reduceAdd, Nat.reduceSub, Nat.reduceLT, ite_true, ite_false, reduceIte, reduceCtorEq, Nat.reduceLeDiff, Bool.false_eq_true, x_parM, x_asL]
theorem f_are_ends {N : Nat} {gD tD : D} (h : EndV N gD tD) : d_are_ends [gD, .int (N : Nat)] st = some (.bl true, st) := by
  cases h with
  | none => rfl
  | some up gl g0 tl t2 tp =>
    rename_i gs ts
    have e1 := f_are_numbers (st := st) (ns := gs) (lo := 0) (by omega)
    rw [show (gs.all fun i => decide (0 ≤ i)) = true from List.all_eq_true.mpr fun x hx => by simpa using (g0 x hx).1] at e1
    have e2 := within_t (st := st) (r := gs) (many := (N : Nat)) (fun i hi => (g0 i hi).2) (by omega)
    have e3 := f_are_rising (st := st) (ns := gs) (by omega) up
    have i1 : isD (.tup (pI gs)) .non = some (.bl false) := rfl
    simp only [d_are_ends, m_are_ends, i1, e1, e2, e3, runD, entry, x_sq, x_asM, x_rtM, x_tgM, x_ifM, few0, few1, few2, few3, few4, few5, few6, few7, few8, few9, x_andM, x_orM, x_notM, x_andT, x_orT, bd, Sd.ret, lf, fl, rd, Sd.st, stL, appM, mutS, putS, setM, slotM, hasS, seqM, itM, popZ, mvS, lstS, callM, sfM, x_isB, x_isI, x_lt, x_le, x_gt, x_ge, x_add, x_sub, tsC, tsN, len_tup, len_lst, x_tupL, x_tupT, x_lstL, x_lstT, x_intB, x_abs, Option.bind_some, Option.bind_none, List.map_cons, List.map_nil, List.length_cons, List.length_nil, List.replicate, List.cons_append, List.nil_append, List.getElem?_cons_zero, List.getElem?_cons_succ, List.set_cons_zero, List.set_cons_succ, Nat.reduceAdd, Nat.reduceSub, Nat.reduceLT, ite_true, ite_false, reduceIte, reduceCtorEq, Nat.reduceLeDiff, Bool.false_eq_true, x_parM, x_asL]
theorem f_are_heads {N : Nat} (hN : N ≤ 24) {gD tD : D} (h : EndV N gD tD) : d_are_heads [tD, gD, .int (N : Nat)] st = some (.bl true, st) := by
  cases h with
  | none => rfl
  | some up gl g0 tl t2' tp =>
    rename_i gs ts
    have i1 : isD (.tup (pI gs)) .non = some (.bl false) := rfl
    have e1 := f_is_tuple_of (st := st) (d := .tup (ts.map fun t => .tup (pJ t))) (lo := (N : Nat)) (hi := (N : Nat)) rfl
    rw [show tlen (N : Nat) (N : Nat) (.tup (ts.map fun t => .tup (pJ t))) = true by simp [tlen, tl]] at e1
    have e := lcMXA (own := [3]) (ts := (Sd.st 3)) (me := (Sd.andM (bd (bd (rd 3) fun x => bd (bd (ret (.int 200)) fun x => bd (ret []) fun xs => ret (x :: xs)) fun xs => ret (x :: xs)) fun ds => callM d_are_pairs ds) (bd (bd (rd 3) fun x => bd (bd (rd 2) fun x => bd (ret []) fun xs => ret (x :: xs)) fun xs => ret (x :: xs)) fun ds => callM d_are_pairs_within ds))) (mi := (bd (rd 0) itM)) (s := ⟨[.dat (.tup (ts.map fun t => .tup (pJ t))), .dat (.tup (pI gs)), .dat (.int (N : Nat)), .un], st⟩) (s1 := ⟨[.dat (.tup (ts.map fun t => .tup (pJ t))), .dat (.tup (pI gs)), .dat (.int (N : Nat)), .un], st⟩) (l := ts) (g := fun t => .tup (pJ t)) (f := fun _ => .bl true) (σ := fun t => ⟨[.dat (.tup (ts.map fun t => .tup (pJ t))), .dat (.tup (pI gs)), .dat (.int (N : Nat)), .dat (.tup (pJ t))], st⟩) rfl (by omega) rfl (fun t ht => ⟨rfl, rfl, by
      have e2 := f_are_pairs (st := st) (mo := 200) (by decide) (t2' t ht) fun q hq => ⟨(tp t ht q hq).1, (tp t ht q hq).2.1⟩
      have e2 : d_are_pairs [.tup (pJ t), .int 200] st = some (.bl true, st) := e2
      have e3 := f_pw (st := st) (many := (N : Nat)) (Nat.le_trans (t2' t ht) (by decide)) fun q hq => (tp t ht q hq).2.2
      simp only [e2, e3, runD, entry, x_sq, x_asM, x_rtM, x_tgM, x_ifM, few0, few1, few2, few3, few4, few5, few6, few7, few8, few9, x_andM, x_orM, x_notM, x_andT, x_orT, bd, Sd.ret, lf, fl, rd, Sd.st, stL, appM, mutS, putS, setM, slotM, hasS, seqM, itM, popZ, mvS, lstS, callM, sfM, x_isB, x_isI, x_lt, x_le, x_gt, x_ge, x_add, x_sub, tsC, tsN, len_tup, len_lst, x_tupL, x_tupT, x_lstL, x_lstT, x_intB, x_abs, Option.bind_some, Option.bind_none, List.map_cons, List.map_nil, List.length_cons, List.length_nil, List.replicate, List.cons_append, List.nil_append, List.getElem?_cons_zero, List.getElem?_cons_succ, List.set_cons_zero, List.set_cons_succ, Nat.reduceAdd, Nat.reduceSub, Nat.reduceLT, ite_true, ite_false, reduceIte, reduceCtorEq, Nat.reduceLeDiff, Bool.false_eq_true, x_parM, x_asL]⟩)
    simp only [d_are_heads, m_are_heads, i1, e1, e, all_true fun x _ => rfl, Bool.not_true, runD, entry, x_sq, x_asM, x_rtM, x_tgM, x_ifM, few0, few1, few2, few3, few4, few5, few6, few7, few8, few9, x_andM, x_orM, x_notM, x_andT, x_orT, bd, Sd.ret, lf, fl, rd, Sd.st, stL, appM, mutS, putS, setM, slotM, hasS, seqM, itM, popZ, mvS, lstS, callM, sfM, x_isB, x_isI, x_lt, x_le, x_gt, x_ge, x_add, x_sub, tsC, tsN, len_tup, len_lst, x_tupL, x_tupT, x_lstL, x_lstT, x_intB, x_abs, Option.bind_some, Option.bind_none, List.map_cons, List.map_nil, List.length_cons, List.length_nil, List.replicate, List.cons_append, List.nil_append, List.getElem?_cons_zero, List.getElem?_cons_succ, List.set_cons_zero, List.set_cons_succ, Nat.reduceAdd, Nat.reduceSub, Nat.reduceLT, ite_true, ite_false, reduceIte, reduceCtorEq, Nat.reduceLeDiff, Bool.false_eq_true, x_parM, x_asL]
theorem num_pRow (rows : List Row) : numD (rows.map pRow) = rows.zipIdx.map fun q => D.tupU [.int (q.2 : Nat), pRow q.1] := num_map rows _
theorem f_wrong_place {rows : List Row} {wh : List (List Int)} {gD tD : D} (h : TabV rows wh gD tD) : d_wrong_place [.tup (rows.map pRow), .tup (pW wh), gD, tD] st = some (.non, st) := by
  have h1 := h.l1
  have h2 := h.l24
  have e1 := f_is_tuple_of (st := st) (d := .tup (rows.map pRow)) (lo := 1) (hi := 24) rfl
  rw [show tlen 1 24 (.tup (rows.map pRow)) = true by simp [tlen]; omega] at e1
  have hlen : ((rows.map pRow).length : Int) = ((rows.length : Nat) : Int) := by simp
  obtain ⟨s', e, v5, v6, rfl⟩ := forMI (l := rows.zipIdx) (f := fun q => D.tupU [.int (q.2 : Nat), pRow q.1]) (ts := (tsT 2 (tsC (Sd.st 5) (tsC (Sd.st 6) (tsN))))) (mi := (bd (rd 0) fun x => bd (itM x) fun l => ret (numD l))) (mb := (ifM (bd (bd (bd (bd (rd 6) fun x => bd (bd (rd 4) fun x => bd (ret []) fun xs => ret (x :: xs)) fun xs => ret (x :: xs)) fun ds => callM d_is_table_row ds) fun x => lf (isB x)) fun t => ret (!t)) (rtM (bd (bd (ret (.str "row")) fun x => bd (bd (rd 5) fun x => bd (ret []) fun xs => ret (x :: xs)) fun xs => ret (x :: xs)) fun xs => lf (few xs (.tup xs)))) (ret .nx))) (s := ⟨[.dat (.tup (rows.map pRow)), .dat (.tup (pW wh)), .dat gD, .dat tD, .dat (.int (rows.length : Nat)), .un, .un, .un], st⟩) (s1 := ⟨[.dat (.tup (rows.map pRow)), .dat (.tup (pW wh)), .dat gD, .dat tD, .dat (.int (rows.length : Nat)), .un, .un, .un], st⟩) (fun _ s => ∃ v5 v6, s = ⟨[.dat (.tup (rows.map pRow)), .dat (.tup (pW wh)), .dat gD, .dat tD, .dat (.int (rows.length : Nat)), v5, v6, .un], st⟩) (by simp only [num_pRow, runD, entry, x_sq, x_asM, x_rtM, x_tgM, x_ifM, few0, few1, few2, few3, few4, few5, few6, few7, few8, few9, x_andM, x_orM, x_notM, x_andT, x_orT, bd, Sd.ret, lf, fl, rd, Sd.st, stL, appM, mutS, putS, setM, slotM, hasS, seqM, itM, popZ, mvS, lstS, callM, sfM, x_isB, x_isI, x_lt, x_le, x_gt, x_ge, x_add, x_sub, tsC, tsN, len_tup, len_lst, x_tupL, x_tupT, x_lstL, x_lstT, x_intB, x_abs, Option.bind_some, Option.bind_none, List.map_cons, List.map_nil, List.length_cons, List.length_nil, List.replicate, List.cons_append, List.nil_append, List.getElem?_cons_zero, List.getElem?_cons_succ, List.set_cons_zero, List.set_cons_succ, Nat.reduceAdd, Nat.reduceSub, Nat.reduceLT, ite_true, ite_false, reduceIte, reduceCtorEq, Nat.reduceLeDiff, Bool.false_eq_true, x_parM, x_asL]) ⟨_, _, rfl⟩ (by
    rintro pre x post s hx ⟨v5, v6, rfl⟩
    have hm : x.1 ∈ rows := by
      have z : x ∈ rows.zipIdx := by rw [hx]; simp
      exact (List.mem_zipIdx' z).2 ▸ List.getElem_mem _
    have e := f_table_row (st := st) (h.row x.1 hm)
    exact ⟨⟨[.dat (.tup (rows.map pRow)), .dat (.tup (pW wh)), .dat gD, .dat tD, .dat (.int (rows.length : Nat)), .dat (.int (x.2 : Nat)), .dat (pRow x.1), .un], st⟩, ⟨[.dat (.tup (rows.map pRow)), .dat (.tup (pW wh)), .dat gD, .dat tD, .dat (.int (rows.length : Nat)), .dat (.int (x.2 : Nat)), .dat (pRow x.1), .un], st⟩, by simp only [u2, runD, entry, x_sq, x_asM, x_rtM, x_tgM, x_ifM, few0, few1, few2, few3, few4, few5, few6, few7, few8, few9, x_andM, x_orM, x_notM, x_andT, x_orT, bd, Sd.ret, lf, fl, rd, Sd.st, stL, appM, mutS, putS, setM, slotM, hasS, seqM, itM, popZ, mvS, lstS, callM, sfM, x_isB, x_isI, x_lt, x_le, x_gt, x_ge, x_add, x_sub, tsC, tsN, len_tup, len_lst, x_tupL, x_tupT, x_lstL, x_lstT, x_intB, x_abs, Option.bind_some, Option.bind_none, List.map_cons, List.map_nil, List.length_cons, List.length_nil, List.replicate, List.cons_append, List.nil_append, List.getElem?_cons_zero, List.getElem?_cons_succ, List.set_cons_zero, List.set_cons_succ, Nat.reduceAdd, Nat.reduceSub, Nat.reduceLT, ite_true, ite_false, reduceIte, reduceCtorEq, Nat.reduceLeDiff, Bool.false_eq_true, x_parM, x_asL], by simp only [e, Bool.not_true, runD, entry, x_sq, x_asM, x_rtM, x_tgM, x_ifM, few0, few1, few2, few3, few4, few5, few6, few7, few8, few9, x_andM, x_orM, x_notM, x_andT, x_orT, bd, Sd.ret, lf, fl, rd, Sd.st, stL, appM, mutS, putS, setM, slotM, hasS, seqM, itM, popZ, mvS, lstS, callM, sfM, x_isB, x_isI, x_lt, x_le, x_gt, x_ge, x_add, x_sub, tsC, tsN, len_tup, len_lst, x_tupL, x_tupT, x_lstL, x_lstT, x_intB, x_abs, Option.bind_some, Option.bind_none, List.map_cons, List.map_nil, List.length_cons, List.length_nil, List.replicate, List.cons_append, List.nil_append, List.getElem?_cons_zero, List.getElem?_cons_succ, List.set_cons_zero, List.set_cons_succ, Nat.reduceAdd, Nat.reduceSub, Nat.reduceLT, ite_true, ite_false, reduceIte, reduceCtorEq, Nat.reduceLeDiff, Bool.false_eq_true, x_parM, x_asL], _, _, rfl⟩)
  have e2 := f_wrong_turn (st := st) h2 h.w3 h.wh
  have e3 := f_are_ends (st := st) h.en
  have e4 := f_are_heads (st := st) h2 h.en
  have i1 : isNotD .non .non = some (.bl false) := rfl
  simp only [d_wrong_place, m_wrong_place, e1, Bool.not_true, hlen, e, e2, i1, e3, e4, runD, entry, x_sq, x_asM, x_rtM, x_tgM, x_ifM, few0, few1, few2, few3, few4, few5, few6, few7, few8, few9, x_andM, x_orM, x_notM, x_andT, x_orT, bd, Sd.ret, lf, fl, rd, Sd.st, stL, appM, mutS, putS, setM, slotM, hasS, seqM, itM, popZ, mvS, lstS, callM, sfM, x_isB, x_isI, x_lt, x_le, x_gt, x_ge, x_add, x_sub, tsC, tsN, len_tup, len_lst, x_tupL, x_tupT, x_lstL, x_lstT, x_intB, x_abs, Option.bind_some, Option.bind_none, List.map_cons, List.map_nil, List.length_cons, List.length_nil, List.replicate, List.cons_append, List.nil_append, List.getElem?_cons_zero, List.getElem?_cons_succ, List.set_cons_zero, List.set_cons_succ, Nat.reduceAdd, Nat.reduceSub, Nat.reduceLT, ite_true, ite_false, reduceIte, reduceCtorEq, Nat.reduceLeDiff, Bool.false_eq_true, x_parM, x_asL]
abbrev task (rows : List Row) (wh : List (List Int)) (gD tD : D) : D := .ins 0 ["table", "maps", "targets", "heads"] [.tup (rows.map pRow), .tup (pW wh), gD, tD]
theorem f_init {rows : List Row} {wh : List (List Int)} {gD tD : D} (h : TabV rows wh gD tD) : d_Told___init__ [.ref st.length, .tup (rows.map pRow), .tup (pW wh), gD, tD] (st ++ [.ins 0 [] []]) = some (.non, st ++ [.ins 0 ["table", "maps", "targets", "heads"] [.tup (rows.map pRow), .tup (pW wh), gD, tD]]) := by
  have e1 := f_wrong_place (st := st ++ [.ins 0 [] []]) h
  have i1 : isNotD .non .non = some (.bl false) := rfl
  have k1 : putK "table" (.tup (rows.map pRow)) [] [] = (([("table" : PySem.Str)], [D.tup (rows.map pRow)]) : List PySem.Str × List D) := rfl
  have k2 : putK "maps" (.tup (pW wh)) ["table"] [.tup (rows.map pRow)] = (([("table" : PySem.Str), "maps"], [D.tup (rows.map pRow), .tup (pW wh)]) : List PySem.Str × List D) := rfl
  have k3 : putK "targets" gD ["table", "maps"] [.tup (rows.map pRow), .tup (pW wh)] = (([("table" : PySem.Str), "maps", "targets"], [D.tup (rows.map pRow), .tup (pW wh), gD]) : List PySem.Str × List D) := rfl
  have k4 : putK "heads" tD ["table", "maps", "targets"] [.tup (rows.map pRow), .tup (pW wh), gD] = (([("table" : PySem.Str), "maps", "targets", "heads"], [D.tup (rows.map pRow), .tup (pW wh), gD, tD]) : List PySem.Str × List D) := rfl
  simp only [d_Told___init__, m_Told___init__, e1, i1, at_end, set_end, k1, k2, k3, k4, true_and, Nat.reduceLT, runD, entry, x_sq, x_asM, x_rtM, x_tgM, x_ifM, few0, few1, few2, few3, few4, few5, few6, few7, few8, few9, x_andM, x_orM, x_notM, x_andT, x_orT, bd, Sd.ret, lf, fl, rd, Sd.st, stL, appM, mutS, putS, setM, slotM, hasS, seqM, itM, popZ, mvS, lstS, callM, sfM, x_isB, x_isI, x_lt, x_le, x_gt, x_ge, x_add, x_sub, tsC, tsN, len_tup, len_lst, x_tupL, x_tupT, x_lstL, x_lstT, x_intB, x_abs, Option.bind_some, Option.bind_none, List.map_cons, List.map_nil, List.length_cons, List.length_nil, List.replicate, List.cons_append, List.nil_append, List.getElem?_cons_zero, List.getElem?_cons_succ, List.set_cons_zero, List.set_cons_succ, Nat.reduceAdd, Nat.reduceSub, Nat.reduceLT, ite_true, ite_false, reduceIte, reduceCtorEq, Nat.reduceLeDiff, Bool.false_eq_true, x_parM, x_asL]
theorem f_make {rows : List Row} {wh : List (List Int)} {gD tD : D} (h : TabV rows wh gD tD) {r : List SV} : mkM 0 d_Told___init__ [.tup (rows.map pRow), .tup (pW wh), gD, tD] ⟨r, st⟩ = some (task rows wh gD tD, ⟨r, st ++ [.dead]⟩) := by
  simp only [mkM, f_init h, at_end, set_end, runD, entry, x_sq, x_asM, x_rtM, x_tgM, x_ifM, few0, few1, few2, few3, few4, few5, few6, few7, few8, few9, x_andM, x_orM, x_notM, x_andT, x_orT, bd, Sd.ret, lf, fl, rd, Sd.st, stL, appM, mutS, putS, setM, slotM, hasS, seqM, itM, popZ, mvS, lstS, callM, sfM, x_isB, x_isI, x_lt, x_le, x_gt, x_ge, x_add, x_sub, tsC, tsN, len_tup, len_lst, x_tupL, x_tupT, x_lstL, x_lstT, x_intB, x_abs, Option.bind_some, Option.bind_none, List.map_cons, List.map_nil, List.length_cons, List.length_nil, List.replicate, List.cons_append, List.nil_append, List.getElem?_cons_zero, List.getElem?_cons_succ, List.set_cons_zero, List.set_cons_succ, Nat.reduceAdd, Nat.reduceSub, Nat.reduceLT, ite_true, ite_false, reduceIte, reduceCtorEq, Nat.reduceLeDiff, Bool.false_eq_true, x_parM, x_asL]
theorem at40 (a b c d : D) : L2.atI [a, b, c, d] 0 = some a := rfl
theorem at41 (a b c d : D) : L2.atI [a, b, c, d] 1 = some b := rfl
theorem at42 (a b c d : D) : L2.atI [a, b, c, d] 2 = some c := rfl
theorem at43 (a b c d : D) : L2.atI [a, b, c, d] 3 = some d := rfl
theorem f_told {rows : List Row} {wh : List (List Int)} {gD tD : D} (h : TabV rows wh gD tD) : d__law_told [.tup [.tup (rows.map pRow), .tup (pW wh), gD, tD]] st = some (task rows wh gD tD, st ++ [.dead]) := by
  have e := f_make (st := st) (r := [.dat (.tup [.tup (rows.map pRow), .tup (pW wh), gD, tD])]) h
  simp only [d__law_told, m__law_told, at40, at41, at42, at43, and_self, e, List.append_nil, List.nil_append, runD, entry, x_sq, x_asM, x_rtM, x_tgM, x_ifM, few0, few1, few2, few3, few4, few5, few6, few7, few8, few9, x_andM, x_orM, x_notM, x_andT, x_orT, bd, Sd.ret, lf, fl, rd, Sd.st, stL, appM, mutS, putS, setM, slotM, hasS, seqM, itM, popZ, mvS, lstS, callM, sfM, x_isB, x_isI, x_lt, x_le, x_gt, x_ge, x_add, x_sub, tsC, tsN, len_tup, len_lst, x_tupL, x_tupT, x_lstL, x_lstT, x_intB, x_abs, Option.bind_some, Option.bind_none, List.map_cons, List.map_nil, List.length_cons, List.length_nil, List.replicate, List.cons_append, List.nil_append, List.getElem?_cons_zero, List.getElem?_cons_succ, List.set_cons_zero, List.set_cons_succ, Nat.reduceAdd, Nat.reduceSub, Nat.reduceLT, ite_true, ite_false, reduceIte, reduceCtorEq, Nat.reduceLeDiff, Bool.false_eq_true, x_parM, x_asL]
theorem goals_up (rows : List Row) : (goalsOf rows).Pairwise (· < ·) := by
  unfold goalsOf
  rw [List.pairwise_map]
  refine List.Pairwise.filter _ ?_
  have key : ∀ (l : List Row) (k : Nat), (l.zipIdx k).Pairwise fun a b => (a.2 : Int) < b.2 := fun l => by
    induction l with
    | nil => intro k; exact .nil
    | cons x l ih =>
      intro k
      rw [List.zipIdx_cons, List.pairwise_cons]
      refine ⟨fun y hy => ?_, ih (k + 1)⟩
      have := List.le_snd_of_mem_zipIdx hy
      show (k : Int) < y.2
      omega
  exact key rows 0
theorem goals_in (rows : List Row) : ∀ i ∈ goalsOf rows, 0 ≤ i ∧ i < rows.length := fun i hi => by
  unfold goalsOf at hi
  obtain ⟨q, hq, rfl⟩ := List.mem_map.mp hi
  have z := (List.mem_filter.mp hq).1
  have := List.snd_lt_of_mem_zipIdx z
  simp at this
  omega
theorem goals_len (rows : List Row) : (goalsOf rows).length ≤ rows.length := by
  unfold goalsOf
  rw [List.length_map]
  have := List.length_filter_le (fun q : Row × Nat => q.1.dn) rows.zipIdx
  simpa using this
theorem tail_okV {rows : List Row} (h4 : ∀ r ∈ rows, r.nx.length ≤ 4) (hp : ∀ r ∈ rows, ∀ q ∈ r.nx, 0 ≤ q.1 ∧ q.1 ≤ 1000) (t : Int) : (tailOf rows t).length ≤ 4 * rows.length ∧ PrV rows.length (tailOf rows t) := by
  refine ⟨?_, fun p hpp => ?_⟩
  · have := flat_len (f := tailAt t) (c := 4) (l := rows.zipIdx) fun q hq => by
      have hm : q.1 ∈ rows := (List.mem_zipIdx' hq).2 ▸ List.getElem_mem _
      exact Nat.le_trans (tailAt_len t q) (h4 q.1 hm)
    simpa [tailOf] using this
  · unfold tailOf at hpp
    obtain ⟨q, hq, hpp⟩ := List.mem_flatMap.mp hpp
    have hm : q.1 ∈ rows := (List.mem_zipIdx' hq).2 ▸ List.getElem_mem _
    have hi := List.snd_lt_of_mem_zipIdx hq
    unfold tailAt at hpp
    obtain ⟨z, hz, rfl⟩ := List.mem_map.mp hpp
    have := hp q.1 hm z (List.mem_filter.mp hz).1
    simp at hi
    exact ⟨this, by show (0 : Int) ≤ q.2; omega, by show (q.2 : Int) < rows.length; omega⟩
theorem endv_of {rows : List Row} (hl : rows.length ≤ 24) (h4 : ∀ r ∈ rows, r.nx.length ≤ 4) (hp : ∀ r ∈ rows, ∀ q ∈ r.nx, 0 ≤ q.1 ∧ q.1 ≤ 1000) : EndV rows.length (.tup (pI (goalsOf rows))) (.tup ((List.range rows.length).map fun (i : Nat) => .tup (pJ (tailOf rows i)))) := by
  have e : (List.range rows.length).map (fun (i : Nat) => D.tup (pJ (tailOf rows i))) = ((List.range rows.length).map fun (i : Nat) => tailOf rows i).map fun t => D.tup (pJ t) := by rw [List.map_map]; rfl
  rw [e]
  refine .some (goals_up rows) (Nat.le_trans (goals_len rows) (by omega)) (goals_in rows) (by simp) (fun t ht => ?_) fun t ht => ?_
  · obtain ⟨i, _, rfl⟩ := List.mem_map.mp ht
    exact Nat.le_trans (tail_okV h4 hp i).1 (by omega)
  · obtain ⟨i, _, rfl⟩ := List.mem_map.mp ht
    exact (tail_okV h4 hp i).2
end
end K04

namespace K04
open Sd
/-! parts of drawn tasks: bounds, cuts, variants -/
theorem fm_pO : ∀ rs : List (Option Int), (rs.filter (·.isSome)).map pO = pI (rs.filterMap id)
  | [] => rfl
  | none :: r => by simpa using fm_pO r
  | some i :: r => by
    have := fm_pO r
    simp [pI, pO] at this ⊢
    exact this
section
variable {k : Nat} {rest st : List SO}
abbrev sB (rs : List (Option Int)) (num p w gt : Int) (found : List Int) (v5 : SV) (st : List SO) : S := ⟨[.dat (.ref 1), .dat (.lst (rs.map pO)), .dat (.int num), .dat (.int p), .dat (.int w), v5, .dat (.int gt), .chg (pI found)], st⟩
theorem f_bounds {rs : List (Option Int)} (hl : rs.length ≤ 40) (hr : ReOk rs) (h : Dk k rest st) (hk : k ≤ 900000) : ∃ (bs : List Int) (st' : List SO), d__law_bounds [.ref 1, .lst (rs.map pO)] st = some (.lst (pI bs), st') ∧ bs.length = rs.length ∧ (∀ b ∈ bs, 0 ≤ b ∧ b ≤ 1000) ∧ Dk (k + 1) rest st' := by
  obtain ⟨num, st1, e1, hn, h1⟩ := f_next h (by omega)
  have m6 : modD (.int num) (.int 6) = some (.int (num % 6)) := x_mod (by decide)
  have hpw : ∃ p w : Int, L2.atI [D.tup [.int 1, .int 1], .tup [.int 1, .int 2], .tup [.int 2, .int 3], .tup [.int 0, .int 1], .tup [.int 1, .int 1], .tup [.int 1, .int 3]] (num % 6) = some (.tup [.int p, .int w]) ∧ (0 ≤ p ∧ p ≤ 2) ∧ 1 ≤ w ∧ w ≤ 3 := by
    have q : num % 6 = 0 ∨ num % 6 = 1 ∨ num % 6 = 2 ∨ num % 6 = 3 ∨ num % 6 = 4 ∨ num % 6 = 5 := by omega
    rcases q with q | q | q | q | q | q <;> rw [q]
    · exact ⟨1, 1, rfl, by omega, by omega, by omega⟩
    · exact ⟨1, 2, rfl, by omega, by omega, by omega⟩
    · exact ⟨2, 3, rfl, by omega, by omega, by omega⟩
    · exact ⟨0, 1, rfl, by omega, by omega, by omega⟩
    · exact ⟨1, 1, rfl, by omega, by omega, by omega⟩
    · exact ⟨1, 3, rfl, by omega, by omega, by omega⟩
  obtain ⟨p, w, epw, hp, hw1, hw2⟩ := hpw
  have hcnt : rs.countP (·.isSome) ≤ 40 := Nat.le_trans List.countP_le_length hl
  have e4 := lcMX (own := [5]) (ts := (Sd.st 5)) (mc := (bd (rd 5) fun x => bd (ret .non) fun y => lf ((isNotD x y).bind isB))) (me := (rd 5)) (mi := (bd (rd 1) itM)) (s := ⟨[.dat (.ref 1), .dat (.lst (rs.map pO)), .dat (.int num), .dat (.int p), .dat (.int w), .un, .un, .un], st1⟩) (s1 := ⟨[.dat (.ref 1), .dat (.lst (rs.map pO)), .dat (.int num), .dat (.int p), .dat (.int w), .un, .un, .un], st1⟩) (l := rs) (g := pO) (f := pO) (p := fun o => o.isSome) (σ := fun o => ⟨[.dat (.ref 1), .dat (.lst (rs.map pO)), .dat (.int num), .dat (.int p), .dat (.int w), .dat (pO o), .un, .un], st1⟩) rfl (by omega) rfl fun o ho => ⟨rfl, rfl, by simp only [isNot_pO, runD, entry, x_sq, x_asM, x_rtM, x_tgM, x_ifM, few0, few1, few2, few3, few4, few5, few6, few7, few8, few9, x_andM, x_orM, x_notM, x_andT, x_orT, bd, Sd.ret, lf, fl, rd, Sd.st, stL, appM, mutS, putS, setM, slotM, hasS, seqM, itM, popZ, mvS, lstS, callM, sfM, x_isB, x_isI, x_lt, x_le, x_gt, x_ge, x_add, x_sub, tsC, tsN, len_tup, len_lst, x_tupL, x_tupT, x_lstL, x_lstT, x_intB, x_abs, Option.bind_some, Option.bind_none, List.map_cons, List.map_nil, List.length_cons, List.length_nil, List.replicate, List.cons_append, List.nil_append, List.getElem?_cons_zero, List.getElem?_cons_succ, List.set_cons_zero, List.set_cons_succ, Nat.reduceAdd, Nat.reduceSub, Nat.reduceLT, ite_true, ite_false, reduceIte, reduceCtorEq, Nat.reduceLeDiff, Bool.false_eq_true, x_parM, x_asL], fun _ => rfl⟩
  rw [fm_pO] at e4
  obtain ⟨gt, eg⟩ := gr_some' (l := 0 :: rs.filterMap id) (by simp)
  have hgs := gr_spec eg
  have hgt : 0 ≤ gt ∧ gt ≤ 360 := by
    refine ⟨hgs.2 0 (by simp), ?_⟩
    rcases List.mem_cons.mp hgs.1 with h0 | h0
    · omega
    · have : some gt ∈ rs := by simpa using h0
      have := hr gt this
      omega
  have em : maxF [.lst (.int 0 :: pI (rs.filterMap id))] = some (.int gt) := by
    have := max_map (l := 0 :: rs.filterMap id) (f := fun x : Int => x) (m := gt) (by simpa using eg)
    exact this
  have ca : addD (.lst [.int 0]) (.lst (pI (rs.filterMap id))) = some (.lst (.int 0 :: pI (rs.filterMap id))) := by
    have hfl : (rs.filterMap id).length ≤ rs.length := List.length_filterMap_le ..
    exact x_catL (a := [.int 0]) (by simp [pI]; omega)
  have d6 : fdivD (.int num) (.int 6) = some (.int (num / 6)) := x_fdiv (by decide) (by decide)
  have m5 : modD (.int (num / 6)) (.int 5) = some (.int (num / 6 % 5)) := x_mod (by decide)
  have key := forMI (ts := (Sd.st 5)) (mi := (bd (rd 1) itM)) (mb := (ifM (bd (rd 5) fun x => bd (ret .non) fun y => lf ((isD x y).bind isB)) (appM 7 (bd (rd 6) fun x => bd (bd (bd (rd 2) fun x => bd (ret (.int 6)) fun y => lf (fdivD x y)) fun x => bd (ret (.int 5)) fun y => lf (modD x y)) fun y => lf (addD x y))) (appM 7 (bd (bd (rd 5) fun x => bd (rd 3) fun y => lf (mulD x y)) fun x => bd (rd 4) fun y => lf (fdivD x y))))) (l := rs) (f := pO) (s := sB rs num p w gt [] .un st1) (s1 := sB rs num p w gt [] .un st1) (fun pre s => ∃ found v5, s = sB rs num p w gt found v5 st1 ∧ found.length = pre.length ∧ ∀ b ∈ found, 0 ≤ b ∧ b ≤ 1000) rfl ⟨[], _, rfl, rfl, fun _ h => absurd h (by simp)⟩ (by
    rintro pre o post s hx ⟨found, v5, rfl, g1, g2⟩
    have hpl : pre.length < rs.length := by rw [hx]; simp
    have hfl : (pI found).length < 100000 := by rw [pI_len]; omega
    refine ⟨sB rs num p w gt found (.dat (pO o)) st1, ?_⟩
    cases o with
    | none =>
      refine ⟨sB rs num p w gt (found ++ [gt + num / 6 % 5]) (.dat .non) st1, rfl, ?_, _, _, rfl, by simp [g1], fun b hb => ?_⟩
      · have i1 : isD .non .non = some (.bl true) := rfl
        simp only [sB, pO, i1, d6, m5, hfl, app_pI, runD, entry, x_sq, x_asM, x_rtM, x_tgM, x_ifM, few0, few1, few2, few3, few4, few5, few6, few7, few8, few9, x_andM, x_orM, x_notM, x_andT, x_orT, bd, Sd.ret, lf, fl, rd, Sd.st, stL, appM, mutS, putS, setM, slotM, hasS, seqM, itM, popZ, mvS, lstS, callM, sfM, x_isB, x_isI, x_lt, x_le, x_gt, x_ge, x_add, x_sub, tsC, tsN, len_tup, len_lst, x_tupL, x_tupT, x_lstL, x_lstT, x_intB, x_abs, Option.bind_some, Option.bind_none, List.map_cons, List.map_nil, List.length_cons, List.length_nil, List.replicate, List.cons_append, List.nil_append, List.getElem?_cons_zero, List.getElem?_cons_succ, List.set_cons_zero, List.set_cons_succ, Nat.reduceAdd, Nat.reduceSub, Nat.reduceLT, ite_true, ite_false, reduceIte, reduceCtorEq, Nat.reduceLeDiff, Bool.false_eq_true, x_parM, x_asL]
      · rcases List.mem_append.mp hb with hb | hb
        · exact g2 b hb
        · have : b = gt + num / 6 % 5 := by simpa using hb
          omega
    | some v =>
      have hv := hr v (by rw [hx]; simp)
      have i1 : isD (.int v) .non = some (.bl false) := rfl
      have m1 := x_mulS (i := v) (j := p) (by omega) (by omega)
      have d1 : fdivD (.int (v * p)) (.int w) = some (.int (v * p / w)) := x_fdiv (by omega) (by omega)
      refine ⟨sB rs num p w gt (found ++ [v * p / w]) (.dat (.int v)) st1, rfl, ?_, _, _, rfl, by simp [g1], fun b hb => ?_⟩
      · simp only [sB, pO, i1, m1, d1, hfl, app_pI, runD, entry, x_sq, x_asM, x_rtM, x_tgM, x_ifM, few0, few1, few2, few3, few4, few5, few6, few7, few8, few9, x_andM, x_orM, x_notM, x_andT, x_orT, bd, Sd.ret, lf, fl, rd, Sd.st, stL, appM, mutS, putS, setM, slotM, hasS, seqM, itM, popZ, mvS, lstS, callM, sfM, x_isB, x_isI, x_lt, x_le, x_gt, x_ge, x_add, x_sub, tsC, tsN, len_tup, len_lst, x_tupL, x_tupT, x_lstL, x_lstT, x_intB, x_abs, Option.bind_some, Option.bind_none, List.map_cons, List.map_nil, List.length_cons, List.length_nil, List.replicate, List.cons_append, List.nil_append, List.getElem?_cons_zero, List.getElem?_cons_succ, List.set_cons_zero, List.set_cons_succ, Nat.reduceAdd, Nat.reduceSub, Nat.reduceLT, ite_true, ite_false, reduceIte, reduceCtorEq, Nat.reduceLeDiff, Bool.false_eq_true, x_parM, x_asL]
      · rcases List.mem_append.mp hb with hb | hb
        · exact g2 b hb
        · have hb : b = v * p / w := by simpa using hb
          have hvp0 : 0 ≤ v * p := Int.mul_nonneg hv.1 hp.1
          have hvp1 : v * p ≤ 360 * 2 := Int.mul_le_mul (by omega) hp.2 hp.1 (by omega)
          have q0 : 0 ≤ v * p / w := Int.ediv_nonneg hvp0 (by omega)
          have q1 : v * p / w ≤ v * p := Int.ediv_le_self w hvp0
          omega)
  obtain ⟨s', e5, bs, v5, rfl, g1, g2⟩ := key
  refine ⟨bs, st1, ?_, g1, g2, h1⟩
  have p0 : pI [] = [] := rfl
  simp only [sB, p0] at e5
  simp only [d__law_bounds, m__law_bounds, e1, m6, epw, t2, e4, ca, em, e5, runD, entry, x_sq, x_asM, x_rtM, x_tgM, x_ifM, few0, few1, few2, few3, few4, few5, few6, few7, few8, few9, x_andM, x_orM, x_notM, x_andT, x_orT, bd, Sd.ret, lf, fl, rd, Sd.st, stL, appM, mutS, putS, setM, slotM, hasS, seqM, itM, popZ, mvS, lstS, callM, sfM, x_isB, x_isI, x_lt, x_le, x_gt, x_ge, x_add, x_sub, tsC, tsN, len_tup, len_lst, x_tupL, x_tupT, x_lstL, x_lstT, x_intB, x_abs, Option.bind_some, Option.bind_none, List.map_cons, List.map_nil, List.length_cons, List.length_nil, List.replicate, List.cons_append, List.nil_append, List.getElem?_cons_zero, List.getElem?_cons_succ, List.set_cons_zero, List.set_cons_succ, Nat.reduceAdd, Nat.reduceSub, Nat.reduceLT, ite_true, ite_false, reduceIte, reduceCtorEq, Nat.reduceLeDiff, Bool.false_eq_true, x_parM, x_asL]
/-! cuts -/
def pB (l : List Bool) : List D := l.map D.bl
theorem pB_len (l : List Bool) : (pB l).length = l.length := by simp [pB]
theorem pB_set (l : List Bool) (i : Nat) (b : Bool) : (pB l).set i (.bl b) = pB (l.set i b) := by
  unfold pB
  rw [List.map_set]
abbrev sCu (cs : List Cl1) (rs : List (Option Int)) (num : Int) (cu : List Bool) (v4 v6 v7 v8 v9 v10 v11 : SV) (st : List SO) : S := ⟨[.dat (.ref 1), .dat (.lst (cs.map pC)), .dat (.lst (rs.map pO)), .dat (.int num), v4, .chg (pB cu), v6, v7, v8, v9, v10, v11], st⟩
theorem cuts_in {cs : List Cl1} {rs : List (Option Int)} {num : Int} {cu : List Bool} {v6 v9 v10 v11 : SV} {i : Nat} {dn : Bool} {ps : List (Int × Int)} (hi : i < cu.length) (hp : PrOk cu.length ps) :
    ∃ s', (Sd.forM (tsT 2 (tsC (Sd.st 9) (tsC (Sd.st 10) (tsN)))) (bd (rd 8) itM) (ifM (bd (bd (hasS 5) fun _ => bd (rd 4) fun i => bd (lf (isI i)) fun k => bd (slotM 5) fun l => lf (L2.atI l k)) fun x => lf (isB x)) (setM 5 (ret (.bl true)) (rd 10)) (ret .nx))) (sCu cs rs num cu (.dat (.int i)) v6 (.dat (.bl dn)) (.dat (.lst (pJ ps))) v9 v10 v11 st) = some (.nx, s') ∧ ∃ cu' v9 v10, s' = sCu cs rs num cu' (.dat (.int i)) v6 (.dat (.bl dn)) (.dat (.lst (pJ ps))) v9 v10 v11 st ∧ cu'.length = cu.length := by
  refine forMI (l := ps) (f := fun q => .tup [.int q.1, .int q.2]) (fun pre s => ∃ cu' v9 v10, s = sCu cs rs num cu' (.dat (.int i)) v6 (.dat (.bl dn)) (.dat (.lst (pJ ps))) v9 v10 v11 st ∧ cu'.length = cu.length) (s1 := sCu cs rs num cu (.dat (.int i)) v6 (.dat (.bl dn)) (.dat (.lst (pJ ps))) v9 v10 v11 st) rfl ⟨cu, v9, v10, rfl, rfl⟩ ?_
  rintro pre q post s hx ⟨cu', v9, v10, rfl, g1⟩
  have hq := (hp.2 q (by rw [hx]; simp)).2
  obtain ⟨o, ho⟩ := Int.eq_ofNat_of_zero_le hq.1
  have hol : o < cu'.length := by omega
  have hil : i < cu'.length := by omega
  have ai : L2.atI (pB cu') (i : Int) = some (.bl cu'[i]) := at_map (List.getElem?_eq_getElem hil)
  have ix := ixN_nat (n := (pB cu').length) (k := o) (by rw [pB_len]; exact hol)
  refine ⟨sCu cs rs num cu' (.dat (.int i)) v6 (.dat (.bl dn)) (.dat (.lst (pJ ps))) (.dat (.int q.1)) (.dat (.int o)) v11 st, ?_⟩
  have ets : (tsT 2 (tsC (Sd.st 9) (tsC (Sd.st 10) (tsN)))) (D.tup [.int q.1, .int q.2]) (sCu cs rs num cu' (.dat (.int i)) v6 (.dat (.bl dn)) (.dat (.lst (pJ ps))) v9 v10 v11 st) = some ((), sCu cs rs num cu' (.dat (.int i)) v6 (.dat (.bl dn)) (.dat (.lst (pJ ps))) (.dat (.int q.1)) (.dat (.int o)) v11 st) := by
    simp only [ho, sCu, t2, runD, entry, x_sq, x_asM, x_rtM, x_tgM, x_ifM, few0, few1, few2, few3, few4, few5, few6, few7, few8, few9, x_andM, x_orM, x_notM, x_andT, x_orT, bd, Sd.ret, lf, fl, rd, Sd.st, stL, appM, mutS, putS, setM, slotM, hasS, seqM, itM, popZ, mvS, lstS, callM, sfM, x_isB, x_isI, x_lt, x_le, x_gt, x_ge, x_add, x_sub, tsC, tsN, len_tup, len_lst, x_tupL, x_tupT, x_lstL, x_lstT, x_intB, x_abs, Option.bind_some, Option.bind_none, List.map_cons, List.map_nil, List.length_cons, List.length_nil, List.replicate, List.cons_append, List.nil_append, List.getElem?_cons_zero, List.getElem?_cons_succ, List.set_cons_zero, List.set_cons_succ, Nat.reduceAdd, Nat.reduceSub, Nat.reduceLT, ite_true, ite_false, reduceIte, reduceCtorEq, Nat.reduceLeDiff, Bool.false_eq_true, x_parM, x_asL]
  cases hb : cu'[i] with
  | true =>
    rw [hb] at ai
    refine ⟨sCu cs rs num (cu'.set o true) (.dat (.int i)) v6 (.dat (.bl dn)) (.dat (.lst (pJ ps))) (.dat (.int q.1)) (.dat (.int o)) v11 st, ets, ?_, _, _, _, rfl, by simp [g1]⟩
    simp only [sCu, ai, ix, pB_set, runD, entry, x_sq, x_asM, x_rtM, x_tgM, x_ifM, few0, few1, few2, few3, few4, few5, few6, few7, few8, few9, x_andM, x_orM, x_notM, x_andT, x_orT, bd, Sd.ret, lf, fl, rd, Sd.st, stL, appM, mutS, putS, setM, slotM, hasS, seqM, itM, popZ, mvS, lstS, callM, sfM, x_isB, x_isI, x_lt, x_le, x_gt, x_ge, x_add, x_sub, tsC, tsN, len_tup, len_lst, x_tupL, x_tupT, x_lstL, x_lstT, x_intB, x_abs, Option.bind_some, Option.bind_none, List.map_cons, List.map_nil, List.length_cons, List.length_nil, List.replicate, List.cons_append, List.nil_append, List.getElem?_cons_zero, List.getElem?_cons_succ, List.set_cons_zero, List.set_cons_succ, Nat.reduceAdd, Nat.reduceSub, Nat.reduceLT, ite_true, ite_false, reduceIte, reduceCtorEq, Nat.reduceLeDiff, Bool.false_eq_true, x_parM, x_asL]
  | false =>
    rw [hb] at ai
    refine ⟨sCu cs rs num cu' (.dat (.int i)) v6 (.dat (.bl dn)) (.dat (.lst (pJ ps))) (.dat (.int q.1)) (.dat (.int o)) v11 st, ets, ?_, _, _, _, rfl, g1⟩
    simp only [sCu, ai, runD, entry, x_sq, x_asM, x_rtM, x_tgM, x_ifM, few0, few1, few2, few3, few4, few5, few6, few7, few8, few9, x_andM, x_orM, x_notM, x_andT, x_orT, bd, Sd.ret, lf, fl, rd, Sd.st, stL, appM, mutS, putS, setM, slotM, hasS, seqM, itM, popZ, mvS, lstS, callM, sfM, x_isB, x_isI, x_lt, x_le, x_gt, x_ge, x_add, x_sub, tsC, tsN, len_tup, len_lst, x_tupL, x_tupT, x_lstL, x_lstT, x_intB, x_abs, Option.bind_some, Option.bind_none, List.map_cons, List.map_nil, List.length_cons, List.length_nil, List.replicate, List.cons_append, List.nil_append, List.getElem?_cons_zero, List.getElem?_cons_succ, List.set_cons_zero, List.set_cons_succ, Nat.reduceAdd, Nat.reduceSub, Nat.reduceLT, ite_true, ite_false, reduceIte, reduceCtorEq, Nat.reduceLeDiff, Bool.false_eq_true, x_parM, x_asL]
theorem cuts_mid {cs : List Cl1} {rs : List (Option Int)} {m num : Int} {cu : List Bool} {v4 v6 v7 v8 v9 v10 v11 : SV} (hc : ClsOk m cs) (hl : cu.length = cs.length) :
    ∃ s', (Sd.forM (tsT 2 (tsC (Sd.st 4) (tsC (tsT 2 (tsC (Sd.st 7) (tsC (Sd.st 8) (tsN)))) (tsN)))) (bd (rd 1) fun x => bd (itM x) fun l => ret (numD l)) (Sd.forM (tsT 2 (tsC (Sd.st 9) (tsC (Sd.st 10) (tsN)))) (bd (rd 8) itM) (ifM (bd (bd (hasS 5) fun _ => bd (rd 4) fun i => bd (lf (isI i)) fun k => bd (slotM 5) fun l => lf (L2.atI l k)) fun x => lf (isB x)) (setM 5 (ret (.bl true)) (rd 10)) (ret .nx)))) (sCu cs rs num cu v4 v6 v7 v8 v9 v10 v11 st) = some (.nx, s') ∧ ∃ cu' v4 v7 v8 v9 v10, s' = sCu cs rs num cu' v4 v6 v7 v8 v9 v10 v11 st ∧ cu'.length = cs.length := by
  refine forMI (l := cs.zipIdx) (f := fun q => D.tupU [.int (q.2 : Nat), pC q.1]) (fun pre s => ∃ cu' v4 v7 v8 v9 v10, s = sCu cs rs num cu' v4 v6 v7 v8 v9 v10 v11 st ∧ cu'.length = cs.length) (s1 := sCu cs rs num cu v4 v6 v7 v8 v9 v10 v11 st) ?_ ⟨cu, _, _, _, _, _, rfl, hl⟩ ?_
  · rw [← num_map]
    rfl
  · rintro pre q post s hx ⟨cu', v4, v7, v8, v9, v10, rfl, g1⟩
    have hq := zip_at (l := cs) (q := q) (by rw [hx]; simp)
    obtain ⟨s', e, cu2, w9, w10, rfl, k1⟩ := cuts_in (st := st) (cs := cs) (rs := rs) (num := num) (cu := cu') (v6 := v6) (v9 := v9) (v10 := v10) (v11 := v11) (i := q.2) (dn := q.1.1) (ps := q.1.2) (by omega) (by rw [g1]; exact hc.one q.1 (List.mem_of_getElem? hq.1))
    refine ⟨sCu cs rs num cu' (.dat (.int q.2)) v6 (.dat (.bl q.1.1)) (.dat (.lst (pJ q.1.2))) v9 v10 v11 st, _, ?_, e, cu2, _, _, _, _, _, rfl, by omega⟩
    simp only [sCu, pC, u2, t2, runD, entry, x_sq, x_asM, x_rtM, x_tgM, x_ifM, few0, few1, few2, few3, few4, few5, few6, few7, few8, few9, x_andM, x_orM, x_notM, x_andT, x_orT, bd, Sd.ret, lf, fl, rd, Sd.st, stL, appM, mutS, putS, setM, slotM, hasS, seqM, itM, popZ, mvS, lstS, callM, sfM, x_isB, x_isI, x_lt, x_le, x_gt, x_ge, x_add, x_sub, tsC, tsN, len_tup, len_lst, x_tupL, x_tupT, x_lstL, x_lstT, x_intB, x_abs, Option.bind_some, Option.bind_none, List.map_cons, List.map_nil, List.length_cons, List.length_nil, List.replicate, List.cons_append, List.nil_append, List.getElem?_cons_zero, List.getElem?_cons_succ, List.set_cons_zero, List.set_cons_succ, Nat.reduceAdd, Nat.reduceSub, Nat.reduceLT, ite_true, ite_false, reduceIte, reduceCtorEq, Nat.reduceLeDiff, Bool.false_eq_true, x_parM, x_asL]
theorem f_cuts {cs : List Cl1} {rs : List (Option Int)} {m : Int} (hc : ClsOk m cs) (hm : m ≤ 40) (hrl : rs.length = cs.length) (h : Dk k rest st) (hk : k ≤ 900000) : ∃ (cu : List Bool) (st' : List SO), d__law_cuts [.ref 1, .lst (cs.map pC), .lst (rs.map pO)] st = some (.lst (pB cu), st') ∧ cu.length = cs.length ∧ Dk (k + 1) rest st' := by
  obtain ⟨num, st1, e1, hn, h1⟩ := f_next h (by omega)
  have hl := hc.len
  have m4 : modD (.int num) (.int 4) = some (.int (num % 4)) := x_mod (by decide)
  have e0 := lcMXA (own := [4, 11]) (ts := (tsT 2 (tsC (Sd.st 4) (tsC (Sd.st 11) (tsN))))) (me := (Sd.andM (bd (rd 11) fun x => bd (ret .non) fun y => lf (isD x y)) (Sd.andM (bd (bd (bd (rd 3) fun x => bd (bd (ret (.int 2)) fun x => bd (rd 4) fun y => lf (addD x y)) fun y => lf (fdivD x y)) fun x => bd (ret (.int 3)) fun y => lf (modD x y)) fun x => bd (ret (.int 0)) fun y => lf (gtD x y)) (bd (bd (rd 3) fun x => bd (ret (.int 4)) fun y => lf (modD x y)) fun x => bd (ret (.int 0)) fun y => lf (gtD x y))))) (mi := (bd (rd 2) fun x => bd (itM x) fun l => ret (numD l))) (s := ⟨[.dat (.ref 1), .dat (.lst (cs.map pC)), .dat (.lst (rs.map pO)), .dat (.int num), .un, .un, .un, .un, .un, .un, .un, .un], st1⟩) (s1 := ⟨[.dat (.ref 1), .dat (.lst (cs.map pC)), .dat (.lst (rs.map pO)), .dat (.int num), .un, .un, .un, .un, .un, .un, .un, .un], st1⟩) (l := rs.zipIdx) (g := fun q => D.tupU [.int (q.2 : Nat), pO q.1]) (f := fun q => .bl (q.1.isNone && (decide (num / (2 + (q.2 : Int)) % 3 > 0) && decide (num % 4 > 0)))) (σ := fun q => ⟨[.dat (.ref 1), .dat (.lst (cs.map pC)), .dat (.lst (rs.map pO)), .dat (.int num), .dat (.int (q.2 : Nat)), .un, .un, .un, .un, .un, .un, .dat (pO q.1)], st1⟩) (by rw [← num_map]; rfl) (by simp; omega) rfl fun q hq => ⟨by simp only [u2, wpS, List.foldl_cons, List.foldl_nil, runD, entry, x_sq, x_asM, x_rtM, x_tgM, x_ifM, few0, few1, few2, few3, few4, few5, few6, few7, few8, few9, x_andM, x_orM, x_notM, x_andT, x_orT, bd, Sd.ret, lf, fl, rd, Sd.st, stL, appM, mutS, putS, setM, slotM, hasS, seqM, itM, popZ, mvS, lstS, callM, sfM, x_isB, x_isI, x_lt, x_le, x_gt, x_ge, x_add, x_sub, tsC, tsN, len_tup, len_lst, x_tupL, x_tupT, x_lstL, x_lstT, x_intB, x_abs, Option.bind_some, Option.bind_none, List.map_cons, List.map_nil, List.length_cons, List.length_nil, List.replicate, List.cons_append, List.nil_append, List.getElem?_cons_zero, List.getElem?_cons_succ, List.set_cons_zero, List.set_cons_succ, Nat.reduceAdd, Nat.reduceSub, Nat.reduceLT, ite_true, ite_false, reduceIte, reduceCtorEq, Nat.reduceLeDiff, Bool.false_eq_true, x_parM, x_asL], rfl, by
    have hq2 := List.snd_lt_of_mem_zipIdx hq
    simp at hq2
    have d1 : fdivD (.int num) (.int (2 + (q.2 : Int))) = some (.int (num / (2 + (q.2 : Int)))) := x_fdiv (by omega) (by omega)
    have m3 : modD (.int (num / (2 + (q.2 : Int)))) (.int 3) = some (.int (num / (2 + (q.2 : Int)) % 3)) := x_mod (by decide)
    have i1 := is_pO q.1
    cases hb : q.1.isNone with
    | false =>
      rw [hb] at i1
      simp only [i1, Bool.false_and, runD, entry, x_sq, x_asM, x_rtM, x_tgM, x_ifM, few0, few1, few2, few3, few4, few5, few6, few7, few8, few9, x_andM, x_orM, x_notM, x_andT, x_orT, bd, Sd.ret, lf, fl, rd, Sd.st, stL, appM, mutS, putS, setM, slotM, hasS, seqM, itM, popZ, mvS, lstS, callM, sfM, x_isB, x_isI, x_lt, x_le, x_gt, x_ge, x_add, x_sub, tsC, tsN, len_tup, len_lst, x_tupL, x_tupT, x_lstL, x_lstT, x_intB, x_abs, Option.bind_some, Option.bind_none, List.map_cons, List.map_nil, List.length_cons, List.length_nil, List.replicate, List.cons_append, List.nil_append, List.getElem?_cons_zero, List.getElem?_cons_succ, List.set_cons_zero, List.set_cons_succ, Nat.reduceAdd, Nat.reduceSub, Nat.reduceLT, ite_true, ite_false, reduceIte, reduceCtorEq, Nat.reduceLeDiff, Bool.false_eq_true, x_parM, x_asL]
    | true =>
      rw [hb] at i1
      by_cases hc2 : num / (2 + (q.2 : Int)) % 3 > 0
      · simp only [i1, d1, m3, decide_eq_true hc2, m4, Bool.true_and, runD, entry, x_sq, x_asM, x_rtM, x_tgM, x_ifM, few0, few1, few2, few3, few4, few5, few6, few7, few8, few9, x_andM, x_orM, x_notM, x_andT, x_orT, bd, Sd.ret, lf, fl, rd, Sd.st, stL, appM, mutS, putS, setM, slotM, hasS, seqM, itM, popZ, mvS, lstS, callM, sfM, x_isB, x_isI, x_lt, x_le, x_gt, x_ge, x_add, x_sub, tsC, tsN, len_tup, len_lst, x_tupL, x_tupT, x_lstL, x_lstT, x_intB, x_abs, Option.bind_some, Option.bind_none, List.map_cons, List.map_nil, List.length_cons, List.length_nil, List.replicate, List.cons_append, List.nil_append, List.getElem?_cons_zero, List.getElem?_cons_succ, List.set_cons_zero, List.set_cons_succ, Nat.reduceAdd, Nat.reduceSub, Nat.reduceLT, ite_true, ite_false, reduceIte, reduceCtorEq, Nat.reduceLeDiff, Bool.false_eq_true, x_parM, x_asL]
      · simp only [i1, d1, m3, decide_eq_false hc2, Bool.true_and, Bool.false_and, runD, entry, x_sq, x_asM, x_rtM, x_tgM, x_ifM, few0, few1, few2, few3, few4, few5, few6, few7, few8, few9, x_andM, x_orM, x_notM, x_andT, x_orT, bd, Sd.ret, lf, fl, rd, Sd.st, stL, appM, mutS, putS, setM, slotM, hasS, seqM, itM, popZ, mvS, lstS, callM, sfM, x_isB, x_isI, x_lt, x_le, x_gt, x_ge, x_add, x_sub, tsC, tsN, len_tup, len_lst, x_tupL, x_tupT, x_lstL, x_lstT, x_intB, x_abs, Option.bind_some, Option.bind_none, List.map_cons, List.map_nil, List.length_cons, List.length_nil, List.replicate, List.cons_append, List.nil_append, List.getElem?_cons_zero, List.getElem?_cons_succ, List.set_cons_zero, List.set_cons_succ, Nat.reduceAdd, Nat.reduceSub, Nat.reduceLT, ite_true, ite_false, reduceIte, reduceCtorEq, Nat.reduceLeDiff, Bool.false_eq_true, x_parM, x_asL]⟩
  have em : rs.zipIdx.map (fun q => D.bl (q.1.isNone && (decide (num / (2 + (q.2 : Int)) % 3 > 0) && decide (num % 4 > 0)))) = pB (rs.zipIdx.map fun q => q.1.isNone && (decide (num / (2 + (q.2 : Int)) % 3 > 0) && decide (num % 4 > 0))) := by
    unfold pB
    rw [List.map_map]
    rfl
  rw [em] at e0
  have key := forMI (ts := (Sd.st 6)) (mi := (bd (rd 1) itM)) (mb := (Sd.forM (tsT 2 (tsC (Sd.st 4) (tsC (tsT 2 (tsC (Sd.st 7) (tsC (Sd.st 8) (tsN)))) (tsN)))) (bd (rd 1) fun x => bd (itM x) fun l => ret (numD l)) (Sd.forM (tsT 2 (tsC (Sd.st 9) (tsC (Sd.st 10) (tsN)))) (bd (rd 8) itM) (ifM (bd (bd (hasS 5) fun _ => bd (rd 4) fun i => bd (lf (isI i)) fun k => bd (slotM 5) fun l => lf (L2.atI l k)) fun x => lf (isB x)) (setM 5 (ret (.bl true)) (rd 10)) (ret .nx))))) (l := cs) (f := pC) (s := sCu cs rs num (rs.zipIdx.map fun q => q.1.isNone && (decide (num / (2 + (q.2 : Int)) % 3 > 0) && decide (num % 4 > 0))) .un .un .un .un .un .un .un st1) (s1 := sCu cs rs num (rs.zipIdx.map fun q => q.1.isNone && (decide (num / (2 + (q.2 : Int)) % 3 > 0) && decide (num % 4 > 0))) .un .un .un .un .un .un .un st1) (fun pre s => ∃ cu' v4 v6 v7 v8 v9 v10, s = sCu cs rs num cu' v4 v6 v7 v8 v9 v10 .un st1 ∧ cu'.length = cs.length) rfl ⟨_, _, _, _, _, _, _, rfl, by simp [hrl]⟩ (by
    rintro pre q post s hx ⟨cu', v4, v6, v7, v8, v9, v10, rfl, g1⟩
    obtain ⟨s', e, cu2, w4, w7, w8, w9, w10, rfl, k1⟩ := cuts_mid (st := st1) (rs := rs) (num := num) (v4 := v4) (v6 := .dat (pC q)) (v7 := v7) (v8 := v8) (v9 := v9) (v10 := v10) (v11 := .un) hc g1
    exact ⟨sCu cs rs num cu' v4 (.dat (pC q)) v7 v8 v9 v10 .un st1, _, rfl, e, cu2, _, _, _, _, _, _, rfl, k1⟩)
  obtain ⟨s', e2, cu, v4, v6, v7, v8, v9, v10, rfl, g1⟩ := key
  refine ⟨cu, st1, ?_, g1, h1⟩
  simp only [sCu] at e2
  simp only [d__law_cuts, m__law_cuts, e1, e0, e2, runD, entry, x_sq, x_asM, x_rtM, x_tgM, x_ifM, few0, few1, few2, few3, few4, few5, few6, few7, few8, few9, x_andM, x_orM, x_notM, x_andT, x_orT, bd, Sd.ret, lf, fl, rd, Sd.st, stL, appM, mutS, putS, slotM, hasS, seqM, itM, popZ, mvS, lstS, callM, sfM, x_isB, x_isI, x_lt, x_le, x_gt, x_ge, x_add, x_sub, tsC, tsN, len_tup, len_lst, x_tupL, x_tupT, x_lstL, x_lstT, x_intB, x_abs, Option.bind_some, Option.bind_none, List.map_cons, List.map_nil, List.length_cons, List.length_nil, List.replicate, List.cons_append, List.nil_append, List.getElem?_cons_zero, List.getElem?_cons_succ, List.set_cons_zero, List.set_cons_succ, Nat.reduceAdd, Nat.reduceSub, Nat.reduceLT, ite_true, ite_false, reduceIte, reduceCtorEq, Nat.reduceLeDiff, Bool.false_eq_true, x_parM, x_asL]
end
end K04

namespace K04
open Sd
/-! variants of classes -/
def pS (r : List Int) : D := .lst (pI r)
def pV (o : List (List Int)) : D := .lst (o.map pS)
def tot (o : List (List Int)) : Nat := (o.map List.length).sum
def totA (vs : List (List (List Int))) : Nat := (vs.map tot).sum
theorem tot_app (o : List (List Int)) (r : List Int) : tot (o ++ [r]) = tot o + r.length := by simp [tot]
theorem totA_app (vs : List (List (List Int))) (o : List (List Int)) : totA (vs ++ [o]) = totA vs + tot o := by simp [totA]
theorem pS_app (o : List (List Int)) (r : List Int) : o.map pS ++ [.lst (pI r)] = (o ++ [r]).map pS := by simp [pS]
theorem pV_app (vs : List (List (List Int))) (o : List (List Int)) : vs.map pV ++ [.lst (o.map pS)] = (vs ++ [o]).map pV := by simp [pV]
theorem rg_more {a mo : Int} (h0 : 0 ≤ a) (h1 : a < 900) (hm : mo = 1 ∨ mo = 2) : ∃ r : List Int, rgD (.int a) (.int (a + mo)) = some (pI r) ∧ (r.length : Int) = mo ∧ ∀ x ∈ r, 0 ≤ x ∧ x < a + mo := by
  refine ⟨(List.range mo.toNat).map fun (i : Nat) => a + (i : Int), ?_, by simp; omega, fun x hx => ?_⟩
  · show (if ((-1000 : Int) < a ∧ a < 1000) ∧ ((-1000 : Int) < a + mo ∧ a + mo < 1000) then some (rangeL a (a + mo - a).toNat) else none) = _
    rw [if_pos ⟨⟨by omega, by omega⟩, by omega, by omega⟩]
    have : (a + mo - a).toNat = mo.toNat := by omega
    rw [this]
    simp [rangeL, pI]
  · obtain ⟨i, hi, rfl⟩ := List.mem_map.mp hx
    have := List.mem_range.mp hi
    omega
structure SOk (a : Int) (o : List (List Int)) : Prop where
  one : ∀ r ∈ o, 1 ≤ r.length ∧ r.length ≤ 2 ∧ ∀ x ∈ r, 0 ≤ x ∧ x < a
theorem SOk.up {a b : Int} {o : List (List Int)} (h : SOk a o) (l : a ≤ b) : SOk b o := ⟨fun r hr => by
  obtain ⟨h1, h2, h3⟩ := h.one r hr
  exact ⟨h1, h2, fun x hx => by have := h3 x hx; omega⟩⟩
theorem SOk.app {a b : Int} {o : List (List Int)} (h : SOk a o) (l : a ≤ b) {r : List Int} (hr : 1 ≤ r.length ∧ r.length ≤ 2) (hx : ∀ x ∈ r, 0 ≤ x ∧ x < b) : SOk b (o ++ [r]) := ⟨fun q hq => by
  rcases List.mem_append.mp hq with hq | hq
  · exact (h.up l).one q hq
  · have : q = r := by simpa using hq
    exact this ▸ ⟨hr.1, hr.2, hx⟩⟩
theorem SOk.tot {a : Int} {o : List (List Int)} (h : SOk a o) : o.length ≤ tot o ∧ tot o ≤ 2 * o.length := by
  revert h
  induction o with
  | nil => intro _; simp [K04.tot]
  | cons r o ih =>
    intro h
    have h1 := ih ⟨fun q hq => h.one q (List.mem_cons_of_mem _ hq)⟩
    have h2 := h.one r (by simp)
    simp [K04.tot] at h1 ⊢
    omega
structure VOk (sd : Nat) (a : Int) (vs : List (List (List Int))) : Prop where
  one : ∀ o ∈ vs, o.length = sd ∧ SOk a o
theorem VOk.up {sd : Nat} {a b : Int} {vs : List (List (List Int))} (h : VOk sd a vs) (l : a ≤ b) : VOk sd b vs := ⟨fun o ho => ⟨(h.one o ho).1, (h.one o ho).2.up l⟩⟩
theorem VOk.tot {sd : Nat} {a : Int} {vs : List (List (List Int))} (h : VOk sd a vs) : sd * vs.length ≤ totA vs ∧ totA vs ≤ 2 * sd * vs.length := by
  revert h
  induction vs with
  | nil => intro _; simp [totA]
  | cons o vs ih =>
    intro h
    have h1 := ih ⟨fun q hq => h.one q (List.mem_cons_of_mem _ hq)⟩
    have h2 := h.one o (by simp)
    have h3 := h2.2.tot
    rw [h2.1] at h3
    simp only [totA, List.map_cons, List.sum_cons, List.length_cons, Nat.mul_add, Nat.mul_one] at h1 ⊢
    omega
section
variable {k : Nat} {rest st : List SO}
abbrev sV (n sd : Nat) (vs : List (List (List Int))) (a : Int) (v5 v6 v7 v8 : SV) (st : List SO) : S := ⟨[.dat (.ref 1), .dat (.int n), .dat (.int sd), .chg (vs.map pV), .dat (.int a), v5, v6, v7, v8], st⟩
theorem var_in {n sd : Nat} {vs : List (List (List Int))} {a : Int} {v5 v7 v8 : SV} (hs : sd ≤ 2) (ha : 0 ≤ a ∧ a < 800) (h : Dk k rest st) (hk : k ≤ 900000) :
    ∃ s', (Sd.forM (Sd.st 7) (bd (rd 2) fun x => lf (rng1 x)) (sq (asM 8 (bd (ret (.int 1)) fun x => bd (bd (bd (bd (bd (bd (bd (rd 0) fun x => bd (ret []) fun xs => ret (x :: xs)) fun ds => callM d__law_next ds) fun x => bd (ret (.int 4)) fun y => lf (modD x y)) fun x => bd (ret (.int 0)) fun y => lf (eqD x y)) fun x => bd (ret []) fun xs => ret (x :: xs)) fun ds => lf (intF ds)) fun y => lf (addD x y))) (sq (appM 6 (bd (rd 4) fun x => bd (bd (rd 4) fun x => bd (rd 8) fun y => lf (addD x y)) fun y => bd (lf (rgD x y)) fun l => ret (.lst l))) (asM 4 (bd (rd 4) fun x => bd (rd 8) fun y => lf (addD x y)))))) (sV n sd vs a v5 (.chg []) v7 v8 st) = some (.nx, s') ∧ ∃ own v7 v8 st', s' = sV n sd vs (a + (tot own : Nat)) v5 (.chg (own.map pS)) v7 v8 st' ∧ own.length = sd ∧ SOk (a + (tot own : Nat)) own ∧ Dk (k + 2) rest st' := by
  have hr := rng_map (n := sd) (by omega)
  have key := forMI (ts := (Sd.st 7)) (mi := (bd (rd 2) fun x => lf (rng1 x))) (mb := (sq (asM 8 (bd (ret (.int 1)) fun x => bd (bd (bd (bd (bd (bd (bd (rd 0) fun x => bd (ret []) fun xs => ret (x :: xs)) fun ds => callM d__law_next ds) fun x => bd (ret (.int 4)) fun y => lf (modD x y)) fun x => bd (ret (.int 0)) fun y => lf (eqD x y)) fun x => bd (ret []) fun xs => ret (x :: xs)) fun ds => lf (intF ds)) fun y => lf (addD x y))) (sq (appM 6 (bd (rd 4) fun x => bd (bd (rd 4) fun x => bd (rd 8) fun y => lf (addD x y)) fun y => bd (lf (rgD x y)) fun l => ret (.lst l))) (asM 4 (bd (rd 4) fun x => bd (rd 8) fun y => lf (addD x y)))))) (l := List.range sd) (f := fun (i : Nat) => D.int ((i : Nat) : Int)) (s := sV n sd vs a v5 (.chg []) v7 v8 st) (s1 := sV n sd vs a v5 (.chg []) v7 v8 st) (fun pre s => ∃ own v7 v8 st', s = sV n sd vs (a + (tot own : Nat)) v5 (.chg (own.map pS)) v7 v8 st' ∧ own.length = pre.length ∧ SOk (a + (tot own : Nat)) own ∧ Dk (k + pre.length) rest st') (by
      simp only [sV, hr, runD, entry, x_sq, x_asM, x_rtM, x_tgM, x_ifM, few0, few1, few2, few3, few4, few5, few6, few7, few8, few9, x_andM, x_orM, x_notM, x_andT, x_orT, bd, Sd.ret, lf, fl, rd, Sd.st, stL, appM, mutS, putS, setM, slotM, hasS, seqM, itM, popZ, mvS, lstS, callM, sfM, x_isB, x_isI, x_lt, x_le, x_gt, x_ge, x_add, x_sub, tsC, tsN, len_tup, len_lst, x_tupL, x_tupT, x_lstL, x_lstT, x_intB, x_abs, Option.bind_some, Option.bind_none, List.map_cons, List.map_nil, List.length_cons, List.length_nil, List.replicate, List.cons_append, List.nil_append, List.getElem?_cons_zero, List.getElem?_cons_succ, List.set_cons_zero, List.set_cons_succ, Nat.reduceAdd, Nat.reduceSub, Nat.reduceLT, ite_true, ite_false, reduceIte, reduceCtorEq, Nat.reduceLeDiff, Bool.false_eq_true, x_parM, x_asL]) ⟨[], v7, v8, st, by simp [tot], rfl, ⟨fun _ h => absurd h (by simp)⟩, h⟩ (by
      rintro pre i post s hx ⟨own, v7, v8, st1, rfl, g1, g2, g3⟩
      have hpl : pre.length < sd := by
        have := congrArg List.length hx
        simp at this
        omega
      have ht := g2.tot
      obtain ⟨v, st2, e1, hv, h2⟩ := f_next g3 (by omega)
      have m4 : modD (.int v) (.int 4) = some (.int (v % 4)) := x_mod (by decide)
      obtain ⟨mo, hmo⟩ : ∃ mo : Int, mo = 1 + (if decide (v % 4 = 0) = true then (1 : Int) else 0) := ⟨_, rfl⟩
      have hm : mo = 1 ∨ mo = 2 := by
        rw [hmo]
        split <;> simp
      obtain ⟨r, er, hr1, hr2⟩ := rg_more (a := a + (tot own : Nat)) (mo := mo) (by omega) (by omega) hm
      have hol : (own.map pS).length < 100000 := by simp; omega
      have hta : a + (tot own : Nat) + mo = a + (tot (own ++ [r]) : Nat) := by rw [tot_app]; omega
      refine ⟨sV n sd vs (a + (tot own : Nat)) v5 (.chg (own.map pS)) (.dat (.int i)) v8 st1, sV n sd vs (a + (tot (own ++ [r]) : Nat)) v5 (.chg ((own ++ [r]).map pS)) (.dat (.int i)) (.dat (.int mo)) st2, rfl, ?_, own ++ [r], _, _, st2, rfl, by simp [g1], ?_, h2.up (by simp; omega)⟩
      · rw [← hta]
        simp only [sV, e1, m4, eq_int, ← hmo, er, hol, pS_app, runD, entry, x_sq, x_asM, x_rtM, x_tgM, x_ifM, few0, few1, few2, few3, few4, few5, few6, few7, few8, few9, x_andM, x_orM, x_notM, x_andT, x_orT, bd, Sd.ret, lf, fl, rd, Sd.st, stL, appM, mutS, putS, setM, slotM, hasS, seqM, itM, popZ, mvS, lstS, callM, sfM, x_isB, x_isI, x_lt, x_le, x_gt, x_ge, x_add, x_sub, tsC, tsN, len_tup, len_lst, x_tupL, x_tupT, x_lstL, x_lstT, x_intB, x_abs, Option.bind_some, Option.bind_none, List.map_cons, List.map_nil, List.length_cons, List.length_nil, List.replicate, List.cons_append, List.nil_append, List.getElem?_cons_zero, List.getElem?_cons_succ, List.set_cons_zero, List.set_cons_succ, Nat.reduceAdd, Nat.reduceSub, Nat.reduceLT, ite_true, ite_false, reduceIte, reduceCtorEq, Nat.reduceLeDiff, Bool.false_eq_true, x_parM, x_asL]
      · rw [← hta]
        exact g2.app (by omega) (by omega) hr2)
  obtain ⟨s', e, own, v7, v8, st', rfl, g1, g2, g3⟩ := key
  exact ⟨_, e, own, v7, v8, st', rfl, by simpa using g1, g2, g3.up (by simp; omega)⟩
theorem f_variants {n sd : Nat} (hn : n ≤ 40) (hs : sd ≤ 2) (h : Dk k rest st) (hk : k ≤ 800000) : ∃ vs st', d__law_variants [.ref 1, .int n, .int sd] st = some (.lst (vs.map pV), st') ∧ vs.length = n ∧ VOk sd (totA vs : Nat) vs ∧ Dk (k + 100) rest st' := by
  have hr := rng_map (n := n) (by omega)
  have key := forMI (ts := (Sd.st 5)) (mi := (bd (rd 1) fun x => lf (rng1 x))) (mb := (sq (bd (ret []) fun l => if l.length ≤ 100000 then bd (stL 6 l) fun _ => ret .nx else fl) (sq (Sd.forM (Sd.st 7) (bd (rd 2) fun x => lf (rng1 x)) (sq (asM 8 (bd (ret (.int 1)) fun x => bd (bd (bd (bd (bd (bd (bd (rd 0) fun x => bd (ret []) fun xs => ret (x :: xs)) fun ds => callM d__law_next ds) fun x => bd (ret (.int 4)) fun y => lf (modD x y)) fun x => bd (ret (.int 0)) fun y => lf (eqD x y)) fun x => bd (ret []) fun xs => ret (x :: xs)) fun ds => lf (intF ds)) fun y => lf (addD x y))) (sq (appM 6 (bd (rd 4) fun x => bd (bd (rd 4) fun x => bd (rd 8) fun y => lf (addD x y)) fun y => bd (lf (rgD x y)) fun l => ret (.lst l))) (asM 4 (bd (rd 4) fun x => bd (rd 8) fun y => lf (addD x y)))))) (appM 3 (rd 6))))) (l := List.range n) (f := fun (i : Nat) => D.int ((i : Nat) : Int)) (s := sV n sd [] 0 .un .un .un .un st) (s1 := sV n sd [] 0 .un .un .un .un st) (fun pre s => ∃ vs v5 v6 v7 v8 st', s = sV n sd vs (totA vs : Nat) v5 v6 v7 v8 st' ∧ vs.length = pre.length ∧ VOk sd (totA vs : Nat) vs ∧ Dk (k + 2 * pre.length) rest st') (by
      simp only [sV, hr, runD, entry, x_sq, x_asM, x_rtM, x_tgM, x_ifM, few0, few1, few2, few3, few4, few5, few6, few7, few8, few9, x_andM, x_orM, x_notM, x_andT, x_orT, bd, Sd.ret, lf, fl, rd, Sd.st, stL, appM, mutS, putS, setM, slotM, hasS, seqM, itM, popZ, mvS, lstS, callM, sfM, x_isB, x_isI, x_lt, x_le, x_gt, x_ge, x_add, x_sub, tsC, tsN, len_tup, len_lst, x_tupL, x_tupT, x_lstL, x_lstT, x_intB, x_abs, Option.bind_some, Option.bind_none, List.map_cons, List.map_nil, List.length_cons, List.length_nil, List.replicate, List.cons_append, List.nil_append, List.getElem?_cons_zero, List.getElem?_cons_succ, List.set_cons_zero, List.set_cons_succ, Nat.reduceAdd, Nat.reduceSub, Nat.reduceLT, ite_true, ite_false, reduceIte, reduceCtorEq, Nat.reduceLeDiff, Bool.false_eq_true, x_parM, x_asL]) ⟨[], _, _, _, _, st, rfl, rfl, ⟨fun _ h => absurd h (by simp)⟩, h⟩ (by
      rintro pre i post s hx ⟨vs, v5, v6, v7, v8, st1, rfl, g1, g2, g3⟩
      have hpl : pre.length < n := by
        have := congrArg List.length hx
        simp at this
        omega
      have ht := g2.tot
      have hb : totA vs ≤ 2 * 2 * 40 := Nat.le_trans ht.2 (Nat.mul_le_mul (by omega) (by omega))
      obtain ⟨s', e, own, w7, w8, st2, rfl, k1, k2, k3⟩ := var_in (n := n) (vs := vs) (a := (totA vs : Nat)) (v5 := .dat (.int i)) (v7 := v7) (v8 := v8) hs (by omega) g3 (by omega)
      have hol : (vs.map pV).length < 100000 := by simp; omega
      have hta : ((totA vs : Nat) : Int) + (tot own : Nat) = (totA (vs ++ [own]) : Nat) := by rw [totA_app]; omega
      refine ⟨sV n sd vs (totA vs : Nat) (.dat (.int i)) v6 v7 v8 st1, sV n sd (vs ++ [own]) (totA (vs ++ [own]) : Nat) (.dat (.int i)) (.dat (.lst (own.map pS))) w7 w8 st2, rfl, ?_, _, _, _, _, _, st2, rfl, by simp [g1], ⟨fun o ho => ?_⟩, k3.up (by simp; omega)⟩
      · rw [← hta]
        simp only [sV] at e
        simp only [sV, e, hol, pV_app, runD, entry, x_sq, x_asM, x_rtM, x_tgM, x_ifM, few0, few1, few2, few3, few4, few5, few6, few7, few8, few9, x_andM, x_orM, x_notM, x_andT, x_orT, bd, Sd.ret, lf, fl, rd, Sd.st, stL, appM, mutS, putS, setM, slotM, hasS, seqM, itM, popZ, mvS, lstS, callM, sfM, x_isB, x_isI, x_lt, x_le, x_gt, x_ge, x_add, x_sub, tsC, tsN, len_tup, len_lst, x_tupL, x_tupT, x_lstL, x_lstT, x_intB, x_abs, Option.bind_some, Option.bind_none, List.map_cons, List.map_nil, List.length_cons, List.length_nil, List.replicate, List.cons_append, List.nil_append, List.getElem?_cons_zero, List.getElem?_cons_succ, List.set_cons_zero, List.set_cons_succ, Nat.reduceAdd, Nat.reduceSub, Nat.reduceLT, ite_true, ite_false, reduceIte, reduceCtorEq, Nat.reduceLeDiff, Bool.false_eq_true, x_parM, x_asL]
      · rw [← hta]
        rcases List.mem_append.mp ho with ho | ho
        · exact (g2.up (by omega)).one o ho
        · have : o = own := by simpa using ho
          rw [this]
          exact ⟨k1, k2⟩)
  obtain ⟨s', e, vs, v5, v6, v7, v8, st', rfl, g1, g2, g3⟩ := key
  refine ⟨vs, st', ?_, by simpa using g1, g2, g3.up (by simp; omega)⟩
  simp only [sV, List.map_nil] at e
  simp only [d__law_variants, m__law_variants, e, runD, entry, x_sq, x_asM, x_rtM, x_tgM, x_ifM, few0, few1, few2, few3, few4, few5, few6, few7, few8, few9, x_andM, x_orM, x_notM, x_andT, x_orT, bd, Sd.ret, lf, fl, rd, Sd.st, stL, appM, mutS, putS, setM, slotM, hasS, seqM, itM, popZ, mvS, lstS, callM, sfM, x_isB, x_isI, x_lt, x_le, x_gt, x_ge, x_add, x_sub, tsC, tsN, len_tup, len_lst, x_tupL, x_tupT, x_lstL, x_lstT, x_intB, x_abs, Option.bind_some, Option.bind_none, List.map_cons, List.map_nil, List.length_cons, List.length_nil, List.replicate, List.cons_append, List.nil_append, List.getElem?_cons_zero, List.getElem?_cons_succ, List.set_cons_zero, List.set_cons_succ, Nat.reduceAdd, Nat.reduceSub, Nat.reduceLT, ite_true, ite_false, reduceIte, reduceCtorEq, Nat.reduceLeDiff, Bool.false_eq_true, x_parM, x_asL]
theorem f_some {r : List Int} (hr : 1 ≤ r.length) (h : Dk k rest st) (hk : k ≤ 900000) : ∃ x ∈ r, ∃ st', d__law_some [.ref 1, pS r] st = some (.int x, st') ∧ Dk (k + 1) rest st' := by
  obtain ⟨v, st1, e1, hv, h1⟩ := f_next h (by omega)
  obtain ⟨x, hx, ex⟩ := at_mod (cs := r) (by intro hc; rw [hc] at hr; simp at hr) v
  have hl : lenF [.lst (pI r)] = some (.int r.length) := by rw [len_lst, pI_len]
  have m1 : modD (.int v) (.int r.length) = some (.int (v % r.length)) := x_mod (by omega)
  refine ⟨x, hx, st1, ?_, h1⟩
  simp only [d__law_some, m__law_some, pS, e1, hl, m1, ex, runD, entry, x_sq, x_asM, x_rtM, x_tgM, x_ifM, few0, few1, few2, few3, few4, few5, few6, few7, few8, few9, x_andM, x_orM, x_notM, x_andT, x_orT, bd, Sd.ret, lf, fl, rd, Sd.st, stL, appM, mutS, putS, setM, slotM, hasS, seqM, itM, popZ, mvS, lstS, callM, sfM, x_isB, x_isI, x_lt, x_le, x_gt, x_ge, x_add, x_sub, tsC, tsN, len_tup, len_lst, x_tupL, x_tupT, x_lstL, x_lstT, x_intB, x_abs, Option.bind_some, Option.bind_none, List.map_cons, List.map_nil, List.length_cons, List.length_nil, List.replicate, List.cons_append, List.nil_append, List.getElem?_cons_zero, List.getElem?_cons_succ, List.set_cons_zero, List.set_cons_succ, Nat.reduceAdd, Nat.reduceSub, Nat.reduceLT, ite_true, ite_false, reduceIte, reduceCtorEq, Nat.reduceLeDiff, Bool.false_eq_true, x_parM, x_asL]
end
end K04

namespace K04
open Sd
/-! drawn tasks -/
def pA (q : Int × Int × Int) : D := .tup [.int q.1, .int q.2.1, .int q.2.2]
structure TD where
  m : Int
  cs : List Cl1
  rs : List (Option Int)
  bs : List Int
  cu : List Bool
  sd : Nat
  vs : List (List (List Int))
structure TOk (t : TD) : Prop where
  hc : ClsOk t.m t.cs
  m40 : t.m ≤ 40
  bl : t.bs.length = t.cs.length
  ul : t.cu.length = t.cs.length
  vl : t.vs.length = t.cs.length
  vo : VOk t.sd (totA t.vs : Nat) t.vs
  sd : 1 ≤ t.sd ∧ t.sd ≤ 2
  bb : ∀ b ∈ t.bs, 0 ≤ b ∧ b ≤ 1000
def AOk (n sd : Nat) (l : List (Int × Int × Int)) : Prop := l.length ≤ 4 ∧ ∀ q ∈ l, (0 ≤ q.1 ∧ q.1 ≤ 9) ∧ (0 ≤ q.2.1 ∧ q.2.1 < n) ∧ 0 ≤ q.2.2 ∧ q.2.2 < sd
structure RowQ (n N : Nat) (r : Row) : Prop where
  n4 : r.nx.length ≤ 4
  nx : ∀ q ∈ r.nx, (0 ≤ q.1 ∧ q.1 ≤ 9) ∧ 0 ≤ q.2 ∧ q.2 < N
  nm : 0 ≤ r.nm ∧ r.nm < 2 * n
  bo : 0 ≤ r.bo ∧ r.bo ≤ 1000
theorem seq_pV (o : List (List Int)) (s : S) : seqM (pV o) s = some (o.map pS, s) := rfl
theorem it_pS (r : List Int) (s : S) : itM (pS r) s = some (r.map D.int, s) := rfl
theorem pRow_app (rows : List Row) (a : List (Int × Int)) (b : Bool) (c d : Int) (e : Bool) : rows.map pRow ++ [.tup [.tup (pJ a), .bl b, .int c, .int d, .bl e]] = (rows ++ [(⟨a, b, c, d, e⟩ : Row)]).map pRow := by simp [pRow]
theorem t3 {u : List D → M Unit} {a b c : D} : tsT 3 u (.tup [a, b, c]) = u [a, b, c] := x_tsT rfl
theorem rot_aims {n sd : Nat} {l : List (Int × Int × Int)} (h : AOk n sd l) (j : Nat) : ∃ o, (slD (.lst (l.map pA)) (some (j : Int)) none).bind (fun a => (slD (.lst (l.map pA)) none (some (j : Int))).bind fun b => addD a b) = some (.lst (o.map pA)) ∧ AOk n sd o := by
  refine ⟨l.drop j ++ l.take j, ?_, ?_, fun q hq => h.2 q ?_⟩
  · show addD (.lst (cutD (l.map pA) (some (j : Int)) none)) (.lst (cutD (l.map pA) none (some (j : Int)))) = _
    rw [cut_from, cut_to, x_catL (by simp; have := h.1; omega), List.map_append, List.map_drop, List.map_take]
  · have := h.1
    simp
    omega
  · rcases List.mem_append.mp hq with hq | hq
    · exact List.mem_of_mem_drop hq
    · exact List.mem_of_mem_take hq
section
variable {k : Nat} {rest st : List SO} {t : TD}
abbrev sK (t : TD) (rows : List Row) (mp : List Int) (v10 v11 v12 v13 v14 v15 v16 v17 v18 v19 v24 v25 v26 : SV) (st : List SO) : S := ⟨[.dat (.ref 1), .dat (.int t.m), .dat (.lst (t.cs.map pC)), .dat (.lst (t.rs.map pO)), .dat (.lst (pI t.bs)), .dat (.lst (pB t.cu)), .dat (.int t.sd), .dat (.lst (t.vs.map pV)), .chg (rows.map pRow), .chg (pI mp), v10, v11, v12, v13, v14, v15, v16, v17, v18, v19, .un, .un, .un, .un, v24, v25, v26], st⟩
theorem var_at (h : TOk t) {i j : Int} (hi : 0 ≤ i ∧ i < t.cs.length) (hj : 0 ≤ j ∧ j < t.sd) : ∃ (o : List (List Int)) (r : List Int), L2.atI (t.vs.map pV) i = some (.lst (o.map pS)) ∧ L2.atI (o.map pS) j = some (pS r) ∧ 1 ≤ r.length ∧ ∀ x ∈ r, 0 ≤ x ∧ x < (totA t.vs : Nat) := by
  obtain ⟨a, rfl⟩ := Int.eq_ofNat_of_zero_le hi.1
  obtain ⟨b, rfl⟩ := Int.eq_ofNat_of_zero_le hj.1
  have ha : a < t.vs.length := by have := h.vl; omega
  have ho := h.vo.one t.vs[a] (List.getElem_mem ha)
  have hb : b < t.vs[a].length := by omega
  have hr := ho.2.one (t.vs[a])[b] (List.getElem_mem hb)
  exact ⟨t.vs[a], (t.vs[a])[b], at_map (List.getElem?_eq_getElem ha), at_map (List.getElem?_eq_getElem hb), hr.1, hr.2.2⟩
theorem task_nexts (h : TOk t) {rows : List Row} {mp : List Int} {v10 v11 v12 v13 v14 v15 v16 v17 v19 : SV} {ord : List (Int × Int × Int)} (ho : AOk t.cs.length t.sd ord) (hd : Dk k rest st) (hk : k ≤ 890000) :
    ∃ ns st', (lcM [24, 25, 26] (tsT 3 (tsC (Sd.st 24) (tsC (Sd.st 25) (tsC (Sd.st 26) (tsN))))) (ret true) (bd (bd (rd 24) fun x => bd (bd (bd (bd (rd 0) fun x => bd (bd (bd (bd (hasS 7) fun _ => bd (rd 25) fun i => bd (lf (isI i)) fun k => bd (slotM 7) fun l => lf (L2.atI l k)) fun x => bd (rd 26) fun i => bd (lf (isI i)) fun k => bd (seqM x) fun l => lf (L2.atI l k)) fun x => bd (ret []) fun xs => ret (x :: xs)) fun xs => ret (x :: xs)) fun ds => callM d__law_some ds) fun x => bd (ret []) fun xs => ret (x :: xs)) fun xs => ret (x :: xs)) fun xs => lf (few xs (.tup xs))) (bd (rd 18) itM)) (sK t rows mp v10 v11 v12 v13 v14 v15 v16 v17 (.dat (.lst (ord.map pA))) v19 .un .un .un st) = some (pJ ns, sK t rows mp v10 v11 v12 v13 v14 v15 v16 v17 (.dat (.lst (ord.map pA))) v19 .un .un .un st') ∧ ns.length ≤ 4 ∧ (∀ q ∈ ns, (0 ≤ q.1 ∧ q.1 ≤ 9) ∧ 0 ≤ q.2 ∧ q.2 < (totA t.vs : Nat)) ∧ Dk (k + 4) rest st' := by
  obtain ⟨acc, s', r, e2, ⟨ns, st2, w24, w25, w26, rfl, rfl, g1, g2, g3⟩, e3⟩ := lcMI (own := [24, 25, 26]) (ts := (tsT 3 (tsC (Sd.st 24) (tsC (Sd.st 25) (tsC (Sd.st 26) (tsN)))))) (mc := (ret true)) (me := (bd (bd (rd 24) fun x => bd (bd (bd (bd (rd 0) fun x => bd (bd (bd (bd (hasS 7) fun _ => bd (rd 25) fun i => bd (lf (isI i)) fun k => bd (slotM 7) fun l => lf (L2.atI l k)) fun x => bd (rd 26) fun i => bd (lf (isI i)) fun k => bd (seqM x) fun l => lf (L2.atI l k)) fun x => bd (ret []) fun xs => ret (x :: xs)) fun xs => ret (x :: xs)) fun ds => callM d__law_some ds) fun x => bd (ret []) fun xs => ret (x :: xs)) fun xs => ret (x :: xs)) fun xs => lf (few xs (.tup xs)))) (mi := (bd (rd 18) itM)) (s := sK t rows mp v10 v11 v12 v13 v14 v15 v16 v17 (.dat (.lst (ord.map pA))) v19 .un .un .un st) (s1 := sK t rows mp v10 v11 v12 v13 v14 v15 v16 v17 (.dat (.lst (ord.map pA))) v19 .un .un .un st) (l := ord) (f := pA) (fun pre acc s => ∃ ns st2 v24 v25 v26, acc = pJ ns ∧ s = sK t rows mp v10 v11 v12 v13 v14 v15 v16 v17 (.dat (.lst (ord.map pA))) v19 v24 v25 v26 st2 ∧ ns.length = pre.length ∧ (∀ q ∈ ns, (0 ≤ q.1 ∧ q.1 ≤ 9) ∧ 0 ≤ q.2 ∧ q.2 < (totA t.vs : Nat)) ∧ Dk (k + pre.length) rest st2) rfl (by have := ho.1; omega) ⟨[], st, .un, .un, .un, rfl, rfl, rfl, fun _ h => absurd h (by simp), hd⟩ (by
      rintro pre q post acc s hx ⟨ns, st2, v24, v25, v26, rfl, rfl, g1, g2, g3⟩
      have hpl : pre.length < ord.length := by rw [hx]; simp
      have hq := ho.2 q (by rw [hx]; simp)
      have ho1 := ho.1
      obtain ⟨o, r, e1, e2, hr1, hr2⟩ := var_at h hq.2.1 hq.2.2
      obtain ⟨x, hxr, st3, e3, h3⟩ := f_some hr1 g3 (by omega)
      have hxb := hr2 x hxr
      refine ⟨sK t rows mp v10 v11 v12 v13 v14 v15 v16 v17 (.dat (.lst (ord.map pA))) v19 (.dat (.int q.1)) (.dat (.int q.2.1)) (.dat (.int q.2.2)) st2, true, sK t rows mp v10 v11 v12 v13 v14 v15 v16 v17 (.dat (.lst (ord.map pA))) v19 (.dat (.int q.1)) (.dat (.int q.2.1)) (.dat (.int q.2.2)) st2, ?_, rfl, fun z => Bool.noConfusion z, fun _ => ⟨.tup [.int q.1, .int x], sK t rows mp v10 v11 v12 v13 v14 v15 v16 v17 (.dat (.lst (ord.map pA))) v19 (.dat (.int q.1)) (.dat (.int q.2.1)) (.dat (.int q.2.2)) st3, ?_, ns ++ [(q.1, x)], st3, _, _, _, pJ_app ns _ _, rfl, by simp; omega, fun y hy => ?_, h3.up (by simp; omega)⟩⟩
      · simp only [sK, wpS, List.foldl_cons, List.foldl_nil, pA, t3, runD, entry, x_sq, x_asM, x_rtM, x_tgM, x_ifM, few0, few1, few2, few3, few4, few5, few6, few7, few8, few9, x_andM, x_orM, x_notM, x_andT, x_orT, bd, Sd.ret, lf, fl, rd, Sd.st, stL, appM, mutS, putS, setM, slotM, hasS, seqM, itM, popZ, mvS, lstS, callM, sfM, x_isB, x_isI, x_lt, x_le, x_gt, x_ge, x_add, x_sub, tsC, tsN, len_tup, len_lst, x_tupL, x_tupT, x_lstL, x_lstT, x_intB, x_abs, Option.bind_some, Option.bind_none, List.map_cons, List.map_nil, List.length_cons, List.length_nil, List.replicate, List.cons_append, List.nil_append, List.getElem?_cons_zero, List.getElem?_cons_succ, List.set_cons_zero, List.set_cons_succ, Nat.reduceAdd, Nat.reduceSub, Nat.reduceLT, ite_true, ite_false, reduceIte, reduceCtorEq, Nat.reduceLeDiff, Bool.false_eq_true, x_parM, x_asL]
      · skip
        simp only [sK, e1, e2, e3, runD, entry, x_sq, x_asM, x_rtM, x_tgM, x_ifM, few0, few1, few2, few3, few4, few5, few6, few7, few8, few9, x_andM, x_orM, x_notM, x_andT, x_orT, bd, Sd.ret, lf, fl, rd, Sd.st, stL, appM, mutS, putS, setM, slotM, hasS, seqM, itM, popZ, mvS, lstS, callM, sfM, x_isB, x_isI, x_lt, x_le, x_gt, x_ge, x_add, x_sub, tsC, tsN, len_tup, len_lst, x_tupL, x_tupT, x_lstL, x_lstT, x_intB, x_abs, Option.bind_some, Option.bind_none, List.map_cons, List.map_nil, List.length_cons, List.length_nil, List.replicate, List.cons_append, List.nil_append, List.getElem?_cons_zero, List.getElem?_cons_succ, List.set_cons_zero, List.set_cons_succ, Nat.reduceAdd, Nat.reduceSub, Nat.reduceLT, ite_true, ite_false, reduceIte, reduceCtorEq, Nat.reduceLeDiff, Bool.false_eq_true, x_parM, x_asL]
      · rcases List.mem_append.mp hy with hy | hy
        · exact g2 y hy
        · have : y = (q.1, x) := by simpa using hy
          rw [this]
          exact ⟨hq.1, hxb⟩) (by
      rintro acc s' ⟨ns, st2, v24, v25, v26, rfl, rfl, _⟩
      exact ⟨_, rfl⟩)
  cases e3
  have hol := ho.1
  exact ⟨ns, st2, e2, by omega, g2, g3.up (by omega)⟩
theorem task_row (h : TOk t) {rows : List Row} {mp : List Int} {v12 v14 v16 v17 v18 v19 : SV} {i : Nat} {dn : Bool} {j : Nat} {aims : List (Int × Int × Int)} (hi : i < t.cs.length) (hj : j < t.sd) (ha : AOk t.cs.length t.sd aims) (hrl : rows.length ≤ 1000) (hml : mp.length ≤ 1000) (hd : Dk k rest st) (hk : k ≤ 880000) :
    ∃ s', (sq (asM 17 (bd (bd (bd (rd 0) fun x => bd (ret []) fun xs => ret (x :: xs)) fun ds => callM d__law_next ds) fun x => bd (bd (bd (ret (.int 1)) fun x => bd (bd (bd (bd (rd 15) fun x => bd (ret []) fun xs => ret (x :: xs)) fun ds => lf (lenF ds)) fun x => bd (ret []) fun xs => ret (x :: xs)) fun xs => ret (x :: xs)) fun ds => lf (maxF ds)) fun y => lf (modD x y))) (sq (asM 18 (bd (bd (rd 15) fun x => bd (bd (rd 17) fun i => bd (lf (isI i)) fun k => ret (some k)) fun i => bd (ret none) fun j => lf (slD x i j)) fun x => bd (bd (rd 15) fun x => bd (ret none) fun i => bd (bd (rd 17) fun i => bd (lf (isI i)) fun k => ret (some k)) fun j => lf (slD x i j)) fun y => lf (addD x y))) (sq (asM 19 (bd (bd (bd (lcM [24, 25, 26] (tsT 3 (tsC (Sd.st 24) (tsC (Sd.st 25) (tsC (Sd.st 26) (tsN))))) (ret true) (bd (bd (rd 24) fun x => bd (bd (bd (bd (rd 0) fun x => bd (bd (bd (bd (hasS 7) fun _ => bd (rd 25) fun i => bd (lf (isI i)) fun k => bd (slotM 7) fun l => lf (L2.atI l k)) fun x => bd (rd 26) fun i => bd (lf (isI i)) fun k => bd (seqM x) fun l => lf (L2.atI l k)) fun x => bd (ret []) fun xs => ret (x :: xs)) fun xs => ret (x :: xs)) fun ds => callM d__law_some ds) fun x => bd (ret []) fun xs => ret (x :: xs)) fun xs => ret (x :: xs)) fun xs => lf (few xs (.tup xs))) (bd (rd 18) itM)) fun l => ret (.lst l)) fun x => bd (ret []) fun xs => ret (x :: xs)) fun ds => lf (tupleF ds))) (sq (appM 8 (bd (bd (rd 19) fun x => bd (bd (rd 11) fun x => bd (bd (bd (bd (ret (.int 2)) fun x => bd (rd 10) fun y => lf (mulD x y)) fun x => bd (rd 13) fun y => lf (addD x y)) fun x => bd (bd (bd (hasS 4) fun _ => bd (rd 10) fun i => bd (lf (isI i)) fun k => bd (slotM 4) fun l => lf (L2.atI l k)) fun x => bd (bd (bd (hasS 5) fun _ => bd (rd 10) fun i => bd (lf (isI i)) fun k => bd (slotM 5) fun l => lf (L2.atI l k)) fun x => bd (ret []) fun xs => ret (x :: xs)) fun xs => ret (x :: xs)) fun xs => ret (x :: xs)) fun xs => ret (x :: xs)) fun xs => ret (x :: xs)) fun xs => lf (few xs (.tup xs)))) (appM 9 (bd (bd (rd 0) fun x => bd (bd (bd (bd (hasS 7) fun _ => bd (rd 10) fun i => bd (lf (isI i)) fun k => bd (slotM 7) fun l => lf (L2.atI l k)) fun x => bd (bd (bd (rd 6) fun x => bd (ret (.int 1)) fun y => lf (subD x y)) fun x => bd (rd 13) fun y => lf (subD x y)) fun i => bd (lf (isI i)) fun k => bd (seqM x) fun l => lf (L2.atI l k)) fun x => bd (ret []) fun xs => ret (x :: xs)) fun xs => ret (x :: xs)) fun ds => callM d__law_some ds)))))) (sK t rows mp (.dat (.int i)) (.dat (.bl dn)) v12 (.dat (.int j)) v14 (.dat (.lst (aims.map pA))) v16 v17 v18 v19 .un .un .un st) = some (.nx, s') ∧ ∃ (r : Row) (y : Int) (v17 v18 v19 : SV) (st' : List SO), s' = sK t (rows ++ [r]) (mp ++ [y]) (.dat (.int i)) (.dat (.bl dn)) v12 (.dat (.int j)) v14 (.dat (.lst (aims.map pA))) v16 v17 v18 v19 .un .un .un st' ∧ RowQ t.cs.length (totA t.vs) r ∧ (0 ≤ y ∧ y < (totA t.vs : Nat)) ∧ Dk (k + 6) rest st' := by
  obtain ⟨v, st1, e1, hv, h1⟩ := f_next hd (by omega)
  have hlen : lenF [.lst (aims.map pA)] = some (.int aims.length) := by rw [len_lst, List.length_map]
  obtain ⟨mx, hmx⟩ : ∃ mx : Int, mx = if ((aims.length : Nat) : Int) > 1 then ((aims.length : Nat) : Int) else 1 := ⟨_, rfl⟩
  have hmp : 0 < mx := by rw [hmx]; split <;> omega
  have em : maxF [.int 1, .int aims.length] = some (.int mx) := by rw [x_max2, hmx]
  have m1 : modD (.int v) (.int mx) = some (.int (v % mx)) := x_mod hmp
  obtain ⟨c, hc⟩ := Int.eq_ofNat_of_zero_le (Int.emod_nonneg v (show mx ≠ 0 by omega))
  rw [hc] at m1
  obtain ⟨ord, eo, hoo⟩ := rot_aims ha c
  have eo : addD (.lst (cutD (aims.map pA) (some (c : Int)) none)) (.lst (cutD (aims.map pA) none (some (c : Int)))) = some (.lst (ord.map pA)) := eo
  have s1 : slD (.lst (aims.map pA)) (some (c : Int)) none = some (.lst (cutD (aims.map pA) (some (c : Int)) none)) := rfl
  have s2 : slD (.lst (aims.map pA)) none (some (c : Int)) = some (.lst (cutD (aims.map pA) none (some (c : Int)))) := rfl
  obtain ⟨ns, st2, e2, hn4, hns, h2⟩ := task_nexts (st := st1) h (rows := rows) (mp := mp) (v10 := .dat (.int i)) (v11 := .dat (.bl dn)) (v12 := v12) (v13 := .dat (.int j)) (v14 := v14) (v15 := .dat (.lst (aims.map pA))) (v16 := v16) (v17 := .dat (.int c)) (v19 := v19) hoo h1 (by omega)
  have hm := h.hc.len
  have hm40 := h.m40
  obtain ⟨b, hb, eb⟩ : ∃ b ∈ t.bs, L2.atI (pI t.bs) (i : Int) = some (.int b) := by
    have hib : i < t.bs.length := by have := h.bl; omega
    exact ⟨t.bs[i], List.getElem_mem hib, at_map (List.getElem?_eq_getElem hib)⟩
  obtain ⟨u, eu⟩ : ∃ u, L2.atI (pB t.cu) (i : Int) = some (.bl u) := by
    have hib : i < t.cu.length := by have := h.ul; omega
    exact ⟨t.cu[i], at_map (List.getElem?_eq_getElem hib)⟩
  have mu := x_mulS (i := 2) (j := (i : Int)) (by omega) (by omega)
  have hsd := h.sd
  obtain ⟨o, r, e3, e4, hr1, hr2⟩ := var_at h (i := (i : Int)) (j := (t.sd : Int) - 1 - (j : Int)) (by omega) (by omega)
  obtain ⟨y, hyr, st3, e5, h3⟩ := f_some hr1 h2 (by omega)
  have hrl2 : (rows.map pRow).length < 100000 := by simp; omega
  have hml2 : (pI mp).length < 100000 := by rw [pI_len]; omega
  refine ⟨sK t (rows ++ [⟨ns, dn, 2 * i + j, b, u⟩]) (mp ++ [y]) (.dat (.int i)) (.dat (.bl dn)) v12 (.dat (.int j)) v14 (.dat (.lst (aims.map pA))) v16 (.dat (.int c)) (.dat (.lst (ord.map pA))) (.dat (.tup (pJ ns))) .un .un .un st3, ?_, _, _, _, _, _, st3, rfl, ⟨hn4, hns, by show 0 ≤ 2 * (i : Int) + j ∧ 2 * (i : Int) + j < 2 * (t.cs.length : Int); omega, h.bb b hb⟩, hr2 y hyr, h3.up (by omega)⟩
  simp only [sK] at e2
  simp only [sK, e1, hlen, em, m1, s1, s2, eo, e2, mu, eb, eu, hrl2, pRow_app, e3, e4, e5, hml2, app_pI, runD, entry, x_sq, x_asM, x_rtM, x_tgM, x_ifM, few0, few1, few2, few3, few4, few5, few6, few7, few8, few9, x_andM, x_orM, x_notM, x_andT, x_orT, bd, Sd.ret, lf, fl, rd, Sd.st, stL, appM, mutS, putS, setM, slotM, hasS, seqM, itM, popZ, mvS, lstS, callM, sfM, x_isB, x_isI, x_lt, x_le, x_gt, x_ge, x_add, x_sub, tsC, tsN, len_tup, len_lst, x_tupL, x_tupT, x_lstL, x_lstT, x_intB, x_abs, Option.bind_some, Option.bind_none, List.map_cons, List.map_nil, List.length_cons, List.length_nil, List.replicate, List.cons_append, List.nil_append, List.getElem?_cons_zero, List.getElem?_cons_succ, List.set_cons_zero, List.set_cons_succ, Nat.reduceAdd, Nat.reduceSub, Nat.reduceLT, ite_true, ite_false, reduceIte, reduceCtorEq, Nat.reduceLeDiff, Bool.false_eq_true, x_parM, x_asL]
end
end K04

namespace K04
open Sd
structure Good (t : TD) (c : Nat) (rows : List Row) (mp : List Int) : Prop where
  rl : rows.length = c
  ml : mp.length = c
  ro : ∀ r ∈ rows, RowQ t.cs.length (totA t.vs) r
  mo : ∀ y ∈ mp, 0 ≤ y ∧ y < (totA t.vs : Nat)
section
variable {k : Nat} {rest st : List SO} {t : TD}
theorem Good.app {c : Nat} {rows : List Row} {mp : List Int} (h : Good t c rows mp) {r : Row} {y : Int} (hr : RowQ t.cs.length (totA t.vs) r) (hy : 0 ≤ y ∧ y < (totA t.vs : Nat)) : Good t (c + 1) (rows ++ [r]) (mp ++ [y]) := ⟨by simp [h.rl], by simp [h.ml], fun x hx => by
  rcases List.mem_append.mp hx with hx | hx
  · exact h.ro x hx
  · have : x = r := by simpa using hx
    exact this ▸ hr, fun x hx => by
  rcases List.mem_append.mp hx with hx | hx
  · exact h.mo x hx
  · have : x = y := by simpa using hx
    exact this ▸ hy⟩
theorem task_in (h : TOk t) {c : Nat} {rows : List Row} {mp : List Int} {v12 v14 v16 v17 v18 v19 : SV} {i : Nat} {dn : Bool} {j : Nat} {aims : List (Int × Int × Int)} {o : List (List Int)} {r : List Int} (ei : L2.atI (t.vs.map pV) (i : Int) = some (.lst (o.map pS))) (ej : L2.atI (o.map pS) (j : Int) = some (pS r)) (hr : r.length ≤ 2) (hi : i < t.cs.length) (hj : j < t.sd) (ha : AOk t.cs.length t.sd aims) (hg : Good t c rows mp) (hc : c ≤ 900) (hd : Dk k rest st) (hk : k ≤ 870000) :
    ∃ s', (Sd.forM (Sd.st 16) (bd (bd (bd (hasS 7) fun _ => bd (rd 10) fun i => bd (lf (isI i)) fun k => bd (slotM 7) fun l => lf (L2.atI l k)) fun x => bd (rd 13) fun i => bd (lf (isI i)) fun k => bd (seqM x) fun l => lf (L2.atI l k)) itM) (sq (asM 17 (bd (bd (bd (rd 0) fun x => bd (ret []) fun xs => ret (x :: xs)) fun ds => callM d__law_next ds) fun x => bd (bd (bd (ret (.int 1)) fun x => bd (bd (bd (bd (rd 15) fun x => bd (ret []) fun xs => ret (x :: xs)) fun ds => lf (lenF ds)) fun x => bd (ret []) fun xs => ret (x :: xs)) fun xs => ret (x :: xs)) fun ds => lf (maxF ds)) fun y => lf (modD x y))) (sq (asM 18 (bd (bd (rd 15) fun x => bd (bd (rd 17) fun i => bd (lf (isI i)) fun k => ret (some k)) fun i => bd (ret none) fun j => lf (slD x i j)) fun x => bd (bd (rd 15) fun x => bd (ret none) fun i => bd (bd (rd 17) fun i => bd (lf (isI i)) fun k => ret (some k)) fun j => lf (slD x i j)) fun y => lf (addD x y))) (sq (asM 19 (bd (bd (bd (lcM [24, 25, 26] (tsT 3 (tsC (Sd.st 24) (tsC (Sd.st 25) (tsC (Sd.st 26) (tsN))))) (ret true) (bd (bd (rd 24) fun x => bd (bd (bd (bd (rd 0) fun x => bd (bd (bd (bd (hasS 7) fun _ => bd (rd 25) fun i => bd (lf (isI i)) fun k => bd (slotM 7) fun l => lf (L2.atI l k)) fun x => bd (rd 26) fun i => bd (lf (isI i)) fun k => bd (seqM x) fun l => lf (L2.atI l k)) fun x => bd (ret []) fun xs => ret (x :: xs)) fun xs => ret (x :: xs)) fun ds => callM d__law_some ds) fun x => bd (ret []) fun xs => ret (x :: xs)) fun xs => ret (x :: xs)) fun xs => lf (few xs (.tup xs))) (bd (rd 18) itM)) fun l => ret (.lst l)) fun x => bd (ret []) fun xs => ret (x :: xs)) fun ds => lf (tupleF ds))) (sq (appM 8 (bd (bd (rd 19) fun x => bd (bd (rd 11) fun x => bd (bd (bd (bd (ret (.int 2)) fun x => bd (rd 10) fun y => lf (mulD x y)) fun x => bd (rd 13) fun y => lf (addD x y)) fun x => bd (bd (bd (hasS 4) fun _ => bd (rd 10) fun i => bd (lf (isI i)) fun k => bd (slotM 4) fun l => lf (L2.atI l k)) fun x => bd (bd (bd (hasS 5) fun _ => bd (rd 10) fun i => bd (lf (isI i)) fun k => bd (slotM 5) fun l => lf (L2.atI l k)) fun x => bd (ret []) fun xs => ret (x :: xs)) fun xs => ret (x :: xs)) fun xs => ret (x :: xs)) fun xs => ret (x :: xs)) fun xs => ret (x :: xs)) fun xs => lf (few xs (.tup xs)))) (appM 9 (bd (bd (rd 0) fun x => bd (bd (bd (bd (hasS 7) fun _ => bd (rd 10) fun i => bd (lf (isI i)) fun k => bd (slotM 7) fun l => lf (L2.atI l k)) fun x => bd (bd (bd (rd 6) fun x => bd (ret (.int 1)) fun y => lf (subD x y)) fun x => bd (rd 13) fun y => lf (subD x y)) fun i => bd (lf (isI i)) fun k => bd (seqM x) fun l => lf (L2.atI l k)) fun x => bd (ret []) fun xs => ret (x :: xs)) fun xs => ret (x :: xs)) fun ds => callM d__law_some ds))))))) (sK t rows mp (.dat (.int i)) (.dat (.bl dn)) v12 (.dat (.int j)) v14 (.dat (.lst (aims.map pA))) v16 v17 v18 v19 .un .un .un st) = some (.nx, s') ∧ ∃ (rows' : List Row) (mp' : List Int) (v16 v17 v18 v19 : SV) (st' : List SO), s' = sK t rows' mp' (.dat (.int i)) (.dat (.bl dn)) v12 (.dat (.int j)) v14 (.dat (.lst (aims.map pA))) v16 v17 v18 v19 .un .un .un st' ∧ Good t (c + r.length) rows' mp' ∧ Dk (k + 12) rest st' := by
  have key := forMI (ts := (Sd.st 16)) (mi := (bd (bd (bd (hasS 7) fun _ => bd (rd 10) fun i => bd (lf (isI i)) fun k => bd (slotM 7) fun l => lf (L2.atI l k)) fun x => bd (rd 13) fun i => bd (lf (isI i)) fun k => bd (seqM x) fun l => lf (L2.atI l k)) itM)) (mb := (sq (asM 17 (bd (bd (bd (rd 0) fun x => bd (ret []) fun xs => ret (x :: xs)) fun ds => callM d__law_next ds) fun x => bd (bd (bd (ret (.int 1)) fun x => bd (bd (bd (bd (rd 15) fun x => bd (ret []) fun xs => ret (x :: xs)) fun ds => lf (lenF ds)) fun x => bd (ret []) fun xs => ret (x :: xs)) fun xs => ret (x :: xs)) fun ds => lf (maxF ds)) fun y => lf (modD x y))) (sq (asM 18 (bd (bd (rd 15) fun x => bd (bd (rd 17) fun i => bd (lf (isI i)) fun k => ret (some k)) fun i => bd (ret none) fun j => lf (slD x i j)) fun x => bd (bd (rd 15) fun x => bd (ret none) fun i => bd (bd (rd 17) fun i => bd (lf (isI i)) fun k => ret (some k)) fun j => lf (slD x i j)) fun y => lf (addD x y))) (sq (asM 19 (bd (bd (bd (lcM [24, 25, 26] (tsT 3 (tsC (Sd.st 24) (tsC (Sd.st 25) (tsC (Sd.st 26) (tsN))))) (ret true) (bd (bd (rd 24) fun x => bd (bd (bd (bd (rd 0) fun x => bd (bd (bd (bd (hasS 7) fun _ => bd (rd 25) fun i => bd (lf (isI i)) fun k => bd (slotM 7) fun l => lf (L2.atI l k)) fun x => bd (rd 26) fun i => bd (lf (isI i)) fun k => bd (seqM x) fun l => lf (L2.atI l k)) fun x => bd (ret []) fun xs => ret (x :: xs)) fun xs => ret (x :: xs)) fun ds => callM d__law_some ds) fun x => bd (ret []) fun xs => ret (x :: xs)) fun xs => ret (x :: xs)) fun xs => lf (few xs (.tup xs))) (bd (rd 18) itM)) fun l => ret (.lst l)) fun x => bd (ret []) fun xs => ret (x :: xs)) fun ds => lf (tupleF ds))) (sq (appM 8 (bd (bd (rd 19) fun x => bd (bd (rd 11) fun x => bd (bd (bd (bd (ret (.int 2)) fun x => bd (rd 10) fun y => lf (mulD x y)) fun x => bd (rd 13) fun y => lf (addD x y)) fun x => bd (bd (bd (hasS 4) fun _ => bd (rd 10) fun i => bd (lf (isI i)) fun k => bd (slotM 4) fun l => lf (L2.atI l k)) fun x => bd (bd (bd (hasS 5) fun _ => bd (rd 10) fun i => bd (lf (isI i)) fun k => bd (slotM 5) fun l => lf (L2.atI l k)) fun x => bd (ret []) fun xs => ret (x :: xs)) fun xs => ret (x :: xs)) fun xs => ret (x :: xs)) fun xs => ret (x :: xs)) fun xs => ret (x :: xs)) fun xs => lf (few xs (.tup xs)))) (appM 9 (bd (bd (rd 0) fun x => bd (bd (bd (bd (hasS 7) fun _ => bd (rd 10) fun i => bd (lf (isI i)) fun k => bd (slotM 7) fun l => lf (L2.atI l k)) fun x => bd (bd (bd (rd 6) fun x => bd (ret (.int 1)) fun y => lf (subD x y)) fun x => bd (rd 13) fun y => lf (subD x y)) fun i => bd (lf (isI i)) fun k => bd (seqM x) fun l => lf (L2.atI l k)) fun x => bd (ret []) fun xs => ret (x :: xs)) fun xs => ret (x :: xs)) fun ds => callM d__law_some ds))))))) (l := r) (f := D.int) (s := sK t rows mp (.dat (.int i)) (.dat (.bl dn)) v12 (.dat (.int j)) v14 (.dat (.lst (aims.map pA))) v16 v17 v18 v19 .un .un .un st) (s1 := sK t rows mp (.dat (.int i)) (.dat (.bl dn)) v12 (.dat (.int j)) v14 (.dat (.lst (aims.map pA))) v16 v17 v18 v19 .un .un .un st) (fun pre s => ∃ (rows' : List Row) (mp' : List Int) (v16 v17 v18 v19 : SV) (st' : List SO), s = sK t rows' mp' (.dat (.int i)) (.dat (.bl dn)) v12 (.dat (.int j)) v14 (.dat (.lst (aims.map pA))) v16 v17 v18 v19 .un .un .un st' ∧ Good t (c + pre.length) rows' mp' ∧ Dk (k + 6 * pre.length) rest st') (by
      have ej' : L2.atI (o.map pS) (j : Int) = some (.lst (pI r)) := ej
      simp only [sK, ei, ej', pI, runD, entry, x_sq, x_asM, x_rtM, x_tgM, x_ifM, few0, few1, few2, few3, few4, few5, few6, few7, few8, few9, x_andM, x_orM, x_notM, x_andT, x_orT, bd, Sd.ret, lf, fl, rd, Sd.st, stL, appM, mutS, putS, setM, slotM, hasS, seqM, itM, popZ, mvS, lstS, callM, sfM, x_isB, x_isI, x_lt, x_le, x_gt, x_ge, x_add, x_sub, tsC, tsN, len_tup, len_lst, x_tupL, x_tupT, x_lstL, x_lstT, x_intB, x_abs, Option.bind_some, Option.bind_none, List.map_cons, List.map_nil, List.length_cons, List.length_nil, List.replicate, List.cons_append, List.nil_append, List.getElem?_cons_zero, List.getElem?_cons_succ, List.set_cons_zero, List.set_cons_succ, Nat.reduceAdd, Nat.reduceSub, Nat.reduceLT, ite_true, ite_false, reduceIte, reduceCtorEq, Nat.reduceLeDiff, Bool.false_eq_true, x_parM, x_asL]) ⟨rows, mp, _, _, _, _, st, rfl, hg, hd⟩ (by
      rintro pre x post s hx ⟨rows', mp', v16, v17, v18, v19, st', rfl, g1, g2⟩
      have hpl : pre.length < r.length := by rw [hx]; simp
      have hrl := g1.rl
      have hml := g1.ml
      obtain ⟨s', e, rw', y, w17, w18, w19, st2, rfl, k1, k2, k3⟩ := task_row (st := st') h (rows := rows') (mp := mp') (v12 := v12) (v14 := v14) (v16 := .dat (.int x)) (v17 := v17) (v18 := v18) (v19 := v19) (dn := dn) hi hj ha (by omega) (by omega) g2 (by omega)
      refine ⟨sK t rows' mp' (.dat (.int i)) (.dat (.bl dn)) v12 (.dat (.int j)) v14 (.dat (.lst (aims.map pA))) (.dat (.int x)) v17 v18 v19 .un .un .un st', _, rfl, e, _, _, _, _, _, _, st2, rfl, ?_, k3.up (by simp; omega)⟩
      have := g1.app k1 k2
      rw [List.length_append]
      exact this)
  obtain ⟨s', e, rows', mp', v16, v17, v18, v19, st', rfl, g1, g2⟩ := key
  exact ⟨_, e, _, _, _, _, _, _, _, rfl, g1, g2.up (by omega)⟩
theorem task_aims (h : TOk t) {rows : List Row} {mp : List Int} {v10 v11 v13 v15 v16 v17 v18 v19 : SV} {tn : Int} {ps : List (Int × Int)} (hp : PrOk t.cs.length ps) :
    ∃ aims, (lcM [23, 24, 25] (tsT 2 (tsC (Sd.st 23) (tsC (tsT 2 (tsC (Sd.st 24) (tsC (Sd.st 25) (tsN)))) (tsN)))) (ret true) (bd (bd (rd 24) fun x => bd (bd (rd 25) fun x => bd (bd (bd (bd (rd 14) fun x => bd (bd (ret (.int 3)) fun x => bd (rd 23) fun y => lf (addD x y)) fun y => lf (fdivD x y)) fun x => bd (rd 6) fun y => lf (modD x y)) fun x => bd (ret []) fun xs => ret (x :: xs)) fun xs => ret (x :: xs)) fun xs => ret (x :: xs)) fun xs => lf (few xs (.tup xs))) (bd (rd 12) fun x => bd (itM x) fun l => ret (numD l))) (sK t rows mp v10 v11 (.dat (.lst (pJ ps))) v13 (.dat (.int tn)) v15 v16 v17 v18 v19 .un .un .un st) = some (aims.map pA, sK t rows mp v10 v11 (.dat (.lst (pJ ps))) v13 (.dat (.int tn)) v15 v16 v17 v18 v19 .un .un .un st) ∧ AOk t.cs.length t.sd aims := by
  have hsd := h.sd
  have hp4 := hp.1
  have e := lcMXA (own := [23, 24, 25]) (ts := (tsT 2 (tsC (Sd.st 23) (tsC (tsT 2 (tsC (Sd.st 24) (tsC (Sd.st 25) (tsN)))) (tsN))))) (me := (bd (bd (rd 24) fun x => bd (bd (rd 25) fun x => bd (bd (bd (bd (rd 14) fun x => bd (bd (ret (.int 3)) fun x => bd (rd 23) fun y => lf (addD x y)) fun y => lf (fdivD x y)) fun x => bd (rd 6) fun y => lf (modD x y)) fun x => bd (ret []) fun xs => ret (x :: xs)) fun xs => ret (x :: xs)) fun xs => ret (x :: xs)) fun xs => lf (few xs (.tup xs)))) (mi := (bd (rd 12) fun x => bd (itM x) fun l => ret (numD l))) (s := sK t rows mp v10 v11 (.dat (.lst (pJ ps))) v13 (.dat (.int tn)) v15 v16 v17 v18 v19 .un .un .un st) (s1 := sK t rows mp v10 v11 (.dat (.lst (pJ ps))) v13 (.dat (.int tn)) v15 v16 v17 v18 v19 .un .un .un st) (l := ps.zipIdx) (g := fun q => D.tupU [.int (q.2 : Nat), .tup [.int q.1.1, .int q.1.2]]) (f := fun q => pA (q.1.1, q.1.2, tn / (3 + (q.2 : Int)) % t.sd)) (σ := fun q => ⟨[.dat (.ref 1), .dat (.int t.m), .dat (.lst (t.cs.map pC)), .dat (.lst (t.rs.map pO)), .dat (.lst (pI t.bs)), .dat (.lst (pB t.cu)), .dat (.int t.sd), .dat (.lst (t.vs.map pV)), .chg (rows.map pRow), .chg (pI mp), v10, v11, (.dat (.lst (pJ ps))), v13, (.dat (.int tn)), v15, v16, v17, v18, v19, .un, .un, .un, .dat (.int (q.2 : Nat)), .dat (.int q.1.1), .dat (.int q.1.2), .un], st⟩) (by
      have := num_map ps (fun q : Int × Int => D.tup [.int q.1, .int q.2])
      rw [← this]
      rfl) (by simp; omega) rfl (fun q hq => ⟨by
        simp only [sK, wpS, List.foldl_cons, List.foldl_nil, u2, t2, runD, entry, x_sq, x_asM, x_rtM, x_tgM, x_ifM, few0, few1, few2, few3, few4, few5, few6, few7, few8, few9, x_andM, x_orM, x_notM, x_andT, x_orT, bd, Sd.ret, lf, fl, rd, Sd.st, stL, appM, mutS, putS, setM, slotM, hasS, seqM, itM, popZ, mvS, lstS, callM, sfM, x_isB, x_isI, x_lt, x_le, x_gt, x_ge, x_add, x_sub, tsC, tsN, len_tup, len_lst, x_tupL, x_tupT, x_lstL, x_lstT, x_intB, x_abs, Option.bind_some, Option.bind_none, List.map_cons, List.map_nil, List.length_cons, List.length_nil, List.replicate, List.cons_append, List.nil_append, List.getElem?_cons_zero, List.getElem?_cons_succ, List.set_cons_zero, List.set_cons_succ, Nat.reduceAdd, Nat.reduceSub, Nat.reduceLT, ite_true, ite_false, reduceIte, reduceCtorEq, Nat.reduceLeDiff, Bool.false_eq_true, x_parM, x_asL], rfl, by
        have d1 : fdivD (.int tn) (.int (3 + (q.2 : Int))) = some (.int (tn / (3 + (q.2 : Int)))) := x_fdiv (by omega) (by
          have := List.snd_lt_of_mem_zipIdx hq
          omega)
        have m1 : modD (.int (tn / (3 + (q.2 : Int)))) (.int t.sd) = some (.int (tn / (3 + (q.2 : Int)) % t.sd)) := x_mod (by omega)
        simp only [sK, pA, d1, m1, runD, entry, x_sq, x_asM, x_rtM, x_tgM, x_ifM, few0, few1, few2, few3, few4, few5, few6, few7, few8, few9, x_andM, x_orM, x_notM, x_andT, x_orT, bd, Sd.ret, lf, fl, rd, Sd.st, stL, appM, mutS, putS, setM, slotM, hasS, seqM, itM, popZ, mvS, lstS, callM, sfM, x_isB, x_isI, x_lt, x_le, x_gt, x_ge, x_add, x_sub, tsC, tsN, len_tup, len_lst, x_tupL, x_tupT, x_lstL, x_lstT, x_intB, x_abs, Option.bind_some, Option.bind_none, List.map_cons, List.map_nil, List.length_cons, List.length_nil, List.replicate, List.cons_append, List.nil_append, List.getElem?_cons_zero, List.getElem?_cons_succ, List.set_cons_zero, List.set_cons_succ, Nat.reduceAdd, Nat.reduceSub, Nat.reduceLT, ite_true, ite_false, reduceIte, reduceCtorEq, Nat.reduceLeDiff, Bool.false_eq_true, x_parM, x_asL]⟩)
  refine ⟨ps.zipIdx.map fun q => (q.1.1, q.1.2, tn / (3 + (q.2 : Int)) % t.sd), ?_, by simp; exact hp4, fun q hq => ?_⟩
  · rw [List.map_map]
    exact e
  · obtain ⟨x, hx, rfl⟩ := List.mem_map.mp hq
    have hz := zip_at (l := ps) hx
    have := hp.2 x.1 (List.mem_of_getElem? hz.1)
    exact ⟨this.1, this.2, Int.emod_nonneg _ (by omega), Int.emod_lt_of_pos _ (by omega)⟩
theorem zi_rng (o : List (List Int)) : (List.range o.length).map (fun (i : Nat) => D.int ((i : Nat) : Int)) = o.zipIdx.map fun q => D.int ((q.2 : Nat) : Int) := by
  have : (List.range o.length) = o.zipIdx.map (·.2) := by
    rw [List.zipIdx_map_snd]
    exact List.range_eq_range'
  rw [this, List.map_map]
  rfl
theorem task_mid (h : TOk t) {c : Nat} {rows : List Row} {mp : List Int} {v13 v14 v15 v16 v17 v18 v19 : SV} {i : Nat} {dn : Bool} {ps : List (Int × Int)} {o : List (List Int)} (ei : t.vs[i]? = some o) (hi : i < t.cs.length) (hp : PrOk t.cs.length ps) (hg : Good t c rows mp) (hc : c ≤ 800) (hd : Dk k rest st) (hk : k ≤ 860000) :
    ∃ s', (Sd.forM (Sd.st 13) (bd (rd 6) fun x => lf (rng1 x)) (sq (asM 14 (bd (bd (rd 0) fun x => bd (ret []) fun xs => ret (x :: xs)) fun ds => callM d__law_next ds)) (sq (asM 15 (bd (lcM [23, 24, 25] (tsT 2 (tsC (Sd.st 23) (tsC (tsT 2 (tsC (Sd.st 24) (tsC (Sd.st 25) (tsN)))) (tsN)))) (ret true) (bd (bd (rd 24) fun x => bd (bd (rd 25) fun x => bd (bd (bd (bd (rd 14) fun x => bd (bd (ret (.int 3)) fun x => bd (rd 23) fun y => lf (addD x y)) fun y => lf (fdivD x y)) fun x => bd (rd 6) fun y => lf (modD x y)) fun x => bd (ret []) fun xs => ret (x :: xs)) fun xs => ret (x :: xs)) fun xs => ret (x :: xs)) fun xs => lf (few xs (.tup xs))) (bd (rd 12) fun x => bd (itM x) fun l => ret (numD l))) fun l => ret (.lst l))) (Sd.forM (Sd.st 16) (bd (bd (bd (hasS 7) fun _ => bd (rd 10) fun i => bd (lf (isI i)) fun k => bd (slotM 7) fun l => lf (L2.atI l k)) fun x => bd (rd 13) fun i => bd (lf (isI i)) fun k => bd (seqM x) fun l => lf (L2.atI l k)) itM) (sq (asM 17 (bd (bd (bd (rd 0) fun x => bd (ret []) fun xs => ret (x :: xs)) fun ds => callM d__law_next ds) fun x => bd (bd (bd (ret (.int 1)) fun x => bd (bd (bd (bd (rd 15) fun x => bd (ret []) fun xs => ret (x :: xs)) fun ds => lf (lenF ds)) fun x => bd (ret []) fun xs => ret (x :: xs)) fun xs => ret (x :: xs)) fun ds => lf (maxF ds)) fun y => lf (modD x y))) (sq (asM 18 (bd (bd (rd 15) fun x => bd (bd (rd 17) fun i => bd (lf (isI i)) fun k => ret (some k)) fun i => bd (ret none) fun j => lf (slD x i j)) fun x => bd (bd (rd 15) fun x => bd (ret none) fun i => bd (bd (rd 17) fun i => bd (lf (isI i)) fun k => ret (some k)) fun j => lf (slD x i j)) fun y => lf (addD x y))) (sq (asM 19 (bd (bd (bd (lcM [24, 25, 26] (tsT 3 (tsC (Sd.st 24) (tsC (Sd.st 25) (tsC (Sd.st 26) (tsN))))) (ret true) (bd (bd (rd 24) fun x => bd (bd (bd (bd (rd 0) fun x => bd (bd (bd (bd (hasS 7) fun _ => bd (rd 25) fun i => bd (lf (isI i)) fun k => bd (slotM 7) fun l => lf (L2.atI l k)) fun x => bd (rd 26) fun i => bd (lf (isI i)) fun k => bd (seqM x) fun l => lf (L2.atI l k)) fun x => bd (ret []) fun xs => ret (x :: xs)) fun xs => ret (x :: xs)) fun ds => callM d__law_some ds) fun x => bd (ret []) fun xs => ret (x :: xs)) fun xs => ret (x :: xs)) fun xs => lf (few xs (.tup xs))) (bd (rd 18) itM)) fun l => ret (.lst l)) fun x => bd (ret []) fun xs => ret (x :: xs)) fun ds => lf (tupleF ds))) (sq (appM 8 (bd (bd (rd 19) fun x => bd (bd (rd 11) fun x => bd (bd (bd (bd (ret (.int 2)) fun x => bd (rd 10) fun y => lf (mulD x y)) fun x => bd (rd 13) fun y => lf (addD x y)) fun x => bd (bd (bd (hasS 4) fun _ => bd (rd 10) fun i => bd (lf (isI i)) fun k => bd (slotM 4) fun l => lf (L2.atI l k)) fun x => bd (bd (bd (hasS 5) fun _ => bd (rd 10) fun i => bd (lf (isI i)) fun k => bd (slotM 5) fun l => lf (L2.atI l k)) fun x => bd (ret []) fun xs => ret (x :: xs)) fun xs => ret (x :: xs)) fun xs => ret (x :: xs)) fun xs => ret (x :: xs)) fun xs => ret (x :: xs)) fun xs => lf (few xs (.tup xs)))) (appM 9 (bd (bd (rd 0) fun x => bd (bd (bd (bd (hasS 7) fun _ => bd (rd 10) fun i => bd (lf (isI i)) fun k => bd (slotM 7) fun l => lf (L2.atI l k)) fun x => bd (bd (bd (rd 6) fun x => bd (ret (.int 1)) fun y => lf (subD x y)) fun x => bd (rd 13) fun y => lf (subD x y)) fun i => bd (lf (isI i)) fun k => bd (seqM x) fun l => lf (L2.atI l k)) fun x => bd (ret []) fun xs => ret (x :: xs)) fun xs => ret (x :: xs)) fun ds => callM d__law_some ds)))))))))) (sK t rows mp (.dat (.int i)) (.dat (.bl dn)) (.dat (.lst (pJ ps))) v13 v14 v15 v16 v17 v18 v19 .un .un .un st) = some (.nx, s') ∧ ∃ (rows' : List Row) (mp' : List Int) (v13 v14 v15 v16 v17 v18 v19 : SV) (st' : List SO), s' = sK t rows' mp' (.dat (.int i)) (.dat (.bl dn)) (.dat (.lst (pJ ps))) v13 v14 v15 v16 v17 v18 v19 .un .un .un st' ∧ Good t (c + tot o) rows' mp' ∧ Dk (k + 26) rest st' := by
  have hom := h.vo.one o (List.mem_of_getElem? ei)
  have hsd := h.sd
  have hr := rng_map (n := t.sd) (by omega)
  rw [← hom.1, zi_rng, hom.1] at hr
  have key := forMI (ts := (Sd.st 13)) (mi := (bd (rd 6) fun x => lf (rng1 x))) (mb := (sq (asM 14 (bd (bd (rd 0) fun x => bd (ret []) fun xs => ret (x :: xs)) fun ds => callM d__law_next ds)) (sq (asM 15 (bd (lcM [23, 24, 25] (tsT 2 (tsC (Sd.st 23) (tsC (tsT 2 (tsC (Sd.st 24) (tsC (Sd.st 25) (tsN)))) (tsN)))) (ret true) (bd (bd (rd 24) fun x => bd (bd (rd 25) fun x => bd (bd (bd (bd (rd 14) fun x => bd (bd (ret (.int 3)) fun x => bd (rd 23) fun y => lf (addD x y)) fun y => lf (fdivD x y)) fun x => bd (rd 6) fun y => lf (modD x y)) fun x => bd (ret []) fun xs => ret (x :: xs)) fun xs => ret (x :: xs)) fun xs => ret (x :: xs)) fun xs => lf (few xs (.tup xs))) (bd (rd 12) fun x => bd (itM x) fun l => ret (numD l))) fun l => ret (.lst l))) (Sd.forM (Sd.st 16) (bd (bd (bd (hasS 7) fun _ => bd (rd 10) fun i => bd (lf (isI i)) fun k => bd (slotM 7) fun l => lf (L2.atI l k)) fun x => bd (rd 13) fun i => bd (lf (isI i)) fun k => bd (seqM x) fun l => lf (L2.atI l k)) itM) (sq (asM 17 (bd (bd (bd (rd 0) fun x => bd (ret []) fun xs => ret (x :: xs)) fun ds => callM d__law_next ds) fun x => bd (bd (bd (ret (.int 1)) fun x => bd (bd (bd (bd (rd 15) fun x => bd (ret []) fun xs => ret (x :: xs)) fun ds => lf (lenF ds)) fun x => bd (ret []) fun xs => ret (x :: xs)) fun xs => ret (x :: xs)) fun ds => lf (maxF ds)) fun y => lf (modD x y))) (sq (asM 18 (bd (bd (rd 15) fun x => bd (bd (rd 17) fun i => bd (lf (isI i)) fun k => ret (some k)) fun i => bd (ret none) fun j => lf (slD x i j)) fun x => bd (bd (rd 15) fun x => bd (ret none) fun i => bd (bd (rd 17) fun i => bd (lf (isI i)) fun k => ret (some k)) fun j => lf (slD x i j)) fun y => lf (addD x y))) (sq (asM 19 (bd (bd (bd (lcM [24, 25, 26] (tsT 3 (tsC (Sd.st 24) (tsC (Sd.st 25) (tsC (Sd.st 26) (tsN))))) (ret true) (bd (bd (rd 24) fun x => bd (bd (bd (bd (rd 0) fun x => bd (bd (bd (bd (hasS 7) fun _ => bd (rd 25) fun i => bd (lf (isI i)) fun k => bd (slotM 7) fun l => lf (L2.atI l k)) fun x => bd (rd 26) fun i => bd (lf (isI i)) fun k => bd (seqM x) fun l => lf (L2.atI l k)) fun x => bd (ret []) fun xs => ret (x :: xs)) fun xs => ret (x :: xs)) fun ds => callM d__law_some ds) fun x => bd (ret []) fun xs => ret (x :: xs)) fun xs => ret (x :: xs)) fun xs => lf (few xs (.tup xs))) (bd (rd 18) itM)) fun l => ret (.lst l)) fun x => bd (ret []) fun xs => ret (x :: xs)) fun ds => lf (tupleF ds))) (sq (appM 8 (bd (bd (rd 19) fun x => bd (bd (rd 11) fun x => bd (bd (bd (bd (ret (.int 2)) fun x => bd (rd 10) fun y => lf (mulD x y)) fun x => bd (rd 13) fun y => lf (addD x y)) fun x => bd (bd (bd (hasS 4) fun _ => bd (rd 10) fun i => bd (lf (isI i)) fun k => bd (slotM 4) fun l => lf (L2.atI l k)) fun x => bd (bd (bd (hasS 5) fun _ => bd (rd 10) fun i => bd (lf (isI i)) fun k => bd (slotM 5) fun l => lf (L2.atI l k)) fun x => bd (ret []) fun xs => ret (x :: xs)) fun xs => ret (x :: xs)) fun xs => ret (x :: xs)) fun xs => ret (x :: xs)) fun xs => ret (x :: xs)) fun xs => lf (few xs (.tup xs)))) (appM 9 (bd (bd (rd 0) fun x => bd (bd (bd (bd (hasS 7) fun _ => bd (rd 10) fun i => bd (lf (isI i)) fun k => bd (slotM 7) fun l => lf (L2.atI l k)) fun x => bd (bd (bd (rd 6) fun x => bd (ret (.int 1)) fun y => lf (subD x y)) fun x => bd (rd 13) fun y => lf (subD x y)) fun i => bd (lf (isI i)) fun k => bd (seqM x) fun l => lf (L2.atI l k)) fun x => bd (ret []) fun xs => ret (x :: xs)) fun xs => ret (x :: xs)) fun ds => callM d__law_some ds)))))))))) (l := o.zipIdx) (f := fun q => D.int ((q.2 : Nat) : Int)) (s := sK t rows mp (.dat (.int i)) (.dat (.bl dn)) (.dat (.lst (pJ ps))) v13 v14 v15 v16 v17 v18 v19 .un .un .un st) (s1 := sK t rows mp (.dat (.int i)) (.dat (.bl dn)) (.dat (.lst (pJ ps))) v13 v14 v15 v16 v17 v18 v19 .un .un .un st) (fun pre s => ∃ (rows' : List Row) (mp' : List Int) (v13 v14 v15 v16 v17 v18 v19 : SV) (st' : List SO), s = sK t rows' mp' (.dat (.int i)) (.dat (.bl dn)) (.dat (.lst (pJ ps))) v13 v14 v15 v16 v17 v18 v19 .un .un .un st' ∧ Good t (c + (pre.map fun q => q.1.length).sum) rows' mp' ∧ (pre.map fun q => q.1.length).sum ≤ 2 * pre.length ∧ Dk (k + 13 * pre.length) rest st') (by
      simp only [sK, hr, runD, entry, x_sq, x_asM, x_rtM, x_tgM, x_ifM, few0, few1, few2, few3, few4, few5, few6, few7, few8, few9, x_andM, x_orM, x_notM, x_andT, x_orT, bd, Sd.ret, lf, fl, rd, Sd.st, stL, appM, mutS, putS, setM, slotM, hasS, seqM, itM, popZ, mvS, lstS, callM, sfM, x_isB, x_isI, x_lt, x_le, x_gt, x_ge, x_add, x_sub, tsC, tsN, len_tup, len_lst, x_tupL, x_tupT, x_lstL, x_lstT, x_intB, x_abs, Option.bind_some, Option.bind_none, List.map_cons, List.map_nil, List.length_cons, List.length_nil, List.replicate, List.cons_append, List.nil_append, List.getElem?_cons_zero, List.getElem?_cons_succ, List.set_cons_zero, List.set_cons_succ, Nat.reduceAdd, Nat.reduceSub, Nat.reduceLT, ite_true, ite_false, reduceIte, reduceCtorEq, Nat.reduceLeDiff, Bool.false_eq_true, x_parM, x_asL]) ⟨rows, mp, _, _, _, _, _, _, _, st, rfl, hg, by simp, hd⟩ (by
      rintro pre q post s hx ⟨rows', mp', v13, v14, v15, v16, v17, v18, v19, st', rfl, g1, g3, g2⟩
      have hpl : pre.length < t.sd := by
        have := congrArg List.length hx
        simp at this
        omega
      have hz := zip_at (l := o) (q := q) (by rw [hx]; simp)
      have hqo := hom.2.one q.1 (List.mem_of_getElem? hz.1)
      have hq2 : q.2 < o.length := by
        rcases Nat.lt_or_ge q.2 o.length with h | h
        · exact h
        · have := hz.1
          rw [List.getElem?_eq_none h] at this
          exact absurd this (by simp)
      obtain ⟨tn, st2, e1, htn, h2⟩ := f_next g2 (by omega)
      obtain ⟨aims, e2, ha⟩ := task_aims (st := st2) h (rows := rows') (mp := mp') (v10 := .dat (.int i)) (v11 := .dat (.bl dn)) (v13 := .dat (.int (q.2 : Nat))) (v15 := v15) (v16 := v16) (v17 := v17) (v18 := v18) (v19 := v19) (tn := tn) hp
      obtain ⟨s', e3, rows2, mp2, w16, w17, w18, w19, st3, rfl, k1, k2⟩ := task_in (st := st2) h (v12 := .dat (.lst (pJ ps))) (v14 := .dat (.int tn)) (v16 := v16) (v17 := v17) (v18 := v18) (v19 := v19) (dn := dn) (o := o) (r := q.1) (at_map ei) (at_map hz.1) hqo.2.1 hi (by omega) ha g1 (by omega) h2 (by omega)
      refine ⟨sK t rows' mp' (.dat (.int i)) (.dat (.bl dn)) (.dat (.lst (pJ ps))) (.dat (.int (q.2 : Nat))) v14 v15 v16 v17 v18 v19 .un .un .un st', sK t rows2 mp2 (.dat (.int i)) (.dat (.bl dn)) (.dat (.lst (pJ ps))) (.dat (.int (q.2 : Nat))) (.dat (.int tn)) (.dat (.lst (aims.map pA))) w16 w17 w18 w19 .un .un .un st3, rfl, ?_, _, _, _, _, _, _, _, _, _, st3, rfl, ?_, ?_, k2.up (by simp; omega)⟩
      · simp only [sK] at e2 e3
        simp only [sK, e1, e2, e3, runD, entry, x_sq, x_asM, x_rtM, x_tgM, x_ifM, few0, few1, few2, few3, few4, few5, few6, few7, few8, few9, x_andM, x_orM, x_notM, x_andT, x_orT, bd, Sd.ret, lf, fl, rd, Sd.st, stL, appM, mutS, putS, setM, slotM, hasS, seqM, itM, popZ, mvS, lstS, callM, sfM, x_isB, x_isI, x_lt, x_le, x_gt, x_ge, x_add, x_sub, tsC, tsN, len_tup, len_lst, x_tupL, x_tupT, x_lstL, x_lstT, x_intB, x_abs, Option.bind_some, Option.bind_none, List.map_cons, List.map_nil, List.length_cons, List.length_nil, List.replicate, List.cons_append, List.nil_append, List.getElem?_cons_zero, List.getElem?_cons_succ, List.set_cons_zero, List.set_cons_succ, Nat.reduceAdd, Nat.reduceSub, Nat.reduceLT, ite_true, ite_false, reduceIte, reduceCtorEq, Nat.reduceLeDiff, Bool.false_eq_true, x_parM, x_asL]
      · have : c + ((pre ++ [q]).map fun q => q.1.length).sum = c + (pre.map fun q => q.1.length).sum + q.1.length := by simp; omega
        rw [this]
        exact k1
      · simp
        omega)
  obtain ⟨s', e, rows', mp', w13, w14, w15, w16, w17, w18, w19, st', rfl, g1, g3, g2⟩ := key
  have hsum : (o.zipIdx.map fun q => q.1.length).sum = tot o := by
    have : (o.zipIdx.map fun q => q.1.length) = (o.zipIdx.map (·.1)).map List.length := by rw [List.map_map]; rfl
    rw [this, List.zipIdx_map_fst]
    rfl
  rw [hsum] at g1
  refine ⟨_, e, _, _, _, _, _, _, _, _, _, st', rfl, g1, g2.up ?_⟩
  simp
  omega
end
end K04

namespace K04
open Sd
section
variable {k : Nat} {rest st : List SO} {t : TD}
theorem zip_num {cs : List Cl1} {vs : List (List (List Int))} (h : vs.length = cs.length) : numD (cs.map pC) = (cs.zip vs).zipIdx.map fun q => D.tupU [.int (q.2 : Nat), pC q.1.1] := by
  have e : cs.map pC = (cs.zip vs).map fun q => pC q.1 := by
    have : (cs.zip vs).map (fun q => pC q.1) = ((cs.zip vs).map (·.1)).map pC := by rw [List.map_map]; rfl
    rw [this, List.map_fst_zip (by omega)]
  rw [e, num_map (cs.zip vs) (fun q => pC q.1)]
theorem task_out (h : TOk t) (hd : Dk k rest st) (hk : k ≤ 800000) :
    ∃ s', (Sd.forM (tsT 2 (tsC (Sd.st 10) (tsC (tsT 2 (tsC (Sd.st 11) (tsC (Sd.st 12) (tsN)))) (tsN)))) (bd (rd 2) fun x => bd (itM x) fun l => ret (numD l)) (Sd.forM (Sd.st 13) (bd (rd 6) fun x => lf (rng1 x)) (sq (asM 14 (bd (bd (rd 0) fun x => bd (ret []) fun xs => ret (x :: xs)) fun ds => callM d__law_next ds)) (sq (asM 15 (bd (lcM [23, 24, 25] (tsT 2 (tsC (Sd.st 23) (tsC (tsT 2 (tsC (Sd.st 24) (tsC (Sd.st 25) (tsN)))) (tsN)))) (ret true) (bd (bd (rd 24) fun x => bd (bd (rd 25) fun x => bd (bd (bd (bd (rd 14) fun x => bd (bd (ret (.int 3)) fun x => bd (rd 23) fun y => lf (addD x y)) fun y => lf (fdivD x y)) fun x => bd (rd 6) fun y => lf (modD x y)) fun x => bd (ret []) fun xs => ret (x :: xs)) fun xs => ret (x :: xs)) fun xs => ret (x :: xs)) fun xs => lf (few xs (.tup xs))) (bd (rd 12) fun x => bd (itM x) fun l => ret (numD l))) fun l => ret (.lst l))) (Sd.forM (Sd.st 16) (bd (bd (bd (hasS 7) fun _ => bd (rd 10) fun i => bd (lf (isI i)) fun k => bd (slotM 7) fun l => lf (L2.atI l k)) fun x => bd (rd 13) fun i => bd (lf (isI i)) fun k => bd (seqM x) fun l => lf (L2.atI l k)) itM) (sq (asM 17 (bd (bd (bd (rd 0) fun x => bd (ret []) fun xs => ret (x :: xs)) fun ds => callM d__law_next ds) fun x => bd (bd (bd (ret (.int 1)) fun x => bd (bd (bd (bd (rd 15) fun x => bd (ret []) fun xs => ret (x :: xs)) fun ds => lf (lenF ds)) fun x => bd (ret []) fun xs => ret (x :: xs)) fun xs => ret (x :: xs)) fun ds => lf (maxF ds)) fun y => lf (modD x y))) (sq (asM 18 (bd (bd (rd 15) fun x => bd (bd (rd 17) fun i => bd (lf (isI i)) fun k => ret (some k)) fun i => bd (ret none) fun j => lf (slD x i j)) fun x => bd (bd (rd 15) fun x => bd (ret none) fun i => bd (bd (rd 17) fun i => bd (lf (isI i)) fun k => ret (some k)) fun j => lf (slD x i j)) fun y => lf (addD x y))) (sq (asM 19 (bd (bd (bd (lcM [24, 25, 26] (tsT 3 (tsC (Sd.st 24) (tsC (Sd.st 25) (tsC (Sd.st 26) (tsN))))) (ret true) (bd (bd (rd 24) fun x => bd (bd (bd (bd (rd 0) fun x => bd (bd (bd (bd (hasS 7) fun _ => bd (rd 25) fun i => bd (lf (isI i)) fun k => bd (slotM 7) fun l => lf (L2.atI l k)) fun x => bd (rd 26) fun i => bd (lf (isI i)) fun k => bd (seqM x) fun l => lf (L2.atI l k)) fun x => bd (ret []) fun xs => ret (x :: xs)) fun xs => ret (x :: xs)) fun ds => callM d__law_some ds) fun x => bd (ret []) fun xs => ret (x :: xs)) fun xs => ret (x :: xs)) fun xs => lf (few xs (.tup xs))) (bd (rd 18) itM)) fun l => ret (.lst l)) fun x => bd (ret []) fun xs => ret (x :: xs)) fun ds => lf (tupleF ds))) (sq (appM 8 (bd (bd (rd 19) fun x => bd (bd (rd 11) fun x => bd (bd (bd (bd (ret (.int 2)) fun x => bd (rd 10) fun y => lf (mulD x y)) fun x => bd (rd 13) fun y => lf (addD x y)) fun x => bd (bd (bd (hasS 4) fun _ => bd (rd 10) fun i => bd (lf (isI i)) fun k => bd (slotM 4) fun l => lf (L2.atI l k)) fun x => bd (bd (bd (hasS 5) fun _ => bd (rd 10) fun i => bd (lf (isI i)) fun k => bd (slotM 5) fun l => lf (L2.atI l k)) fun x => bd (ret []) fun xs => ret (x :: xs)) fun xs => ret (x :: xs)) fun xs => ret (x :: xs)) fun xs => ret (x :: xs)) fun xs => ret (x :: xs)) fun xs => lf (few xs (.tup xs)))) (appM 9 (bd (bd (rd 0) fun x => bd (bd (bd (bd (hasS 7) fun _ => bd (rd 10) fun i => bd (lf (isI i)) fun k => bd (slotM 7) fun l => lf (L2.atI l k)) fun x => bd (bd (bd (rd 6) fun x => bd (ret (.int 1)) fun y => lf (subD x y)) fun x => bd (rd 13) fun y => lf (subD x y)) fun i => bd (lf (isI i)) fun k => bd (seqM x) fun l => lf (L2.atI l k)) fun x => bd (ret []) fun xs => ret (x :: xs)) fun xs => ret (x :: xs)) fun ds => callM d__law_some ds))))))))))) (sK t [] [] .un .un .un .un .un .un .un .un .un .un .un .un .un st) = some (.nx, s') ∧ ∃ (rows' : List Row) (mp' : List Int) (v10 v11 v12 v13 v14 v15 v16 v17 v18 v19 : SV) (st' : List SO), s' = sK t rows' mp' v10 v11 v12 v13 v14 v15 v16 v17 v18 v19 .un .un .un st' ∧ Good t (totA t.vs) rows' mp' ∧ Dk (k + 1040) rest st' := by
  have hcl := h.hc.len
  have hm := h.m40
  have key := forMI (ts := (tsT 2 (tsC (Sd.st 10) (tsC (tsT 2 (tsC (Sd.st 11) (tsC (Sd.st 12) (tsN)))) (tsN))))) (mi := (bd (rd 2) fun x => bd (itM x) fun l => ret (numD l))) (mb := (Sd.forM (Sd.st 13) (bd (rd 6) fun x => lf (rng1 x)) (sq (asM 14 (bd (bd (rd 0) fun x => bd (ret []) fun xs => ret (x :: xs)) fun ds => callM d__law_next ds)) (sq (asM 15 (bd (lcM [23, 24, 25] (tsT 2 (tsC (Sd.st 23) (tsC (tsT 2 (tsC (Sd.st 24) (tsC (Sd.st 25) (tsN)))) (tsN)))) (ret true) (bd (bd (rd 24) fun x => bd (bd (rd 25) fun x => bd (bd (bd (bd (rd 14) fun x => bd (bd (ret (.int 3)) fun x => bd (rd 23) fun y => lf (addD x y)) fun y => lf (fdivD x y)) fun x => bd (rd 6) fun y => lf (modD x y)) fun x => bd (ret []) fun xs => ret (x :: xs)) fun xs => ret (x :: xs)) fun xs => ret (x :: xs)) fun xs => lf (few xs (.tup xs))) (bd (rd 12) fun x => bd (itM x) fun l => ret (numD l))) fun l => ret (.lst l))) (Sd.forM (Sd.st 16) (bd (bd (bd (hasS 7) fun _ => bd (rd 10) fun i => bd (lf (isI i)) fun k => bd (slotM 7) fun l => lf (L2.atI l k)) fun x => bd (rd 13) fun i => bd (lf (isI i)) fun k => bd (seqM x) fun l => lf (L2.atI l k)) itM) (sq (asM 17 (bd (bd (bd (rd 0) fun x => bd (ret []) fun xs => ret (x :: xs)) fun ds => callM d__law_next ds) fun x => bd (bd (bd (ret (.int 1)) fun x => bd (bd (bd (bd (rd 15) fun x => bd (ret []) fun xs => ret (x :: xs)) fun ds => lf (lenF ds)) fun x => bd (ret []) fun xs => ret (x :: xs)) fun xs => ret (x :: xs)) fun ds => lf (maxF ds)) fun y => lf (modD x y))) (sq (asM 18 (bd (bd (rd 15) fun x => bd (bd (rd 17) fun i => bd (lf (isI i)) fun k => ret (some k)) fun i => bd (ret none) fun j => lf (slD x i j)) fun x => bd (bd (rd 15) fun x => bd (ret none) fun i => bd (bd (rd 17) fun i => bd (lf (isI i)) fun k => ret (some k)) fun j => lf (slD x i j)) fun y => lf (addD x y))) (sq (asM 19 (bd (bd (bd (lcM [24, 25, 26] (tsT 3 (tsC (Sd.st 24) (tsC (Sd.st 25) (tsC (Sd.st 26) (tsN))))) (ret true) (bd (bd (rd 24) fun x => bd (bd (bd (bd (rd 0) fun x => bd (bd (bd (bd (hasS 7) fun _ => bd (rd 25) fun i => bd (lf (isI i)) fun k => bd (slotM 7) fun l => lf (L2.atI l k)) fun x => bd (rd 26) fun i => bd (lf (isI i)) fun k => bd (seqM x) fun l => lf (L2.atI l k)) fun x => bd (ret []) fun xs => ret (x :: xs)) fun xs => ret (x :: xs)) fun ds => callM d__law_some ds) fun x => bd (ret []) fun xs => ret (x :: xs)) fun xs => ret (x :: xs)) fun xs => lf (few xs (.tup xs))) (bd (rd 18) itM)) fun l => ret (.lst l)) fun x => bd (ret []) fun xs => ret (x :: xs)) fun ds => lf (tupleF ds))) (sq (appM 8 (bd (bd (rd 19) fun x => bd (bd (rd 11) fun x => bd (bd (bd (bd (ret (.int 2)) fun x => bd (rd 10) fun y => lf (mulD x y)) fun x => bd (rd 13) fun y => lf (addD x y)) fun x => bd (bd (bd (hasS 4) fun _ => bd (rd 10) fun i => bd (lf (isI i)) fun k => bd (slotM 4) fun l => lf (L2.atI l k)) fun x => bd (bd (bd (hasS 5) fun _ => bd (rd 10) fun i => bd (lf (isI i)) fun k => bd (slotM 5) fun l => lf (L2.atI l k)) fun x => bd (ret []) fun xs => ret (x :: xs)) fun xs => ret (x :: xs)) fun xs => ret (x :: xs)) fun xs => ret (x :: xs)) fun xs => ret (x :: xs)) fun xs => lf (few xs (.tup xs)))) (appM 9 (bd (bd (rd 0) fun x => bd (bd (bd (bd (hasS 7) fun _ => bd (rd 10) fun i => bd (lf (isI i)) fun k => bd (slotM 7) fun l => lf (L2.atI l k)) fun x => bd (bd (bd (rd 6) fun x => bd (ret (.int 1)) fun y => lf (subD x y)) fun x => bd (rd 13) fun y => lf (subD x y)) fun i => bd (lf (isI i)) fun k => bd (seqM x) fun l => lf (L2.atI l k)) fun x => bd (ret []) fun xs => ret (x :: xs)) fun xs => ret (x :: xs)) fun ds => callM d__law_some ds))))))))))) (l := (t.cs.zip t.vs).zipIdx) (f := fun q => D.tupU [.int (q.2 : Nat), pC q.1.1]) (s := sK t [] [] .un .un .un .un .un .un .un .un .un .un .un .un .un st) (s1 := sK t [] [] .un .un .un .un .un .un .un .un .un .un .un .un .un st) (fun pre s => ∃ (rows' : List Row) (mp' : List Int) (v10 v11 v12 v13 v14 v15 v16 v17 v18 v19 : SV) (st' : List SO), s = sK t rows' mp' v10 v11 v12 v13 v14 v15 v16 v17 v18 v19 .un .un .un st' ∧ Good t ((pre.map fun q => tot q.1.2).sum) rows' mp' ∧ (pre.map fun q => tot q.1.2).sum ≤ 4 * pre.length ∧ Dk (k + 26 * pre.length) rest st') (by
      rw [← zip_num h.vl]
      rfl) ⟨[], [], _, _, _, _, _, _, _, _, _, _, st, rfl, ⟨rfl, rfl, fun _ h => absurd h (by simp), fun _ h => absurd h (by simp)⟩, by simp, hd⟩ (by
      rintro pre q post s hx ⟨rows', mp', v10, v11, v12, v13, v14, v15, v16, v17, v18, v19, st', rfl, g1, g3, g2⟩
      have hpl : pre.length < t.cs.length := by
        have := congrArg List.length hx
        have hvl := h.vl
        simp at this
        omega
      have hz := zip_at (l := t.cs.zip t.vs) (q := q) (by rw [hx]; simp)
      have hz1 := hz.1
      rw [List.getElem?_zip_eq_some] at hz1
      have hq2 : q.2 < t.cs.length := (List.getElem?_eq_some_iff.mp hz1.1).1
      have hvo := h.vo.one q.1.2 (List.mem_of_getElem? hz1.2)
      have hto := hvo.2.tot
      have hsd := h.sd
      obtain ⟨s', e, rows2, mp2, w13, w14, w15, w16, w17, w18, w19, st2, rfl, k1, k2⟩ := task_mid (st := st') h (v13 := v13) (v14 := v14) (v15 := v15) (v16 := v16) (v17 := v17) (v18 := v18) (v19 := v19) (dn := q.1.1.1) (ps := q.1.1.2) hz1.2 hq2 (h.hc.one q.1.1 (List.mem_of_getElem? hz1.1)) g1 (by omega) g2 (by omega)
      refine ⟨sK t rows' mp' (.dat (.int (q.2 : Nat))) (.dat (.bl q.1.1.1)) (.dat (.lst (pJ q.1.1.2))) v13 v14 v15 v16 v17 v18 v19 .un .un .un st', _, ?_, e, _, _, _, _, _, _, _, _, _, _, _, _, st2, rfl, ?_, ?_, k2.up (by simp; omega)⟩
      · simp only [sK, pC, u2, t2, runD, entry, x_sq, x_asM, x_rtM, x_tgM, x_ifM, few0, few1, few2, few3, few4, few5, few6, few7, few8, few9, x_andM, x_orM, x_notM, x_andT, x_orT, bd, Sd.ret, lf, fl, rd, Sd.st, stL, appM, mutS, putS, setM, slotM, hasS, seqM, itM, popZ, mvS, lstS, callM, sfM, x_isB, x_isI, x_lt, x_le, x_gt, x_ge, x_add, x_sub, tsC, tsN, len_tup, len_lst, x_tupL, x_tupT, x_lstL, x_lstT, x_intB, x_abs, Option.bind_some, Option.bind_none, List.map_cons, List.map_nil, List.length_cons, List.length_nil, List.replicate, List.cons_append, List.nil_append, List.getElem?_cons_zero, List.getElem?_cons_succ, List.set_cons_zero, List.set_cons_succ, Nat.reduceAdd, Nat.reduceSub, Nat.reduceLT, ite_true, ite_false, reduceIte, reduceCtorEq, Nat.reduceLeDiff, Bool.false_eq_true, x_parM, x_asL]
      · have : ((pre ++ [q]).map fun q => tot q.1.2).sum = (pre.map fun q => tot q.1.2).sum + tot q.1.2 := by simp
        rw [this]
        exact k1
      · simp
        omega)
  obtain ⟨s', e, rows', mp', v10, v11, v12, v13, v14, v15, v16, v17, v18, v19, st', rfl, g1, g3, g2⟩ := key
  have hsum : ((t.cs.zip t.vs).zipIdx.map fun q => tot q.1.2).sum = totA t.vs := by
    have : ((t.cs.zip t.vs).zipIdx.map fun q => tot q.1.2) = (((t.cs.zip t.vs).zipIdx.map (·.1)).map (·.2)).map tot := by
      rw [List.map_map, List.map_map]
      rfl
    rw [this, List.zipIdx_map_fst, List.map_snd_zip (by have := h.vl; omega)]
    rfl
  rw [hsum] at g1
  refine ⟨_, e, _, _, _, _, _, _, _, _, _, _, _, _, st', rfl, g1, g2.up ?_⟩
  simp
  have := h.vl
  omega
theorem rowv_of {n N : Nat} (hn : n ≤ 40) {r : Row} (h : RowQ n N r) : RowV N r := ⟨by have := h.n4; omega, fun q hq => by
  have := h.nx q hq
  omega, by have := h.nm; omega, by have := h.bo; omega⟩
theorem f_task (h : Dk k rest st) (hk : k ≤ 700000) : ∃ rows wh gD tD st', d__law_task [.ref 1, .int 6] st = some (.tup [.tup (rows.map pRow), .tup (pW wh), gD, tD], st') ∧ TabV rows wh gD tD ∧ (∀ r ∈ rows, RowQ 6 rows.length r) ∧ wh.length ≤ 1 ∧ Dk (k + 2000) rest st' := by
  obtain ⟨cs, st1, e1, hc, h1⟩ := f_classes h (m := 6) (by decide) (by omega)
  obtain ⟨rs, e2, hrl, hr⟩ := f_rests (st := st1) hc (by decide)
  have hcl := hc.len
  obtain ⟨bs, st2, e3, hbl, hbb, h2⟩ := f_bounds (rs := rs) (by omega) hr h1 (by omega)
  obtain ⟨cu, st3, e4, hul, h3⟩ := f_cuts (rs := rs) hc (by decide) hrl h2 (by omega)
  obtain ⟨v, st4, e5, hv, h4⟩ := f_next h3 (by omega)
  obtain ⟨sd, hsd⟩ : ∃ sd : Nat, 1 + v % 2 = (sd : Int) := ⟨(1 + v % 2).toNat, by omega⟩
  have m2 : modD (.int v) (.int 2) = some (.int (v % 2)) := x_mod (by decide)
  have hs12 : 1 ≤ sd ∧ sd ≤ 2 := by omega
  obtain ⟨vs, st5, e6, hvl, hvo, h5⟩ := f_variants (n := cs.length) (sd := sd) (by omega) hs12.2 h4 (by omega)
  have hT : TOk ⟨6, cs, rs, bs, cu, sd, vs⟩ := ⟨hc, show (6 : Int) ≤ 40 by decide, show bs.length = cs.length by omega, hul, hvl, hvo, hs12, hbb⟩
  obtain ⟨s', e7, rows, mp, v10, v11, v12, v13, v14, v15, v16, v17, v18, v19, st6, rfl, g1, h6⟩ := task_out hT h5 (by omega)
  obtain ⟨w, st7, e8, hw, h7⟩ := f_next h6 (by omega)
  have hN : rows.length = totA vs := g1.rl
  have htt := hvo.tot
  have hN1 : 1 ≤ totA vs := by
    have : 1 * 1 ≤ sd * vs.length := Nat.mul_le_mul (by omega) (by omega)
    omega
  have hN24 : totA vs ≤ 24 := by
    have : 2 * sd * vs.length ≤ 4 * 6 := Nat.mul_le_mul (by omega) (by omega)
    omega
  have hrq : ∀ r ∈ rows, RowQ 6 rows.length r := fun r hr => by
    have q := g1.ro r hr
    simp only at q
    rw [hN]
    exact ⟨q.n4, q.nx, by have := q.nm; omega, q.bo⟩
  have hlen : lenF [.lst (cs.map pC)] = some (.int cs.length) := by rw [len_lst, List.length_map]
  obtain ⟨wh, hwh, ewh⟩ : ∃ wh, (wh = [] ∨ wh = [mp]) ∧ L2.atI [D.tup [], .tup [.tup (pI mp)]] ((sd : Int) - 1) = some (.tup (pW wh)) := by
    have : (sd : Int) - 1 = 0 ∨ (sd : Int) - 1 = 1 := by omega
    rcases this with e | e
    · exact ⟨[], .inl rfl, by rw [e]; rfl⟩
    · exact ⟨[mp], .inr rfl, by rw [e]; rfl⟩
  have hwl : wh.length ≤ 1 := by rcases hwh with rfl | rfl <;> simp
  have hww : ∀ w ∈ wh, w.length = rows.length ∧ ∀ x ∈ w, 0 ≤ x ∧ x < rows.length := by
    intro w hw
    rcases hwh with rfl | rfl
    · simp at hw
    · have : w = mp := by simpa using hw
      rw [this, hN]
      exact ⟨g1.ml, g1.mo⟩
  have hrow : ∀ r ∈ rows, RowV rows.length r := fun r hr => rowv_of (by omega) (hrq r hr)
  have e9 := f_ends (st := st7) (rows := rows) (by omega) (fun r hr => (hrq r hr).n4)
  have hen := endv_of (rows := rows) (by omega) (fun r hr => (hrq r hr).n4) (fun r hr q hq => by
    have := (hrq r hr).nx q hq
    omega)
  have m2w : modD (.int w) (.int 2) = some (.int (w % 2)) := x_mod (by decide)
  have p0 : pI [] = [] := rfl
  simp only [sK, List.map_nil, p0] at e7
  by_cases hz : w % 2 = 0
  · refine ⟨rows, wh, .non, .non, st7, ?_, ⟨by omega, by omega, hrow, by omega, hww, .none⟩, hrq, hwl, h7.up (by omega)⟩
    simp only [d__law_task, m__law_task, e1, e2, e3, e4, e5, m2, hsd, hlen, e6, e7, ewh, e8, m2w, eq_int, decide_eq_true hz, runD, entry, x_sq, x_asM, x_rtM, x_tgM, x_ifM, few0, few1, few2, few3, few4, few5, few6, few7, few8, few9, x_andM, x_orM, x_notM, x_andT, x_orT, bd, Sd.ret, lf, fl, rd, Sd.st, stL, appM, mutS, putS, setM, slotM, hasS, seqM, itM, popZ, mvS, lstS, callM, sfM, x_isB, x_isI, x_lt, x_le, x_gt, x_ge, x_add, x_sub, tsC, tsN, len_tup, len_lst, x_tupL, x_tupT, x_lstL, x_lstT, x_intB, x_abs, Option.bind_some, Option.bind_none, List.map_cons, List.map_nil, List.length_cons, List.length_nil, List.replicate, List.cons_append, List.nil_append, List.getElem?_cons_zero, List.getElem?_cons_succ, List.set_cons_zero, List.set_cons_succ, Nat.reduceAdd, Nat.reduceSub, Nat.reduceLT, ite_true, ite_false, reduceIte, reduceCtorEq, Nat.reduceLeDiff, Bool.false_eq_true, x_parM, x_asL]
  · refine ⟨rows, wh, _, _, st7, ?_, ⟨by omega, by omega, hrow, by omega, hww, hen⟩, hrq, hwl, h7.up (by omega)⟩
    simp only [d__law_task, m__law_task, e1, e2, e3, e4, e5, m2, hsd, hlen, e6, e7, ewh, e8, m2w, eq_int, decide_eq_false hz, e9, t2, runD, entry, x_sq, x_asM, x_rtM, x_tgM, x_ifM, few0, few1, few2, few3, few4, few5, few6, few7, few8, few9, x_andM, x_orM, x_notM, x_andT, x_orT, bd, Sd.ret, lf, fl, rd, Sd.st, stL, appM, mutS, putS, setM, slotM, hasS, seqM, itM, popZ, mvS, lstS, callM, sfM, x_isB, x_isI, x_lt, x_le, x_gt, x_ge, x_add, x_sub, tsC, tsN, len_tup, len_lst, x_tupL, x_tupT, x_lstL, x_lstT, x_intB, x_abs, Option.bind_some, Option.bind_none, List.map_cons, List.map_nil, List.length_cons, List.length_nil, List.replicate, List.cons_append, List.nil_append, List.getElem?_cons_zero, List.getElem?_cons_succ, List.set_cons_zero, List.set_cons_succ, Nat.reduceAdd, Nat.reduceSub, Nat.reduceLT, ite_true, ite_false, reduceIte, reduceCtorEq, Nat.reduceLeDiff, Bool.false_eq_true, x_parM, x_asL]
end
end K04

namespace K04
open Sd
/-! labels by turnings: two goings in step -/
theorem pig : ∀ (N : Nat) (l : List Int), l.Nodup → (∀ x ∈ l, 0 ≤ x ∧ x < N) → l.length ≤ N
  | 0, l, _, h => by
    cases l with
    | nil => simp
    | cons a r => have := h a (List.mem_cons_self ..); omega
  | N + 1, l, hn, h => by
    by_cases hm : (N : Int) ∈ l
    · have h1 := pig N (l.erase (N : Int)) (hn.erase _) fun x hx => by
        have h2 := (List.Nodup.mem_erase_iff hn).mp hx
        have h3 := h x h2.2
        have h4 := h2.1
        omega
      rw [List.length_erase_of_mem hm] at h1
      omega
    · have h1 := pig N l hn fun x hx => by
        have h3 := h x hx
        have h4 : x ≠ N := fun e => hm (e ▸ hx)
        omega
      omega
theorem min_lst {l : List Int} {m : Int} (h : lea l = some m) : minG [.lst (pI l)] = some (.int m) := by
  show (isIs _).bind _ = _
  rw [isIs_pI, Option.bind_some, h]
  rfl
theorem x_popM (n : Nat) (s : S) : popM n s = (match mutS n s with
  | none => none
  | some l => (match l.getLast? with
    | none => none
    | some d => some (d, putS n l.dropLast s))) := rfl
abbrev Tn := List Int × List Int
def tAt (w : List Int) (x : Int) : Int := w.getD x.toNat 0
def oneT (q : Tn) (y : Int) : Tn := if y ∈ q.1 then q else (q.1 ++ [y], q.2 ++ [y])
def inT (wh : List (List Int)) (x : Int) (q : Tn) : Tn := wh.foldl (fun q w => oneT q (tAt w x)) q
def stT (wh : List (List Int)) (q : Tn) : Tn := match q.2.getLast? with
  | none => q
  | some x => inT wh x (q.1, q.2.dropLast)
def itT (wh : List (List Int)) : Nat → Tn → Tn
  | 0, q => q
  | n + 1, q => stT wh (itT wh n q)
theorem itT_stop {wh : List (List Int)} {q : Tn} {n : Nat} (h : (itT wh n q).2 = []) : ∀ d, itT wh (n + d) q = itT wh n q
  | 0 => rfl
  | d + 1 => by
    show stT wh (itT wh (n + d) q) = _
    rw [itT_stop h d]
    unfold stT
    rw [h]
    rfl
theorem itT_same {wh : List (List Int)} {q : Tn} {n m : Nat} (h1 : (itT wh n q).2 = []) (h2 : (itT wh m q).2 = []) : itT wh n q = itT wh m q := by
  rcases Nat.le_total n m with h | h
  · obtain ⟨d, rfl⟩ := Nat.exists_eq_add_of_le h
    exact (itT_stop h1 d).symm
  · obtain ⟨d, rfl⟩ := Nat.exists_eq_add_of_le h
    exact itT_stop h2 d
def In (n : Nat) (l : List Int) : Prop := ∀ x ∈ l, 0 ≤ x ∧ x < n
structure Ti (N : Nat) (q : Tn) : Prop where
  s : In N q.1
  l : In N q.2
  nd : q.1.Nodup
  ne : q.1 ≠ []
def muT (N : Nat) (q : Tn) : Nat := 2 * (N - q.1.length) + q.2.length
theorem Ti.len {N : Nat} {q : Tn} (h : Ti N q) : q.1.length ≤ N := pig N q.1 h.nd h.s
theorem In.app {N : Nat} {l : List Int} (h : In N l) {y : Int} (hy : 0 ≤ y ∧ y < N) : In N (l ++ [y]) := fun x hx => by
  rcases List.mem_append.mp hx with hx | hx
  · exact h x hx
  · have : x = y := by simpa using hx
    exact this ▸ hy
theorem oneT_ok {N : Nat} {q : Tn} (h : Ti N q) {y : Int} (hy : 0 ≤ y ∧ y < N) : Ti N (oneT q y) ∧ muT N (oneT q y) ≤ muT N q := by
  unfold oneT
  by_cases hm : y ∈ q.1
  · rw [if_pos hm]
    exact ⟨h, Nat.le_refl _⟩
  · rw [if_neg hm]
    have h2 : Ti N (q.1 ++ [y], q.2 ++ [y]) := ⟨h.s.app hy, h.l.app hy, by
      rw [List.nodup_append]
      exact ⟨h.nd, by simp, fun a ha b hb => by
        have : b = y := by simpa using hb
        rw [this]
        exact fun e => hm (e ▸ ha)⟩, by simp⟩
    refine ⟨h2, ?_⟩
    have := h2.len
    unfold muT
    simp at this ⊢
    omega
theorem inT_ok {N : Nat} {x : Int} : ∀ {wh : List (List Int)} {q : Tn}, Ti N q → (∀ w ∈ wh, 0 ≤ tAt w x ∧ tAt w x < N) → Ti N (inT wh x q) ∧ muT N (inT wh x q) ≤ muT N q
  | [], q, h, _ => ⟨h, Nat.le_refl _⟩
  | w :: wh, q, h, hw => by
    have h1 := oneT_ok h (hw w (by simp))
    have h2 := inT_ok (wh := wh) h1.1 fun v hv => hw v (List.mem_cons_of_mem _ hv)
    exact ⟨h2.1, Nat.le_trans h2.2 h1.2⟩
theorem tAt_ok {N : Nat} {wh : List (List Int)} (hw : ∀ w ∈ wh, w.length = N ∧ ∀ x ∈ w, 0 ≤ x ∧ x < N) {x : Int} (hx : 0 ≤ x ∧ x < N) : ∀ w ∈ wh, (0 ≤ tAt w x ∧ tAt w x < N) ∧ L2.atI (pI w) x = some (.int (tAt w x)) := fun w hm => by
  obtain ⟨n, rfl⟩ := Int.eq_ofNat_of_zero_le hx.1
  obtain ⟨h1, h2⟩ := hw w hm
  have hn : n < w.length := by omega
  have e : tAt w (n : Int) = w[n] := by
    unfold tAt
    simp [hn]
  rw [e]
  exact ⟨h2 _ (List.getElem_mem hn), at_map (List.getElem?_eq_getElem hn)⟩
theorem stT_ok {N : Nat} {wh : List (List Int)} (hw : ∀ w ∈ wh, w.length = N ∧ ∀ x ∈ w, 0 ≤ x ∧ x < N) {s l0 : List Int} {x : Int} (h : Ti N (s, l0 ++ [x])) : stT wh (s, l0 ++ [x]) = inT wh x (s, l0) ∧ Ti N (s, l0) ∧ Ti N (inT wh x (s, l0)) ∧ muT N (inT wh x (s, l0)) < muT N (s, l0 ++ [x]) ∧ 0 ≤ x ∧ x < N := by
  have hx := h.l x (by simp)
  have h0 : Ti N (s, l0) := ⟨h.s, fun y hy => h.l y (List.mem_append_left _ hy), h.nd, h.ne⟩
  have h1 := inT_ok (wh := wh) (x := x) h0 fun w hm => (tAt_ok hw hx w hm).1
  refine ⟨?_, h0, h1.1, Nat.lt_of_le_of_lt h1.2 ?_, hx⟩
  · unfold stT
    simp
  · unfold muT
    simp
theorem inT_snoc (wh : List (List Int)) (w : List Int) (x : Int) (q : Tn) : inT (wh ++ [w]) x q = oneT (inT wh x q) (tAt w x) := by
  unfold inT
  rw [List.foldl_append]
  rfl
section
variable {st : List SO} {rows : List Row} {wh : List (List Int)} {gD tD : D}
abbrev datD (rows : List Row) (wh : List (List Int)) (gD tD : D) : D := .tup [.tup (rows.map pRow), .tup (pW wh), gD, tD]
abbrev sL (rows : List Row) (wh : List (List Int)) (gD tD : D) (w : PySem.Str) (a : Int) (q : Tn) (v9 v10 : SV) (st : List SO) : S := ⟨[.dat (datD rows wh gD tD), .dat (.str w), .dat (.int a), .dat (.tup (rows.map pRow)), .dat (.tup (pW wh)), .dat gD, .dat tD, .chg (pI q.1), .chg (pI q.2), v9, v10], st⟩
theorem label_in {N : Nat} (hN : N ≤ 24) (h3 : wh.length ≤ 3) (hw : ∀ w ∈ wh, w.length = N ∧ ∀ x ∈ w, 0 ≤ x ∧ x < N) {w : PySem.Str} {a x : Int} {q : Tn} {v10 : SV} (hx : 0 ≤ x ∧ x < N) (hq : Ti N q) (hm : muT N q ≤ 100) :
    ∃ s', (Sd.forM (Sd.st 10) (bd (rd 4) itM) (ifM (bd (bd (hasS 10) fun _ => bd (rd 9) fun i => bd (lf (isI i)) fun k => bd (slotM 10) fun l => lf (L2.atI l k)) fun d => bd (slotL 7) fun l => lf ((notInD d (.lst l)).bind isB)) (sq (appM 7 (bd (hasS 10) fun _ => bd (rd 9) fun i => bd (lf (isI i)) fun k => bd (slotM 10) fun l => lf (L2.atI l k))) (appM 8 (bd (hasS 10) fun _ => bd (rd 9) fun i => bd (lf (isI i)) fun k => bd (slotM 10) fun l => lf (L2.atI l k)))) (ret .nx))) (sL rows wh gD tD w a q (.dat (.int x)) v10 st) = some (.nx, s') ∧ ∃ v10, s' = sL rows wh gD tD w a (inT wh x q) (.dat (.int x)) v10 st := by
  refine forMI (l := wh) (f := fun w => .tup (pI w)) (s1 := sL rows wh gD tD w a q (.dat (.int x)) v10 st) (fun pre s => ∃ v10, s = sL rows wh gD tD w a (inT pre x q) (.dat (.int x)) v10 st) rfl ⟨v10, rfl⟩ ?_
  rintro pre y post s hy ⟨v10, rfl⟩
  obtain ⟨hy1, ey⟩ := tAt_ok hw hx y (by rw [hy]; simp)
  have hi := inT_ok (wh := pre) (x := x) hq fun v hv => (tAt_ok hw hx v (by rw [hy]; exact List.mem_append_left _ hv)).1
  have hl := hi.1.len
  have hmu := hi.2
  unfold muT at hmu
  have en := notIn_lstI (tAt y x) (inT pre x q).1
  have s1 : (pI (inT pre x q).1).length < 100000 := by rw [pI_len]; omega
  have s2 : (pI (inT pre x q).2).length < 100000 := by rw [pI_len]; unfold muT at hm; omega
  rw [inT_snoc]
  refine ⟨sL rows wh gD tD w a (inT pre x q) (.dat (.int x)) (.dat (.tup (pI y))) st, sL rows wh gD tD w a (oneT (inT pre x q) (tAt y x)) (.dat (.int x)) (.dat (.tup (pI y))) st, rfl, ?_, _, rfl⟩
  unfold oneT
  by_cases hin : tAt y x ∈ (inT pre x q).1
  · rw [if_pos hin]
    simp only [sL, ey, slotL, en, decide_eq_true hin, Bool.not_true, runD, entry, x_sq, x_asM, x_rtM, x_tgM, x_ifM, few0, few1, few2, few3, few4, few5, few6, few7, few8, few9, x_andM, x_orM, x_notM, x_andT, x_orT, bd, Sd.ret, lf, fl, rd, Sd.st, stL, appM, mutS, putS, setM, slotM, hasS, seqM, itM, popZ, mvS, lstS, callM, sfM, x_isB, x_isI, x_lt, x_le, x_gt, x_ge, x_add, x_sub, tsC, tsN, len_tup, len_lst, x_tupL, x_tupT, x_lstL, x_lstT, x_intB, x_abs, Option.bind_some, Option.bind_none, List.map_cons, List.map_nil, List.length_cons, List.length_nil, List.replicate, List.cons_append, List.nil_append, List.getElem?_cons_zero, List.getElem?_cons_succ, List.set_cons_zero, List.set_cons_succ, Nat.reduceAdd, Nat.reduceSub, Nat.reduceLT, ite_true, ite_false, reduceIte, reduceCtorEq, Nat.reduceLeDiff, Bool.false_eq_true, x_parM, x_asL]
  · rw [if_neg hin]
    simp only [sL, ey, slotL, en, decide_eq_false hin, Bool.not_false, s1, s2, app_pI, runD, entry, x_sq, x_asM, x_rtM, x_tgM, x_ifM, few0, few1, few2, few3, few4, few5, few6, few7, few8, few9, x_andM, x_orM, x_notM, x_andT, x_orT, bd, Sd.ret, lf, fl, rd, Sd.st, stL, appM, mutS, putS, setM, slotM, hasS, seqM, itM, popZ, mvS, lstS, callM, sfM, x_isB, x_isI, x_lt, x_le, x_gt, x_ge, x_add, x_sub, tsC, tsN, len_tup, len_lst, x_tupL, x_tupT, x_lstL, x_lstT, x_intB, x_abs, Option.bind_some, Option.bind_none, List.map_cons, List.map_nil, List.length_cons, List.length_nil, List.replicate, List.cons_append, List.nil_append, List.getElem?_cons_zero, List.getElem?_cons_succ, List.set_cons_zero, List.set_cons_succ, Nat.reduceAdd, Nat.reduceSub, Nat.reduceLT, ite_true, ite_false, reduceIte, reduceCtorEq, Nat.reduceLeDiff, Bool.false_eq_true, x_parM, x_asL]
theorem pI_nil : pI [] = [] := rfl
theorem label_wh {N : Nat} (hN : N ≤ 24) (h3 : wh.length ≤ 3) (hw : ∀ w ∈ wh, w.length = N ∧ ∀ x ∈ w, 0 ≤ x ∧ x < N) {a : Int} (ha : 0 ≤ a ∧ a < N) : ∃ s', (whGo (andT (bd (slotL 8) fun l => ret (!l.isEmpty)) (bd (rd 1) fun x => bd (ret (.str "turn")) fun y => lf ((eqD x y).bind isB))) (sq (asM 9 (popM 8)) (Sd.forM (Sd.st 10) (bd (rd 4) itM) (ifM (bd (bd (hasS 10) fun _ => bd (rd 9) fun i => bd (lf (isI i)) fun k => bd (slotM 10) fun l => lf (L2.atI l k)) fun d => bd (slotL 7) fun l => lf ((notInD d (.lst l)).bind isB)) (sq (appM 7 (bd (hasS 10) fun _ => bd (rd 9) fun i => bd (lf (isI i)) fun k => bd (slotM 10) fun l => lf (L2.atI l k))) (appM 8 (bd (hasS 10) fun _ => bd (rd 9) fun i => bd (lf (isI i)) fun k => bd (slotM 10) fun l => lf (L2.atI l k)))) (ret .nx)))) 100000) (sL rows wh gD tD "turn" a ([a], [a]) .un .un st) = some (.nx, s') ∧ ∃ n v9 v10, s' = sL rows wh gD tD "turn" a (itT wh n ([a], [a])) v9 v10 st ∧ (itT wh n ([a], [a])).2 = [] ∧ Ti N (itT wh n ([a], [a])) ∧ (v9 = .un ∨ ∃ d, v9 = .dat d) := by
  have es : eqD (.str "turn") (.str "turn") = some (.bl true) := eq_str _
  have hin : In N [a] := fun x hx => by
    have : x = a := by simpa using hx
    exact this ▸ ha
  have h0 : Ti N ([a], [a]) := ⟨hin, hin, by simp, by simp⟩
  have hm0 : muT N ([a], [a]) ≤ 60 := by unfold muT; simp; omega
  have key := whI (mc := (andT (bd (slotL 8) fun l => ret (!l.isEmpty)) (bd (rd 1) fun x => bd (ret (.str "turn")) fun y => lf ((eqD x y).bind isB)))) (mb := (sq (asM 9 (popM 8)) (Sd.forM (Sd.st 10) (bd (rd 4) itM) (ifM (bd (bd (hasS 10) fun _ => bd (rd 9) fun i => bd (lf (isI i)) fun k => bd (slotM 10) fun l => lf (L2.atI l k)) fun d => bd (slotL 7) fun l => lf ((notInD d (.lst l)).bind isB)) (sq (appM 7 (bd (hasS 10) fun _ => bd (rd 9) fun i => bd (lf (isI i)) fun k => bd (slotM 10) fun l => lf (L2.atI l k))) (appM 8 (bd (hasS 10) fun _ => bd (rd 9) fun i => bd (lf (isI i)) fun k => bd (slotM 10) fun l => lf (L2.atI l k)))) (ret .nx))))) (fun s => ∃ n v9 v10, s = sL rows wh gD tD "turn" a (itT wh n ([a], [a])) v9 v10 st ∧ Ti N (itT wh n ([a], [a])) ∧ muT N (itT wh n ([a], [a])) ≤ 60 ∧ (v9 = .un ∨ ∃ d, v9 = .dat d)) (fun (s : S) => match s.r[7]?, s.r[8]? with | some (SV.chg l), some (SV.chg l2) => 2 * (N - l.length) + l2.length | _, _ => 0) ?_ 100000 _ ⟨0, .un, .un, rfl, h0, hm0, .inl rfl⟩ (by show 2 * (N - (pI [a]).length) + (pI [a]).length < 100000; simp [pI]; omega)
  · obtain ⟨s', e, ⟨n, v9, v10, rfl, k1, k2, k3⟩, e2⟩ := key
    refine ⟨_, e, n, v9, v10, rfl, ?_, k1, k3⟩
    rcases List.eq_nil_or_concat (itT wh n ([a], [a])).2 with hz | ⟨l0, x, hz⟩
    · exact hz
    · exfalso
      rw [List.concat_eq_append] at hz
      have p1 : pI (l0 ++ [x]) = pI l0 ++ [.int x] := by simp [pI]
      have he : (pI l0 ++ [D.int x]).isEmpty = false := by cases pI l0 <;> rfl
      simp only [sL, hz, slotL, p1, he, Bool.not_false, es, runD, entry, x_sq, x_asM, x_rtM, x_tgM, x_ifM, few0, few1, few2, few3, few4, few5, few6, few7, few8, few9, x_andM, x_orM, x_notM, x_andT, x_orT, bd, Sd.ret, lf, fl, rd, Sd.st, stL, appM, mutS, putS, setM, slotM, hasS, seqM, itM, popZ, mvS, lstS, callM, sfM, x_isB, x_isI, x_lt, x_le, x_gt, x_ge, x_add, x_sub, tsC, tsN, len_tup, len_lst, x_tupL, x_tupT, x_lstL, x_lstT, x_intB, x_abs, Option.bind_some, Option.bind_none, List.map_cons, List.map_nil, List.length_cons, List.length_nil, List.replicate, List.cons_append, List.nil_append, List.getElem?_cons_zero, List.getElem?_cons_succ, List.set_cons_zero, List.set_cons_succ, Nat.reduceAdd, Nat.reduceSub, Nat.reduceLT, ite_true, ite_false, reduceIte, reduceCtorEq, Nat.reduceLeDiff, Bool.false_eq_true, x_parM, x_asL] at e2
      simp at e2
  · rintro s ⟨n, v9, v10, rfl, g1, g2, g3⟩
    generalize hq : itT wh n ([a], [a]) = q at g1 g2
    obtain ⟨sn, lf0⟩ := q
    rcases List.eq_nil_or_concat lf0 with rfl | ⟨l0, x, rfl⟩
    · left
      simp only [sL, slotL, pI_nil, List.isEmpty_nil, Bool.not_true, runD, entry, x_sq, x_asM, x_rtM, x_tgM, x_ifM, few0, few1, few2, few3, few4, few5, few6, few7, few8, few9, x_andM, x_orM, x_notM, x_andT, x_orT, bd, Sd.ret, lf, fl, rd, Sd.st, stL, appM, mutS, putS, setM, slotM, hasS, seqM, itM, popZ, mvS, lstS, callM, sfM, x_isB, x_isI, x_lt, x_le, x_gt, x_ge, x_add, x_sub, tsC, tsN, len_tup, len_lst, x_tupL, x_tupT, x_lstL, x_lstT, x_intB, x_abs, Option.bind_some, Option.bind_none, List.map_cons, List.map_nil, List.length_cons, List.length_nil, List.replicate, List.cons_append, List.nil_append, List.getElem?_cons_zero, List.getElem?_cons_succ, List.set_cons_zero, List.set_cons_succ, Nat.reduceAdd, Nat.reduceSub, Nat.reduceLT, ite_true, ite_false, reduceIte, reduceCtorEq, Nat.reduceLeDiff, Bool.false_eq_true, x_parM, x_asL]
    · right
      rw [List.concat_eq_append] at *
      obtain ⟨k1, k2, k3, k4, k5⟩ := stT_ok hw g1
      have hmu : muT N (sn, l0) ≤ 100 := by
        unfold muT at g2 ⊢
        simp at g2 ⊢
        omega
      obtain ⟨s', e, w10, rfl⟩ := label_in (st := st) (gD := gD) (tD := tD) (rows := rows) hN h3 hw (w := "turn") (a := a) (v10 := v10) k5 k2 hmu
      have p1 : pI (l0 ++ [x]) = pI l0 ++ [.int x] := by simp [pI]
      have he : (pI l0 ++ [D.int x]).isEmpty = false := by cases pI l0 <;> rfl
      have hn1 : itT wh (n + 1) ([a], [a]) = inT wh x (sn, l0) := by
        show stT wh (itT wh n ([a], [a])) = _
        rw [hq, k1]
      refine ⟨sL rows wh gD tD "turn" a (inT wh x (sn, l0)) (.dat (.int x)) w10 st, ?_, ?_, ⟨n + 1, _, _, by rw [hn1], by rw [hn1]; exact k3, by rw [hn1]; omega, .inr ⟨_, rfl⟩⟩, ?_⟩
      · simp only [sL, slotL, p1, he, Bool.not_false, es, runD, entry, x_sq, x_asM, x_rtM, x_tgM, x_ifM, few0, few1, few2, few3, few4, few5, few6, few7, few8, few9, x_andM, x_orM, x_notM, x_andT, x_orT, bd, Sd.ret, lf, fl, rd, Sd.st, stL, appM, mutS, putS, setM, slotM, hasS, seqM, itM, popZ, mvS, lstS, callM, sfM, x_isB, x_isI, x_lt, x_le, x_gt, x_ge, x_add, x_sub, tsC, tsN, len_tup, len_lst, x_tupL, x_tupT, x_lstL, x_lstT, x_intB, x_abs, Option.bind_some, Option.bind_none, List.map_cons, List.map_nil, List.length_cons, List.length_nil, List.replicate, List.cons_append, List.nil_append, List.getElem?_cons_zero, List.getElem?_cons_succ, List.set_cons_zero, List.set_cons_succ, Nat.reduceAdd, Nat.reduceSub, Nat.reduceLT, ite_true, ite_false, reduceIte, reduceCtorEq, Nat.reduceLeDiff, Bool.false_eq_true, x_parM, x_asL]
      · simp only [sL] at e
        simp only [sL, p1, x_popM, List.getLast?_append, List.getLast?_singleton, List.dropLast_concat, Option.some_or, e, runD, entry, x_sq, x_asM, x_rtM, x_tgM, x_ifM, few0, few1, few2, few3, few4, few5, few6, few7, few8, few9, x_andM, x_orM, x_notM, x_andT, x_orT, bd, Sd.ret, lf, fl, rd, Sd.st, stL, appM, mutS, putS, setM, slotM, hasS, seqM, itM, popZ, mvS, lstS, callM, sfM, x_isB, x_isI, x_lt, x_le, x_gt, x_ge, x_add, x_sub, tsC, tsN, len_tup, len_lst, x_tupL, x_tupT, x_lstL, x_lstT, x_intB, x_abs, Option.bind_some, Option.bind_none, List.map_cons, List.map_nil, List.length_cons, List.length_nil, List.replicate, List.cons_append, List.nil_append, List.getElem?_cons_zero, List.getElem?_cons_succ, List.set_cons_zero, List.set_cons_succ, Nat.reduceAdd, Nat.reduceSub, Nat.reduceLT, ite_true, ite_false, reduceIte, reduceCtorEq, Nat.reduceLeDiff, Bool.false_eq_true, x_parM, x_asL]
      · show 2 * (N - (pI (inT wh x (sn, l0)).1).length) + (pI (inT wh x (sn, l0)).2).length < 2 * (N - (pI sn).length) + (pI (l0 ++ [x])).length
        rw [pI_len, pI_len, pI_len, pI_len]
        exact k4
end
end K04

namespace K04
open Sd
section
variable {st : List SO} {rows : List Row} {wh : List (List Int)} {gD tD : D}
theorem t4 {u : List D → M Unit} {a b c d : D} : tsT 4 u (.tup [a, b, c, d]) = u [a, b, c, d] := x_tsT rfl
theorem at_hd' (x : D) (l : List D) : L2.atI (x :: l) 0 = some x := atI_nat (k := 0) rfl
theorem eq_strs (x y : PySem.Str) : eqD (.str x) (.str y) = some (.bl (decide (x = y))) := by
  unfold eqD eqS
  simp
def nmOf (rows : List Row) (x : Int) : Int := ((rows[x.toNat]?).map Row.nm).getD 0
theorem row_at {x : Int} (hx : 0 ≤ x ∧ x < rows.length) : ∃ r, L2.atI (rows.map pRow) x = some (pRow r) ∧ r.nm = nmOf rows x := by
  obtain ⟨n, rfl⟩ := Int.eq_ofNat_of_zero_le hx.1
  have hn : n < rows.length := by omega
  refine ⟨rows[n], at_map (List.getElem?_eq_getElem hn), ?_⟩
  unfold nmOf
  simp [hn]
theorem label_lc {w : PySem.Str} {a : Int} {seen left : List Int} {v9 v10 : SV} (hs : In rows.length seen) (hl : seen.length ≤ 1000) (h9 : v9 = .un ∨ ∃ d, v9 = .dat d) : ∃ r', (lcM [9] (Sd.st 9) (ret true) (bd (bd (hasS 3) fun _ => bd (rd 9) fun i => bd (lf (isI i)) fun k => bd (slotM 3) fun l => lf (L2.atI l k)) fun x => bd (ret (.int 2)) fun i => bd (lf (isI i)) fun k => bd (seqM x) fun l => lf (L2.atI l k)) (bd (rd 7) itM)) (sL rows wh gD tD w a (seen, left) v9 v10 st) = some (pI (seen.map (nmOf rows)), ⟨r', st⟩) := by
  have e := lcMXA (own := [9]) (ts := (Sd.st 9)) (me := (bd (bd (hasS 3) fun _ => bd (rd 9) fun i => bd (lf (isI i)) fun k => bd (slotM 3) fun l => lf (L2.atI l k)) fun x => bd (ret (.int 2)) fun i => bd (lf (isI i)) fun k => bd (seqM x) fun l => lf (L2.atI l k))) (mi := (bd (rd 7) itM)) (s := sL rows wh gD tD w a (seen, left) v9 v10 st) (s1 := ⟨[.dat (datD rows wh gD tD), .dat (.str w), .dat (.int a), .dat (.tup (rows.map pRow)), .dat (.tup (pW wh)), .dat gD, .dat tD, .dat (.lst (pI seen)), .chg (pI left), v9, v10], st⟩) (l := seen) (g := D.int) (f := fun x => .int (nmOf rows x)) (σ := fun x => ⟨[.dat (datD rows wh gD tD), .dat (.str w), .dat (.int a), .dat (.tup (rows.map pRow)), .dat (.tup (pW wh)), .dat gD, .dat tD, .dat (.lst (pI seen)), .chg (pI left), .dat (.int x), v10], st⟩) rfl (by omega) (by rcases h9 with rfl | ⟨d, rfl⟩ <;> rfl) (fun x hx => ⟨rfl, rfl, by
    obtain ⟨r, e1, e2⟩ := row_at (hs x hx)
    simp only [e1, ← e2, pRow, at52, runD, entry, x_sq, x_asM, x_rtM, x_tgM, x_ifM, few0, few1, few2, few3, few4, few5, few6, few7, few8, few9, x_andM, x_orM, x_notM, x_andT, x_orT, bd, Sd.ret, lf, fl, rd, Sd.st, stL, appM, mutS, putS, setM, slotM, hasS, seqM, itM, popZ, mvS, lstS, callM, sfM, x_isB, x_isI, x_lt, x_le, x_gt, x_ge, x_add, x_sub, tsC, tsN, len_tup, len_lst, x_tupL, x_tupT, x_lstL, x_lstT, x_intB, x_abs, Option.bind_some, Option.bind_none, List.map_cons, List.map_nil, List.length_cons, List.length_nil, List.replicate, List.cons_append, List.nil_append, List.getElem?_cons_zero, List.getElem?_cons_succ, List.set_cons_zero, List.set_cons_succ, Nat.reduceAdd, Nat.reduceSub, Nat.reduceLT, ite_true, ite_false, reduceIte, reduceCtorEq, Nat.reduceLeDiff, Bool.false_eq_true, x_parM, x_asL]⟩)
  have e3 : seen.map (fun x => D.int (nmOf rows x)) = pI (seen.map (nmOf rows)) := by simp [pI]
  rw [e3] at e
  exact ⟨_, e⟩
/-- what the label is by a word -/
inductive Lab (rows : List Row) (wh : List (List Int)) (a : Int) : PySem.Str → Int → Prop
  | st : Lab rows wh a "standing" a
  | nm : Lab rows wh a "name" (nmOf rows a)
  | tn {n : Nat} {m : Int} (h : (itT wh n ([a], [a])).2 = []) (hm : lea ((itT wh n ([a], [a])).1.map (nmOf rows)) = some m) : Lab rows wh a "turn" m
theorem lea1 (x : Int) : lea [x] = some x := rfl
theorem f_llabel (h24 : rows.length ≤ 24) (h3 : wh.length ≤ 3) (hw : ∀ w ∈ wh, w.length = rows.length ∧ ∀ x ∈ w, 0 ≤ x ∧ x < rows.length) {w : PySem.Str} (hww : w = "standing" ∨ w = "name" ∨ w = "turn") {a : Int} (ha : 0 ≤ a ∧ a < rows.length) : ∃ x, d__law_label [datD rows wh gD tD, .str w, .int a] st = some (.tup [.int x], st) ∧ Lab rows wh a w x := by
  have h1 : In rows.length [a] := fun x hx => by
    have : x = a := by simpa using hx
    exact this ▸ ha
  have p1 : pI [a] = [.int a] := rfl
  rcases hww with rfl | rfl | rfl
  · have es : eqD (.str "standing") (.str "standing") = some (.bl true) := eq_str _
    exact ⟨a, by simp only [d__law_label, m__law_label, t4, es, runD, entry, x_sq, x_asM, x_rtM, x_tgM, x_ifM, few0, few1, few2, few3, few4, few5, few6, few7, few8, few9, x_andM, x_orM, x_notM, x_andT, x_orT, bd, Sd.ret, lf, fl, rd, Sd.st, stL, appM, mutS, putS, setM, slotM, hasS, seqM, itM, popZ, mvS, lstS, callM, sfM, x_isB, x_isI, x_lt, x_le, x_gt, x_ge, x_add, x_sub, tsC, tsN, len_tup, len_lst, x_tupL, x_tupT, x_lstL, x_lstT, x_intB, x_abs, Option.bind_some, Option.bind_none, List.map_cons, List.map_nil, List.length_cons, List.length_nil, List.replicate, List.cons_append, List.nil_append, List.getElem?_cons_zero, List.getElem?_cons_succ, List.set_cons_zero, List.set_cons_succ, Nat.reduceAdd, Nat.reduceSub, Nat.reduceLT, ite_true, ite_false, reduceIte, reduceCtorEq, Nat.reduceLeDiff, Bool.false_eq_true, x_parM, x_asL], .st⟩
  · have es : eqD (.str "name") (.str "standing") = some (.bl false) := by rw [eq_strs, decide_eq_false (by decide +kernel)]
    have et : eqD (.str "name") (.str "turn") = some (.bl false) := by rw [eq_strs, decide_eq_false (by decide +kernel)]
    obtain ⟨r', e⟩ := label_lc (st := st) (wh := wh) (gD := gD) (tD := tD) (w := "name") (a := a) (seen := [a]) (left := [a]) (v9 := .un) (v10 := .un) h1 (by simp) (.inl rfl)
    have e2 := min_lst (lea1 (nmOf rows a))
    refine ⟨nmOf rows a, ?_, .nm⟩
    have e0 : (whGo (andT (bd (slotL 8) fun l => ret (!l.isEmpty)) (bd (rd 1) fun x => bd (ret (.str "turn")) fun y => lf ((eqD x y).bind isB))) (sq (asM 9 (popM 8)) (Sd.forM (Sd.st 10) (bd (rd 4) itM) (ifM (bd (bd (hasS 10) fun _ => bd (rd 9) fun i => bd (lf (isI i)) fun k => bd (slotM 10) fun l => lf (L2.atI l k)) fun d => bd (slotL 7) fun l => lf ((notInD d (.lst l)).bind isB)) (sq (appM 7 (bd (hasS 10) fun _ => bd (rd 9) fun i => bd (lf (isI i)) fun k => bd (slotM 10) fun l => lf (L2.atI l k))) (appM 8 (bd (hasS 10) fun _ => bd (rd 9) fun i => bd (lf (isI i)) fun k => bd (slotM 10) fun l => lf (L2.atI l k)))) (ret .nx)))) 100000) (sL rows wh gD tD "name" a ([a], [a]) .un .un st) = some (.nx, sL rows wh gD tD "name" a ([a], [a]) .un .un st) := by
      show bd _ _ _ = _
      simp only [sL, slotL, pI, List.isEmpty_cons, Bool.not_false, et, runD, entry, x_sq, x_asM, x_rtM, x_tgM, x_ifM, few0, few1, few2, few3, few4, few5, few6, few7, few8, few9, x_andM, x_orM, x_notM, x_andT, x_orT, bd, Sd.ret, lf, fl, rd, Sd.st, stL, appM, mutS, putS, setM, slotM, hasS, seqM, itM, popZ, mvS, lstS, callM, sfM, x_isB, x_isI, x_lt, x_le, x_gt, x_ge, x_add, x_sub, tsC, tsN, len_tup, len_lst, x_tupL, x_tupT, x_lstL, x_lstT, x_intB, x_abs, Option.bind_some, Option.bind_none, List.map_cons, List.map_nil, List.length_cons, List.length_nil, List.replicate, List.cons_append, List.nil_append, List.getElem?_cons_zero, List.getElem?_cons_succ, List.set_cons_zero, List.set_cons_succ, Nat.reduceAdd, Nat.reduceSub, Nat.reduceLT, ite_true, ite_false, reduceIte, reduceCtorEq, Nat.reduceLeDiff, Bool.false_eq_true, x_parM, x_asL]
    have p2 : [a].map (nmOf rows) = [nmOf rows a] := rfl
    rw [p2] at e
    simp only [sL, datD, p1] at e e0
    simp only [d__law_label, m__law_label, t4, es, e0, e, e2, datD, runD, entry, x_sq, x_asM, x_rtM, x_tgM, x_ifM, few0, few1, few2, few3, few4, few5, few6, few7, few8, few9, x_andM, x_orM, x_notM, x_andT, x_orT, bd, Sd.ret, lf, fl, rd, Sd.st, stL, appM, mutS, putS, setM, slotM, hasS, seqM, itM, popZ, mvS, lstS, callM, sfM, x_isB, x_isI, x_lt, x_le, x_gt, x_ge, x_add, x_sub, tsC, tsN, len_tup, len_lst, x_tupL, x_tupT, x_lstL, x_lstT, x_intB, x_abs, Option.bind_some, Option.bind_none, List.map_cons, List.map_nil, List.length_cons, List.length_nil, List.replicate, List.cons_append, List.nil_append, List.getElem?_cons_zero, List.getElem?_cons_succ, List.set_cons_zero, List.set_cons_succ, Nat.reduceAdd, Nat.reduceSub, Nat.reduceLT, ite_true, ite_false, reduceIte, reduceCtorEq, Nat.reduceLeDiff, Bool.false_eq_true, x_parM, x_asL]
  · have es : eqD (.str "turn") (.str "standing") = some (.bl false) := by rw [eq_strs, decide_eq_false (by decide +kernel)]
    obtain ⟨s', e0, n, v9, v10, rfl, g1, g2, g3⟩ := label_wh (st := st) (rows := rows) (gD := gD) (tD := tD) h24 h3 hw ha
    have hl := g2.len
    obtain ⟨r', e⟩ := label_lc (st := st) (wh := wh) (gD := gD) (tD := tD) (w := "turn") (a := a) (seen := (itT wh n ([a], [a])).1) (left := (itT wh n ([a], [a])).2) (v9 := v9) (v10 := v10) g2.s (by omega) g3
    obtain ⟨m, hm⟩ := lea_some (l := (itT wh n ([a], [a])).1.map (nmOf rows)) (by simpa using g2.ne)
    have e2 := min_lst hm
    refine ⟨m, ?_, .tn g1 hm⟩
    simp only [sL, datD, p1] at e e0
    simp only [d__law_label, m__law_label, t4, es, e0, e, e2, datD, runD, entry, x_sq, x_asM, x_rtM, x_tgM, x_ifM, few0, few1, few2, few3, few4, few5, few6, few7, few8, few9, x_andM, x_orM, x_notM, x_andT, x_orT, bd, Sd.ret, lf, fl, rd, Sd.st, stL, appM, mutS, putS, setM, slotM, hasS, seqM, itM, popZ, mvS, lstS, callM, sfM, x_isB, x_isI, x_lt, x_le, x_gt, x_ge, x_add, x_sub, tsC, tsN, len_tup, len_lst, x_tupL, x_tupT, x_lstL, x_lstT, x_intB, x_abs, Option.bind_some, Option.bind_none, List.map_cons, List.map_nil, List.length_cons, List.length_nil, List.replicate, List.cons_append, List.nil_append, List.getElem?_cons_zero, List.getElem?_cons_succ, List.set_cons_zero, List.set_cons_succ, Nat.reduceAdd, Nat.reduceSub, Nat.reduceLT, ite_true, ite_false, reduceIte, reduceCtorEq, Nat.reduceLeDiff, Bool.false_eq_true, x_parM, x_asL]
theorem Lab.same {a : Int} {w : PySem.Str} {x y : Int} (h1 : Lab rows wh a w x) (h2 : Lab rows wh a w y) : x = y := by
  generalize hw : w = w' at h2
  cases h1 with
  | st => cases h2 with
    | st => rfl
    | nm => exact absurd hw (by decide +kernel)
    | tn => exact absurd hw (by decide +kernel)
  | nm => cases h2 with
    | st => exact absurd hw (by decide +kernel)
    | nm => rfl
    | tn => exact absurd hw (by decide +kernel)
  | tn k1 k2 => cases h2 with
    | st => exact absurd hw (by decide +kernel)
    | nm => exact absurd hw (by decide +kernel)
    | tn k3 k4 =>
      rw [itT_same k1 k3, k4] at k2
      exact (Option.some.inj k2).symm
/-! the program's label -/
theorem fl_t {s : S} : fldM 0 "table" (task rows wh gD tD) s = some (.tup (rows.map pRow), s) := rfl
theorem fl_m {s : S} : fldM 0 "maps" (task rows wh gD tD) s = some (.tup (pW wh), s) := rfl
theorem ic_named {s : S} : insC 0 "named" (task rows wh gD tD) s = some ((), s) := rfl
theorem ic_turnings {s : S} : insC 0 "turnings" (task rows wh gD tD) s = some ((), s) := rfl
theorem ic_turned {s : S} : insC 0 "turned" (task rows wh gD tD) s = some ((), s) := rfl
theorem f_named {x : Int} (hx : 0 ≤ x ∧ x < rows.length) : d_Told_named [task rows wh gD tD, .tup [.int x]] st = some (.tup [.int (nmOf rows x)], st) := by
  obtain ⟨r, e1, e2⟩ := row_at hx
  simp only [d_Told_named, m_Told_named, fl_t, at_hd', e1, pRow, at52, e2, runD, entry, x_sq, x_asM, x_rtM, x_tgM, x_ifM, few0, few1, few2, few3, few4, few5, few6, few7, few8, few9, x_andM, x_orM, x_notM, x_andT, x_orT, bd, Sd.ret, lf, fl, rd, Sd.st, stL, appM, mutS, putS, setM, slotM, hasS, seqM, itM, popZ, mvS, lstS, callM, sfM, x_isB, x_isI, x_lt, x_le, x_gt, x_ge, x_add, x_sub, tsC, tsN, len_tup, len_lst, x_tupL, x_tupT, x_lstL, x_lstT, x_intB, x_abs, Option.bind_some, Option.bind_none, List.map_cons, List.map_nil, List.length_cons, List.length_nil, List.replicate, List.cons_append, List.nil_append, List.getElem?_cons_zero, List.getElem?_cons_succ, List.set_cons_zero, List.set_cons_succ, Nat.reduceAdd, Nat.reduceSub, Nat.reduceLT, ite_true, ite_false, reduceIte, reduceCtorEq, Nat.reduceLeDiff, Bool.false_eq_true, x_parM, x_asL]
theorem f_turnings : d_Told_turnings [task rows wh gD tD] st = some (.int wh.length, st) := by
  have e : lenF [.tup (pW wh)] = some (.int wh.length) := by rw [len_tup, pW, List.length_map]
  simp only [d_Told_turnings, m_Told_turnings, fl_m, e, runD, entry, x_sq, x_asM, x_rtM, x_tgM, x_ifM, few0, few1, few2, few3, few4, few5, few6, few7, few8, few9, x_andM, x_orM, x_notM, x_andT, x_orT, bd, Sd.ret, lf, fl, rd, Sd.st, stL, appM, mutS, putS, slotM, hasS, seqM, itM, popZ, mvS, lstS, callM, sfM, x_isB, x_isI, x_lt, x_le, x_gt, x_ge, x_add, x_sub, tsC, tsN, len_tup, len_lst, x_tupL, x_tupT, x_lstL, x_lstT, x_intB, x_abs, Option.bind_some, Option.bind_none, List.map_cons, List.map_nil, List.length_cons, List.length_nil, List.replicate, List.cons_append, List.nil_append, List.getElem?_cons_zero, List.getElem?_cons_succ, List.set_cons_zero, List.set_cons_succ, Nat.reduceAdd, Nat.reduceSub, Nat.reduceLT, ite_true, ite_false, reduceIte, reduceCtorEq, Nat.reduceLeDiff, Bool.false_eq_true, x_parM, x_asL]
theorem f_turned {j : Nat} {w : List Int} {x : Int} (hj : wh[j]? = some w) (e : L2.atI (pI w) x = some (.int (tAt w x))) : d_Told_turned [task rows wh gD tD, .int j, .tup [.int x]] st = some (.tup [.int (tAt w x)], st) := by
  have e1 : L2.atI (pW wh) (j : Int) = some (.tup (pI w)) := at_map hj
  simp only [d_Told_turned, m_Told_turned, fl_m, e1, at_hd', e, runD, entry, x_sq, x_asM, x_rtM, x_tgM, x_ifM, few0, few1, few2, few3, few4, few5, few6, few7, few8, few9, x_andM, x_orM, x_notM, x_andT, x_orT, bd, Sd.ret, lf, fl, rd, Sd.st, stL, appM, mutS, putS, setM, slotM, hasS, seqM, itM, popZ, mvS, lstS, callM, sfM, x_isB, x_isI, x_lt, x_le, x_gt, x_ge, x_add, x_sub, tsC, tsN, len_tup, len_lst, x_tupL, x_tupT, x_lstL, x_lstT, x_intB, x_abs, Option.bind_some, Option.bind_none, List.map_cons, List.map_nil, List.length_cons, List.length_nil, List.replicate, List.cons_append, List.nil_append, List.getElem?_cons_zero, List.getElem?_cons_succ, List.set_cons_zero, List.set_cons_succ, Nat.reduceAdd, Nat.reduceSub, Nat.reduceLT, ite_true, ite_false, reduceIte, reduceCtorEq, Nat.reduceLeDiff, Bool.false_eq_true, x_parM, x_asL]
def pT (l : List Int) : List (List Int × D) := l.map fun x => ([x], .bl true)
def pU (l : List Int) : List D := l.map fun x => .tup [.int x]
theorem pT_any (l : List Int) (y : Int) : ((pT l).any fun q => decide (q.1 = [y])) = decide (y ∈ l) := by
  unfold pT
  rw [List.any_map, Bool.eq_iff_iff]
  simp
theorem pT_put {l : List Int} {y : Int} (h : y ∉ l) : putT (pT l) [y] (.bl true) = pT (l ++ [y]) := by
  unfold putT
  rw [pT_any, if_neg (by simpa using h)]
  simp [pT]
theorem pU_app (l : List Int) (y : Int) : pU l ++ [.tup [.int y]] = pU (l ++ [y]) := by simp [pU]
theorem pU_len (l : List Int) : (pU l).length = l.length := by simp [pU]
theorem pT_len (l : List Int) : (pT l).length = l.length := by simp [pT]
theorem kT_pT (l : List Int) : kT (pT l) = pU l := by
  unfold kT pT pU
  rw [List.map_map]
  rfl
abbrev sA (rows : List Row) (wh : List (List Int)) (gD tD : D) (a : Int) (q : Tn) (v4 v5 v6 : SV) (st : List SO) : S := ⟨[.dat (task rows wh gD tD), .dat (.tup [.int a]), .dic (.t (pT q.1)), .chg (pU q.2), v4, v5, v6], st⟩
theorem zi_len (o : List (List Int)) : (List.range o.length).map (fun (i : Nat) => D.int ((i : Nat) : Int)) = o.zipIdx.map fun q => D.int ((q.2 : Nat) : Int) := zi_rng o
theorem turned_in {N : Nat} (hN : N ≤ 24) (h3 : wh.length ≤ 3) (hw : ∀ w ∈ wh, w.length = N ∧ ∀ x ∈ w, 0 ≤ x ∧ x < N) {a x : Int} {q : Tn} {v5 v6 : SV} (hx : 0 ≤ x ∧ x < N) (hq : Ti N q) (hm : muT N q ≤ 100) :
    ∃ s', (Sd.forM (Sd.st 5) (bd (bd (rd 0) fun d => bd (insC 0 "turnings" d) fun _ => callM d_Told_turnings [d]) fun x => lf (rng1 x)) (sq (asM 6 (bd (rd 0) fun d => bd (insC 0 "turned" d) fun _ => bd (bd (rd 5) fun x => bd (bd (rd 4) fun x => bd (ret []) fun xs => ret (x :: xs)) fun xs => ret (x :: xs)) fun ds => callM d_Told_turned (d :: ds))) (ifM (bd (rd 6) fun d => bd (lf (keyI d)) fun ks => bd (dicT 2) fun l => ret (!l.any fun q => decide (q.1 = ks))) (sq (setTM 2 (ret (.bl true)) (rd 6)) (appM 3 (rd 6))) (ret .nx)))) (sA rows wh gD tD a q (.dat (.tup [.int x])) v5 v6 st) = some (.nx, s') ∧ ∃ v5 v6, s' = sA rows wh gD tD a (inT wh x q) (.dat (.tup [.int x])) v5 v6 st := by
  have hr := rng_map (n := wh.length) (by omega)
  rw [zi_rng] at hr
  have et := f_turnings (st := st) (rows := rows) (wh := wh) (gD := gD) (tD := tD)
  have key := forMI (ts := (Sd.st 5)) (mi := (bd (bd (rd 0) fun d => bd (insC 0 "turnings" d) fun _ => callM d_Told_turnings [d]) fun x => lf (rng1 x))) (mb := (sq (asM 6 (bd (rd 0) fun d => bd (insC 0 "turned" d) fun _ => bd (bd (rd 5) fun x => bd (bd (rd 4) fun x => bd (ret []) fun xs => ret (x :: xs)) fun xs => ret (x :: xs)) fun ds => callM d_Told_turned (d :: ds))) (ifM (bd (rd 6) fun d => bd (lf (keyI d)) fun ks => bd (dicT 2) fun l => ret (!l.any fun q => decide (q.1 = ks))) (sq (setTM 2 (ret (.bl true)) (rd 6)) (appM 3 (rd 6))) (ret .nx)))) (l := wh.zipIdx) (f := fun q => D.int ((q.2 : Nat) : Int)) (s := sA rows wh gD tD a q (.dat (.tup [.int x])) v5 v6 st) (s1 := sA rows wh gD tD a q (.dat (.tup [.int x])) v5 v6 st) (fun pre s => ∃ v5 v6, s = sA rows wh gD tD a (inT (pre.map (·.1)) x q) (.dat (.tup [.int x])) v5 v6 st) (by
    simp only [sA, ic_turnings, et, hr, runD, entry, x_sq, x_asM, x_rtM, x_tgM, x_ifM, few0, few1, few2, few3, few4, few5, few6, few7, few8, few9, x_andM, x_orM, x_notM, x_andT, x_orT, bd, Sd.ret, lf, fl, rd, Sd.st, stL, appM, mutS, putS, setM, slotM, hasS, seqM, itM, popZ, mvS, lstS, callM, sfM, x_isB, x_isI, x_lt, x_le, x_gt, x_ge, x_add, x_sub, tsC, tsN, len_tup, len_lst, x_tupL, x_tupT, x_lstL, x_lstT, x_intB, x_abs, Option.bind_some, Option.bind_none, List.map_cons, List.map_nil, List.length_cons, List.length_nil, List.replicate, List.cons_append, List.nil_append, List.getElem?_cons_zero, List.getElem?_cons_succ, List.set_cons_zero, List.set_cons_succ, Nat.reduceAdd, Nat.reduceSub, Nat.reduceLT, ite_true, ite_false, reduceIte, reduceCtorEq, Nat.reduceLeDiff, Bool.false_eq_true, x_parM, x_asL]) ⟨v5, v6, rfl⟩ ?_
  · obtain ⟨s', e, v5, v6, rfl⟩ := key
    refine ⟨_, e, v5, v6, ?_⟩
    rw [List.zipIdx_map_fst]
  rintro pre y post s hy ⟨v5, v6, rfl⟩
  have hz := zip_at (l := wh) (q := y) (by rw [hy]; simp)
  obtain ⟨hy1, ey⟩ := tAt_ok hw hx y.1 (List.mem_of_getElem? hz.1)
  have hi := inT_ok (wh := pre.map (·.1)) (x := x) hq fun v hv => by
    obtain ⟨z, hz, rfl⟩ := List.mem_map.mp hv
    exact (tAt_ok hw hx z.1 (List.mem_of_getElem? (zip_at (l := wh) (q := z) (by rw [hy]; exact List.mem_append_left _ hz)).1)).1
  have hl := hi.1.len
  have hmu := hi.2
  unfold muT at hmu
  have s1 : (pT (inT (pre.map (·.1)) x q).1).length < 1000 := by rw [pT_len]; omega
  have s2 : (pU (inT (pre.map (·.1)) x q).2).length < 100000 := by rw [pU_len]; unfold muT at hm; omega
  have e1 := f_turned (st := st) (rows := rows) (gD := gD) (tD := tD) hz.1 ey
  rw [List.map_append, List.map_cons, List.map_nil, inT_snoc]
  refine ⟨sA rows wh gD tD a (inT (pre.map (·.1)) x q) (.dat (.tup [.int x])) (.dat (.int (y.2 : Nat))) v6 st, sA rows wh gD tD a (oneT (inT (pre.map (·.1)) x q) (tAt y.1 x)) (.dat (.tup [.int x])) (.dat (.int (y.2 : Nat))) (.dat (.tup [.int (tAt y.1 x)])) st, rfl, ?_, _, _, rfl⟩
  unfold oneT
  by_cases hin : tAt y.1 x ∈ (inT (pre.map (·.1)) x q).1
  · rw [if_pos hin]
    simp only [sA, ic_turned, e1, x_keyI1, dicT, pT_any, decide_eq_true hin, Bool.not_true, runD, entry, x_sq, x_asM, x_rtM, x_tgM, x_ifM, few0, few1, few2, few3, few4, few5, few6, few7, few8, few9, x_andM, x_orM, x_notM, x_andT, x_orT, bd, Sd.ret, lf, fl, rd, Sd.st, stL, appM, mutS, putS, setM, slotM, hasS, seqM, itM, popZ, mvS, lstS, callM, sfM, x_isB, x_isI, x_lt, x_le, x_gt, x_ge, x_add, x_sub, tsC, tsN, len_tup, len_lst, x_tupL, x_tupT, x_lstL, x_lstT, x_intB, x_abs, Option.bind_some, Option.bind_none, List.map_cons, List.map_nil, List.length_cons, List.length_nil, List.replicate, List.cons_append, List.nil_append, List.getElem?_cons_zero, List.getElem?_cons_succ, List.set_cons_zero, List.set_cons_succ, Nat.reduceAdd, Nat.reduceSub, Nat.reduceLT, ite_true, ite_false, reduceIte, reduceCtorEq, Nat.reduceLeDiff, Bool.false_eq_true, x_parM, x_asL]
  · rw [if_neg hin]
    simp only [sA, ic_turned, e1, x_keyI1, dicT, setTM, pT_any, decide_eq_false hin, Bool.not_false, s1, s2, pT_put hin, pU_app, runD, entry, x_sq, x_asM, x_rtM, x_tgM, x_ifM, few0, few1, few2, few3, few4, few5, few6, few7, few8, few9, x_andM, x_orM, x_notM, x_andT, x_orT, bd, Sd.ret, lf, fl, rd, Sd.st, stL, appM, mutS, putS, setM, slotM, hasS, seqM, itM, popZ, mvS, lstS, callM, sfM, x_isB, x_isI, x_lt, x_le, x_gt, x_ge, x_add, x_sub, tsC, tsN, len_tup, len_lst, x_tupL, x_tupT, x_lstL, x_lstT, x_intB, x_abs, Option.bind_some, Option.bind_none, List.map_cons, List.map_nil, List.length_cons, List.length_nil, List.replicate, List.cons_append, List.nil_append, List.getElem?_cons_zero, List.getElem?_cons_succ, List.set_cons_zero, List.set_cons_succ, Nat.reduceAdd, Nat.reduceSub, Nat.reduceLT, ite_true, ite_false, reduceIte, reduceCtorEq, Nat.reduceLeDiff, Bool.false_eq_true, x_parM, x_asL]
theorem f_all_turned (h24 : rows.length ≤ 24) (h3 : wh.length ≤ 3) (hw : ∀ w ∈ wh, w.length = rows.length ∧ ∀ x ∈ w, 0 ≤ x ∧ x < rows.length) {a : Int} (ha : 0 ≤ a ∧ a < rows.length) : ∃ n, d_all_turned [task rows wh gD tD, .tup [.int a]] st = some (.lst (pU (itT wh n ([a], [a])).1), st) ∧ (itT wh n ([a], [a])).2 = [] ∧ Ti rows.length (itT wh n ([a], [a])) := by
  have hin : In rows.length [a] := fun x hx => by
    have : x = a := by simpa using hx
    exact this ▸ ha
  have h0 : Ti rows.length ([a], [a]) := ⟨hin, hin, by simp, by simp⟩
  have hm0 : muT rows.length ([a], [a]) ≤ 60 := by unfold muT; simp; omega
  have key := whI (mc := (bd (mutM 3) fun l => ret (!l.isEmpty))) (mb := (sq (asM 4 (popM 3)) (Sd.forM (Sd.st 5) (bd (bd (rd 0) fun d => bd (insC 0 "turnings" d) fun _ => callM d_Told_turnings [d]) fun x => lf (rng1 x)) (sq (asM 6 (bd (rd 0) fun d => bd (insC 0 "turned" d) fun _ => bd (bd (rd 5) fun x => bd (bd (rd 4) fun x => bd (ret []) fun xs => ret (x :: xs)) fun xs => ret (x :: xs)) fun ds => callM d_Told_turned (d :: ds))) (ifM (bd (rd 6) fun d => bd (lf (keyI d)) fun ks => bd (dicT 2) fun l => ret (!l.any fun q => decide (q.1 = ks))) (sq (setTM 2 (ret (.bl true)) (rd 6)) (appM 3 (rd 6))) (ret .nx)))))) (fun s => ∃ n v4 v5 v6, s = sA rows wh gD tD a (itT wh n ([a], [a])) v4 v5 v6 st ∧ Ti rows.length (itT wh n ([a], [a])) ∧ muT rows.length (itT wh n ([a], [a])) ≤ 60) (fun (s : S) => match s.r[2]?, s.r[3]? with | some (SV.dic (.t l)), some (SV.chg l2) => 2 * (rows.length - l.length) + l2.length | _, _ => 0) ?_ 100000 _ ⟨0, .un, .un, .un, rfl, h0, hm0⟩ (by show 2 * (rows.length - (pT [a]).length) + (pU [a]).length < 100000; simp [pT, pU]; omega)
  · obtain ⟨s', e, ⟨n, v4, v5, v6, rfl, k1, k2⟩, e2⟩ := key
    have hz : (itT wh n ([a], [a])).2 = [] := by
      rcases List.eq_nil_or_concat (itT wh n ([a], [a])).2 with hz | ⟨l0, x, hz⟩
      · exact hz
      · exfalso
        rw [List.concat_eq_append] at hz
        have he : (pU (l0 ++ [x])).isEmpty = false := by
          unfold pU
          cases l0 <;> rfl
        simp only [sA, hz, x_mutM, he, Bool.not_false, runD, entry, x_sq, x_asM, x_rtM, x_tgM, x_ifM, few0, few1, few2, few3, few4, few5, few6, few7, few8, few9, x_andM, x_orM, x_notM, x_andT, x_orT, bd, Sd.ret, lf, fl, rd, Sd.st, stL, appM, mutS, putS, setM, slotM, hasS, seqM, itM, popZ, mvS, lstS, callM, sfM, x_isB, x_isI, x_lt, x_le, x_gt, x_ge, x_add, x_sub, tsC, tsN, len_tup, len_lst, x_tupL, x_tupT, x_lstL, x_lstT, x_intB, x_abs, Option.bind_some, Option.bind_none, List.map_cons, List.map_nil, List.length_cons, List.length_nil, List.replicate, List.cons_append, List.nil_append, List.getElem?_cons_zero, List.getElem?_cons_succ, List.set_cons_zero, List.set_cons_succ, Nat.reduceAdd, Nat.reduceSub, Nat.reduceLT, ite_true, ite_false, reduceIte, reduceCtorEq, Nat.reduceLeDiff, Bool.false_eq_true, x_parM, x_asL] at e2
        simp at e2
    refine ⟨n, ?_, hz, k1⟩
    have p1 : pT [a] = [([a], .bl true)] := rfl
    have p2 : pU [a] = [.tup [.int a]] := rfl
    have p3 : itT wh 0 ([a], [a]) = ([a], [a]) := rfl
    simp only [sA, p3, p1, p2] at e
    simp only [d_all_turned, m_all_turned, newTM, dicT, x_keyI1, e, kT_pT, runD, entry, x_sq, x_asM, x_rtM, x_tgM, x_ifM, few0, few1, few2, few3, few4, few5, few6, few7, few8, few9, x_andM, x_orM, x_notM, x_andT, x_orT, bd, Sd.ret, lf, fl, rd, Sd.st, stL, appM, mutS, putS, setM, slotM, hasS, seqM, itM, popZ, mvS, lstS, callM, sfM, x_isB, x_isI, x_lt, x_le, x_gt, x_ge, x_add, x_sub, tsC, tsN, len_tup, len_lst, x_tupL, x_tupT, x_lstL, x_lstT, x_intB, x_abs, Option.bind_some, Option.bind_none, List.map_cons, List.map_nil, List.length_cons, List.length_nil, List.replicate, List.cons_append, List.nil_append, List.getElem?_cons_zero, List.getElem?_cons_succ, List.set_cons_zero, List.set_cons_succ, Nat.reduceAdd, Nat.reduceSub, Nat.reduceLT, ite_true, ite_false, reduceIte, reduceCtorEq, Nat.reduceLeDiff, Bool.false_eq_true, x_parM, x_asL]
  · rintro s ⟨n, v4, v5, v6, rfl, g1, g2⟩
    generalize hq : itT wh n ([a], [a]) = q at g1 g2
    obtain ⟨sn, lf0⟩ := q
    rcases List.eq_nil_or_concat lf0 with rfl | ⟨l0, x, rfl⟩
    · left
      have p2 : pU [] = [] := rfl
      simp only [sA, x_mutM, p2, List.isEmpty_nil, Bool.not_true, runD, entry, x_sq, x_asM, x_rtM, x_tgM, x_ifM, few0, few1, few2, few3, few4, few5, few6, few7, few8, few9, x_andM, x_orM, x_notM, x_andT, x_orT, bd, Sd.ret, lf, fl, rd, Sd.st, stL, appM, mutS, putS, setM, slotM, hasS, seqM, itM, popZ, mvS, lstS, callM, sfM, x_isB, x_isI, x_lt, x_le, x_gt, x_ge, x_add, x_sub, tsC, tsN, len_tup, len_lst, x_tupL, x_tupT, x_lstL, x_lstT, x_intB, x_abs, Option.bind_some, Option.bind_none, List.map_cons, List.map_nil, List.length_cons, List.length_nil, List.replicate, List.cons_append, List.nil_append, List.getElem?_cons_zero, List.getElem?_cons_succ, List.set_cons_zero, List.set_cons_succ, Nat.reduceAdd, Nat.reduceSub, Nat.reduceLT, ite_true, ite_false, reduceIte, reduceCtorEq, Nat.reduceLeDiff, Bool.false_eq_true, x_parM, x_asL]
    · right
      rw [List.concat_eq_append] at *
      obtain ⟨k1, k2, k3, k4, k5⟩ := stT_ok hw g1
      have hmu : muT rows.length (sn, l0) ≤ 100 := by
        unfold muT at g2 ⊢
        simp at g2 ⊢
        omega
      obtain ⟨s', e, w5, w6, rfl⟩ := turned_in (st := st) (gD := gD) (tD := tD) (rows := rows) h24 h3 hw (a := a) (v5 := v5) (v6 := v6) k5 k2 hmu
      have p1 : pU (l0 ++ [x]) = pU l0 ++ [.tup [.int x]] := by simp [pU]
      have he : (pU l0 ++ [D.tup [.int x]]).isEmpty = false := by cases pU l0 <;> rfl
      have hn1 : itT wh (n + 1) ([a], [a]) = inT wh x (sn, l0) := by
        show stT wh (itT wh n ([a], [a])) = _
        rw [hq, k1]
      refine ⟨sA rows wh gD tD a (inT wh x (sn, l0)) (.dat (.tup [.int x])) w5 w6 st, ?_, ?_, ⟨n + 1, _, _, _, by rw [hn1], by rw [hn1]; exact k3, by rw [hn1]; omega⟩, ?_⟩
      · simp only [sA, x_mutM, p1, he, Bool.not_false, runD, entry, x_sq, x_asM, x_rtM, x_tgM, x_ifM, few0, few1, few2, few3, few4, few5, few6, few7, few8, few9, x_andM, x_orM, x_notM, x_andT, x_orT, bd, Sd.ret, lf, fl, rd, Sd.st, stL, appM, mutS, putS, setM, slotM, hasS, seqM, itM, popZ, mvS, lstS, callM, sfM, x_isB, x_isI, x_lt, x_le, x_gt, x_ge, x_add, x_sub, tsC, tsN, len_tup, len_lst, x_tupL, x_tupT, x_lstL, x_lstT, x_intB, x_abs, Option.bind_some, Option.bind_none, List.map_cons, List.map_nil, List.length_cons, List.length_nil, List.replicate, List.cons_append, List.nil_append, List.getElem?_cons_zero, List.getElem?_cons_succ, List.set_cons_zero, List.set_cons_succ, Nat.reduceAdd, Nat.reduceSub, Nat.reduceLT, ite_true, ite_false, reduceIte, reduceCtorEq, Nat.reduceLeDiff, Bool.false_eq_true, x_parM, x_asL]
      · simp only [sA] at e
        simp only [sA, p1, x_popM, List.getLast?_append, List.getLast?_singleton, List.dropLast_concat, Option.some_or, e, runD, entry, x_sq, x_asM, x_rtM, x_tgM, x_ifM, few0, few1, few2, few3, few4, few5, few6, few7, few8, few9, x_andM, x_orM, x_notM, x_andT, x_orT, bd, Sd.ret, lf, fl, rd, Sd.st, stL, appM, mutS, putS, setM, slotM, hasS, seqM, itM, popZ, mvS, lstS, callM, sfM, x_isB, x_isI, x_lt, x_le, x_gt, x_ge, x_add, x_sub, tsC, tsN, len_tup, len_lst, x_tupL, x_tupT, x_lstL, x_lstT, x_intB, x_abs, Option.bind_some, Option.bind_none, List.map_cons, List.map_nil, List.length_cons, List.length_nil, List.replicate, List.cons_append, List.nil_append, List.getElem?_cons_zero, List.getElem?_cons_succ, List.set_cons_zero, List.set_cons_succ, Nat.reduceAdd, Nat.reduceSub, Nat.reduceLT, ite_true, ite_false, reduceIte, reduceCtorEq, Nat.reduceLeDiff, Bool.false_eq_true, x_parM, x_asL]
      · show 2 * (rows.length - (pT (inT wh x (sn, l0)).1).length) + (pU (inT wh x (sn, l0)).2).length < 2 * (rows.length - (pT sn).length) + (pU (l0 ++ [x])).length
        rw [pT_len, pU_len, pT_len, pU_len]
        exact k4
theorem t1I_pU : ∀ l : List Int, t1I (pU l) = some l
  | [] => rfl
  | x :: l => by
    show (t1I (pU l)).bind (fun l => some (x :: l)) = _
    rw [t1I_pU l]
    rfl
theorem f_label (h24 : rows.length ≤ 24) (h3 : wh.length ≤ 3) (hw : ∀ w ∈ wh, w.length = rows.length ∧ ∀ x ∈ w, 0 ≤ x ∧ x < rows.length) {w : PySem.Str} (hww : w = "standing" ∨ w = "name" ∨ w = "turn") {a : Int} (ha : 0 ≤ a ∧ a < rows.length) : ∃ x, d_label [task rows wh gD tD, .str w, .tup [.int a]] st = some (.tup [.int x], st) ∧ Lab rows wh a w x := by
  rcases hww with rfl | rfl | rfl
  · have es : eqD (.str "standing") (.str "standing") = some (.bl true) := eq_str _
    exact ⟨a, by simp only [d_label, m_label, es, runD, entry, x_sq, x_asM, x_rtM, x_tgM, x_ifM, few0, few1, few2, few3, few4, few5, few6, few7, few8, few9, x_andM, x_orM, x_notM, x_andT, x_orT, bd, Sd.ret, lf, fl, rd, Sd.st, stL, appM, mutS, putS, setM, slotM, hasS, seqM, itM, popZ, mvS, lstS, callM, sfM, x_isB, x_isI, x_lt, x_le, x_gt, x_ge, x_add, x_sub, tsC, tsN, len_tup, len_lst, x_tupL, x_tupT, x_lstL, x_lstT, x_intB, x_abs, Option.bind_some, Option.bind_none, List.map_cons, List.map_nil, List.length_cons, List.length_nil, List.replicate, List.cons_append, List.nil_append, List.getElem?_cons_zero, List.getElem?_cons_succ, List.set_cons_zero, List.set_cons_succ, Nat.reduceAdd, Nat.reduceSub, Nat.reduceLT, ite_true, ite_false, reduceIte, reduceCtorEq, Nat.reduceLeDiff, Bool.false_eq_true, x_parM, x_asL], .st⟩
  · have es : eqD (.str "name") (.str "standing") = some (.bl false) := by rw [eq_strs, decide_eq_false (by decide +kernel)]
    have et : eqD (.str "name") (.str "name") = some (.bl true) := eq_str _
    have e1 := f_named (st := st) (wh := wh) (gD := gD) (tD := tD) ha
    exact ⟨_, by simp only [d_label, m_label, es, et, ic_named, e1, runD, entry, x_sq, x_asM, x_rtM, x_tgM, x_ifM, few0, few1, few2, few3, few4, few5, few6, few7, few8, few9, x_andM, x_orM, x_notM, x_andT, x_orT, bd, Sd.ret, lf, fl, rd, Sd.st, stL, appM, mutS, putS, setM, slotM, hasS, seqM, itM, popZ, mvS, lstS, callM, sfM, x_isB, x_isI, x_lt, x_le, x_gt, x_ge, x_add, x_sub, tsC, tsN, len_tup, len_lst, x_tupL, x_tupT, x_lstL, x_lstT, x_intB, x_abs, Option.bind_some, Option.bind_none, List.map_cons, List.map_nil, List.length_cons, List.length_nil, List.replicate, List.cons_append, List.nil_append, List.getElem?_cons_zero, List.getElem?_cons_succ, List.set_cons_zero, List.set_cons_succ, Nat.reduceAdd, Nat.reduceSub, Nat.reduceLT, ite_true, ite_false, reduceIte, reduceCtorEq, Nat.reduceLeDiff, Bool.false_eq_true, x_parM, x_asL], .nm⟩
  · have es : eqD (.str "turn") (.str "standing") = some (.bl false) := by rw [eq_strs, decide_eq_false (by decide +kernel)]
    have et : eqD (.str "turn") (.str "name") = some (.bl false) := by rw [eq_strs, decide_eq_false (by decide +kernel)]
    obtain ⟨n, e0, g1, g2⟩ := f_all_turned (st := st) (gD := gD) (tD := tD) h24 h3 hw ha
    have hl := g2.len
    have e := lcMXA (own := [3]) (ts := (Sd.st 3)) (me := (bd (rd 0) fun d => bd (insC 0 "named" d) fun _ => bd (bd (rd 3) fun x => bd (ret []) fun xs => ret (x :: xs)) fun ds => callM d_Told_named (d :: ds))) (mi := (bd (bd (bd (rd 0) fun x => bd (bd (rd 2) fun x => bd (ret []) fun xs => ret (x :: xs)) fun xs => ret (x :: xs)) fun ds => callM d_all_turned ds) itM)) (s := ⟨[.dat (task rows wh gD tD), .dat (.str "turn"), .dat (.tup [.int a]), .un], st⟩) (s1 := ⟨[.dat (task rows wh gD tD), .dat (.str "turn"), .dat (.tup [.int a]), .un], st⟩) (l := (itT wh n ([a], [a])).1) (g := fun x => .tup [.int x]) (f := fun x => .tup [.int (nmOf rows x)]) (σ := fun x => ⟨[.dat (task rows wh gD tD), .dat (.str "turn"), .dat (.tup [.int a]), .dat (.tup [.int x])], st⟩) (by
      simp only [e0, pU, runD, entry, x_sq, x_asM, x_rtM, x_tgM, x_ifM, few0, few1, few2, few3, few4, few5, few6, few7, few8, few9, x_andM, x_orM, x_notM, x_andT, x_orT, bd, Sd.ret, lf, fl, rd, Sd.st, stL, appM, mutS, putS, setM, slotM, hasS, seqM, itM, popZ, mvS, lstS, callM, sfM, x_isB, x_isI, x_lt, x_le, x_gt, x_ge, x_add, x_sub, tsC, tsN, len_tup, len_lst, x_tupL, x_tupT, x_lstL, x_lstT, x_intB, x_abs, Option.bind_some, Option.bind_none, List.map_cons, List.map_nil, List.length_cons, List.length_nil, List.replicate, List.cons_append, List.nil_append, List.getElem?_cons_zero, List.getElem?_cons_succ, List.set_cons_zero, List.set_cons_succ, Nat.reduceAdd, Nat.reduceSub, Nat.reduceLT, ite_true, ite_false, reduceIte, reduceCtorEq, Nat.reduceLeDiff, Bool.false_eq_true, x_parM, x_asL]) (by omega) rfl (fun x hx => ⟨rfl, rfl, by
      have e1 := f_named (st := st) (wh := wh) (gD := gD) (tD := tD) (g2.s x hx)
      simp only [ic_named, e1, runD, entry, x_sq, x_asM, x_rtM, x_tgM, x_ifM, few0, few1, few2, few3, few4, few5, few6, few7, few8, few9, x_andM, x_orM, x_notM, x_andT, x_orT, bd, Sd.ret, lf, fl, rd, Sd.st, stL, appM, mutS, putS, setM, slotM, hasS, seqM, itM, popZ, mvS, lstS, callM, sfM, x_isB, x_isI, x_lt, x_le, x_gt, x_ge, x_add, x_sub, tsC, tsN, len_tup, len_lst, x_tupL, x_tupT, x_lstL, x_lstT, x_intB, x_abs, Option.bind_some, Option.bind_none, List.map_cons, List.map_nil, List.length_cons, List.length_nil, List.replicate, List.cons_append, List.nil_append, List.getElem?_cons_zero, List.getElem?_cons_succ, List.set_cons_zero, List.set_cons_succ, Nat.reduceAdd, Nat.reduceSub, Nat.reduceLT, ite_true, ite_false, reduceIte, reduceCtorEq, Nat.reduceLeDiff, Bool.false_eq_true, x_parM, x_asL]⟩)
    obtain ⟨m, hm⟩ := lea_some (l := (itT wh n ([a], [a])).1.map (nmOf rows)) (by simpa using g2.ne)
    have e3 : (itT wh n ([a], [a])).1.map (fun x => D.tup [.int (nmOf rows x)]) = pU ((itT wh n ([a], [a])).1.map (nmOf rows)) := by simp [pU]
    rw [e3] at e
    have e4 : minT [.lst (pU ((itT wh n ([a], [a])).1.map (nmOf rows)))] = some (.tup [.int m]) := by
      show (t1I _).bind _ = _
      rw [t1I_pU, Option.bind_some, hm]
      rfl
    exact ⟨m, by simp only [d_label, m_label, es, et, e, e4, runD, entry, x_sq, x_asM, x_rtM, x_tgM, x_ifM, few0, few1, few2, few3, few4, few5, few6, few7, few8, few9, x_andM, x_orM, x_notM, x_andT, x_orT, bd, Sd.ret, lf, fl, rd, Sd.st, stL, appM, mutS, putS, setM, slotM, hasS, seqM, itM, popZ, mvS, lstS, callM, sfM, x_isB, x_isI, x_lt, x_le, x_gt, x_ge, x_add, x_sub, tsC, tsN, len_tup, len_lst, x_tupL, x_tupT, x_lstL, x_lstT, x_intB, x_abs, Option.bind_some, Option.bind_none, List.map_cons, List.map_nil, List.length_cons, List.length_nil, List.replicate, List.cons_append, List.nil_append, List.getElem?_cons_zero, List.getElem?_cons_succ, List.set_cons_zero, List.set_cons_succ, Nat.reduceAdd, Nat.reduceSub, Nat.reduceLT, ite_true, ite_false, reduceIte, reduceCtorEq, Nat.reduceLeDiff, Bool.false_eq_true, x_parM, x_asL], .tn g1 hm⟩
theorem f_both (h24 : rows.length ≤ 24) (h3 : wh.length ≤ 3) (hw : ∀ w ∈ wh, w.length = rows.length ∧ ∀ x ∈ w, 0 ≤ x ∧ x < rows.length) {w : PySem.Str} (hww : w = "standing" ∨ w = "name" ∨ w = "turn") {a : Int} (ha : 0 ≤ a ∧ a < rows.length) : ∃ x, d_label [task rows wh gD tD, .str w, .tup [.int a]] st = some (.tup [.int x], st) ∧ d__law_label [datD rows wh gD tD, .str w, .int a] st = some (.tup [.int x], st) := by
  obtain ⟨x, e1, h1⟩ := f_label (st := st) (gD := gD) (tD := tD) h24 h3 hw hww ha
  obtain ⟨y, e2, h2⟩ := f_llabel (st := st) (gD := gD) (tD := tD) h24 h3 hw hww ha
  rw [← h1.same h2] at e2
  exact ⟨x, e1, e2⟩
end
end K04

namespace K04
open Sd
/-! drawn turnings -/
section
variable {k : Nat} {rest st : List SO}
theorem rg_pI {n : Nat} (h : n < 1000) : rgD (.int 0) (.int (n : Nat)) = some (pI ((List.range n).map fun (i : Nat) => (i : Int))) := by
  show (if ((-1000 : Int) < 0 ∧ (0 : Int) < 1000) ∧ ((-1000 : Int) < (n : Int) ∧ (n : Int) < 1000) then some (rangeL 0 ((n : Int) - 0).toNat) else none) = _
  rw [if_pos ⟨by decide, by omega, by omega⟩]
  have : ((n : Int) - 0).toNat = n := by omega
  rw [this]
  simp [rangeL, pI]
def WOk (N : Nat) (w : List Int) : Prop := w.length = N ∧ ∀ x ∈ w, 0 ≤ x ∧ x < N
theorem pW_app (wh : List (List Int)) (w : List Int) : pW wh ++ [.tup (pI w)] = pW (wh ++ [w]) := by simp [pW]
theorem pW_len (wh : List (List Int)) : (pW wh).length = wh.length := by simp [pW]
abbrev sM (N : Nat) (wh : List (List Int)) (v3 v4 v5 v6 : SV) (st : List SO) : S := ⟨[.dat (.ref 1), .dat (.int N), .chg (pW wh), v3, v4, v5, v6], st⟩
theorem maps_one {N : Nat} (hN : 1 ≤ N ∧ N ≤ 24) {wh : List (List Int)} (hl : wh.length ≤ 10) {v3 v4 v5 : SV} (h : Dk k rest st) (hk : k ≤ 900000) :
    ∃ w u4 u5 st', (sq (asM 4 (bd (bd (rd 0) fun x => bd (ret []) fun xs => ret (x :: xs)) fun ds => callM d__law_next ds)) (sq (asM 5 (bd (bd (bd (lcM [6] (Sd.st 6) (ret true) (bd (bd (bd (rd 0) fun x => bd (ret []) fun xs => ret (x :: xs)) fun ds => callM d__law_next ds) fun x => bd (rd 1) fun y => lf (modD x y)) (bd (rd 1) fun x => lf (rng1 x))) fun l => ret (.lst l)) fun x => bd (ret []) fun xs => ret (x :: xs)) fun ds => lf (tupleF ds))) (sq (ifM (bd (bd (rd 4) fun x => bd (ret (.int 3)) fun y => lf (modD x y)) fun x => bd (ret (.int 0)) fun y => lf ((eqD x y).bind isB)) (asM 5 (bd (bd (bd (lcM [6] (Sd.st 6) (ret true) (bd (bd (bd (rd 6) fun x => bd (ret (.int 1)) fun y => lf (addD x y)) fun x => bd (bd (rd 4) fun x => bd (ret (.int 3)) fun y => lf (fdivD x y)) fun y => lf (addD x y)) fun x => bd (rd 1) fun y => lf (modD x y)) (bd (rd 1) fun x => lf (rng1 x))) fun l => ret (.lst l)) fun x => bd (ret []) fun xs => ret (x :: xs)) fun ds => lf (tupleF ds))) (ret .nx)) (sq (ifM (bd (bd (rd 4) fun x => bd (ret (.int 7)) fun y => lf (modD x y)) fun x => bd (ret (.int 0)) fun y => lf ((eqD x y).bind isB)) (asM 5 (bd (rd 1) fun x => bd (lf (isI x)) fun j => bd (lf (rgD (.int 0) (.int j))) fun l => ret (.tup l))) (ret .nx)) (appM 2 (rd 5)))))) (sM N wh v3 v4 v5 .un st) = some (.nx, sM N (wh ++ [w]) v3 u4 u5 .un st') ∧ WOk N w ∧ Dk (k + 30) rest st' := by
  obtain ⟨num, st1, e1, hn, h1⟩ := f_next h (by omega)
  have hr := rng_map (n := N) (by omega)
  obtain ⟨acc, s', r, e2, ⟨w1, st2, v6, rfl, rfl, g1, g2, g3⟩, e3⟩ := lcMI (own := [6]) (ts := (Sd.st 6)) (mc := (ret true)) (me := (bd (bd (bd (rd 0) fun x => bd (ret []) fun xs => ret (x :: xs)) fun ds => callM d__law_next ds) fun x => bd (rd 1) fun y => lf (modD x y))) (mi := (bd (rd 1) fun x => lf (rng1 x))) (s := sM N wh v3 (.dat (.int num)) v5 .un st1) (s1 := sM N wh v3 (.dat (.int num)) v5 .un st1) (l := List.range N) (f := fun (i : Nat) => D.int ((i : Nat) : Int)) (fun pre acc s => ∃ js st2 v6, acc = pI js ∧ s = sM N wh v3 (.dat (.int num)) v5 v6 st2 ∧ js.length = pre.length ∧ (∀ x ∈ js, 0 ≤ x ∧ x < N) ∧ Dk (k + 1 + pre.length) rest st2) (by
      simp only [sM, hr, runD, entry, x_sq, x_asM, x_rtM, x_tgM, x_ifM, few0, few1, few2, few3, few4, few5, few6, few7, few8, few9, x_andM, x_orM, x_notM, x_andT, x_orT, bd, Sd.ret, lf, fl, rd, Sd.st, stL, appM, mutS, putS, setM, slotM, hasS, seqM, itM, popZ, mvS, lstS, callM, sfM, x_isB, x_isI, x_lt, x_le, x_gt, x_ge, x_add, x_sub, tsC, tsN, len_tup, len_lst, x_tupL, x_tupT, x_lstL, x_lstT, x_intB, x_abs, Option.bind_some, Option.bind_none, List.map_cons, List.map_nil, List.length_cons, List.length_nil, List.replicate, List.cons_append, List.nil_append, List.getElem?_cons_zero, List.getElem?_cons_succ, List.set_cons_zero, List.set_cons_succ, Nat.reduceAdd, Nat.reduceSub, Nat.reduceLT, ite_true, ite_false, reduceIte, reduceCtorEq, Nat.reduceLeDiff, Bool.false_eq_true, x_parM, x_asL]) (by simp; omega) ⟨[], st1, .un, rfl, rfl, rfl, fun _ h => absurd h (by simp), h1⟩ (by
      rintro pre i post acc s hx ⟨js, st2, v, rfl, rfl, g1, g2, g3⟩
      have hpl : pre.length < N := by
        have := congrArg List.length hx
        simp at this
        omega
      obtain ⟨y, st4, e5, hy, d4⟩ := f_next g3 (by omega)
      have m1 : modD (.int y) (.int N) = some (.int (y % N)) := x_mod (by omega)
      refine ⟨sM N wh v3 (.dat (.int num)) v5 (.dat (.int i)) st2, true, sM N wh v3 (.dat (.int num)) v5 (.dat (.int i)) st2, rfl, rfl, fun z => Bool.noConfusion z, fun _ => ⟨.int (y % N), sM N wh v3 (.dat (.int num)) v5 (.dat (.int i)) st4, ?_, js ++ [y % N], st4, _, app_pI js _, rfl, by simp; omega, fun x hx => ?_, d4.up (by simp; omega)⟩⟩
      · simp only [sM, e5, m1, runD, entry, x_sq, x_asM, x_rtM, x_tgM, x_ifM, few0, few1, few2, few3, few4, few5, few6, few7, few8, few9, x_andM, x_orM, x_notM, x_andT, x_orT, bd, Sd.ret, lf, fl, rd, Sd.st, stL, appM, mutS, putS, setM, slotM, hasS, seqM, itM, popZ, mvS, lstS, callM, sfM, x_isB, x_isI, x_lt, x_le, x_gt, x_ge, x_add, x_sub, tsC, tsN, len_tup, len_lst, x_tupL, x_tupT, x_lstL, x_lstT, x_intB, x_abs, Option.bind_some, Option.bind_none, List.map_cons, List.map_nil, List.length_cons, List.length_nil, List.replicate, List.cons_append, List.nil_append, List.getElem?_cons_zero, List.getElem?_cons_succ, List.set_cons_zero, List.set_cons_succ, Nat.reduceAdd, Nat.reduceSub, Nat.reduceLT, ite_true, ite_false, reduceIte, reduceCtorEq, Nat.reduceLeDiff, Bool.false_eq_true, x_parM, x_asL]
      · rcases List.mem_append.mp hx with hx | hx
        · exact g2 x hx
        · have : x = y % N := by simpa using hx
          rw [this]
          exact ⟨Int.emod_nonneg _ (by omega), Int.emod_lt_of_pos _ (by omega)⟩) (by
      rintro acc s' ⟨js, st2, v6, rfl, rfl, _⟩
      exact ⟨_, rfl⟩)
  cases e3
  have e2 : (lcM [6] (Sd.st 6) (ret true) (bd (bd (bd (rd 0) fun x => bd (ret []) fun xs => ret (x :: xs)) fun ds => callM d__law_next ds) fun x => bd (rd 1) fun y => lf (modD x y)) (bd (rd 1) fun x => lf (rng1 x))) (sM N wh v3 (.dat (.int num)) v5 .un st1) = some (pI w1, sM N wh v3 (.dat (.int num)) v5 .un st2) := e2
  have g1 : w1.length = N := by simpa using g1
  have hw1 : WOk N w1 := ⟨g1, g2⟩
  have m3 : modD (.int num) (.int 3) = some (.int (num % 3)) := x_mod (by decide)
  have m7 : modD (.int num) (.int 7) = some (.int (num % 7)) := x_mod (by decide)
  have d3 : fdivD (.int num) (.int 3) = some (.int (num / 3)) := x_fdiv (by decide) (by decide)
  have i1 : ∃ w2, (ifM (bd (bd (rd 4) fun x => bd (ret (.int 3)) fun y => lf (modD x y)) fun x => bd (ret (.int 0)) fun y => lf ((eqD x y).bind isB)) (asM 5 (bd (bd (bd (lcM [6] (Sd.st 6) (ret true) (bd (bd (bd (rd 6) fun x => bd (ret (.int 1)) fun y => lf (addD x y)) fun x => bd (bd (rd 4) fun x => bd (ret (.int 3)) fun y => lf (fdivD x y)) fun y => lf (addD x y)) fun x => bd (rd 1) fun y => lf (modD x y)) (bd (rd 1) fun x => lf (rng1 x))) fun l => ret (.lst l)) fun x => bd (ret []) fun xs => ret (x :: xs)) fun ds => lf (tupleF ds))) (ret .nx)) (sM N wh v3 (.dat (.int num)) (.dat (.tup (pI w1))) .un st2) = some (.nx, sM N wh v3 (.dat (.int num)) (.dat (.tup (pI w2))) .un st2) ∧ WOk N w2 := by
    by_cases hz : num % 3 = 0
    · have e := lcMXA (own := [6]) (ts := (Sd.st 6)) (me := (bd (bd (bd (rd 6) fun x => bd (ret (.int 1)) fun y => lf (addD x y)) fun x => bd (bd (rd 4) fun x => bd (ret (.int 3)) fun y => lf (fdivD x y)) fun y => lf (addD x y)) fun x => bd (rd 1) fun y => lf (modD x y))) (mi := (bd (rd 1) fun x => lf (rng1 x))) (s := sM N wh v3 (.dat (.int num)) (.dat (.tup (pI w1))) .un st2) (s1 := sM N wh v3 (.dat (.int num)) (.dat (.tup (pI w1))) .un st2) (l := List.range N) (g := fun (i : Nat) => D.int ((i : Nat) : Int)) (f := fun (i : Nat) => .int (((i : Int) + 1 + num / 3) % N)) (σ := fun i => sM N wh v3 (.dat (.int num)) (.dat (.tup (pI w1))) (.dat (.int (i : Nat))) st2) (by
        simp only [sM, hr, runD, entry, x_sq, x_asM, x_rtM, x_tgM, x_ifM, few0, few1, few2, few3, few4, few5, few6, few7, few8, few9, x_andM, x_orM, x_notM, x_andT, x_orT, bd, Sd.ret, lf, fl, rd, Sd.st, stL, appM, mutS, putS, setM, slotM, hasS, seqM, itM, popZ, mvS, lstS, callM, sfM, x_isB, x_isI, x_lt, x_le, x_gt, x_ge, x_add, x_sub, tsC, tsN, len_tup, len_lst, x_tupL, x_tupT, x_lstL, x_lstT, x_intB, x_abs, Option.bind_some, Option.bind_none, List.map_cons, List.map_nil, List.length_cons, List.length_nil, List.replicate, List.cons_append, List.nil_append, List.getElem?_cons_zero, List.getElem?_cons_succ, List.set_cons_zero, List.set_cons_succ, Nat.reduceAdd, Nat.reduceSub, Nat.reduceLT, ite_true, ite_false, reduceIte, reduceCtorEq, Nat.reduceLeDiff, Bool.false_eq_true, x_parM, x_asL]) (by simp; omega) rfl (fun i hi => ⟨rfl, rfl, by
        simp only [sM, d3, x_mod (show (0 : Int) < (N : Int) by omega), runD, entry, x_sq, x_asM, x_rtM, x_tgM, x_ifM, few0, few1, few2, few3, few4, few5, few6, few7, few8, few9, x_andM, x_orM, x_notM, x_andT, x_orT, bd, Sd.ret, lf, fl, rd, Sd.st, stL, appM, mutS, putS, setM, slotM, hasS, seqM, itM, popZ, mvS, lstS, callM, sfM, x_isB, x_isI, x_lt, x_le, x_gt, x_ge, x_add, x_sub, tsC, tsN, len_tup, len_lst, x_tupL, x_tupT, x_lstL, x_lstT, x_intB, x_abs, Option.bind_some, Option.bind_none, List.map_cons, List.map_nil, List.length_cons, List.length_nil, List.replicate, List.cons_append, List.nil_append, List.getElem?_cons_zero, List.getElem?_cons_succ, List.set_cons_zero, List.set_cons_succ, Nat.reduceAdd, Nat.reduceSub, Nat.reduceLT, ite_true, ite_false, reduceIte, reduceCtorEq, Nat.reduceLeDiff, Bool.false_eq_true, x_parM, x_asL]⟩)
      have e0 : (List.range N).map (fun (i : Nat) => D.int (((i : Int) + 1 + num / 3) % N)) = pI ((List.range N).map fun (i : Nat) => ((i : Int) + 1 + num / 3) % N) := by simp [pI]
      rw [e0] at e
      refine ⟨(List.range N).map fun (i : Nat) => ((i : Int) + 1 + num / 3) % N, ?_, by simp, fun x hx => ?_⟩
      · simp only [sM] at e
        simp only [sM, m3, eq_int, decide_eq_true hz, e, runD, entry, x_sq, x_asM, x_rtM, x_tgM, x_ifM, few0, few1, few2, few3, few4, few5, few6, few7, few8, few9, x_andM, x_orM, x_notM, x_andT, x_orT, bd, Sd.ret, lf, fl, rd, Sd.st, stL, appM, mutS, putS, setM, slotM, hasS, seqM, itM, popZ, mvS, lstS, callM, sfM, x_isB, x_isI, x_lt, x_le, x_gt, x_ge, x_add, x_sub, tsC, tsN, len_tup, len_lst, x_tupL, x_tupT, x_lstL, x_lstT, x_intB, x_abs, Option.bind_some, Option.bind_none, List.map_cons, List.map_nil, List.length_cons, List.length_nil, List.replicate, List.cons_append, List.nil_append, List.getElem?_cons_zero, List.getElem?_cons_succ, List.set_cons_zero, List.set_cons_succ, Nat.reduceAdd, Nat.reduceSub, Nat.reduceLT, ite_true, ite_false, reduceIte, reduceCtorEq, Nat.reduceLeDiff, Bool.false_eq_true, x_parM, x_asL]
      · obtain ⟨i, _, rfl⟩ := List.mem_map.mp hx
        exact ⟨Int.emod_nonneg _ (by omega), Int.emod_lt_of_pos _ (by omega)⟩
    · exact ⟨w1, by simp only [sM, m3, eq_int, decide_eq_false hz, runD, entry, x_sq, x_asM, x_rtM, x_tgM, x_ifM, few0, few1, few2, few3, few4, few5, few6, few7, few8, few9, x_andM, x_orM, x_notM, x_andT, x_orT, bd, Sd.ret, lf, fl, rd, Sd.st, stL, appM, mutS, putS, setM, slotM, hasS, seqM, itM, popZ, mvS, lstS, callM, sfM, x_isB, x_isI, x_lt, x_le, x_gt, x_ge, x_add, x_sub, tsC, tsN, len_tup, len_lst, x_tupL, x_tupT, x_lstL, x_lstT, x_intB, x_abs, Option.bind_some, Option.bind_none, List.map_cons, List.map_nil, List.length_cons, List.length_nil, List.replicate, List.cons_append, List.nil_append, List.getElem?_cons_zero, List.getElem?_cons_succ, List.set_cons_zero, List.set_cons_succ, Nat.reduceAdd, Nat.reduceSub, Nat.reduceLT, ite_true, ite_false, reduceIte, reduceCtorEq, Nat.reduceLeDiff, Bool.false_eq_true, x_parM, x_asL], hw1⟩
  obtain ⟨w2, i1, hw2⟩ := i1
  have i2 : ∃ w3, (ifM (bd (bd (rd 4) fun x => bd (ret (.int 7)) fun y => lf (modD x y)) fun x => bd (ret (.int 0)) fun y => lf ((eqD x y).bind isB)) (asM 5 (bd (rd 1) fun x => bd (lf (isI x)) fun j => bd (lf (rgD (.int 0) (.int j))) fun l => ret (.tup l))) (ret .nx)) (sM N wh v3 (.dat (.int num)) (.dat (.tup (pI w2))) .un st2) = some (.nx, sM N wh v3 (.dat (.int num)) (.dat (.tup (pI w3))) .un st2) ∧ WOk N w3 := by
    by_cases hz : num % 7 = 0
    · have e := rg_pI (n := N) (by omega)
      refine ⟨(List.range N).map fun (i : Nat) => (i : Int), ?_, by simp, fun x hx => ?_⟩
      · simp only [sM, m7, eq_int, decide_eq_true hz, e, runD, entry, x_sq, x_asM, x_rtM, x_tgM, x_ifM, few0, few1, few2, few3, few4, few5, few6, few7, few8, few9, x_andM, x_orM, x_notM, x_andT, x_orT, bd, Sd.ret, lf, fl, rd, Sd.st, stL, appM, mutS, putS, setM, slotM, hasS, seqM, itM, popZ, mvS, lstS, callM, sfM, x_isB, x_isI, x_lt, x_le, x_gt, x_ge, x_add, x_sub, tsC, tsN, len_tup, len_lst, x_tupL, x_tupT, x_lstL, x_lstT, x_intB, x_abs, Option.bind_some, Option.bind_none, List.map_cons, List.map_nil, List.length_cons, List.length_nil, List.replicate, List.cons_append, List.nil_append, List.getElem?_cons_zero, List.getElem?_cons_succ, List.set_cons_zero, List.set_cons_succ, Nat.reduceAdd, Nat.reduceSub, Nat.reduceLT, ite_true, ite_false, reduceIte, reduceCtorEq, Nat.reduceLeDiff, Bool.false_eq_true, x_parM, x_asL]
      · obtain ⟨i, hi, rfl⟩ := List.mem_map.mp hx
        have := List.mem_range.mp hi
        omega
    · exact ⟨w2, by simp only [sM, m7, eq_int, decide_eq_false hz, runD, entry, x_sq, x_asM, x_rtM, x_tgM, x_ifM, few0, few1, few2, few3, few4, few5, few6, few7, few8, few9, x_andM, x_orM, x_notM, x_andT, x_orT, bd, Sd.ret, lf, fl, rd, Sd.st, stL, appM, mutS, putS, setM, slotM, hasS, seqM, itM, popZ, mvS, lstS, callM, sfM, x_isB, x_isI, x_lt, x_le, x_gt, x_ge, x_add, x_sub, tsC, tsN, len_tup, len_lst, x_tupL, x_tupT, x_lstL, x_lstT, x_intB, x_abs, Option.bind_some, Option.bind_none, List.map_cons, List.map_nil, List.length_cons, List.length_nil, List.replicate, List.cons_append, List.nil_append, List.getElem?_cons_zero, List.getElem?_cons_succ, List.set_cons_zero, List.set_cons_succ, Nat.reduceAdd, Nat.reduceSub, Nat.reduceLT, ite_true, ite_false, reduceIte, reduceCtorEq, Nat.reduceLeDiff, Bool.false_eq_true, x_parM, x_asL], hw2⟩
  obtain ⟨w3, i2, hw3⟩ := i2
  have hwl : (pW wh).length < 100000 := by rw [pW_len]; omega
  refine ⟨w3, .dat (.int num), .dat (.tup (pI w3)), st2, ?_, hw3, g3.up (by simp; omega)⟩
  generalize (ifM (bd (bd (rd 4) fun x => bd (ret (.int 3)) fun y => lf (modD x y)) fun x => bd (ret (.int 0)) fun y => lf ((eqD x y).bind isB)) (asM 5 (bd (bd (bd (lcM [6] (Sd.st 6) (ret true) (bd (bd (bd (rd 6) fun x => bd (ret (.int 1)) fun y => lf (addD x y)) fun x => bd (bd (rd 4) fun x => bd (ret (.int 3)) fun y => lf (fdivD x y)) fun y => lf (addD x y)) fun x => bd (rd 1) fun y => lf (modD x y)) (bd (rd 1) fun x => lf (rng1 x))) fun l => ret (.lst l)) fun x => bd (ret []) fun xs => ret (x :: xs)) fun ds => lf (tupleF ds))) (ret .nx)) = IF at i1 ⊢
  generalize (ifM (bd (bd (rd 4) fun x => bd (ret (.int 7)) fun y => lf (modD x y)) fun x => bd (ret (.int 0)) fun y => lf ((eqD x y).bind isB)) (asM 5 (bd (rd 1) fun x => bd (lf (isI x)) fun j => bd (lf (rgD (.int 0) (.int j))) fun l => ret (.tup l))) (ret .nx)) = IG at i2 ⊢
  simp only [sM] at e2 i1 i2
  simp only [sM, e1, e2, i1, i2, hwl, pW_app, runD, entry, x_sq, x_asM, x_rtM, x_tgM, x_ifM, few0, few1, few2, few3, few4, few5, few6, few7, few8, few9, x_andM, x_orM, x_notM, x_andT, x_orT, bd, Sd.ret, lf, fl, rd, Sd.st, stL, appM, mutS, putS, setM, slotM, hasS, seqM, itM, popZ, mvS, lstS, callM, sfM, x_isB, x_isI, x_lt, x_le, x_gt, x_ge, x_add, x_sub, tsC, tsN, len_tup, len_lst, x_tupL, x_tupT, x_lstL, x_lstT, x_intB, x_abs, Option.bind_some, Option.bind_none, List.map_cons, List.map_nil, List.length_cons, List.length_nil, List.replicate, List.cons_append, List.nil_append, List.getElem?_cons_zero, List.getElem?_cons_succ, List.set_cons_zero, List.set_cons_succ, Nat.reduceAdd, Nat.reduceSub, Nat.reduceLT, ite_true, ite_false, reduceIte, reduceCtorEq, Nat.reduceLeDiff, Bool.false_eq_true, x_parM, x_asL]
theorem f_maps {N : Nat} (hN : 1 ≤ N ∧ N ≤ 24) (h : Dk k rest st) (hk : k ≤ 800000) : ∃ wh st', d__law_maps [.ref 1, .int N] st = some (.tup (pW wh), st') ∧ wh.length ≤ 3 ∧ (∀ w ∈ wh, w.length = N ∧ ∀ x ∈ w, 0 ≤ x ∧ x < N) ∧ Dk (k + 100) rest st' := by
  obtain ⟨v, st1, e1, hv, h1⟩ := f_next h (by omega)
  have m4 : modD (.int v) (.int 4) = some (.int (v % 4)) := x_mod (by decide)
  obtain ⟨c, hc⟩ := Int.eq_ofNat_of_zero_le (Int.emod_nonneg v (show (4 : Int) ≠ 0 by decide))
  have hc3 : c ≤ 3 := by omega
  have hr := rng_map (n := c) (by omega)
  have key := forMI (ts := (Sd.st 3)) (mi := (bd (bd (bd (bd (rd 0) fun x => bd (ret []) fun xs => ret (x :: xs)) fun ds => callM d__law_next ds) fun x => bd (ret (.int 4)) fun y => lf (modD x y)) fun x => lf (rng1 x))) (mb := (sq (asM 4 (bd (bd (rd 0) fun x => bd (ret []) fun xs => ret (x :: xs)) fun ds => callM d__law_next ds)) (sq (asM 5 (bd (bd (bd (lcM [6] (Sd.st 6) (ret true) (bd (bd (bd (rd 0) fun x => bd (ret []) fun xs => ret (x :: xs)) fun ds => callM d__law_next ds) fun x => bd (rd 1) fun y => lf (modD x y)) (bd (rd 1) fun x => lf (rng1 x))) fun l => ret (.lst l)) fun x => bd (ret []) fun xs => ret (x :: xs)) fun ds => lf (tupleF ds))) (sq (ifM (bd (bd (rd 4) fun x => bd (ret (.int 3)) fun y => lf (modD x y)) fun x => bd (ret (.int 0)) fun y => lf ((eqD x y).bind isB)) (asM 5 (bd (bd (bd (lcM [6] (Sd.st 6) (ret true) (bd (bd (bd (rd 6) fun x => bd (ret (.int 1)) fun y => lf (addD x y)) fun x => bd (bd (rd 4) fun x => bd (ret (.int 3)) fun y => lf (fdivD x y)) fun y => lf (addD x y)) fun x => bd (rd 1) fun y => lf (modD x y)) (bd (rd 1) fun x => lf (rng1 x))) fun l => ret (.lst l)) fun x => bd (ret []) fun xs => ret (x :: xs)) fun ds => lf (tupleF ds))) (ret .nx)) (sq (ifM (bd (bd (rd 4) fun x => bd (ret (.int 7)) fun y => lf (modD x y)) fun x => bd (ret (.int 0)) fun y => lf ((eqD x y).bind isB)) (asM 5 (bd (rd 1) fun x => bd (lf (isI x)) fun j => bd (lf (rgD (.int 0) (.int j))) fun l => ret (.tup l))) (ret .nx)) (appM 2 (rd 5))))))) (l := List.range c) (f := fun (i : Nat) => D.int ((i : Nat) : Int)) (s := sM N [] .un .un .un .un st) (s1 := sM N [] .un .un .un .un st1) (fun pre s => ∃ wh v3 v4 v5 st', s = sM N wh v3 v4 v5 .un st' ∧ wh.length = pre.length ∧ (∀ w ∈ wh, WOk N w) ∧ Dk (k + 1 + 30 * pre.length) rest st') (by
      simp only [sM, e1, m4, hc, hr, runD, entry, x_sq, x_asM, x_rtM, x_tgM, x_ifM, few0, few1, few2, few3, few4, few5, few6, few7, few8, few9, x_andM, x_orM, x_notM, x_andT, x_orT, bd, Sd.ret, lf, fl, rd, Sd.st, stL, appM, mutS, putS, setM, slotM, hasS, seqM, itM, popZ, mvS, lstS, callM, sfM, x_isB, x_isI, x_lt, x_le, x_gt, x_ge, x_add, x_sub, tsC, tsN, len_tup, len_lst, x_tupL, x_tupT, x_lstL, x_lstT, x_intB, x_abs, Option.bind_some, Option.bind_none, List.map_cons, List.map_nil, List.length_cons, List.length_nil, List.replicate, List.cons_append, List.nil_append, List.getElem?_cons_zero, List.getElem?_cons_succ, List.set_cons_zero, List.set_cons_succ, Nat.reduceAdd, Nat.reduceSub, Nat.reduceLT, ite_true, ite_false, reduceIte, reduceCtorEq, Nat.reduceLeDiff, Bool.false_eq_true, x_parM, x_asL]) ⟨[], _, _, _, st1, rfl, rfl, fun _ h => absurd h (by simp), h1⟩ (by
      rintro pre i post s hx ⟨wh, v3, v4, v5, st2, rfl, g1, g2, g3⟩
      have hpl : pre.length < c := by
        have := congrArg List.length hx
        simp at this
        omega
      obtain ⟨w, u4, u5, st3, e, hw, h3⟩ := maps_one (wh := wh) (v3 := .dat (.int i)) (v4 := v4) (v5 := v5) hN (by omega) g3 (by omega)
      refine ⟨sM N wh (.dat (.int i)) v4 v5 .un st2, _, rfl, e, _, _, _, _, _, rfl, by simp [g1], fun x hx => ?_, h3.up (by simp; omega)⟩
      rcases List.mem_append.mp hx with hx | hx
      · exact g2 x hx
      · have : x = w := by simpa using hx
        exact this ▸ hw)
  obtain ⟨s', e, wh, v3, v4, v5, st2, rfl, g1, g2, g3⟩ := key
  have g1 : wh.length = c := by simpa using g1
  refine ⟨wh, st2, ?_, by omega, g2, g3.up (by simp; omega)⟩
  have p0 : pW [] = [] := rfl
  simp only [sM, p0] at e
  simp only [d__law_maps, m__law_maps, e, runD, entry, x_sq, x_asM, x_rtM, x_tgM, x_ifM, few0, few1, few2, few3, few4, few5, few6, few7, few8, few9, x_andM, x_orM, x_notM, x_andT, x_orT, bd, Sd.ret, lf, fl, rd, Sd.st, stL, appM, mutS, putS, setM, slotM, hasS, seqM, itM, popZ, mvS, lstS, callM, sfM, x_isB, x_isI, x_lt, x_le, x_gt, x_ge, x_add, x_sub, tsC, tsN, len_tup, len_lst, x_tupL, x_tupT, x_lstL, x_lstT, x_intB, x_abs, Option.bind_some, Option.bind_none, List.map_cons, List.map_nil, List.length_cons, List.length_nil, List.replicate, List.cons_append, List.nil_append, List.getElem?_cons_zero, List.getElem?_cons_succ, List.set_cons_zero, List.set_cons_succ, Nat.reduceAdd, Nat.reduceSub, Nat.reduceLT, ite_true, ite_false, reduceIte, reduceCtorEq, Nat.reduceLeDiff, Bool.false_eq_true, x_parM, x_asL]
end
end K04

namespace K04
open Sd
section
variable {k : Nat} {rest st : List SO} {ns : List Int} {rows : List Row} {wh : List (List Int)} {gD tD : D}
theorem Dk.app {x : SO} (h : Dk k rest st) : Dk k (rest ++ [x]) (st ++ [x]) := by
  obtain ⟨dg, cs, a, q1, q2⟩ := h.ex
  exact ⟨dg, cs, a, by rw [q1]; rfl, q2⟩
theorem nm_bd (h : ∀ r ∈ rows, 0 ≤ r.nm ∧ r.nm ≤ 99) (x : Int) : 0 ≤ nmOf rows x ∧ nmOf rows x ≤ 99 := by
  unfold nmOf
  cases e : rows[x.toNat]? with
  | none => exact ⟨by decide, by decide⟩
  | some r => exact h r (List.mem_of_getElem? e)
theorem Lab.bd (h : ∀ r ∈ rows, 0 ≤ r.nm ∧ r.nm ≤ 99) {a : Int} (ha : 0 ≤ a ∧ a < 24) {w : PySem.Str} {x : Int} (hx : Lab rows wh a w x) : x.natAbs < 2 ^ 40 := by
  have key : 0 ≤ x ∧ x ≤ 99 := by
    cases hx with
    | st => omega
    | nm => exact nm_bd h a
    | tn h1 hm =>
      obtain ⟨y, _, e⟩ := List.mem_map.mp (lea_spec hm).1
      rw [← e]
      exact nm_bd h y
  omega
theorem rp1 {x : Int} (hx : x.natAbs < 2 ^ 40) : ∃ s, reprF [.tup [.int x]] = some (.str s) := by
  have := (Shos.pI (ns := [x]) fun i hi => by
    have : i = x := by simpa using hi
    exact this ▸ hx).tup (n := 1) (by simp [pI])
  exact ⟨_, this.repr (by decide) (by decide)⟩
abbrev sW (ns : List Int) (rows : List Row) (wh : List (List Int)) (gD tD : D) (sh : Int) (v7 v8 v11 v12 v13 : SV) (st : List SO) : S := ⟨[.dat (.scr ns), .dat (.ref 1), .dat (.tup (rows.map pRow)), .dat (.tup (pW wh)), .dat gD, .dat tD, .dat (.int sh), v7, v8, .dat (datD rows wh gD tD), .dat (task rows wh gD tD), v11, v12, v13], st⟩
theorem law_word (hV : TabV rows wh gD tD) {sh : Int} {v7 v8 v13 : SV} {a : Int} (ha : 0 ≤ a ∧ a < rows.length) {w : PySem.Str} (hw : w = "standing" ∨ w = "name" ∨ w = "turn") : ∃ v13', (sq (asM 13 (bd (bd (rd 10) fun x => bd (bd (rd 12) fun x => bd (bd (bd (bd (rd 11) fun x => bd (ret []) fun xs => ret (x :: xs)) fun xs => lf (few xs (.tup xs))) fun x => bd (ret []) fun xs => ret (x :: xs)) fun xs => ret (x :: xs)) fun xs => ret (x :: xs)) fun ds => callM d_label ds)) (ifM (bd (bd (bd (rd 13) fun x => bd (ret []) fun xs => ret (x :: xs)) fun ds => lf (reprF ds)) fun x => bd (bd (bd (bd (bd (rd 9) fun x => bd (bd (rd 12) fun x => bd (bd (rd 11) fun x => bd (ret []) fun xs => ret (x :: xs)) fun xs => ret (x :: xs)) fun xs => ret (x :: xs)) fun ds => callM d__law_label ds) fun x => bd (ret []) fun xs => ret (x :: xs)) fun ds => lf (reprF ds)) fun y => lf ((neD x y).bind isB)) (rtM (ret (.bl false))) (ret .nx))) (sW ns rows wh gD tD sh v7 v8 (.dat (.int a)) (.dat (.str w)) v13 st) = some (.nx, sW ns rows wh gD tD sh v7 v8 (.dat (.int a)) (.dat (.str w)) v13' st) := by
  obtain ⟨x, e1, h1⟩ := f_label (st := st) (gD := gD) (tD := tD) hV.l24 hV.w3 hV.wh hw ha
  obtain ⟨y, e2, h2⟩ := f_llabel (st := st) (gD := gD) (tD := tD) hV.l24 hV.w3 hV.wh hw ha
  rw [← h1.same h2] at e2
  have h24 := hV.l24
  obtain ⟨s, es⟩ := rp1 (h1.bd (fun r hr => (hV.row r hr).nm) (by omega))
  have en := ne_str s
  refine ⟨.dat (.tup [.int x]), ?_⟩
  simp only [datD, task] at e1 e2
  simp only [sW, datD, task, e1, e2, es, en, runD, entry, x_sq, x_asM, x_rtM, x_tgM, x_ifM, few0, few1, few2, few3, few4, few5, few6, few7, few8, few9, x_andM, x_orM, x_notM, x_andT, x_orT, bd, Sd.ret, lf, fl, rd, Sd.st, stL, appM, mutS, putS, setM, slotM, hasS, seqM, itM, popZ, mvS, lstS, callM, sfM, x_isB, x_isI, x_lt, x_le, x_gt, x_ge, x_add, x_sub, tsC, tsN, len_tup, len_lst, x_tupL, x_tupT, x_lstL, x_lstT, x_intB, x_abs, Option.bind_some, Option.bind_none, List.map_cons, List.map_nil, List.length_cons, List.length_nil, List.replicate, List.cons_append, List.nil_append, List.getElem?_cons_zero, List.getElem?_cons_succ, List.set_cons_zero, List.set_cons_succ, Nat.reduceAdd, Nat.reduceSub, Nat.reduceLT, ite_true, ite_false, reduceIte, reduceCtorEq, Nat.reduceLeDiff, Bool.false_eq_true, x_parM, x_asL]
theorem law_loop (hV : TabV rows wh gD tD) {sh : Int} {v7 v8 : SV} : ∃ v11 v12 v13, (Sd.forM (Sd.st 11) (bd (bd (bd (rd 2) fun x => bd (ret []) fun xs => ret (x :: xs)) fun ds => lf (lenF ds)) fun x => lf (rng1 x)) (Sd.forM (Sd.st 12) (bd (bd (bd (ret (.str "standing")) fun x => bd (bd (ret (.str "name")) fun x => bd (bd (ret (.str "turn")) fun x => bd (ret []) fun xs => ret (x :: xs)) fun xs => ret (x :: xs)) fun xs => ret (x :: xs)) fun xs => lf (few xs (.tup xs))) itM) (sq (asM 13 (bd (bd (rd 10) fun x => bd (bd (rd 12) fun x => bd (bd (bd (bd (rd 11) fun x => bd (ret []) fun xs => ret (x :: xs)) fun xs => lf (few xs (.tup xs))) fun x => bd (ret []) fun xs => ret (x :: xs)) fun xs => ret (x :: xs)) fun xs => ret (x :: xs)) fun ds => callM d_label ds)) (ifM (bd (bd (bd (rd 13) fun x => bd (ret []) fun xs => ret (x :: xs)) fun ds => lf (reprF ds)) fun x => bd (bd (bd (bd (bd (rd 9) fun x => bd (bd (rd 12) fun x => bd (bd (rd 11) fun x => bd (ret []) fun xs => ret (x :: xs)) fun xs => ret (x :: xs)) fun xs => ret (x :: xs)) fun ds => callM d__law_label ds) fun x => bd (ret []) fun xs => ret (x :: xs)) fun ds => lf (reprF ds)) fun y => lf ((neD x y).bind isB)) (rtM (ret (.bl false))) (ret .nx))))) (sW ns rows wh gD tD sh v7 v8 .un .un .un st) = some (.nx, sW ns rows wh gD tD sh v7 v8 v11 v12 v13 st) := by
  have h24 := hV.l24
  have hr := rng_map (n := rows.length) (by omega)
  have hl : lenF [.tup (rows.map pRow)] = some (.int rows.length) := by rw [len_tup, List.length_map]
  have key := forMI (ts := (Sd.st 11)) (mi := (bd (bd (bd (rd 2) fun x => bd (ret []) fun xs => ret (x :: xs)) fun ds => lf (lenF ds)) fun x => lf (rng1 x))) (mb := (Sd.forM (Sd.st 12) (bd (bd (bd (ret (.str "standing")) fun x => bd (bd (ret (.str "name")) fun x => bd (bd (ret (.str "turn")) fun x => bd (ret []) fun xs => ret (x :: xs)) fun xs => ret (x :: xs)) fun xs => ret (x :: xs)) fun xs => lf (few xs (.tup xs))) itM) (sq (asM 13 (bd (bd (rd 10) fun x => bd (bd (rd 12) fun x => bd (bd (bd (bd (rd 11) fun x => bd (ret []) fun xs => ret (x :: xs)) fun xs => lf (few xs (.tup xs))) fun x => bd (ret []) fun xs => ret (x :: xs)) fun xs => ret (x :: xs)) fun xs => ret (x :: xs)) fun ds => callM d_label ds)) (ifM (bd (bd (bd (rd 13) fun x => bd (ret []) fun xs => ret (x :: xs)) fun ds => lf (reprF ds)) fun x => bd (bd (bd (bd (bd (rd 9) fun x => bd (bd (rd 12) fun x => bd (bd (rd 11) fun x => bd (ret []) fun xs => ret (x :: xs)) fun xs => ret (x :: xs)) fun xs => ret (x :: xs)) fun ds => callM d__law_label ds) fun x => bd (ret []) fun xs => ret (x :: xs)) fun ds => lf (reprF ds)) fun y => lf ((neD x y).bind isB)) (rtM (ret (.bl false))) (ret .nx))))) (l := List.range rows.length) (f := fun (i : Nat) => D.int ((i : Nat) : Int)) (s := sW ns rows wh gD tD sh v7 v8 .un .un .un st) (s1 := sW ns rows wh gD tD sh v7 v8 .un .un .un st) (fun pre s => ∃ v11 v12 v13, s = sW ns rows wh gD tD sh v7 v8 v11 v12 v13 st) (by
      simp only [sW, hl, hr, runD, entry, x_sq, x_asM, x_rtM, x_tgM, x_ifM, few0, few1, few2, few3, few4, few5, few6, few7, few8, few9, x_andM, x_orM, x_notM, x_andT, x_orT, bd, Sd.ret, lf, fl, rd, Sd.st, stL, appM, mutS, putS, setM, slotM, hasS, seqM, itM, popZ, mvS, lstS, callM, sfM, x_isB, x_isI, x_lt, x_le, x_gt, x_ge, x_add, x_sub, tsC, tsN, len_tup, len_lst, x_tupL, x_tupT, x_lstL, x_lstT, x_intB, x_abs, Option.bind_some, Option.bind_none, List.map_cons, List.map_nil, List.length_cons, List.length_nil, List.replicate, List.cons_append, List.nil_append, List.getElem?_cons_zero, List.getElem?_cons_succ, List.set_cons_zero, List.set_cons_succ, Nat.reduceAdd, Nat.reduceSub, Nat.reduceLT, ite_true, ite_false, reduceIte, reduceCtorEq, Nat.reduceLeDiff, Bool.false_eq_true, x_parM, x_asL]) ⟨_, _, _, rfl⟩ (by
      rintro pre i post s hx ⟨v11, v12, v13, rfl⟩
      have hi : i < rows.length := by
        have : i ∈ List.range rows.length := by rw [hx]; simp
        exact List.mem_range.mp this
      have key2 := forMI (ts := (Sd.st 12)) (mi := (bd (bd (bd (ret (.str "standing")) fun x => bd (bd (ret (.str "name")) fun x => bd (bd (ret (.str "turn")) fun x => bd (ret []) fun xs => ret (x :: xs)) fun xs => ret (x :: xs)) fun xs => ret (x :: xs)) fun xs => lf (few xs (.tup xs))) itM)) (mb := (sq (asM 13 (bd (bd (rd 10) fun x => bd (bd (rd 12) fun x => bd (bd (bd (bd (rd 11) fun x => bd (ret []) fun xs => ret (x :: xs)) fun xs => lf (few xs (.tup xs))) fun x => bd (ret []) fun xs => ret (x :: xs)) fun xs => ret (x :: xs)) fun xs => ret (x :: xs)) fun ds => callM d_label ds)) (ifM (bd (bd (bd (rd 13) fun x => bd (ret []) fun xs => ret (x :: xs)) fun ds => lf (reprF ds)) fun x => bd (bd (bd (bd (bd (rd 9) fun x => bd (bd (rd 12) fun x => bd (bd (rd 11) fun x => bd (ret []) fun xs => ret (x :: xs)) fun xs => ret (x :: xs)) fun xs => ret (x :: xs)) fun ds => callM d__law_label ds) fun x => bd (ret []) fun xs => ret (x :: xs)) fun ds => lf (reprF ds)) fun y => lf ((neD x y).bind isB)) (rtM (ret (.bl false))) (ret .nx)))) (l := (["standing", "name", "turn"] : List PySem.Str)) (f := fun w => D.str w) (s := sW ns rows wh gD tD sh v7 v8 (.dat (.int i)) v12 v13 st) (s1 := sW ns rows wh gD tD sh v7 v8 (.dat (.int i)) v12 v13 st) (fun pre s => ∃ v12 v13, s = sW ns rows wh gD tD sh v7 v8 (.dat (.int i)) v12 v13 st) rfl ⟨_, _, rfl⟩ (by
          rintro pre w post s hx ⟨v12, v13, rfl⟩
          have hw : w ∈ (["standing", "name", "turn"] : List PySem.Str) := by rw [hx]; simp
          have hw : w = "standing" ∨ w = "name" ∨ w = "turn" := by simpa using hw
          obtain ⟨u, e⟩ := law_word (ns := ns) (st := st) hV (sh := sh) (v7 := v7) (v8 := v8) (v13 := v13) (a := (i : Nat)) (by omega) hw
          exact ⟨sW ns rows wh gD tD sh v7 v8 (.dat (.int i)) (.dat (.str w)) v13 st, _, rfl, e, _, _, rfl⟩)
      obtain ⟨s', e, v12, v13, rfl⟩ := key2
      exact ⟨sW ns rows wh gD tD sh v7 v8 (.dat (.int i)) _ _ st, _, rfl, e, _, _, _, rfl⟩)
  obtain ⟨s', e, v11, v12, v13, rfl⟩ := key
  exact ⟨v11, v12, v13, e⟩
abbrev sN (ns : List Int) (rows : List Row) (wh : List (List Int)) (gD tD : D) (sh : Int) (nr : List Row) (v8 : SV) (st : List SO) : S := ⟨[.dat (.scr ns), .dat (.ref 1), .dat (.tup (rows.map pRow)), .dat (.tup (pW wh)), .dat gD, .dat tD, .dat (.int sh), .chg (nr.map pRow), v8, .un, .un, .un, .un, .un], st⟩
theorem pRow_snoc (nr : List Row) (r : Row) (y : Int) : nr.map pRow ++ [.tup [.tup (pJ r.nx), .bl r.dn, .int y, .int r.bo, .bl r.cu]] = (nr ++ [{ r with nm := y }]).map pRow := by simp [pRow]
theorem law_names (hl : rows.length ≤ 24) (hr : ∀ r ∈ rows, RowV rows.length r) {sh : Int} (hs : 1 ≤ sh ∧ sh ≤ 9) (h : Dk k rest st) (hk : k ≤ 900000) : ∃ nr v8 st', (Sd.forM (Sd.st 8) (bd (rd 2) itM) (appM 7 (bd (bd (bd (rd 8) fun x => bd (ret none) fun i => bd (bd (ret (.int 2)) fun i => bd (lf (isI i)) fun k => ret (some k)) fun j => lf (slD x i j)) fun x => bd (bd (bd (bd (bd (bd (bd (hasS 8) fun _ => bd (ret (.int 2)) fun i => bd (lf (isI i)) fun k => bd (slotM 8) fun l => lf (L2.atI l k)) fun x => bd (bd (bd (bd (bd (bd (rd 1) fun x => bd (ret []) fun xs => ret (x :: xs)) fun ds => callM d__law_next ds) fun x => bd (rd 6) fun y => lf (modD x y)) fun x => bd (ret (.int 90)) fun y => lf (addD x y)) fun x => bd (ret []) fun xs => ret (x :: xs)) fun xs => ret (x :: xs)) fun xs => lf (few xs (.lst xs))) fun x => bd (bd (bd (bd (rd 6) fun x => bd (ret (.int 8)) fun y => lf (ltD x y)) fun x => bd (ret []) fun xs => ret (x :: xs)) fun ds => lf (intF ds)) fun i => bd (lf (isI i)) fun k => bd (seqM x) fun l => lf (L2.atI l k)) fun x => bd (ret []) fun xs => ret (x :: xs)) fun xs => lf (few xs (.tup xs))) fun y => lf (addD x y)) fun x => bd (bd (rd 8) fun x => bd (bd (ret (.int 3)) fun i => bd (lf (isI i)) fun k => ret (some k)) fun i => bd (ret none) fun j => lf (slD x i j)) fun y => lf (addD x y)))) (sN ns rows wh gD tD sh [] .un st) = some (.nx, sN ns rows wh gD tD sh nr v8 st') ∧ nr.length = rows.length ∧ (∀ r ∈ nr, RowV rows.length r) ∧ Dk (k + 24) rest st' := by
  have key := forMI (ts := (Sd.st 8)) (mi := (bd (rd 2) itM)) (mb := (appM 7 (bd (bd (bd (rd 8) fun x => bd (ret none) fun i => bd (bd (ret (.int 2)) fun i => bd (lf (isI i)) fun k => ret (some k)) fun j => lf (slD x i j)) fun x => bd (bd (bd (bd (bd (bd (bd (hasS 8) fun _ => bd (ret (.int 2)) fun i => bd (lf (isI i)) fun k => bd (slotM 8) fun l => lf (L2.atI l k)) fun x => bd (bd (bd (bd (bd (bd (rd 1) fun x => bd (ret []) fun xs => ret (x :: xs)) fun ds => callM d__law_next ds) fun x => bd (rd 6) fun y => lf (modD x y)) fun x => bd (ret (.int 90)) fun y => lf (addD x y)) fun x => bd (ret []) fun xs => ret (x :: xs)) fun xs => ret (x :: xs)) fun xs => lf (few xs (.lst xs))) fun x => bd (bd (bd (bd (rd 6) fun x => bd (ret (.int 8)) fun y => lf (ltD x y)) fun x => bd (ret []) fun xs => ret (x :: xs)) fun ds => lf (intF ds)) fun i => bd (lf (isI i)) fun k => bd (seqM x) fun l => lf (L2.atI l k)) fun x => bd (ret []) fun xs => ret (x :: xs)) fun xs => lf (few xs (.tup xs))) fun y => lf (addD x y)) fun x => bd (bd (rd 8) fun x => bd (bd (ret (.int 3)) fun i => bd (lf (isI i)) fun k => ret (some k)) fun i => bd (ret none) fun j => lf (slD x i j)) fun y => lf (addD x y)))) (l := rows) (f := pRow) (s := sN ns rows wh gD tD sh [] .un st) (s1 := sN ns rows wh gD tD sh [] .un st) (fun pre s => ∃ nr v8 st', s = sN ns rows wh gD tD sh nr v8 st' ∧ nr.length = pre.length ∧ (∀ r ∈ nr, RowV rows.length r) ∧ Dk (k + pre.length) rest st') rfl ⟨[], _, st, rfl, rfl, fun _ h => absurd h (by simp), h⟩ (by
      rintro pre r post s hx ⟨nr, v8, st1, rfl, g1, g2, g3⟩
      have hpl : pre.length < rows.length := by rw [hx]; simp
      have hrr := hr r (by rw [hx]; simp)
      obtain ⟨v, st2, e1, hv, h2⟩ := f_next g3 (by omega)
      have m1 : modD (.int v) (.int sh) = some (.int (v % sh)) := x_mod (by omega)
      have hm0 := Int.emod_nonneg v (show sh ≠ 0 by omega)
      have hm1 := Int.emod_lt_of_pos v (show 0 < sh by omega)
      have hnl : (nr.map pRow).length < 100000 := by simp; omega
      have s1 : slD (.tup [.tup (pJ r.nx), .bl r.dn, .int r.nm, .int r.bo, .bl r.cu]) none (some 2) = some (.tup [.tup (pJ r.nx), .bl r.dn]) := rfl
      have s2 : slD (.tup [.tup (pJ r.nx), .bl r.dn, .int r.nm, .int r.bo, .bl r.cu]) (some 3) none = some (.tup [.int r.bo, .bl r.cu]) := rfl
      obtain ⟨y, hy, ey⟩ : ∃ y : Int, (0 ≤ y ∧ y ≤ 99) ∧ L2.atI ([.int r.nm, .int (v % sh + 90)] : List D) (if decide (sh < 8) = true then 1 else 0) = some (D.int y) := by
        by_cases hc : sh < 8
        · rw [decide_eq_true hc]
          exact ⟨v % sh + 90, by omega, rfl⟩
        · rw [decide_eq_false hc]
          exact ⟨r.nm, hrr.nm, rfl⟩
      have a1 : addD (.tup [.tup (pJ r.nx), .bl r.dn]) (.tup [.int y]) = some (.tup [.tup (pJ r.nx), .bl r.dn, .int y]) := rfl
      have a2 : addD (.tup [.tup (pJ r.nx), .bl r.dn, .int y]) (.tup [.int r.bo, .bl r.cu]) = some (.tup [.tup (pJ r.nx), .bl r.dn, .int y, .int r.bo, .bl r.cu]) := rfl
      refine ⟨sN ns rows wh gD tD sh nr (.dat (pRow r)) st1, sN ns rows wh gD tD sh (nr ++ [{ r with nm := y }]) (.dat (pRow r)) st2, rfl, ?_, _, _, st2, rfl, by simp [g1], fun x hx => ?_, h2.up (by simp; omega)⟩
      · simp only [sN, pRow, s1, s2, at52, e1, m1, ey, a1, a2, hnl, pRow_snoc, runD, entry, x_sq, x_asM, x_rtM, x_tgM, x_ifM, few0, few1, few2, few3, few4, few5, few6, few7, few8, few9, x_andM, x_orM, x_notM, x_andT, x_orT, bd, Sd.ret, lf, fl, rd, Sd.st, stL, appM, mutS, putS, setM, slotM, hasS, seqM, itM, popZ, mvS, lstS, callM, sfM, x_isB, x_isI, x_lt, x_le, x_gt, x_ge, x_add, x_sub, tsC, tsN, len_tup, len_lst, x_tupL, x_tupT, x_lstL, x_lstT, x_intB, x_abs, Option.bind_some, Option.bind_none, List.map_cons, List.map_nil, List.length_cons, List.length_nil, List.replicate, List.cons_append, List.nil_append, List.getElem?_cons_zero, List.getElem?_cons_succ, List.set_cons_zero, List.set_cons_succ, Nat.reduceAdd, Nat.reduceSub, Nat.reduceLT, ite_true, ite_false, reduceIte, reduceCtorEq, Nat.reduceLeDiff, Bool.false_eq_true, x_parM, x_asL]
      · rcases List.mem_append.mp hx with hx | hx
        · exact g2 x hx
        · have : x = { r with nm := y } := by simpa using hx
          rw [this]
          exact ⟨hrr.n8, hrr.nx, hy, hrr.bo⟩)
  obtain ⟨s', e, nr, v8, st', rfl, g1, g2, g3⟩ := key
  exact ⟨nr, v8, st', e, g1, g2, g3.up (by omega)⟩
theorem f_law {ns : List Int} (hn : ns.length ≤ 63) : ∃ st, d_law [.scr ns] [] = some (.bl true, st) := by
  obtain ⟨st0, e0, h0⟩ := f_deck hn
  obtain ⟨rows, wh, gD, tD, st1, e1, hV, _, _, h1⟩ := f_task h0 (by decide)
  obtain ⟨v, st2, e2, hv, h2⟩ := f_next h1 (by decide)
  have m2 : modD (.int v) (.int 2) = some (.int (v % 2)) := x_mod (by decide)
  have h24 := hV.l24
  have hl1 := hV.l1
  have hl : lenF [.tup (rows.map pRow)] = some (.int rows.length) := by rw [len_tup, List.length_map]
  have hif : ∃ wh2 st3, (ifM (bd (bd (bd (bd (rd 1) fun x => bd (ret []) fun xs => ret (x :: xs)) fun ds => callM d__law_next ds) fun x => bd (ret (.int 2)) fun y => lf (modD x y)) fun x => bd (ret (.int 0)) fun y => lf ((eqD x y).bind isB)) (asM 3 (bd (bd (rd 1) fun x => bd (bd (bd (bd (rd 2) fun x => bd (ret []) fun xs => ret (x :: xs)) fun ds => lf (lenF ds)) fun x => bd (ret []) fun xs => ret (x :: xs)) fun xs => ret (x :: xs)) fun ds => callM d__law_maps ds)) (ret .nx)) ⟨[.dat (.scr ns), .dat (.ref 1), .dat (.tup (rows.map pRow)), .dat (.tup (pW wh)), .dat gD, .dat tD, .un, .un, .un, .un, .un, .un, .un, .un], st1⟩ = some (.nx, ⟨[.dat (.scr ns), .dat (.ref 1), .dat (.tup (rows.map pRow)), .dat (.tup (pW wh2)), .dat gD, .dat tD, .un, .un, .un, .un, .un, .un, .un, .un], st3⟩) ∧ TabV rows wh2 gD tD ∧ Dk 3000 [] st3 := by
    by_cases hz : v % 2 = 0
    · obtain ⟨wh2, st3, e3, w3, hw, h3⟩ := f_maps (N := rows.length) ⟨hl1, h24⟩ h2 (by decide)
      exact ⟨wh2, st3, by simp only [e2, m2, eq_int, decide_eq_true hz, hl, e3, runD, entry, x_sq, x_asM, x_rtM, x_tgM, x_ifM, few0, few1, few2, few3, few4, few5, few6, few7, few8, few9, x_andM, x_orM, x_notM, x_andT, x_orT, bd, Sd.ret, lf, fl, rd, Sd.st, stL, appM, mutS, putS, setM, slotM, hasS, seqM, itM, popZ, mvS, lstS, callM, sfM, x_isB, x_isI, x_lt, x_le, x_gt, x_ge, x_add, x_sub, tsC, tsN, len_tup, len_lst, x_tupL, x_tupT, x_lstL, x_lstT, x_intB, x_abs, Option.bind_some, Option.bind_none, List.map_cons, List.map_nil, List.length_cons, List.length_nil, List.replicate, List.cons_append, List.nil_append, List.getElem?_cons_zero, List.getElem?_cons_succ, List.set_cons_zero, List.set_cons_succ, Nat.reduceAdd, Nat.reduceSub, Nat.reduceLT, ite_true, ite_false, reduceIte, reduceCtorEq, Nat.reduceLeDiff, Bool.false_eq_true, x_parM, x_asL], ⟨hl1, h24, hV.row, w3, hw, hV.en⟩, h3.up (by decide)⟩
    · exact ⟨wh, st2, by simp only [e2, m2, eq_int, decide_eq_false hz, runD, entry, x_sq, x_asM, x_rtM, x_tgM, x_ifM, few0, few1, few2, few3, few4, few5, few6, few7, few8, few9, x_andM, x_orM, x_notM, x_andT, x_orT, bd, Sd.ret, lf, fl, rd, Sd.st, stL, appM, mutS, putS, setM, slotM, hasS, seqM, itM, popZ, mvS, lstS, callM, sfM, x_isB, x_isI, x_lt, x_le, x_gt, x_ge, x_add, x_sub, tsC, tsN, len_tup, len_lst, x_tupL, x_tupT, x_lstL, x_lstT, x_intB, x_abs, Option.bind_some, Option.bind_none, List.map_cons, List.map_nil, List.length_cons, List.length_nil, List.replicate, List.cons_append, List.nil_append, List.getElem?_cons_zero, List.getElem?_cons_succ, List.set_cons_zero, List.set_cons_succ, Nat.reduceAdd, Nat.reduceSub, Nat.reduceLT, ite_true, ite_false, reduceIte, reduceCtorEq, Nat.reduceLeDiff, Bool.false_eq_true, x_parM, x_asL], hV, h2.up (by decide)⟩
  obtain ⟨wh2, st3, e3, hV2, h3⟩ := hif
  obtain ⟨u, st4, e4, hu, h4⟩ := f_next h3 (by decide)
  have m9 : modD (.int u) (.int 9) = some (.int (u % 9)) := x_mod (by decide)
  obtain ⟨nr, v8, st5, e5, hnl, hnr, h5⟩ := law_names (ns := ns) (wh := wh2) (gD := gD) (tD := tD) (sh := 1 + u % 9) h24 hV.row (by omega) h4 (by decide)
  have hV3 : TabV nr wh2 gD tD := ⟨by omega, by omega, by rw [hnl]; exact hnr, hV2.w3, by rw [hnl]; exact hV2.wh, by rw [hnl]; exact hV2.en⟩
  have e6 := f_told (st := st5) hV3
  obtain ⟨v11, v12, v13, e7⟩ := law_loop (ns := ns) (st := st5 ++ [.dead]) hV3 (sh := 1 + u % 9) (v7 := .dat (.lst (nr.map pRow))) (v8 := v8)
  refine ⟨st5 ++ [.dead], ?_⟩
  unfold d_law m_law
  generalize (ifM (bd (bd (bd (bd (rd 1) fun x => bd (ret []) fun xs => ret (x :: xs)) fun ds => callM d__law_next ds) fun x => bd (ret (.int 2)) fun y => lf (modD x y)) fun x => bd (ret (.int 0)) fun y => lf ((eqD x y).bind isB)) (asM 3 (bd (bd (rd 1) fun x => bd (bd (bd (bd (rd 2) fun x => bd (ret []) fun xs => ret (x :: xs)) fun ds => lf (lenF ds)) fun x => bd (ret []) fun xs => ret (x :: xs)) fun xs => ret (x :: xs)) fun ds => callM d__law_maps ds)) (ret .nx)) = IF at e3 ⊢
  generalize (Sd.forM (Sd.st 8) (bd (rd 2) itM) (appM 7 (bd (bd (bd (rd 8) fun x => bd (ret none) fun i => bd (bd (ret (.int 2)) fun i => bd (lf (isI i)) fun k => ret (some k)) fun j => lf (slD x i j)) fun x => bd (bd (bd (bd (bd (bd (bd (hasS 8) fun _ => bd (ret (.int 2)) fun i => bd (lf (isI i)) fun k => bd (slotM 8) fun l => lf (L2.atI l k)) fun x => bd (bd (bd (bd (bd (bd (rd 1) fun x => bd (ret []) fun xs => ret (x :: xs)) fun ds => callM d__law_next ds) fun x => bd (rd 6) fun y => lf (modD x y)) fun x => bd (ret (.int 90)) fun y => lf (addD x y)) fun x => bd (ret []) fun xs => ret (x :: xs)) fun xs => ret (x :: xs)) fun xs => lf (few xs (.lst xs))) fun x => bd (bd (bd (bd (rd 6) fun x => bd (ret (.int 8)) fun y => lf (ltD x y)) fun x => bd (ret []) fun xs => ret (x :: xs)) fun ds => lf (intF ds)) fun i => bd (lf (isI i)) fun k => bd (seqM x) fun l => lf (L2.atI l k)) fun x => bd (ret []) fun xs => ret (x :: xs)) fun xs => lf (few xs (.tup xs))) fun y => lf (addD x y)) fun x => bd (bd (rd 8) fun x => bd (bd (ret (.int 3)) fun i => bd (lf (isI i)) fun k => ret (some k)) fun i => bd (ret none) fun j => lf (slD x i j)) fun y => lf (addD x y)))) = FA at e5 ⊢
  generalize (Sd.forM (Sd.st 11) (bd (bd (bd (rd 2) fun x => bd (ret []) fun xs => ret (x :: xs)) fun ds => lf (lenF ds)) fun x => lf (rng1 x)) (Sd.forM (Sd.st 12) (bd (bd (bd (ret (.str "standing")) fun x => bd (bd (ret (.str "name")) fun x => bd (bd (ret (.str "turn")) fun x => bd (ret []) fun xs => ret (x :: xs)) fun xs => ret (x :: xs)) fun xs => ret (x :: xs)) fun xs => lf (few xs (.tup xs))) itM) (sq (asM 13 (bd (bd (rd 10) fun x => bd (bd (rd 12) fun x => bd (bd (bd (bd (rd 11) fun x => bd (ret []) fun xs => ret (x :: xs)) fun xs => lf (few xs (.tup xs))) fun x => bd (ret []) fun xs => ret (x :: xs)) fun xs => ret (x :: xs)) fun xs => ret (x :: xs)) fun ds => callM d_label ds)) (ifM (bd (bd (bd (rd 13) fun x => bd (ret []) fun xs => ret (x :: xs)) fun ds => lf (reprF ds)) fun x => bd (bd (bd (bd (bd (rd 9) fun x => bd (bd (rd 12) fun x => bd (bd (rd 11) fun x => bd (ret []) fun xs => ret (x :: xs)) fun xs => ret (x :: xs)) fun xs => ret (x :: xs)) fun ds => callM d__law_label ds) fun x => bd (ret []) fun xs => ret (x :: xs)) fun ds => lf (reprF ds)) fun y => lf ((neD x y).bind isB)) (rtM (ret (.bl false))) (ret .nx))))) = FB at e7 ⊢
  simp only [sN, List.map_nil] at e5
  simp only [sW, datD, task] at e6 e7
  simp only [e0, e1, t4, e3, e4, m9, e5, e6, e7, runD, entry, x_sq, x_asM, x_rtM, x_tgM, x_ifM, few0, few1, few2, few3, few4, few5, few6, few7, few8, few9, x_andM, x_orM, x_notM, x_andT, x_orT, bd, Sd.ret, lf, fl, rd, Sd.st, stL, appM, mutS, putS, setM, slotM, hasS, seqM, itM, popZ, mvS, lstS, callM, sfM, x_isB, x_isI, x_lt, x_le, x_gt, x_ge, x_add, x_sub, tsC, tsN, len_tup, len_lst, x_tupL, x_tupT, x_lstL, x_lstT, x_intB, x_abs, Option.bind_some, Option.bind_none, List.map_cons, List.map_nil, List.length_cons, List.length_nil, List.replicate, List.cons_append, List.nil_append, List.getElem?_cons_zero, List.getElem?_cons_succ, List.set_cons_zero, List.set_cons_succ, Nat.reduceAdd, Nat.reduceSub, Nat.reduceLT, ite_true, ite_false, reduceIte, reduceCtorEq, Nat.reduceLeDiff, Bool.false_eq_true, x_parM, x_asL]
end
end K04

open PySem PySem.W PyProof.Rows
set_option maxRecDepth 100000 in
set_option maxHeartbeats 0 in
theorem PySem.Challenge.cw_seekways_k04_labels_holds : PySem.Challenge.rw_seekways_k04_labels.Holds := by
  w_on; o_law; k_head; (case hw => w_witness2)
  k_fill
  refine Sd.walkG (l := PySem.Challenge.rw_seekways_k04_labels) (n := 63) (k := 10) (x := "_law_script") (f := K04.d_law) rfl (by decide) rfl ⟨rfl, by decide, by decide⟩ (fun w h Y => PySem.W.kIn_of Y) ?F fun ns hn => K04.f_law hn
  case F =>
    intro w mg fa h KX G hmg
    refine' K04.fin (K04.ev ?b_abs ?b_all ?b_bool ?b_enumerate ?b_int ?b_isinstance ?b_len ?b_list ?b_max ?b_min ?b_range ?b_repr ?b_tuple ?b_zip ?g_MOST_BOUND ?g_MOST_COST ?g_MOST_HEADS ?g_MOST_NAME ?g_MOST_NEXTS ?g_MOST_TOLD ?g_MOST_TURNS ?g_NAME ?a__law_deck ?a__law_next ?a__law_classes ?a__law_rests ?a__law_bounds ?a__law_cuts ?a__law_variants ?a__law_some ?a__law_ends ?a__law_task ?a__law_maps ?a_is_tuple_of ?a_is_whole ?a_is_between ?a_is_from ?a_is_pair ?a_are_pairs ?a_are_within ?a_are_pairs_within ?a_is_truth ?a_is_table_row ?a_are_numbers ?a_is_turn ?a_wrong_turn ?a_are_rising ?a_are_ends ?a_are_heads ?a_wrong_place ?a__law_told ?a_all_turned ?a_label ?a__law_label ?a_law ?cc0 ?na0_heads ?na0_maps ?na0_table ?na0_targets ?t0_named ?t0_turned ?t0_turnings ?nk_Told___init__) hmg
    case nk_Told___init__ =>
      refine' ⟨?ta, ?em, Sd.ntk_mk KX G (Sd.kw_three ?q0 ?q1 ?q2) ?ac ?a ?i ?l ?c ?k ?mk ?kc⟩
      (case ac => k_is); (case a => k_is); (case i => k_is); (case l => k_is); (case c => k_is); (case k => k_is); (case mk => k_is); (case kc => k_is)
      (case q0 => k_is); (case q1 => k_is); (case q2 => k_is)
      (case em => refine' Sd.emt_mk ?lk; (case lk => k_is))
    (case b_abs => refine PySem.W.mg_none_of KX G ?_; k_is)
    (case b_all => refine PySem.W.mg_none_of KX G ?_; k_is)
    (case b_bool => refine PySem.W.mg_none_of KX G ?_; k_is)
    (case b_enumerate => refine PySem.W.mg_none_of KX G ?_; k_is)
    (case b_int => refine PySem.W.mg_none_of KX G ?_; k_is)
    (case b_isinstance => refine PySem.W.mg_none_of KX G ?_; k_is)
    (case b_len => refine PySem.W.mg_none_of KX G ?_; k_is)
    (case b_list => refine PySem.W.mg_none_of KX G ?_; k_is)
    (case b_max => refine PySem.W.mg_none_of KX G ?_; k_is)
    (case b_min => refine PySem.W.mg_none_of KX G ?_; k_is)
    (case b_range => refine PySem.W.mg_none_of KX G ?_; k_is)
    (case b_repr => refine PySem.W.mg_none_of KX G ?_; k_is)
    (case b_tuple => refine PySem.W.mg_none_of KX G ?_; k_is)
    (case b_zip => refine PySem.W.mg_none_of KX G ?_; k_is)
    (case g_MOST_BOUND => refine' Sd.int_mk KX G ?a; (case a => k_is))
    (case g_MOST_COST => refine' Sd.int_mk KX G ?a; (case a => k_is))
    (case g_MOST_HEADS => refine' Sd.int_mk KX G ?a; (case a => k_is))
    (case g_MOST_NAME => refine' Sd.int_mk KX G ?a; (case a => k_is))
    (case g_MOST_NEXTS => refine' Sd.int_mk KX G ?a; (case a => k_is))
    (case g_MOST_TOLD => refine' Sd.int_mk KX G ?a; (case a => k_is))
    (case g_MOST_TURNS => refine' Sd.int_mk KX G ?a; (case a => k_is))
    (case g_NAME => refine' Sd.int_mk KX G ?a; (case a => k_is))
    case a__law_deck =>
      refine' Sd.at_mk KX G ?a ?l ?c ?k
      (case a => k_is); (case l => k_is); (case c => k_is); (case k => k_is)
    case a__law_next =>
      refine' Sd.at_mk KX G ?a ?l ?c ?k
      (case a => k_is); (case l => k_is); (case c => k_is); (case k => k_is)
    case a__law_classes =>
      refine' Sd.at_mk KX G ?a ?l ?c ?k
      (case a => k_is); (case l => k_is); (case c => k_is); (case k => k_is)
    case a__law_rests =>
      refine' Sd.at_mk KX G ?a ?l ?c ?k
      (case a => k_is); (case l => k_is); (case c => k_is); (case k => k_is)
    case a__law_bounds =>
      refine' Sd.at_mk KX G ?a ?l ?c ?k
      (case a => k_is); (case l => k_is); (case c => k_is); (case k => k_is)
    case a__law_cuts =>
      refine' Sd.at_mk KX G ?a ?l ?c ?k
      (case a => k_is); (case l => k_is); (case c => k_is); (case k => k_is)
    case a__law_variants =>
      refine' Sd.at_mk KX G ?a ?l ?c ?k
      (case a => k_is); (case l => k_is); (case c => k_is); (case k => k_is)
    case a__law_some =>
      refine' Sd.at_mk KX G ?a ?l ?c ?k
      (case a => k_is); (case l => k_is); (case c => k_is); (case k => k_is)
    case a__law_ends =>
      refine' Sd.at_mk KX G ?a ?l ?c ?k
      (case a => k_is); (case l => k_is); (case c => k_is); (case k => k_is)
    case a__law_task =>
      refine' Sd.at_mk KX G ?a ?l ?c ?k
      (case a => k_is); (case l => k_is); (case c => k_is); (case k => k_is)
    case a__law_maps =>
      refine' Sd.at_mk KX G ?a ?l ?c ?k
      (case a => k_is); (case l => k_is); (case c => k_is); (case k => k_is)
    case a_is_tuple_of =>
      refine' Sd.at_mk KX G ?a ?l ?c ?k
      (case a => k_is); (case l => k_is); (case c => k_is); (case k => k_is)
    case a_is_whole =>
      refine' Sd.at_mk KX G ?a ?l ?c ?k
      (case a => k_is); (case l => k_is); (case c => k_is); (case k => k_is)
    case a_is_between =>
      refine' Sd.at_mk KX G ?a ?l ?c ?k
      (case a => k_is); (case l => k_is); (case c => k_is); (case k => k_is)
    case a_is_from =>
      refine' Sd.at_mk KX G ?a ?l ?c ?k
      (case a => k_is); (case l => k_is); (case c => k_is); (case k => k_is)
    case a_is_pair =>
      refine' Sd.at_mk KX G ?a ?l ?c ?k
      (case a => k_is); (case l => k_is); (case c => k_is); (case k => k_is)
    case a_are_pairs =>
      refine' Sd.at_mk KX G ?a ?l ?c ?k
      (case a => k_is); (case l => k_is); (case c => k_is); (case k => k_is)
    case a_are_within =>
      refine' Sd.at_mk KX G ?a ?l ?c ?k
      (case a => k_is); (case l => k_is); (case c => k_is); (case k => k_is)
    case a_are_pairs_within =>
      refine' Sd.at_mk KX G ?a ?l ?c ?k
      (case a => k_is); (case l => k_is); (case c => k_is); (case k => k_is)
    case a_is_truth =>
      refine' Sd.at_mk KX G ?a ?l ?c ?k
      (case a => k_is); (case l => k_is); (case c => k_is); (case k => k_is)
    case a_is_table_row =>
      refine' Sd.at_mk KX G ?a ?l ?c ?k
      (case a => k_is); (case l => k_is); (case c => k_is); (case k => k_is)
    case a_are_numbers =>
      refine' Sd.at_mk KX G ?a ?l ?c ?k
      (case a => k_is); (case l => k_is); (case c => k_is); (case k => k_is)
    case a_is_turn =>
      refine' Sd.at_mk KX G ?a ?l ?c ?k
      (case a => k_is); (case l => k_is); (case c => k_is); (case k => k_is)
    case a_wrong_turn =>
      refine' Sd.at_mk KX G ?a ?l ?c ?k
      (case a => k_is); (case l => k_is); (case c => k_is); (case k => k_is)
    case a_are_rising =>
      refine' Sd.at_mk KX G ?a ?l ?c ?k
      (case a => k_is); (case l => k_is); (case c => k_is); (case k => k_is)
    case a_are_ends =>
      refine' Sd.at_mk KX G ?a ?l ?c ?k
      (case a => k_is); (case l => k_is); (case c => k_is); (case k => k_is)
    case a_are_heads =>
      refine' Sd.at_mk KX G ?a ?l ?c ?k
      (case a => k_is); (case l => k_is); (case c => k_is); (case k => k_is)
    case a_wrong_place =>
      refine' Sd.at_mk KX G ?a ?l ?c ?k
      (case a => k_is); (case l => k_is); (case c => k_is); (case k => k_is)
    case a__law_told =>
      refine' Sd.at_mk KX G ?a ?l ?c ?k
      (case a => k_is); (case l => k_is); (case c => k_is); (case k => k_is)
    case a_all_turned =>
      refine' Sd.at_mk KX G ?a ?l ?c ?k
      (case a => k_is); (case l => k_is); (case c => k_is); (case k => k_is)
    case a_label =>
      refine' Sd.at_mk KX G ?a ?l ?c ?k
      (case a => k_is); (case l => k_is); (case c => k_is); (case k => k_is)
    case a__law_label =>
      refine' Sd.at_mk KX G ?a ?l ?c ?k
      (case a => k_is); (case l => k_is); (case c => k_is); (case k => k_is)
    case a_law =>
      refine' Sd.at_mk KX G ?a ?l ?c ?k
      (case a => k_is); (case l => k_is); (case c => k_is); (case k => k_is)
    case cc0 =>
      refine' ⟨?pg, ?hd, ?po, ?sa⟩
      (case pg => k_is); (case hd => k_is); (case po => k_is); (case sa => k_is)
    (case na0_heads => show PySem.W.findIn _ _ _ = some none; k_is)
    (case na0_maps => show PySem.W.findIn _ _ _ = some none; k_is)
    (case na0_table => show PySem.W.findIn _ _ _ = some none; k_is)
    (case na0_targets => show PySem.W.findIn _ _ _ = some none; k_is)
    case t0_named =>
      refine' Sd.mt_mk ?a ?i ?l ?c ?k
      (case a => k_is); (case i => k_is); (case l => k_is); (case c => k_is); (case k => k_is)
    case t0_turned =>
      refine' Sd.mt_mk ?a ?i ?l ?c ?k
      (case a => k_is); (case i => k_is); (case l => k_is); (case c => k_is); (case k => k_is)
    case t0_turnings =>
      refine' Sd.mt_mk ?a ?i ?l ?c ?k
      (case a => k_is); (case i => k_is); (case l => k_is); (case c => k_is); (case k => k_is)

