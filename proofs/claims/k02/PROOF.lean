import PyProof.Rows.All
import Wide.All
import OpenK.AllK
import Wide.FinOn
import KE.KStateDown
import HandS.ForMost
import HandS.More
import HandS.WordsExc
import HandS.Defaults
import HandS.Zip
import HandS.TupAny
import HandS.IsInst
import KE.GoesMore
import HandS.Exc
import HandS.ExcOwn
import HandS.TupMul
import HandS.Wide
import HandS.NoneIn
import PyProof.TypeEq
import PyProof.TupleOps
import PyProof.ReprRoads
import PyProof.CallFns
import KE.GoesEnum
import HandS.HeadEnd
import PyProof.Rows.RegStrFacts
import PyProof.FitsInt
import HandS.ExcInit
import HandS.ExcField
import HandS.HeadHook1
import HandS.HeadHook2
import HandS.Style
import HandS.Flow
import HandS.SortInts
import KE.KRevSl
import HandS.Deep
import HandS.Strs
import HandS.Conv
import HandS.SetFor
import PyProof.LongRange
import PyProof.MaxThree
import HandS.Dict
import HandS.Head0
import HandS.Head1
import HandS.Head2
import PySem.Challenge.RW_pointingreads_k02_whole_parts_of_rows
set_option Elab.async false
set_option linter.all false
set_option maxRecDepth 100000
set_option maxHeartbeats 0
noncomputable section
/-! Mi: a plain evaluation of the pure part of a text, over values without a heap, and that the machine keeps to it. Here: tuples that are known to the object. -/
namespace Mi
open PySem PySem.Spec PyProof.Rows L2
abbrev tupO (us : Array Value) (n : Nat) : Obj := { cls := .type "tuple", dict := none, data := .seq us n, slots := #[] }
/-- a tuple, its object known -/
def TupS (H : Hp) (a : Addr) (xs : List V) : Prop := ∃ us n, H a = some (.frz (tupO us n) (.tup xs))
theorem TupS.sq {K : PySem.W.Frag} {H : Hp} {a : Addr} {xs : List V} (h : TupS H a xs) : SqT K H a xs := let ⟨_, _, e⟩ := h; .inl (.inr ⟨_, e⟩)
theorem TupS.mono {H H' : Hp} {a : Addr} {xs : List V} (h : TupS H a xs) (e : Same H H') : TupS H' a xs := let ⟨us, n, q⟩ := h; ⟨us, n, e _ _ q⟩
theorem TupS.new {H : Hp} {p : Addr} {us : Array Value} {n : Nat} {xs : List V} : TupS (upd H p (.frz (tupO us n) (.tup xs))) p xs := ⟨us, n, upd_same⟩
section
variable {X : Cx} {pins : List (Addr × Obj)} {σ : L2.St} {H : Hp} {s : Shared} {xs : List V} {us : List Value}
theorem inv_newT (I : Inv X pins σ H s) (r : Vals xs us) (hz : xs.length ≤ sizeLine) (tk : Nat) : Inv X pins σ (upd H s.heap.objs.size (.frz (tupO us.toArray 0) (.tup xs))) { s with heap := s.heap.push (tupO us.toArray 0), toks := tk } :=
  I.laid (t' := tk) (fun _ _ q => Heap.get?_push_of_some _ q) (Nat.le_refl _) ⟨Heap.get?_push_size _ rfl, hz, us, r, _, Heap.get?_push_size _ rfl, rfl, 0, rfl⟩
theorem inv_tupS (I : Inv X pins σ H s) {a : Addr} (h : TupS H a xs) : ∃ us n, Vals xs us ∧ s.heap.get? a = some (tupO us.toArray n) ∧ xs.length ≤ sizeLine := by
  obtain ⟨ua, n, e⟩ := h
  obtain ⟨e1, hz, its, r, o, e2, _, m, e3⟩ := I.hok a _ e
  rw [e1] at e2
  cases e2
  cases e3
  exact ⟨its, _, r, e1, hz⟩
variable {e o : Expr} {es : List Expr} {t : TA} {pos : Pos}
def tTupZ (t : TA) : TE := fun σ H Q => t σ H fun xs H1 => xs.length ≤ sizeLine ∧ ∀ p us n, H1 p = none → Q (.ref p) (upd H1 p (.frz (tupO us n) (.tup xs)))
theorem pe_tupZ {x1} (h : PA X es t) : PE X (.Tuple es x1 pos) (tTupZ t) := by
  constructor
  intro pins s σ H Q I hq
  apply wpAny_Tuple_spliced
  apply thn (h.run pos pins s σ H _ I hq)
  rintro us s1 ⟨xs, H1, I1, r, hz, q⟩
  refine ⟨by rw [← r.length]; exact hz, V.ref _, _, inv_newT I1 r hz s1.toks, rfl, ?_⟩
  exact q _ _ _ (I1.hok.fresh (Nat.le_refl _))
theorem call_tupZ : CallR X (.type "tuple") (fun vs H Q => ∃ p ys, vs = [.ref p] ∧ ((SqL X.K H p ys ∧ ∀ l us n, H l = none → Q (.ref l) (upd H l (.frz (tupO us n) (.tup ys)))) ∨ (SqT X.K H p ys ∧ Q (.ref p) H))) := by
  intro pins s σ H vs us Q I r h
  obtain ⟨p, ys, rfl, h⟩ := h
  rcases h with ⟨hl, q⟩ | ⟨ht, q⟩
  · obtain ⟨u, rfl, rx⟩ := vals1 r
    cases rx
    obtain ⟨its, rv, li, hz⟩ := I.list hl
    have hn := rv.length
    apply call_tuple_list li.isList _ (by simp only [List.size_toArray] <;> omega)
    intro h2 kp
    have J : Inv X pins σ H { s with heap := h2 } := I.kept (t' := s.toks) kp
    exact ⟨V.ref _, _, inv_newT J rv hz s.toks, rfl, q _ _ _ (J.hok.fresh (Nat.le_refl _))⟩
  · exact call_tupleT pins s σ H _ _ Q I r ⟨p, ys, rfl, ht, q⟩
def rCatZ (K : PySem.W.Frag) : R2 := fun x y H Q => ∃ a b xs ys, x = .ref a ∧ y = .ref b ∧ SqT K H a xs ∧ SqT K H b ys ∧ xs.length + ys.length ≤ sizeLine ∧
  (xs = [] → Q (.ref b) H) ∧ (xs ≠ [] → ys = [] → Q (.ref a) H) ∧ (xs ≠ [] → ys ≠ [] → ∀ p us n, H p = none → Q (.ref p) (upd H p (.frz (tupO us n) (.tup (xs ++ ys)))))
theorem op_catZ : OpR X (binaryOp .Add) (rCatZ X.K) := by
  intro pins s σ H x y v u Q I rx ry h
  obtain ⟨a, b, xs, ys, ex, ey, ha, hb, hz, q0, q1, q2⟩ := h
  by_cases hx : xs = []
  · exact op_catA pins s σ H x y v u Q I rx ry ⟨a, b, xs, ys, ex, ey, ha, hb, hz, q0, q1, fun z => absurd hx z⟩
  by_cases hy : ys = []
  · exact op_catA pins s σ H x y v u Q I rx ry ⟨a, b, xs, ys, ex, ey, ha, hb, hz, q0, q1, fun _ z => absurd hy z⟩
  · subst ex ey
    cases rx
    cases ry
    obtain ⟨us1, v1, t1, _⟩ := I.tuple ha
    obtain ⟨us2, v2, t2, _⟩ := I.tuple hb
    have n1 : us1 ≠ [] := fun z => hx (v1.nil_iff.mp z)
    have n2 : us2 ≠ [] := fun z => hy (v2.nil_iff.mp z)
    have hl : us1.length + us2.length ≤ sizeLine := by rw [← v1.length, ← v2.length]; exact hz
    apply HT.cat_tup t1 t2 n1 (fun z => absurd z n2) _ hl
    intro _
    exact ⟨V.ref _, _, inv_newT I (v1.append v2) (by rw [List.length_append]; exact hz) s.toks, rfl, q2 hx hy _ _ _ (I.hok.fresh (Nat.le_refl _))⟩
def rSlZ (K : PySem.W.Frag) : V → Option Int → Option Int → Hp → VK → Prop := fun x lo hi H Q => ∃ a xs, x = .ref a ∧ SqT K H a xs ∧
  (HT.sIx xs.length 0 lo = 0 ∧ HT.sIx xs.length xs.length hi = xs.length → Q (.ref a) H) ∧ (¬ (HT.sIx xs.length 0 lo = 0 ∧ HT.sIx xs.length xs.length hi = xs.length) → ∀ p us n, H p = none → Q (.ref p) (upd H p (.frz (tupO us n) (.tup (cutV xs lo hi)))))
theorem sl_tupZ : SlR X (rSlZ X.K) := by
  intro pins s σ H x v vl vu lo hi sl Q I rx hs pl pu h
  obtain ⟨a, xs, ex, ha, q1, q2⟩ := h
  by_cases hw : HT.sIx xs.length 0 lo = 0 ∧ HT.sIx xs.length xs.length hi = xs.length
  · exact sl_tupA pins s σ H x v vl vu lo hi sl Q I rx hs pl pu ⟨a, xs, ex, ha, q1, fun z => absurd hw z⟩
  · subst ex
    cases rx
    obtain ⟨its, rv, tu, hz⟩ := I.tuple ha
    have hn : its.toArray.size = xs.length := by rw [List.size_toArray, rv.length]
    refine ⟨"tuple", _, PyProof.Rows.slot_tuple_getitem.lookup, tu.typeIs, ?_⟩
    apply HT.getItem_tuple_cut tu hs pl pu (by rw [hn]; exact hw) _ (by rw [hn]; exact hz)
    rw [hn]
    exact ⟨V.ref _, _, inv_newT I ((rv.drop _).take _) (Nat.le_trans (cutV_length xs lo hi) hz) s.toks, rfl, q2 hw _ _ _ (I.hok.fresh (Nat.le_refl _))⟩
end
end Mi
/-! Mi: a plain evaluation of the pure part of a text, over values without a heap, and that the machine keeps to it. -/
namespace Mi
/-- a test that nothing ever reckons out -/
noncomputable def ifC {α : Type} (p : Prop) (a b : α) : α := @ite α p (Classical.propDecidable p) a b
theorem ifC_pos {α : Type} {p : Prop} {a b : α} (h : p) : ifC p a b = a := if_pos h
theorem ifC_neg {α : Type} {p : Prop} {a b : α} (h : ¬p) : ifC p a b = b := if_neg h
open PySem PySem.Spec PyProof.Rows L2

/-! ### values, the draws' state, slots, answers -/
inductive D where
  | py (d : PyData)
  | wt (xs : List PyData)
  | mm
structure Wd where
  cells : List Int
  great : List Int
  spot : Int
structure WA where
  m : Addr
  c : Addr
  g : Addr
inductive Slot where
  | no
  | im (d : D)
  | ow (xs : List PyData)
  | od (kvs : List (Int × PyData))
abbrev En := List Slot
inductive Re (α : Type) where
  | ok (a : α) (r : En) (w : Wd)
  | bad
  | ex (c : Str) (f : List Str) (y : List PyData) (r : En) (w : Wd)
abbrev M (α : Type) := En → Wd → Re α
def Re.bind {α β : Type} (x : Re α) (k : α → M β) : Re β := match x with
  | .ok a r w => k a r w
  | .bad => .bad
  | .ex c f y r w => .ex c f y r w
/-- where nothing may be raised -/
def Re.cut {α : Type} (x : Re α) : Re α := match x with
  | .ok a r w => .ok a r w
  | .bad => .bad
  | .ex _ _ _ _ _ => .bad
inductive Fl where
  | nx (r : En) (w : Wd)
  | rt (d : D) (w : Wd)
  | br (r : En) (w : Wd)
  | ct (r : En) (w : Wd)
  | bad
  | ex (c : Str) (f : List Str) (y : List PyData) (r : En) (w : Wd)
abbrev S := En → Wd → Fl

/-! ### data in a heap -/
/-- stands first in the data of a dict, that it be never shown -/
def pois : PyData × PyData := (.int (2 ^ 2000), .none)
def keyD : Key → PyData
  | .inl i => .int i
  | .inr x => .str x
mutual
inductive Dq (K : PySem.W.Frag) (H : Hp) : V → PyData → Prop
  | non : Dq K H .non .none
  | bl (b : Bool) : Dq K H (.bl b) (.bool b)
  | int (i : Int) : Dq K H (.int i) (.int i)
  | str (x : Str) : Dq K H (.str x) (.str x)
  | lst {a : Addr} {xs : List V} {ds : List PyData} : H a = some (.lst xs) → DqAll K H xs ds → Dq K H (.ref a) (.list ds)
  | tup {a : Addr} {xs : List V} {ds : List PyData} : TupS H a xs → DqAll K H xs ds → Dq K H (.ref a) (.tuple ds)
  | dct {a : Addr} {ps : List (Key × V)} {kvs : List (PyData × PyData)} : H a = some (.dK ps) → DqPs K H ps kvs → Dq K H (.ref a) (.dict (pois :: kvs))
inductive DqAll (K : PySem.W.Frag) (H : Hp) : List V → List PyData → Prop
  | nil : DqAll K H [] []
  | cons {v : V} {vs : List V} {d : PyData} {ds : List PyData} : Dq K H v d → DqAll K H vs ds → DqAll K H (v :: vs) (d :: ds)
inductive DqPs (K : PySem.W.Frag) (H : Hp) : List (Key × V) → List (PyData × PyData) → Prop
  | nil : DqPs K H [] []
  | cons {k : Key} {v : V} {d : PyData} {ps : List (Key × V)} {kvs : List (PyData × PyData)} : Dq K H v d → DqPs K H ps kvs → DqPs K H ((k, v) :: ps) ((keyD k, d) :: kvs)
end
mutual
theorem dq_dp {K : PySem.W.Frag} {H : Hp} : ∀ (d : PyData) (v : V), d.hasDict = false → Dq K H v d → L2.Dp K H v d
  | .none, _, _, h => by cases h; exact .non
  | .bool b, _, _, h => by cases h; exact .bl b
  | .int i, _, _, h => by cases h; exact .int i
  | .str x, _, _, h => by cases h; exact .str x
  | .list ds, _, n, h => by
    cases h with
    | lst hs ha => exact .lst (.inl (.inl hs)) (dqs_dp ds _ (by unfold PyData.hasDict at n; exact n) ha)
  | .tuple ds, _, n, h => by
    cases h with
    | tup hs ha => exact .tup hs.sq (dqs_dp ds _ (by unfold PyData.hasDict at n; exact n) ha)
  | .dict _, _, n, _ => by unfold PyData.hasDict at n; cases n
theorem dqs_dp {K : PySem.W.Frag} {H : Hp} : ∀ (ds : List PyData) (vs : List V), PyData.hasDictAll ds = false → DqAll K H vs ds → L2.DpAll K H vs ds
  | [], _, _, h => by cases h; exact .nil
  | d :: ds, _, n, h => by
    unfold PyData.hasDictAll at n
    rw [Bool.or_eq_false_iff] at n
    cases h with
    | cons h1 h2 => exact .cons (dq_dp d _ n.1 h1) (dqs_dp ds _ n.2 h2)
end
theorem nd_all {ds : List PyData} (h : PyData.canLayAll0 ds = true) : PyData.hasDictAll ds = false := by
  have := PyData.hasDict_of_canLay (.list ds) (by unfold PyData.canLay0; exact h)
  unfold PyData.hasDict at this
  exact this
theorem nd_one {d : PyData} (h : d.canLay0 = true) : d.hasDict = false := PyData.hasDict_of_canLay d h
theorem nd_list {ds : List PyData} (h : PyData.canLayAll0 ds = true) : (PyData.list ds).hasDict = false := by
  unfold PyData.hasDict
  exact nd_all h
theorem nd_tup {ds : List PyData} (h : PyData.canLayAll0 ds = true) : (PyData.tuple ds).hasDict = false := by
  unfold PyData.hasDict
  exact nd_all h

/-! ### data in a heap stay where nothing that is known is lost -/
mutual
theorem dp_mono {K : PySem.W.Frag} {H H' : Hp} (e : Same H H') : ∀ (d : PyData) (v : V), Dq K H v d → Dq K H' v d
  | .none, _, h => by cases h; exact .non
  | .bool b, _, h => by cases h; exact .bl b
  | .int i, _, h => by cases h; exact .int i
  | .str x, _, h => by cases h; exact .str x
  | .list ds, _, h => by
    cases h with
    | lst hs ha => exact .lst (e _ _ hs) (dps_mono e ds _ ha)
  | .tuple ds, _, h => by
    cases h with
    | tup hs ha =>
      exact .tup (hs.mono e) (dps_mono e ds _ ha)
  | .dict [], _, h => by cases h
  | .dict (_ :: kvs), _, h => by
    cases h with
    | dct hs ha => exact .dct (e _ _ hs) (dks_mono e kvs _ ha)
theorem dps_mono {K : PySem.W.Frag} {H H' : Hp} (e : Same H H') : ∀ (ds : List PyData) (vs : List V), DqAll K H vs ds → DqAll K H' vs ds
  | [], _, h => by cases h; exact .nil
  | d :: ds, _, h => by
    cases h with
    | cons h1 h2 => exact .cons (dp_mono e d _ h1) (dps_mono e ds _ h2)
theorem dks_mono {K : PySem.W.Frag} {H H' : Hp} (e : Same H H') : ∀ (kvs : List (PyData × PyData)) (ps : List (Key × V)), DqPs K H ps kvs → DqPs K H' ps kvs
  | [], _, h => by cases h; exact .nil
  | (_, d) :: kvs, _, h => by
    cases h with
    | cons h1 h2 => exact .cons (dp_mono e d _ h1) (dks_mono e kvs _ h2)
end
theorem same_sqT {K : PySem.W.Frag} {H H' : Hp} {a : Addr} {xs : List V} (e : Same H H') (h : SqT K H a xs) : SqT K H' a xs := by
  rcases h with (hs | ⟨o, hs⟩) | hs
  · exact .inl (.inl (e _ _ hs))
  · exact .inl (.inr ⟨o, e _ _ hs⟩)
  · exact .inr hs
theorem dpall_len {K : PySem.W.Frag} {H : Hp} : ∀ {vs : List V} {ds : List PyData}, DqAll K H vs ds → vs.length = ds.length
  | _, _, .nil => rfl
  | _, _, .cons _ t => by rw [List.length_cons, List.length_cons, dpall_len t]
theorem dpall_get {K : PySem.W.Frag} {H : Hp} : ∀ {vs : List V} {ds : List PyData} {i : Nat} {d : PyData}, DqAll K H vs ds → ds[i]? = some d → ∃ v, vs[i]? = some v ∧ Dq K H v d
  | _, _, _, _, .nil, e => by simp at e
  | _, _, 0, _, .cons h _, e => by simp at e; subst e; exact ⟨_, rfl, h⟩
  | _, _, i + 1, _, .cons _ t, e => by
    obtain ⟨v, h1, h2⟩ := dpall_get (i := i) t (by simpa using e)
    exact ⟨v, by simpa using h1, h2⟩
theorem dpall_get2 {K : PySem.W.Frag} {H : Hp} : ∀ {vs : List V} {ds : List PyData} {i : Nat} {v : V}, DqAll K H vs ds → vs[i]? = some v → ∃ d, ds[i]? = some d ∧ Dq K H v d
  | _, _, _, _, .nil, e => by simp at e
  | _, _, 0, _, .cons h _, e => by simp at e; subst e; exact ⟨_, rfl, h⟩
  | _, _, i + 1, _, .cons _ t, e => by
    obtain ⟨v, h1, h2⟩ := dpall_get2 (i := i) t (by simpa using e)
    exact ⟨v, by simpa using h1, h2⟩
theorem dpall_app {K : PySem.W.Frag} {H : Hp} : ∀ {vs ws : List V} {ds es : List PyData}, DqAll K H vs ds → DqAll K H ws es → DqAll K H (vs ++ ws) (ds ++ es)
  | _, _, _, _, .nil, t => t
  | _, _, _, _, .cons h r, t => .cons h (dpall_app r t)
theorem dpall_take {K : PySem.W.Frag} {H : Hp} : ∀ {vs : List V} {ds : List PyData} (n : Nat), DqAll K H vs ds → DqAll K H (vs.take n) (ds.take n)
  | _, _, 0, _ => .nil
  | _, _, _ + 1, .nil => .nil
  | _, _, n + 1, .cons h t => .cons h (dpall_take n t)
theorem dpall_drop {K : PySem.W.Frag} {H : Hp} : ∀ {vs : List V} {ds : List PyData} (n : Nat), DqAll K H vs ds → DqAll K H (vs.drop n) (ds.drop n)
  | _, _, 0, h => h
  | _, _, _ + 1, .nil => .nil
  | _, _, n + 1, .cons _ t => dpall_drop n t
theorem dpall_ints {K : PySem.W.Frag} {H : Hp} : ∀ (ns : List Int), DqAll K H (ns.map V.int) (ns.map PyData.int)
  | [] => .nil
  | n :: ns => .cons (.int n) (dpall_ints ns)
theorem dpall_ints_inv {K : PySem.W.Frag} {H : Hp} : ∀ (ns : List Int) (vs : List V), DqAll K H vs (ns.map PyData.int) → vs = ns.map V.int
  | [], _, h => by cases h; rfl
  | n :: ns, _, h => by
    cases h with
    | cons h1 h2 =>
      cases h1
      rw [dpall_ints_inv ns _ h2]
      rfl
theorem dpall_bools_inv {K : PySem.W.Frag} {H : Hp} : ∀ (ns : List Bool) (vs : List V), DqAll K H vs (ns.map PyData.bool) → vs = ns.map V.bl
  | [], _, h => by cases h; rfl
  | n :: ns, _, h => by
    cases h with
    | cons h1 h2 =>
      cases h1
      rw [dpall_bools_inv ns _ h2]
      rfl

/-! ### what a heap holds -/
def Rv (K : PySem.W.Frag) (wa : WA) (G : Hp) (v : V) : D → Prop
  | .py d => Dq K G v d
  | .wt xs => ∃ a vs, v = .ref a ∧ SqT K G a vs ∧ DqAll K G vs xs
  | .mm => v = .ref wa.m
theorem Rv.mono {K : PySem.W.Frag} {wa : WA} {G G' : Hp} {v : V} {d : D} (h : Rv K wa G v d) (e : Same G G') : Rv K wa G' v d := by
  cases d with
  | py d => exact dp_mono e d v h
  | wt xs =>
    obtain ⟨a, vs, h1, h2, h3⟩ := h
    exact ⟨a, vs, h1, same_sqT e h2, dps_mono e _ _ h3⟩
  | mm => exact h
inductive RvAll (K : PySem.W.Frag) (wa : WA) (G : Hp) : List V → List D → Prop
  | nil : RvAll K wa G [] []
  | cons {v : V} {vs : List V} {d : D} {ds : List D} : Rv K wa G v d → RvAll K wa G vs ds → RvAll K wa G (v :: vs) (d :: ds)
theorem RvAll.mono {K : PySem.W.Frag} {wa : WA} {G G' : Hp} (e : Same G G') : ∀ {vs : List V} {ds : List D}, RvAll K wa G vs ds → RvAll K wa G' vs ds
  | _, _, .nil => .nil
  | _, _, .cons h t => .cons (h.mono e) (t.mono e)
theorem RvAll.len {K : PySem.W.Frag} {wa : WA} {G : Hp} : ∀ {vs : List V} {ds : List D}, RvAll K wa G vs ds → vs.length = ds.length
  | _, _, .nil => rfl
  | _, _, .cons _ t => by rw [List.length_cons, List.length_cons, t.len]
theorem RvAll.get {K : PySem.W.Frag} {wa : WA} {G : Hp} : ∀ {vs : List V} {ds : List D} {i : Nat} {d : D}, RvAll K wa G vs ds → ds[i]? = some d → ∃ v, vs[i]? = some v ∧ Rv K wa G v d
  | _, _, _, _, .nil, e => by simp at e
  | _, _, 0, _, .cons h _, e => by simp at e; subst e; exact ⟨_, rfl, h⟩
  | _, _, i + 1, _, .cons _ t, e => by
    obtain ⟨v, h1, h2⟩ := RvAll.get (i := i) t (by simpa using e)
    exact ⟨v, by simpa using h1, h2⟩
/-- plain data out of values -/
def pys : List D → Option (List PyData)
  | [] => some []
  | .py d :: r => (pys r).map (d :: ·)
  | .wt _ :: _ => none
  | .mm :: _ => none
theorem RvAll.pys {K : PySem.W.Frag} {wa : WA} {G : Hp} : ∀ {vs : List V} {ds : List D} {xs : List PyData}, RvAll K wa G vs ds → Mi.pys ds = some xs → DqAll K G vs xs
  | _, _, _, .nil, e => by
    unfold Mi.pys at e
    cases e
    exact .nil
  | _, _, xs, .cons (d := .py d) (ds := ds) h t, e => by
    unfold Mi.pys at e
    cases q : Mi.pys ds with
    | none => rw [q] at e; cases e
    | some ys =>
      rw [q] at e
      cases e
      exact .cons h (t.pys q)
  | _, _, _, .cons (d := .mm) _ _, e => by
    unfold Mi.pys at e
    cases e
  | _, _, _, .cons (d := .wt _) _ _, e => by
    unfold Mi.pys at e
    cases e

def NoW (wa : WA) (G : Hp) : Prop := G wa.m = none ∧ G wa.c = none ∧ G wa.g = none
def wdPairs (wa : WA) (w : Wd) : List (Key × V) := [(Sum.inr ("cells" : Str), V.ref wa.c), (Sum.inr ("great" : Str), V.ref wa.g), (Sum.inr ("spot" : Str), V.int w.spot)]
structure WRep (wa : WA) (w : Wd) (H : Hp) : Prop where
  m : H wa.m = some (.dK (wdPairs wa w))
  c : H wa.c = some (.lst (w.cells.map V.int))
  g : H wa.g = some (.lst (w.great.map V.int))
  ne : wa.c ≠ wa.g
/-- Fr: what a caller keeps for himself; G: what never changes any more -/
structure RepH (wa : WA) (Fr G H : Hp) (w : Wd) : Prop where
  sub : Same G H
  fr : ∀ a o, Fr a = some o → H a = some o ∧ G a = none
  nw : NoW wa G
  fw : NoW wa Fr
  wr : WRep wa w H
structure Own (K : PySem.W.Frag) (wa : WA) (Fr G H : Hp) (a : Addr) (vs : List V) (xs : List PyData) : Prop where
  at_ : H a = some (.lst vs)
  da : DqAll K G vs xs
  g : G a = none
  f : Fr a = none
  wm : a ≠ wa.m
  wc : a ≠ wa.c
  wg : a ≠ wa.g
/-- a dict of one's own, with whole numbers as keys -/
inductive DPs (K : PySem.W.Frag) (G : Hp) : List (Key × V) → List (Int × PyData) → Prop
  | nil : DPs K G [] []
  | cons {i : Int} {v : V} {d : PyData} {ps : List (Key × V)} {kvs : List (Int × PyData)} : Dq K G v d → DPs K G ps kvs → DPs K G ((Sum.inl i, v) :: ps) ((i, d) :: kvs)
theorem DPs.mono {K : PySem.W.Frag} {G G' : Hp} (e : Same G G') : ∀ {ps : List (Key × V)} {kvs : List (Int × PyData)}, DPs K G ps kvs → DPs K G' ps kvs
  | _, _, .nil => .nil
  | _, _, .cons h t => .cons (dp_mono e _ _ h) (t.mono e)
structure OwnD (K : PySem.W.Frag) (wa : WA) (Fr G H : Hp) (a : Addr) (ps : List (Key × V)) (kvs : List (Int × PyData)) : Prop where
  at_ : H a = some (.dK ps)
  da : DPs K G ps kvs
  g : G a = none
  f : Fr a = none
  wm : a ≠ wa.m
  wc : a ≠ wa.c
  wg : a ≠ wa.g
def SlotOk (K : PySem.W.Frag) (wa : WA) (Fr G H : Hp) (o : Option V) : Slot → Prop
  | .no => True
  | .im d => ∃ v, o = some v ∧ Rv K wa G v d
  | .ow xs => ∃ a vs, o = some (.ref a) ∧ Own K wa Fr G H a vs xs
  | .od kvs => ∃ a ps, o = some (.ref a) ∧ OwnD K wa Fr G H a ps kvs
structure Rep (K : PySem.W.Frag) (wa : WA) (Fr G : Hp) (σ : L2.St) (H : Hp) (r : En) (w : Wd) : Prop where
  h : RepH wa Fr G H w
  slot : ∀ (i : Nat) (s : Slot), r[i]? = some s → ∃ o, σ[i]? = some o ∧ SlotOk K wa Fr G H o s
  inj : ∀ (i j : Nat) (xs ys : List PyData) (a : Addr), r[i]? = some (.ow xs) → r[j]? = some (.ow ys) → σ[i]? = some (some (.ref a)) → σ[j]? = some (some (.ref a)) → i = j

theorem same_new {G : Hp} {p : Addr} {o : HO} (h : G p = none) : Same G (upd G p o) := fun b x e => by
  rw [upd_ne (ne_of_none e h)]
  exact e
section
variable {K : PySem.W.Frag} {wa : WA} {Fr G G' H H' : Hp} {σ : L2.St} {r : En} {w w' : Wd} {p a : Addr} {o : HO} {v : V} {d : D} {vs : List V} {xs : List PyData}
theorem RepH.gnone (h : RepH wa Fr G H w) (hp : H p = none) : G p = none := by
  cases q : G p with
  | none => rfl
  | some o =>
    rw [h.sub _ _ q] at hp
    cases hp
theorem RepH.fnone (h : RepH wa Fr G H w) (hp : H p = none) : Fr p = none := by
  cases q : Fr p with
  | none => rfl
  | some o =>
    rw [(h.fr _ _ q).1] at hp
    cases hp
theorem RepH.now (h : RepH wa Fr G H w) (hp : H p = none) : p ≠ wa.m ∧ p ≠ wa.c ∧ p ≠ wa.g :=
  ⟨(ne_of_none h.wr.m hp).symm, (ne_of_none h.wr.c hp).symm, (ne_of_none h.wr.g hp).symm⟩
theorem WRep.upd (x : WRep wa w H) (h : p ≠ wa.m ∧ p ≠ wa.c ∧ p ≠ wa.g) : WRep wa w (upd H p o) :=
  ⟨by rw [upd_ne h.1.symm]; exact x.m, by rw [upd_ne h.2.1.symm]; exact x.c, by rw [upd_ne h.2.2.symm]; exact x.g, x.ne⟩
/-- a new object that never changes -/
theorem RepH.alloc (h : RepH wa Fr G H w) (hp : H p = none) : RepH wa Fr (upd G p o) (upd H p o) w := by
  refine ⟨fun b x e => ?_, fun b x e => ?_, ?_, h.fw, h.wr.upd (h.now hp)⟩
  · by_cases hb : b = p
    · subst hb
      rw [upd_same] at e ⊢
      exact e
    · rw [upd_ne hb] at e ⊢
      exact h.sub _ _ e
  · have hb : b ≠ p := ne_of_none (h.fr b x e).1 hp
    rw [upd_ne hb, upd_ne hb]
    exact h.fr b x e
  · obtain ⟨n1, n2, n3⟩ := h.now hp
    obtain ⟨m1, m2, m3⟩ := h.nw
    exact ⟨by rw [upd_ne n1.symm]; exact m1, by rw [upd_ne n2.symm]; exact m2, by rw [upd_ne n3.symm]; exact m3⟩
theorem Own.alloc (x : Own K wa Fr G H a vs xs) (h : RepH wa Fr G H w) (hp : H p = none) : Own K wa Fr (upd G p o) (upd H p o) a vs xs := by
  have n : a ≠ p := ne_of_none x.at_ hp
  exact ⟨by rw [upd_ne n]; exact x.at_, dps_mono (same_new (h.gnone hp)) _ _ x.da, by rw [upd_ne n]; exact x.g, x.f, x.wm, x.wc, x.wg⟩
theorem OwnD.alloc {ps : List (Key × V)} {kvs : List (Int × PyData)} (x : OwnD K wa Fr G H a ps kvs) (h : RepH wa Fr G H w) (hp : H p = none) : OwnD K wa Fr (upd G p o) (upd H p o) a ps kvs := by
  have n : a ≠ p := ne_of_none x.at_ hp
  exact ⟨by rw [upd_ne n]; exact x.at_, x.da.mono (same_new (h.gnone hp)), by rw [upd_ne n]; exact x.g, x.f, x.wm, x.wc, x.wg⟩
theorem Rep.alloc (x : Rep K wa Fr G σ H r w) (hp : H p = none) (o : HO) : Rep K wa Fr (upd G p o) σ (upd H p o) r w := by
  refine ⟨x.h.alloc hp, fun i s e => ?_, x.inj⟩
  obtain ⟨q, e1, e2⟩ := x.slot i s e
  refine ⟨q, e1, ?_⟩
  cases s with
  | no => trivial
  | im d =>
    obtain ⟨v, h1, h2⟩ := e2
    exact ⟨v, h1, h2.mono (same_new (x.h.gnone hp))⟩
  | ow xs =>
    obtain ⟨a, vs, h1, h2⟩ := e2
    exact ⟨a, vs, h1, h2.alloc x.h hp⟩
  | od kvs =>
    obtain ⟨a, ps, h1, h2⟩ := e2
    exact ⟨a, ps, h1, h2.alloc x.h hp⟩
/-- a name gets a value -/
theorem Rep.setIm (x : Rep K wa Fr G σ H r w) (i : Nat) (h : Rv K wa G v d) : Rep K wa Fr G (σ.set i (some v)) H (r.set i (.im d)) w := by
  refine ⟨x.h, fun j s e => ?_, fun j k xs ys a h1 h2 h3 h4 => ?_⟩
  · by_cases hj : i = j
    · subst hj
      have hl : i < r.length := by
        have := (List.getElem?_eq_some_iff.mp e).1
        rw [List.length_set] at this
        exact this
      rw [List.getElem?_set_self hl] at e
      cases e
      obtain ⟨o, e1, _⟩ := x.slot i _ (List.getElem?_eq_getElem hl)
      exact ⟨some v, List.getElem?_set_self (List.getElem?_eq_some_iff.mp e1).1, v, rfl, h⟩
    · rw [List.getElem?_set_ne hj] at e
      rw [List.getElem?_set_ne hj]
      exact x.slot j s e
  · have nj : i ≠ j := fun z => by
      subst z
      have hl : i < r.length := by
        have := (List.getElem?_eq_some_iff.mp h1).1
        rw [List.length_set] at this
        exact this
      rw [List.getElem?_set_self hl] at h1
      cases h1
    have nk : i ≠ k := fun z => by
      subst z
      have hl : i < r.length := by
        have := (List.getElem?_eq_some_iff.mp h2).1
        rw [List.length_set] at this
        exact this
      rw [List.getElem?_set_self hl] at h2
      cases h2
    rw [List.getElem?_set_ne nj] at h1 h3
    rw [List.getElem?_set_ne nk] at h2 h4
    exact x.inj j k xs ys a h1 h2 h3 h4
/-- a name gets a list of its own -/
theorem Rep.setOw (x : Rep K wa Fr G σ H r w) (i : Nat) (h : Own K wa Fr G H a vs xs) (hn : ∀ (j : Nat) (ys : List PyData), r[j]? = some (.ow ys) → σ[j]? ≠ some (some (.ref a))) : Rep K wa Fr G (σ.set i (some (.ref a))) H (r.set i (.ow xs)) w := by
  have len : ∀ {s : Slot}, (r.set i (.ow xs))[i]? = some s → i < r.length := fun e => by
    have := (List.getElem?_eq_some_iff.mp e).1
    rw [List.length_set] at this
    exact this
  refine ⟨x.h, fun j s e => ?_, fun j k xs' ys a' h1 h2 h3 h4 => ?_⟩
  · by_cases hj : i = j
    · subst hj
      have hl := len e
      rw [List.getElem?_set_self hl] at e
      cases e
      obtain ⟨o, e1, _⟩ := x.slot i _ (List.getElem?_eq_getElem hl)
      exact ⟨some (.ref a), List.getElem?_set_self (List.getElem?_eq_some_iff.mp e1).1, a, vs, rfl, h⟩
    · rw [List.getElem?_set_ne hj] at e
      rw [List.getElem?_set_ne hj]
      exact x.slot j s e
  · by_cases hj : i = j
    · subst hj
      by_cases hk : i = k
      · exact hk
      · have hl := len h1
        obtain ⟨o, e1, _⟩ := x.slot i _ (List.getElem?_eq_getElem hl)
        rw [List.getElem?_set_self (List.getElem?_eq_some_iff.mp e1).1] at h3
        cases h3
        rw [List.getElem?_set_ne hk] at h2 h4
        exact absurd h4 (hn k ys h2)
    · by_cases hk : i = k
      · subst hk
        have hl := len h2
        obtain ⟨o, e1, _⟩ := x.slot i _ (List.getElem?_eq_getElem hl)
        rw [List.getElem?_set_self (List.getElem?_eq_some_iff.mp e1).1] at h4
        cases h4
        rw [List.getElem?_set_ne hj] at h1 h3
        exact absurd h3 (hn j xs' h1)
      · rw [List.getElem?_set_ne hj] at h1 h3
        rw [List.getElem?_set_ne hk] at h2 h4
        exact x.inj j k xs' ys a' h1 h2 h3 h4
/-- a list that was nobody's is never changed any more -/
theorem Rep.freezeAt (x : Rep K wa Fr G σ H r w) (h : Own K wa Fr G H a vs xs) (hn : ∀ (j : Nat) (ys : List PyData), r[j]? = some (.ow ys) → σ[j]? ≠ some (some (.ref a))) :
    Same G (upd G a (.lst vs)) ∧ Rep K wa Fr (upd G a (.lst vs)) σ H r w ∧ Rv K wa (upd G a (.lst vs)) (.ref a) (.py (.list xs)) := by
  have sG : Same G (upd G a (.lst vs)) := same_new h.g
  refine ⟨sG, ⟨⟨fun b y e => ?_, fun b y e => ?_, ?_, x.h.fw, x.h.wr⟩, fun i s e => ?_, x.inj⟩, .lst upd_same (dps_mono sG _ _ h.da)⟩
  · by_cases hb : b = a
    · subst hb
      rw [upd_same] at e
      cases e
      exact h.at_
    · rw [upd_ne hb] at e
      exact x.h.sub _ _ e
  · have hb : b ≠ a := fun z => by
      subst z
      rw [h.f] at e
      cases e
    rw [upd_ne hb]
    exact x.h.fr b y e
  · obtain ⟨m1, m2, m3⟩ := x.h.nw
    exact ⟨by rw [upd_ne h.wm.symm]; exact m1, by rw [upd_ne h.wc.symm]; exact m2, by rw [upd_ne h.wg.symm]; exact m3⟩
  · obtain ⟨q, e1, e2⟩ := x.slot i s e
    refine ⟨q, e1, ?_⟩
    cases s with
    | no => trivial
    | im d =>
      obtain ⟨v, h1, h2⟩ := e2
      exact ⟨v, h1, h2.mono sG⟩
    | ow ys =>
      obtain ⟨b, us, rfl, h2⟩ := e2
      have hb : b ≠ a := fun z => by
        subst z
        exact hn i ys e e1
      exact ⟨b, us, rfl, h2.at_, dps_mono sG _ _ h2.da, by rw [upd_ne hb]; exact h2.g, h2.f, h2.wm, h2.wc, h2.wg⟩
    | od kvs =>
      obtain ⟨b, ps, rfl, h2⟩ := e2
      have hb : b ≠ a := fun z => by
        have := h2.at_
        rw [z, h.at_] at this
        cases this
      exact ⟨b, ps, rfl, h2.at_, h2.da.mono sG, by rw [upd_ne hb]; exact h2.g, h2.f, h2.wm, h2.wc, h2.wg⟩
theorem Rep.dropNo (x : Rep K wa Fr G σ H r w) (i : Nat) : Rep K wa Fr G σ H (r.set i .no) w := by
  have no : ∀ {j : Nat} {ys : List PyData}, (r.set i .no)[j]? = some (.ow ys) → i ≠ j ∧ r[j]? = some (.ow ys) := fun {j ys} e => by
    by_cases hj : i = j
    · subst hj
      have hl : i < r.length := by
        have := (List.getElem?_eq_some_iff.mp e).1
        rw [List.length_set] at this
        exact this
      rw [List.getElem?_set_self hl] at e
      cases e
    · rw [List.getElem?_set_ne hj] at e
      exact ⟨hj, e⟩
  refine ⟨x.h, fun j s e => ?_, fun j k xs ys a h1 h2 h3 h4 => x.inj j k xs ys a (no h1).2 (no h2).2 h3 h4⟩
  by_cases hj : i = j
  · subst hj
    have hl : i < r.length := by
      have := (List.getElem?_eq_some_iff.mp e).1
      rw [List.length_set] at this
      exact this
    rw [List.getElem?_set_self hl] at e
    cases e
    obtain ⟨o, e1, _⟩ := x.slot i _ (List.getElem?_eq_getElem hl)
    exact ⟨o, e1, trivial⟩
  · rw [List.getElem?_set_ne hj] at e
    exact x.slot j s e
/-- a list of one's own is read as a value: it is never changed any more -/
theorem Rep.freeze (x : Rep K wa Fr G σ H r w) {i : Nat} (e : r[i]? = some (.ow xs)) : ∃ a G', σ[i]? = some (some (.ref a)) ∧ Same G G' ∧ Rep K wa Fr G' σ H (r.set i (.im (.py (.list xs)))) w ∧ Rv K wa G' (.ref a) (.py (.list xs)) := by
  obtain ⟨q, e1, e2⟩ := x.slot i _ e
  obtain ⟨a, vs, rfl, ho⟩ := e2
  have y := x.dropNo i
  have hl : i < r.length := (List.getElem?_eq_some_iff.mp e).1
  have hn : ∀ (j : Nat) (ys : List PyData), (r.set i .no)[j]? = some (.ow ys) → σ[j]? ≠ some (some (.ref a)) := fun j ys ej ea => by
    by_cases hj : i = j
    · subst hj
      rw [List.getElem?_set_self hl] at ej
      cases ej
    · rw [List.getElem?_set_ne hj] at ej
      exact hj (x.inj i j xs ys a e ej e1 ea)
  obtain ⟨s1, s2, s3⟩ := y.freezeAt ho hn
  refine ⟨a, _, e1, s1, ?_, s3⟩
  have z := s2.setIm i s3
  have eσ : σ.set i (some (.ref a)) = σ := by
    obtain ⟨hl2, e2⟩ := List.getElem?_eq_some_iff.mp e1
    rw [← e2]
    exact List.set_getElem_self hl2
  rw [eσ, List.set_set] at z
  exact z
/-- a list of one's own changes -/
theorem Rep.change (x : Rep K wa Fr G σ H r w) {i : Nat} (e : r[i]? = some (.ow xs)) (e1 : σ[i]? = some (some (.ref a))) {us : List V} {ys : List PyData} (hd : DqAll K G us ys) : Rep K wa Fr G σ (upd H a (.lst us)) (r.set i (.ow ys)) w := by
  obtain ⟨q, e1', e2⟩ := x.slot i _ e
  rw [e1] at e1'
  cases e1'
  obtain ⟨a', vs, ea, ho⟩ := e2
  cases ea
  have hl : i < r.length := (List.getElem?_eq_some_iff.mp e).1
  have back : ∀ {j : Nat} {zs : List PyData}, (r.set i (.ow ys))[j]? = some (.ow zs) → ∃ z', r[j]? = some (.ow z') := fun {j zs} ej => by
    by_cases hj : i = j
    · subst hj
      exact ⟨xs, e⟩
    · rw [List.getElem?_set_ne hj] at ej
      exact ⟨zs, ej⟩
  refine ⟨⟨fun b y eb => ?_, fun b y eb => ?_, x.h.nw, x.h.fw, x.h.wr.upd ⟨ho.wm, ho.wc, ho.wg⟩⟩, fun j s ej => ?_, fun j k z1 z2 b h1 h2 h3 h4 => ?_⟩
  · have hb : b ≠ a := ne_of_none eb ho.g
    rw [upd_ne hb]
    exact x.h.sub _ _ eb
  · have hb : b ≠ a := ne_of_none eb ho.f
    rw [upd_ne hb]
    exact x.h.fr b y eb
  · by_cases hj : i = j
    · subst hj
      rw [List.getElem?_set_self hl] at ej
      cases ej
      exact ⟨some (.ref a), e1, a, us, rfl, upd_same, hd, ho.g, ho.f, ho.wm, ho.wc, ho.wg⟩
    · rw [List.getElem?_set_ne hj] at ej
      obtain ⟨q, f1, f2⟩ := x.slot j s ej
      refine ⟨q, f1, ?_⟩
      cases s with
      | no => trivial
      | im d => exact f2
      | ow zs =>
        obtain ⟨b, ws, rfl, hb⟩ := f2
        have nb : b ≠ a := fun z => by
          subst z
          exact hj (x.inj i j xs zs b e ej e1 f1)
        exact ⟨b, ws, rfl, by rw [upd_ne nb]; exact hb.at_, hb.da, hb.g, hb.f, hb.wm, hb.wc, hb.wg⟩
      | od kvs =>
        obtain ⟨b, ps, rfl, hb⟩ := f2
        have nb : b ≠ a := fun z => by
          have := hb.at_
          rw [z, ho.at_] at this
          cases this
        exact ⟨b, ps, rfl, by rw [upd_ne nb]; exact hb.at_, hb.da, hb.g, hb.f, hb.wm, hb.wc, hb.wg⟩
  · obtain ⟨z1', q1⟩ := back h1
    obtain ⟨z2', q2⟩ := back h2
    exact x.inj j k z1' z2' b q1 q2 h3 h4
end
end Mi
namespace Mi
open PySem PySem.Spec PyProof.Rows L2

/-! ### what is raised: class, field, what the field holds -/
def ExcAt (K : PySem.W.Frag) (mg : Str → Option Value) (G : Hp) (cls : Value) (d : Option Addr) (c : Str) (f : List Str) (y : List PyData) : Prop :=
  ∃ (C dd : Addr) (vs : List V), cls = .ref C ∧ mg c = some (.ref C) ∧ d = some dd ∧ G dd = some (.xd (f.zip vs)) ∧ DqAll K G vs y ∧ f.length = y.length
def ExOk (K : PySem.W.Frag) (mg : Str → Option Value) (W : WX) (wa : WA) (Fr G : Hp) (σ : L2.St) (c : Str) (f : List Str) (y : List PyData) (r : En) (w : Wd) : Prop :=
  ∀ H' G' cls d, Same G G' → Rep K wa Fr G' σ H' r w → ExcAt K mg G' cls d c f y → W cls d σ H'
theorem ExOk.mono {K : PySem.W.Frag} {mg : Str → Option Value} {W : WX} {wa : WA} {Fr G G1 : Hp} {σ : L2.St} {c : Str} {f : List Str} {y : List PyData} {r : En} {w : Wd} (h : ExOk K mg W wa Fr G σ c f y r w) (s : Same G G1) : ExOk K mg W wa Fr G1 σ c f y r w :=
  fun H' G' cls d s' => h H' G' cls d (s.trans s')
def ExSt (K : PySem.W.Frag) (mg : Str → Option Value) (W : WX) (wa : WA) (Fr G : Hp) (c : Str) (f : List Str) (y : List PyData) (r : En) (w : Wd) : Prop :=
  ∀ σ' H' G' cls d, Same G G' → Rep K wa Fr G' σ' H' r w → ExcAt K mg G' cls d c f y → W cls d σ' H'
theorem ExSt.mono {K : PySem.W.Frag} {mg : Str → Option Value} {W : WX} {wa : WA} {Fr G G1 : Hp} {c : Str} {f : List Str} {y : List PyData} {r : En} {w : Wd} (h : ExSt K mg W wa Fr G c f y r w) (s : Same G G1) : ExSt K mg W wa Fr G1 c f y r w :=
  fun σ' H' G' cls d s' => h σ' H' G' cls d (s.trans s')
theorem ExSt.at {K : PySem.W.Frag} {mg : Str → Option Value} {W : WX} {wa : WA} {Fr G : Hp} {σ : L2.St} {c : Str} {f : List Str} {y : List PyData} {r : En} {w : Wd} (h : ExSt K mg W wa Fr G c f y r w) : ExOk K mg W wa Fr G σ c f y r w :=
  fun H' G' cls d => h σ H' G' cls d
/-! ### judgements -/
def tM (K : PySem.W.Frag) (mg : Str → Option Value) (W : WX) (m : M D) : TE := fun σ H Q => ∃ wa Fr G r w, Rep K wa Fr G σ H r w ∧ match m r w with
  | .ok d r' w' => ∀ v H' G', Same G G' → Rep K wa Fr G' σ H' r' w' → Rv K wa G' v d → Q v H'
  | .ex c f y r' w' => ExOk K mg W wa Fr G σ c f y r' w'
  | .bad => False
def tT (K : PySem.W.Frag) (mg : Str → Option Value) (W : WX) (m : M Bool) : TT := fun σ H Q => ∃ wa Fr G r w, Rep K wa Fr G σ H r w ∧ match m r w with
  | .ok b r' w' => ∀ H' G', Same G G' → Rep K wa Fr G' σ H' r' w' → Q b H'
  | .ex c f y r' w' => ExOk K mg W wa Fr G σ c f y r' w'
  | .bad => False
def tMs (K : PySem.W.Frag) (mg : Str → Option Value) (W : WX) (m : M (List D)) : TA := fun σ H Q => ∃ wa Fr G r w, Rep K wa Fr G σ H r w ∧ match m r w with
  | .ok ds r' w' => ∀ vs H' G', Same G G' → Rep K wa Fr G' σ H' r' w' → RvAll K wa G' vs ds → Q vs H'
  | .ex c f y r' w' => ExOk K mg W wa Fr G σ c f y r' w'
  | .bad => False
/-- a new list -/
def tF (K : PySem.W.Frag) (mg : Str → Option Value) (W : WX) (m : M (List PyData)) : TE := fun σ H Q => ∃ wa Fr G r w, Rep K wa Fr G σ H r w ∧ match m r w with
  | .ok xs r' w' => ∀ a vs H' G', Same G G' → Rep K wa Fr G' σ H' r' w' → Own K wa Fr G' H' a vs xs → (∀ (j : Nat) (ys : List PyData), r'[j]? = some (.ow ys) → σ[j]? ≠ some (some (.ref a))) → Q (.ref a) H'
  | .ex c f y r' w' => ExOk K mg W wa Fr G σ c f y r' w'
  | .bad => False
def tX (K : PySem.W.Frag) (mg : Str → Option Value) (W : WX) (m : S) : TS := fun D σ H => ∃ wa Fr G r w, Rep K wa Fr G σ H r w ∧ match m r w with
  | .nx r' w' => ∀ σ' H' G', Same G G' → Rep K wa Fr G' σ' H' r' w' → D.nx σ' H'
  | .br r' w' => ∀ σ' H' G', Same G G' → Rep K wa Fr G' σ' H' r' w' → D.bk σ' H'
  | .ct r' w' => ∀ σ' H' G', Same G G' → Rep K wa Fr G' σ' H' r' w' → D.ct σ' H'
  | .rt d w' => ∀ v H' G', Same G G' → RepH wa Fr G' H' w' → Rv K wa G' v d → D.rt v H'
  | .ex c f y r' w' => ExSt K mg W wa Fr G c f y r' w'
  | .bad => False

section
variable {X : Cx} {e : Expr} {t t' : TE}
theorem pe_imp (h : PE X e t) (i : ∀ σ H Q, t' σ H Q → t σ H Q) : PE X e t' := ⟨fun pins s σ H Q I q => h.run pins s σ H Q I (i σ H Q q)⟩
theorem pt_imp {t t' : TT} (h : PT X e t) (i : ∀ σ H Q, t' σ H Q → t σ H Q) : PT X e t' := ⟨fun pins s σ H Q I q => h.run pins s σ H Q I (i σ H Q q)⟩
theorem pw_imp {t t' : TT} (h : PW X e t) (i : ∀ σ H Q, t' σ H Q → t σ H Q) : PW X e t' := ⟨fun wh pins s σ H Q I q => h.run wh pins s σ H Q I (i σ H Q q)⟩
theorem pa_imp {es : List Expr} {t t' : TA} (h : PA X es t) (i : ∀ σ H Q, t' σ H Q → t σ H Q) : PA X es t' := ⟨fun pos pins s σ H Q I q => h.run pos pins s σ H Q I (i σ H Q q)⟩
theorem ps_imp {st : Stmt} {t t' : TS} (h : PS X st t) (i : ∀ D σ H, t' D σ H → t D σ H) : PS X st t' := ⟨fun pins s σ H D I q => h.run pins s σ H D I (i D σ H q)⟩
theorem pss_imp {st : List Stmt} {t t' : TS} (h : PSs X st t) (i : ∀ D σ H, t' D σ H → t D σ H) : PSs X st t' := ⟨fun pins s σ H D I q => h.run pins s σ H D I (i D σ H q)⟩
end

/-! ### names, constants -/
def mVar (i : Nat) : M D := fun r w => match r[i]? with
  | some (.im d) => .ok d r w
  | some (.ow xs) => .ok (.py (.list xs)) (r.set i (.im (.py (.list xs)))) w
  | _ => .bad
def mC (d : D) : M D := fun r w => .ok d r w
section
variable {X : Cx} {K : PySem.W.Frag}
theorem m_var {i : Nat} {σ : L2.St} {H : Hp} {Q : VK} (h : tM K mg W (mVar i) σ H Q) : tVar i σ H Q := by
  obtain ⟨wa, Fr, G, r, w, x, q⟩ := h
  unfold mVar at q
  cases e : r[i]? with
  | none => simp only [e] at q
  | some s =>
    cases s with
    | no => simp only [e] at q
    | im d =>
      simp only [e] at q
      obtain ⟨o, e1, v, rfl, h2⟩ := x.slot i _ e
      exact ⟨v, e1, q v H G (Same.refl _) x h2⟩
    | ow xs =>
      simp only [e] at q
      obtain ⟨a, G', e1, s1, x1, h2⟩ := x.freeze e
      exact ⟨_, e1, q _ H G' s1 x1 h2⟩
    | od kvs => simp only [e] at q
theorem e_var (i : Nat) {x : Str} {pos : Pos} (hN : X.N[i]? = some x := by rfl) (hv : Vis X.env.scope x := by first | exact Or.inl rfl | exact Or.inr (Or.inl rfl) | exact Or.inr (Or.inr rfl)) (hd : (x == ("__debug__" : Str)) = false := by decide)
    (hcd : (x == ("__classdict__" : Str)) = false := by decide) : PE X (.Name x pos) (tM X.K X.mg W (mVar i)) := pe_imp (pe_var hN hv hd hcd) fun _ _ _ h => m_var h
theorem m_c {v : V} {d : D} (hr : ∀ K wa G, Rv K wa G v d) {σ : L2.St} {H : Hp} {Q : VK} (h : tM K mg W (mC d) σ H Q) : tC v σ H Q := by
  obtain ⟨wa, Fr, G, r, w, x, q⟩ := h
  exact q v H G (Same.refl _) x (hr _ _ _)
theorem e_int {i j pos} : PE X (.Constant (.int i) j pos) (tM X.K X.mg W (mC (.py (.int i)))) := pe_imp pe_int fun _ _ _ h => m_c (v := .int i) (d := .py (.int i)) (fun _ _ _ => Dq.int i) h
theorem e_bl {b j pos} : PE X (.Constant (.bool b) j pos) (tM X.K X.mg W (mC (.py (.bool b)))) := pe_imp pe_bl fun _ _ _ h => m_c (v := .bl b) (d := .py (.bool b)) (fun _ _ _ => Dq.bl b) h
theorem e_non {j pos} : PE X (.Constant .none j pos) (tM X.K X.mg W (mC (.py .none))) := pe_imp pe_non fun _ _ _ h => m_c (v := .non) (d := .py .none) (fun _ _ _ => Dq.non) h
theorem e_str {x j pos} : PE X (.Constant (.str x) j pos) (tM X.K X.mg W (mC (.py (.str x)))) := pe_imp pe_str fun _ _ _ h => m_c (v := .str x) (d := .py (.str x)) (fun _ _ _ => Dq.str x) h
/-- an int of the module's top -/
theorem e_gint {x : Str} {i : Int} {pos : Pos} (hm : ∃ t, X.mg x = some (.int i t)) (hg : Gl X x := by rfl) (hd : (x == ("__debug__" : Str)) = false := by decide) : PE X (.Name x pos) (tM X.K X.mg W (mC (.py (.int i)))) := by
  obtain ⟨t, hm⟩ := hm
  exact pe_imp (pe_glob hg hm (v := .int i) ⟨t, rfl⟩ hd) fun _ _ _ h => m_c (v := .int i) (d := .py (.int i)) (fun _ _ _ => Dq.int i) h
end

/-! ### operators -/
def mOp (f : D → D → Option D) (ma mb : M D) : M D := fun r w => (ma r w).bind fun a r w => (mb r w).bind fun b r w => match f a b with
  | some c => .ok c r w
  | none => .bad
def RelOp (K : PySem.W.Frag) (p : R2) (f : D → D → Option D) : Prop :=
  ∀ ⦃wa Fr G σ H r w x y dx dy dz Q⦄, Rep K wa Fr G σ H r w → Rv K wa G x dx → Rv K wa G y dy → f dx dy = some dz → (∀ v H' G', Same G G' → Rep K wa Fr G' σ H' r w → Rv K wa G' v dz → Q v H') → p x y H Q
section
variable {X : Cx} {K : PySem.W.Frag} {p : R2} {f : D → D → Option D} {ma mb : M D} {a b : Expr} {pos : Pos}
theorem m_op (hr : RelOp K p f) {σ : L2.St} {H : Hp} {Q : VK} (h : tM K mg W (mOp f ma mb) σ H Q) : tOp p (tM K mg W ma) (tM K mg W mb) σ H Q := by
  obtain ⟨wa, Fr, G, r, w, x, q⟩ := h
  unfold mOp at q
  refine ⟨wa, Fr, G, r, w, x, ?_⟩
  cases e1 : ma r w with
  | bad => simp only [e1, Re.bind] at q
  | ex c f y r9 w9 => simp only [e1, Re.bind] at q; exact q
  | ok d1 r1 w1 =>
    simp only [e1, Re.bind] at q
    intro v1 H1 G1 s1 x1 h1
    refine ⟨wa, Fr, G1, r1, w1, x1, ?_⟩
    cases e2 : mb r1 w1 with
    | bad => simp only [e2] at q
    | ex c f y r9 w9 => simp only [e2] at q; exact q.mono s1
    | ok d2 r2 w2 =>
      simp only [e2] at q
      intro v2 H2 G2 s2 x2 h2
      cases e3 : f d1 d2 with
      | none => simp only [e3] at q
      | some d3 =>
        simp only [e3] at q
        exact hr x2 (h1.mono s2) h2 e3 fun v3 H3 G3 s3 x3 h3 => q v3 H3 G3 ((s1.trans s2).trans s3) x3 h3
theorem e_op {op : Operator} (ho : OpR X (binaryOp op) p) (hr : RelOp X.K p f) (ha : PE X a (tM X.K X.mg W ma)) (hb : PE X b (tM X.K X.mg W mb)) : PE X (.BinOp a op b pos) (tM X.K X.mg W (mOp f ma mb)) :=
  pe_imp (pe_op ho ha hb) fun _ _ _ h => m_op hr h
theorem e_cmp {op : CmpOp} (ho : OpR X (compareOp op) p) (hr : RelOp X.K p f) (ha : PE X a (tM X.K X.mg W ma)) (hb : PE X b (tM X.K X.mg W mb)) (hm : behindInMarks op b = false) : PE X (.Compare a [op] [b] pos) (tM X.K X.mg W (mOp f ma mb)) :=
  pe_imp (pe_cmpR ho ha hb hm) fun _ _ _ h => m_op hr h
end
/-- a value that is True or False, as an answer -/
def mB (m : M D) : M Bool := fun r w => (m r w).bind fun d r w => match d with
  | .py (.bool b) => .ok b r w
  | _ => .bad
section
variable {X : Cx} {K : PySem.W.Frag} {m : M D} {e : Expr}
theorem m_B {σ : L2.St} {H : Hp} {Q : Bool → Hp → Prop} (h : tT K mg W (mB m) σ H Q) : tTest (tM K mg W m) σ H Q := by
  obtain ⟨wa, Fr, G, r, w, x, q⟩ := h
  unfold mB at q
  refine ⟨wa, Fr, G, r, w, x, ?_⟩
  cases e1 : m r w with
  | bad => simp only [e1, Re.bind] at q
  | ex c f y r9 w9 => simp only [e1, Re.bind] at q; exact q
  | ok d1 r1 w1 =>
    simp only [e1, Re.bind] at q
    intro v1 H1 G1 s1 x1 h1
    cases d1 with
    | mm => simp only at q
    | wt _ => simp only at q
    | py d =>
      cases d with
      | bool b =>
        simp only at q
        cases h1
        exact ⟨b, rfl, q H1 G1 s1 x1⟩
      | none => simp only at q
      | int i => simp only at q
      | str s => simp only at q
      | list xs => simp only at q
      | tuple xs => simp only at q
      | dict xs => simp only at q
theorem t_val (h : PE X e (tM X.K X.mg W m)) (he : ∀ whole, isTrue e X.env whole = (do let v ← whole; standAt e.pos; holding [v] (truthy v)) := by intro _; rfl) : PT X e (tT X.K X.mg W (mB m)) :=
  pt_imp (pt_val h he) fun _ _ _ h => m_B h
theorem t_cmp {p : R2} {f : D → D → Option D} {ma mb : M D} {a b : Expr} {pos : Pos} {op : CmpOp} (ho : OpR X (compareOp op) p) (hr : RelOp X.K p f) (ha : PE X a (tM X.K X.mg W ma)) (hb : PE X b (tM X.K X.mg W mb)) (hm : behindInMarks op b = false) :
    PT X (.Compare a [op] [b] pos) (tT X.K X.mg W (mB (mOp f ma mb))) := by
  refine pt_imp (pt_cmpR ho ha hb hm) fun σ H Q h => ?_
  have z := m_B h
  exact m_op (Q := fun x H' => ∃ k, x = .bl k ∧ Q k H') hr z
end

/-! ### and, or, not, if else -/
def mAnd (a b : M Bool) : M Bool := fun r w => (a r w).bind fun c r w => if c = true then b r w else .ok false r w
def mOr (a b : M Bool) : M Bool := fun r w => (a r w).bind fun c r w => if c = true then .ok true r w else b r w
def mNot (a : M Bool) : M Bool := fun r w => (a r w).bind fun c r w => .ok (!c) r w
def mBd (a : M Bool) : M D := fun r w => (a r w).bind fun c r w => .ok (.py (.bool c)) r w
def mAndV (a b : M D) : M D := fun r w => (a r w).bind fun d r w => match d with
  | .py (.bool true) => b r w
  | .py (.bool false) => .ok (.py (.bool false)) r w
  | _ => .bad
def mOrV (a b : M D) : M D := fun r w => (a r w).bind fun d r w => match d with
  | .py (.bool true) => .ok (.py (.bool true)) r w
  | .py (.bool false) => b r w
  | _ => .bad
def mNotV (a : M D) : M D := fun r w => (a r w).bind fun d r w => match d with
  | .py (.bool c) => .ok (.py (.bool (!c))) r w
  | _ => .bad
def mIf {α : Type} (c : M Bool) (a b : M α) : M α := fun r w => (c r w).bind fun k r w => if k = true then a r w else b r w
section
variable {X : Cx} {K : PySem.W.Frag} {t u : M Bool} {m n : M D} {a b : Expr} {pos : Pos} {rest : List Expr}
theorem m_and {σ : L2.St} {H : Hp} {Q : Bool → Hp → Prop} (h : tT K mg W (mAnd t u) σ H Q) : tAnd (tT K mg W t) (tT K mg W u) σ H Q := by
  obtain ⟨wa, Fr, G, r, w, x, q⟩ := h
  unfold mAnd at q
  refine ⟨wa, Fr, G, r, w, x, ?_⟩
  cases e1 : t r w with
  | bad => simp only [e1, Re.bind] at q
  | ex c f y r9 w9 => simp only [e1, Re.bind] at q; exact q
  | ok c r1 w1 =>
    simp only [e1, Re.bind] at q
    intro H1 G1 s1 x1
    cases c with
    | true =>
      simp only [if_true] at q ⊢
      refine ⟨wa, Fr, G1, r1, w1, x1, ?_⟩
      cases e2 : u r1 w1 with
      | bad => simp only [e2] at q
      | ex c f y r9 w9 => simp only [e2] at q; exact q.mono s1
      | ok d r2 w2 =>
        simp only [e2] at q
        exact fun H2 G2 s2 x2 => q H2 G2 (s1.trans s2) x2
    | false =>
      simp only [Bool.false_eq_true, if_false] at q ⊢
      exact q H1 G1 s1 x1
theorem m_or {σ : L2.St} {H : Hp} {Q : Bool → Hp → Prop} (h : tT K mg W (mOr t u) σ H Q) : tOr (tT K mg W t) (tT K mg W u) σ H Q := by
  obtain ⟨wa, Fr, G, r, w, x, q⟩ := h
  unfold mOr at q
  refine ⟨wa, Fr, G, r, w, x, ?_⟩
  cases e1 : t r w with
  | bad => simp only [e1, Re.bind] at q
  | ex c f y r9 w9 => simp only [e1, Re.bind] at q; exact q
  | ok c r1 w1 =>
    simp only [e1, Re.bind] at q
    intro H1 G1 s1 x1
    cases c with
    | false =>
      simp only [Bool.false_eq_true, if_false] at q ⊢
      refine ⟨wa, Fr, G1, r1, w1, x1, ?_⟩
      cases e2 : u r1 w1 with
      | bad => simp only [e2] at q
      | ex c f y r9 w9 => simp only [e2] at q; exact q.mono s1
      | ok d r2 w2 =>
        simp only [e2] at q
        exact fun H2 G2 s2 x2 => q H2 G2 (s1.trans s2) x2
    | true =>
      simp only [if_true] at q ⊢
      exact q H1 G1 s1 x1
theorem m_not {σ : L2.St} {H : Hp} {Q : Bool → Hp → Prop} (h : tT K mg W (mNot t) σ H Q) : tNot (tT K mg W t) σ H Q := by
  obtain ⟨wa, Fr, G, r, w, x, q⟩ := h
  unfold mNot at q
  refine ⟨wa, Fr, G, r, w, x, ?_⟩
  cases e1 : t r w with
  | bad => simp only [e1, Re.bind] at q
  | ex c f y r9 w9 => simp only [e1, Re.bind] at q; exact q
  | ok c r1 w1 =>
    simp only [e1, Re.bind] at q
    exact q
theorem t_and1 (ha : PT X a (tT X.K X.mg W t)) : PW X (.BoolOp .And [a] pos) (tT X.K X.mg W t) := pw_and1 ha
theorem t_or1 (ha : PT X a (tT X.K X.mg W t)) : PW X (.BoolOp .Or [a] pos) (tT X.K X.mg W t) := pw_or1 ha
theorem t_and (ha : PT X a (tT X.K X.mg W t)) (hb : PW X (.BoolOp .And (b :: rest) pos) (tT X.K X.mg W u)) : PW X (.BoolOp .And (a :: b :: rest) pos) (tT X.K X.mg W (mAnd t u)) := pw_imp (pw_and ha hb) fun _ _ _ h => m_and h
theorem t_or (ha : PT X a (tT X.K X.mg W t)) (hb : PW X (.BoolOp .Or (b :: rest) pos) (tT X.K X.mg W u)) : PW X (.BoolOp .Or (a :: b :: rest) pos) (tT X.K X.mg W (mOr t u)) := pw_imp (pw_or ha hb) fun _ _ _ h => m_or h
theorem t_not (ha : PT X a (tT X.K X.mg W t)) : PT X (.UnaryOp .Not a pos) (tT X.K X.mg W (mNot t)) := pt_imp (pt_not ha) fun _ _ _ h => m_not h
theorem m_andV {σ : L2.St} {H : Hp} {Q : VK} (h : tM K mg W (mAndV m n) σ H Q) : tAndV (tM K mg W m) (tM K mg W n) σ H Q := by
  obtain ⟨wa, Fr, G, r, w, x, q⟩ := h
  unfold mAndV at q
  refine ⟨wa, Fr, G, r, w, x, ?_⟩
  cases e1 : m r w with
  | bad => simp only [e1, Re.bind] at q
  | ex c f y r9 w9 => simp only [e1, Re.bind] at q; exact q
  | ok d r1 w1 =>
    simp only [e1, Re.bind] at q
    intro v1 H1 G1 s1 x1 h1
    cases d with
    | mm => simp only at q
    | wt _ => simp only at q
    | py d =>
      cases d with
      | bool c =>
        cases h1
        refine ⟨c, rfl, ?_⟩
        cases c with
        | true =>
          simp only [if_true] at q ⊢
          refine ⟨wa, Fr, G1, r1, w1, x1, ?_⟩
          cases e2 : n r1 w1 with
          | bad => simp only [e2] at q
          | ex c f y r9 w9 => simp only [e2] at q; exact q.mono s1
          | ok d r2 w2 =>
            simp only [e2] at q
            exact fun v2 H2 G2 s2 x2 h2 => q v2 H2 G2 (s1.trans s2) x2 h2
        | false =>
          simp only [Bool.false_eq_true, if_false] at q ⊢
          exact q _ H1 G1 s1 x1 (Dq.bl false)
      | none => simp only at q
      | int i => simp only at q
      | str s => simp only at q
      | list xs => simp only at q
      | tuple xs => simp only at q
      | dict xs => simp only at q
theorem m_orV {σ : L2.St} {H : Hp} {Q : VK} (h : tM K mg W (mOrV m n) σ H Q) : tOrV (tM K mg W m) (tM K mg W n) σ H Q := by
  obtain ⟨wa, Fr, G, r, w, x, q⟩ := h
  unfold mOrV at q
  refine ⟨wa, Fr, G, r, w, x, ?_⟩
  cases e1 : m r w with
  | bad => simp only [e1, Re.bind] at q
  | ex c f y r9 w9 => simp only [e1, Re.bind] at q; exact q
  | ok d r1 w1 =>
    simp only [e1, Re.bind] at q
    intro v1 H1 G1 s1 x1 h1
    cases d with
    | mm => simp only at q
    | wt _ => simp only at q
    | py d =>
      cases d with
      | bool c =>
        cases h1
        refine ⟨c, rfl, ?_⟩
        cases c with
        | false =>
          simp only [Bool.false_eq_true, if_false] at q ⊢
          refine ⟨wa, Fr, G1, r1, w1, x1, ?_⟩
          cases e2 : n r1 w1 with
          | bad => simp only [e2] at q
          | ex c f y r9 w9 => simp only [e2] at q; exact q.mono s1
          | ok d r2 w2 =>
            simp only [e2] at q
            exact fun v2 H2 G2 s2 x2 h2 => q v2 H2 G2 (s1.trans s2) x2 h2
        | true =>
          simp only [if_true] at q ⊢
          exact q _ H1 G1 s1 x1 (Dq.bl true)
      | none => simp only at q
      | int i => simp only at q
      | str s => simp only at q
      | list xs => simp only at q
      | tuple xs => simp only at q
      | dict xs => simp only at q
theorem m_notV {σ : L2.St} {H : Hp} {Q : VK} (h : tM K mg W (mNotV m) σ H Q) : tNotV (tM K mg W m) σ H Q := by
  obtain ⟨wa, Fr, G, r, w, x, q⟩ := h
  unfold mNotV at q
  refine ⟨wa, Fr, G, r, w, x, ?_⟩
  cases e1 : m r w with
  | bad => simp only [e1, Re.bind] at q
  | ex c f y r9 w9 => simp only [e1, Re.bind] at q; exact q
  | ok d r1 w1 =>
    simp only [e1, Re.bind] at q
    intro v1 H1 G1 s1 x1 h1
    cases d with
    | mm => simp only at q
    | wt _ => simp only at q
    | py d =>
      cases d with
      | bool c =>
        cases h1
        exact ⟨c, rfl, q _ H1 G1 s1 x1 (Dq.bl _)⟩
      | none => simp only at q
      | int i => simp only at q
      | str s => simp only at q
      | list xs => simp only at q
      | tuple xs => simp only at q
      | dict xs => simp only at q
theorem e_one {op} (h : PE X a (tM X.K X.mg W m)) : PE X (.BoolOp op [a] pos) (tM X.K X.mg W m) := pe_one h
theorem e_and (ha : PE X a (tM X.K X.mg W m)) (hb : PE X (.BoolOp .And (b :: rest) pos) (tM X.K X.mg W n)) : PE X (.BoolOp .And (a :: b :: rest) pos) (tM X.K X.mg W (mAndV m n)) := pe_imp (pe_and ha hb) fun _ _ _ h => m_andV h
theorem e_or (ha : PE X a (tM X.K X.mg W m)) (hb : PE X (.BoolOp .Or (b :: rest) pos) (tM X.K X.mg W n)) : PE X (.BoolOp .Or (a :: b :: rest) pos) (tM X.K X.mg W (mOrV m n)) := pe_imp (pe_or ha hb) fun _ _ _ h => m_orV h
theorem e_not (ha : PE X a (tM X.K X.mg W m)) : PE X (.UnaryOp .Not a pos) (tM X.K X.mg W (mNotV m)) := pe_imp (pe_not ha) fun _ _ _ h => m_notV h
theorem m_if {σ : L2.St} {H : Hp} {Q : VK} (h : tM K mg W (mIf t m n) σ H Q) : tIf (tT K mg W t) (tM K mg W m) (tM K mg W n) σ H Q := by
  obtain ⟨wa, Fr, G, r, w, x, q⟩ := h
  unfold mIf at q
  refine ⟨wa, Fr, G, r, w, x, ?_⟩
  cases e1 : t r w with
  | bad => simp only [e1, Re.bind] at q
  | ex c f y r9 w9 => simp only [e1, Re.bind] at q; exact q
  | ok c r1 w1 =>
    simp only [e1, Re.bind] at q
    intro H1 G1 s1 x1
    cases c with
    | true =>
      simp only [if_true] at q ⊢
      refine ⟨wa, Fr, G1, r1, w1, x1, ?_⟩
      cases e2 : m r1 w1 with
      | bad => simp only [e2] at q
      | ex c f y r9 w9 => simp only [e2] at q; exact q.mono s1
      | ok d r2 w2 =>
        simp only [e2] at q
        exact fun v2 H2 G2 s2 x2 h2 => q v2 H2 G2 (s1.trans s2) x2 h2
    | false =>
      simp only [Bool.false_eq_true, if_false] at q ⊢
      refine ⟨wa, Fr, G1, r1, w1, x1, ?_⟩
      cases e2 : n r1 w1 with
      | bad => simp only [e2] at q
      | ex c f y r9 w9 => simp only [e2] at q; exact q.mono s1
      | ok d r2 w2 =>
        simp only [e2] at q
        exact fun v2 H2 G2 s2 x2 h2 => q v2 H2 G2 (s1.trans s2) x2 h2
theorem e_if {c : Expr} (hc : PT X c (tT X.K X.mg W t)) (ha : PE X a (tM X.K X.mg W m)) (hb : PE X b (tM X.K X.mg W n)) : PE X (.IfExp c a b pos) (tM X.K X.mg W (mIf t m n)) := pe_imp (pe_ifExp hc ha hb) fun _ _ _ h => m_if h
end

/-! ### arguments, displays, calls -/
def mNil : M (List D) := fun r w => .ok [] r w
def mCons (m : M D) (n : M (List D)) : M (List D) := fun r w => (m r w).bind fun d r w => (n r w).bind fun ds r w => .ok (d :: ds) r w
def mTup (m : M (List D)) : M D := fun r w => (m r w).bind fun ds r w => match pys ds with
  | some xs => ifC (xs.length ≤ 100000) (.ok (.py (.tuple xs)) r w) .bad
  | none => .bad
def mLst (m : M (List D)) : M (List PyData) := fun r w => (m r w).bind fun ds r w => match pys ds with
  | some xs => ifC (xs.length ≤ 100000) (.ok xs r w) .bad
  | none => .bad
def mFz (m : M (List PyData)) : M D := fun r w => (m r w).bind fun xs r w => .ok (.py (.list xs)) r w
def mFn (f : List D → Option D) (m : M (List D)) : M D := fun r w => (m r w).bind fun ds r w => match f ds with
  | some d => .ok d r w
  | none => .bad
def mFnF (f : List D → Option (List PyData)) (m : M (List D)) : M (List PyData) := fun r w => (m r w).bind fun ds r w => match f ds with
  | some d => .ok d r w
  | none => .bad
theorem big_le {n : Nat} (h : n ≤ 100000) : n ≤ sizeLine := Nat.le_trans h (by decide)
theorem big_lt {n : Nat} (h : n < 100000) : n < sizeLine := Nat.lt_of_lt_of_le h (by decide)
def RelC (K : PySem.W.Frag) (p : List V → Hp → VK → Prop) (f : List D → Option D) : Prop :=
  ∀ ⦃wa Fr G σ H r w vs ds dz Q⦄, Rep K wa Fr G σ H r w → RvAll K wa G vs ds → f ds = some dz → (∀ v H' G', Same G G' → Rep K wa Fr G' σ H' r w → Rv K wa G' v dz → Q v H') → p vs H Q
def RelF (K : PySem.W.Frag) (p : List V → Hp → VK → Prop) (f : List D → Option (List PyData)) : Prop :=
  ∀ ⦃wa Fr G σ H r w vs ds xs Q⦄, Rep K wa Fr G σ H r w → RvAll K wa G vs ds → f ds = some xs →
    (∀ a vs H' G', Same G G' → Rep K wa Fr G' σ H' r w → Own K wa Fr G' H' a vs xs → (∀ (j : Nat) (ys : List PyData), r[j]? = some (.ow ys) → σ[j]? ≠ some (some (.ref a))) → Q (.ref a) H') → p vs H Q
section
variable {K : PySem.W.Frag} {wa : WA} {Fr G H : Hp} {σ : L2.St} {r : En} {w : Wd} {p : Addr} {vs : List V} {xs : List PyData}
/-- a list that has just been laid -/
theorem Rep.newList (x : Rep K wa Fr G σ H r w) (hp : H p = none) (hd : DqAll K G vs xs) : Rep K wa Fr G σ (upd H p (.lst vs)) r w ∧ Own K wa Fr G (upd H p (.lst vs)) p vs xs ∧ (∀ (j : Nat) (ys : List PyData), r[j]? = some (.ow ys) → σ[j]? ≠ some (some (.ref p))) := by
  have hg := x.h.gnone hp
  obtain ⟨n1, n2, n3⟩ := x.h.now hp
  refine ⟨⟨⟨fun b y e => ?_, fun b y e => ?_, x.h.nw, x.h.fw, x.h.wr.upd ⟨n1, n2, n3⟩⟩, fun i s e => ?_, x.inj⟩, ⟨upd_same, hd, hg, x.h.fnone hp, n1, n2, n3⟩, fun j ys e1 e2 => ?_⟩
  · rw [upd_ne (ne_of_none e hg)]
    exact x.h.sub _ _ e
  · rw [upd_ne (ne_of_none (x.h.fr b y e).1 hp)]
    exact x.h.fr b y e
  · obtain ⟨q, e1, e2⟩ := x.slot i s e
    refine ⟨q, e1, ?_⟩
    cases s with
    | no => trivial
    | im d => exact e2
    | ow ys =>
      obtain ⟨b, us, rfl, h2⟩ := e2
      have hb : b ≠ p := ne_of_none h2.at_ hp
      exact ⟨b, us, rfl, by rw [upd_ne hb]; exact h2.at_, h2.da, h2.g, h2.f, h2.wm, h2.wc, h2.wg⟩
    | od kvs =>
      obtain ⟨b, ps, rfl, h2⟩ := e2
      have hb : b ≠ p := ne_of_none h2.at_ hp
      exact ⟨b, ps, rfl, by rw [upd_ne hb]; exact h2.at_, h2.da, h2.g, h2.f, h2.wm, h2.wc, h2.wg⟩
  · obtain ⟨q, f1, b, us, rfl, h2⟩ := x.slot j _ e1
    rw [e2] at f1
    cases f1
    have z := h2.at_
    rw [hp] at z
    cases z
end
section
variable {X : Cx} {K : PySem.W.Frag} {m : M D} {n : M (List D)} {e : Expr} {es : List Expr} {pos : Pos}
theorem m_nil {σ : L2.St} {H : Hp} {Q : List V → Hp → Prop} (h : tMs K mg W mNil σ H Q) : tNil σ H Q := by
  obtain ⟨wa, Fr, G, r, w, x, q⟩ := h
  exact q [] H G (Same.refl _) x .nil
theorem m_cons {σ : L2.St} {H : Hp} {Q : List V → Hp → Prop} (h : tMs K mg W (mCons m n) σ H Q) : tCons (tM K mg W m) (tMs K mg W n) σ H Q := by
  obtain ⟨wa, Fr, G, r, w, x, q⟩ := h
  unfold mCons at q
  refine ⟨wa, Fr, G, r, w, x, ?_⟩
  cases e1 : m r w with
  | bad => simp only [e1, Re.bind] at q
  | ex c f y r9 w9 => simp only [e1, Re.bind] at q; exact q
  | ok d r1 w1 =>
    simp only [e1, Re.bind] at q
    intro v1 H1 G1 s1 x1 h1
    refine ⟨wa, Fr, G1, r1, w1, x1, ?_⟩
    cases e2 : n r1 w1 with
    | bad => simp only [e2] at q
    | ex c f y r9 w9 => simp only [e2] at q; exact q.mono s1
    | ok ds r2 w2 =>
      simp only [e2] at q
      exact fun vs H2 G2 s2 x2 h2 => q (v1 :: vs) H2 G2 (s1.trans s2) x2 (.cons (h1.mono s2) h2)
theorem a_nil : PA X [] (tMs X.K X.mg W mNil) := pa_imp pa_nil fun _ _ _ h => m_nil h
theorem a_cons (ha : PE X e (tM X.K X.mg W m)) (hr : PA X es (tMs X.K X.mg W n)) (hs : starEach (e :: es) X.env = (false, eval e X.env) :: starEach es X.env := by rfl) : PA X (e :: es) (tMs X.K X.mg W (mCons m n)) := pa_imp (pa_cons ha hr hs) fun _ _ _ h => m_cons h
theorem e_tup {x1} (h : PA X es (tMs X.K X.mg W n)) : PE X (.Tuple es x1 pos) (tM X.K X.mg W (mTup n)) := by
  refine pe_imp (pe_tupZ h) fun σ H Q h => ?_
  obtain ⟨wa, Fr, G, r, w, x, q⟩ := h
  unfold mTup at q
  refine ⟨wa, Fr, G, r, w, x, ?_⟩
  cases e1 : n r w with
  | bad => simp only [e1, Re.bind] at q
  | ex c f y r9 w9 => simp only [e1, Re.bind] at q; exact q
  | ok ds r1 w1 =>
    simp only [e1, Re.bind] at q
    intro vs H1 G1 s1 x1 h1
    cases e2 : pys ds with
    | none => simp only [e2] at q
    | some xs =>
      simp only [e2] at q
      by_cases hl : xs.length ≤ 100000
      · rw [ifC_pos hl] at q
        have hd := h1.pys e2
        refine ⟨by rw [dpall_len hd]; exact big_le hl, fun p us n hp => ?_⟩
        exact q _ _ _ (s1.trans (same_new (x1.h.gnone hp))) (x1.alloc hp _) (.tup TupS.new (dps_mono (same_new (x1.h.gnone hp)) _ _ hd))
      · rw [ifC_neg hl] at q
        exact q.elim
theorem f_lst (h : PA X es (tMs X.K X.mg W n)) : PE X (.List es pos) (tF X.K X.mg W (mLst n)) := by
  refine pe_imp (pe_lst h) fun σ H Q h => ?_
  obtain ⟨wa, Fr, G, r, w, x, q⟩ := h
  unfold mLst at q
  refine ⟨wa, Fr, G, r, w, x, ?_⟩
  cases e1 : n r w with
  | bad => simp only [e1, Re.bind] at q
  | ex c f y r9 w9 => simp only [e1, Re.bind] at q; exact q
  | ok ds r1 w1 =>
    simp only [e1, Re.bind] at q
    intro vs H1 G1 s1 x1 h1
    cases e2 : pys ds with
    | none => simp only [e2] at q
    | some xs =>
      simp only [e2] at q
      by_cases hl : xs.length ≤ 100000
      · rw [ifC_pos hl] at q
        have hd := h1.pys e2
        refine ⟨by rw [dpall_len hd]; exact big_le hl, fun p hp => ?_⟩
        obtain ⟨y1, y2, y3⟩ := x1.newList hp hd
        exact q p vs _ G1 s1 y1 y2 y3
      · rw [ifC_neg hl] at q
        exact q.elim
/-- a new list as a value -/
theorem e_fz {m : M (List PyData)} (h : PE X e (tF X.K X.mg W m)) : PE X e (tM X.K X.mg W (mFz m)) := by
  refine pe_imp h fun σ H Q h => ?_
  obtain ⟨wa, Fr, G, r, w, x, q⟩ := h
  unfold mFz at q
  refine ⟨wa, Fr, G, r, w, x, ?_⟩
  cases e1 : m r w with
  | bad => simp only [e1, Re.bind] at q
  | ex c f y r9 w9 => simp only [e1, Re.bind] at q; exact q
  | ok xs r1 w1 =>
    simp only [e1, Re.bind] at q
    intro a vs H1 G1 s1 x1 h1 h2
    obtain ⟨y1, y2, y3⟩ := x1.freezeAt h1 h2
    exact q _ H1 _ (s1.trans y1) y2 y3
theorem m_fn {p : List V → Hp → VK → Prop} {f : List D → Option D} (hr : RelC K p f) {σ : L2.St} {H : Hp} {Q : VK} (h : tM K mg W (mFn f n) σ H Q) : tCB p (tMs K mg W n) σ H Q := by
  obtain ⟨wa, Fr, G, r, w, x, q⟩ := h
  unfold mFn at q
  refine ⟨wa, Fr, G, r, w, x, ?_⟩
  cases e1 : n r w with
  | bad => simp only [e1, Re.bind] at q
  | ex c f y r9 w9 => simp only [e1, Re.bind] at q; exact q
  | ok ds r1 w1 =>
    simp only [e1, Re.bind] at q
    intro vs H1 G1 s1 x1 h1
    cases e2 : f ds with
    | none => simp only [e2] at q
    | some d =>
      simp only [e2] at q
      exact hr x1 h1 e2 fun v H2 G2 s2 x2 h2 => q v H2 G2 (s1.trans s2) x2 h2
theorem m_fnF {p : List V → Hp → VK → Prop} {f : List D → Option (List PyData)} (hr : RelF K p f) {σ : L2.St} {H : Hp} {Q : VK} (h : tF K mg W (mFnF f n) σ H Q) : tCB p (tMs K mg W n) σ H Q := by
  obtain ⟨wa, Fr, G, r, w, x, q⟩ := h
  unfold mFnF at q
  refine ⟨wa, Fr, G, r, w, x, ?_⟩
  cases e1 : n r w with
  | bad => simp only [e1, Re.bind] at q
  | ex c f y r9 w9 => simp only [e1, Re.bind] at q; exact q
  | ok ds r1 w1 =>
    simp only [e1, Re.bind] at q
    intro vs H1 G1 s1 x1 h1
    cases e2 : f ds with
    | none => simp only [e2] at q
    | some d =>
      simp only [e2] at q
      exact hr x1 h1 e2 fun a us H2 G2 s2 x2 h2 h3 => q a us H2 G2 (s1.trans s2) x2 h2 h3
end
end Mi
namespace Mi
open PySem PySem.Spec PyProof.Rows L2
theorem opr_or {X : Cx} {f : Value → Value → Sem Value} {r r' : R2} (h : OpR X f r) (h' : OpR X f r') : OpR X f (fun x y H Q => r x y H Q ∨ r' x y H Q) := by
  intro pins s σ H x y v u Q I rx ry q
  rcases q with q | q
  · exact h pins s σ H x y v u Q I rx ry q
  · exact h' pins s σ H x y v u Q I rx ry q
theorem callr_or {X : Cx} {f : Value} {r r' : List V → Hp → VK → Prop} (h : CallR X f r) (h' : CallR X f r') : CallR X f (fun vs H Q => r vs H Q ∨ r' vs H Q) := by
  intro pins s σ H vs us Q I rv q
  rcases q with q | q
  · exact h pins s σ H vs us Q I rv q
  · exact h' pins s σ H vs us Q I rv q
/-- an operation whose value needs no new object -/
theorem relop_plain {K : PySem.W.Frag} {p : R2} {f : D → D → Option D} (h : ∀ {wa : WA} {Fr G σ H r w x y dx dy dz}, Rep K wa Fr G σ H r w → Rv K wa G x dx → Rv K wa G y dy → f dx dy = some dz → ∃ v, Rv K wa G v dz ∧ ∀ Q : VK, Q v H → p x y H Q) : RelOp K p f := by
  intro wa Fr G σ H r w x y dx dy dz Q x1 h1 h2 e q
  obtain ⟨v, hv, k⟩ := h x1 h1 h2 e
  exact k Q (q v H G (Same.refl _) x1 hv)
theorem relc_plain {K : PySem.W.Frag} {p : List V → Hp → VK → Prop} {f : List D → Option D} (h : ∀ {wa : WA} {Fr G σ H r w vs ds dz}, Rep K wa Fr G σ H r w → RvAll K wa G vs ds → f ds = some dz → ∃ v, Rv K wa G v dz ∧ ∀ Q : VK, Q v H → p vs H Q) : RelC K p f := by
  intro wa Fr G σ H r w vs ds dz Q x1 h1 e q
  obtain ⟨v, hv, k⟩ := h x1 h1 e
  exact k Q (q v H G (Same.refl _) x1 hv)
/-- ints in, a value out -/
theorem relop_int {K : PySem.W.Frag} {C : Int → Int → Prop} [∀ i j, Decidable (C i j)] {g : Int → Int → V} {g' : Int → Int → PyData} (hg : ∀ K H i j, Dq K H (g i j) (g' i j)) :
    RelOp K (rI C g) (fun a b => match a, b with | .py (.int i), .py (.int j) => ifC (C i j) (some (.py (g' i j))) none | _, _ => none) := by
  refine relop_plain fun {wa Fr G σ H r w x y dx dy dz} x1 h1 h2 e => ?_
  split at e
  · rename_i i j
    by_cases c : C i j
    · rw [ifC_pos c] at e
      cases e
      cases h1
      cases h2
      exact ⟨g i j, hg _ _ _ _, fun Q q => ⟨i, j, rfl, rfl, c, q⟩⟩
    · rw [ifC_neg c] at e
      cases e
  · cases e
theorem relop_int0 {K : PySem.W.Frag} {g : Int → Int → V} {g' : Int → Int → PyData} (hg : ∀ K H i j, Dq K H (g i j) (g' i j)) :
    RelOp K (rI0 g) (fun a b => match a, b with | .py (.int i), .py (.int j) => some (.py (g' i j)) | _, _ => none) := by
  refine relop_plain fun {wa Fr G σ H r w x y dx dy dz} x1 h1 h2 e => ?_
  split at e
  · cases e
    cases h1
    cases h2
    exact ⟨_, hg _ _ _ _, fun Q q => ⟨_, _, rfl, rfl, q⟩⟩
  · cases e
def fI (g' : Int → Int → PyData) (a b : D) : Option D := match a, b with
  | .py (.int i), .py (.int j) => some (.py (g' i j))
  | _, _ => none
section
variable {X : Cx} {a b : Expr} {ma mb : M D} {pos : Pos}
theorem e_sub (ha : PE X a (tM X.K X.mg W ma)) (hb : PE X b (tM X.K X.mg W mb)) : PE X (.BinOp a .Sub b pos) (tM X.K X.mg W (mOp (fI fun i j => .int (i - j)) ma mb)) := e_op op_sub (relop_int0 fun _ _ _ _ => Dq.int _) ha hb
def fMod (a b : D) : Option D := match a, b with
  | .py (.int i), .py (.int j) => ifC (0 < j) (some (.py (.int (i % j)))) none
  | _, _ => none
theorem e_mod (ha : PE X a (tM X.K X.mg W ma)) (hb : PE X b (tM X.K X.mg W mb)) : PE X (.BinOp a .Mod b pos) (tM X.K X.mg W (mOp fMod ma mb)) := e_op op_mod (relop_int (C := fun _ j => 0 < j) fun _ _ _ _ => Dq.int _) ha hb
def fDiv (a b : D) : Option D := match a, b with
  | .py (.int i), .py (.int j) => ifC (0 < j ∧ j < 1073741824) (some (.py (.int (i / j)))) none
  | _, _ => none
instance (i j : Int) : Decidable (CDiv i j) := inferInstanceAs (Decidable (0 < j ∧ j < 1073741824))
theorem e_div (ha : PE X a (tM X.K X.mg W ma)) (hb : PE X b (tM X.K X.mg W mb)) : PE X (.BinOp a .FloorDiv b pos) (tM X.K X.mg W (mOp fDiv ma mb)) := e_op op_fdiv (relop_int (C := CDiv) fun _ _ _ _ => Dq.int _) ha hb
def fPow (a b : D) : Option D := match a, b with
  | .py (.int i), .py (.int j) => ifC (0 ≤ j ∧ j ≤ 1000000 ∧ i.natAbs < 2 ^ 64) (some (.py (.int (i ^ j.toNat)))) none
  | _, _ => none
instance (i j : Int) : Decidable (CPow i j) := inferInstanceAs (Decidable (0 ≤ j ∧ j ≤ 1000000 ∧ i.natAbs < 2 ^ 64))
theorem e_pow (ha : PE X a (tM X.K X.mg W ma)) (hb : PE X b (tM X.K X.mg W mb)) : PE X (.BinOp a .Pow b pos) (tM X.K X.mg W (mOp fPow ma mb)) := e_op op_pow (relop_int (C := CPow) fun _ _ _ _ => Dq.int _) ha hb

def fAdd (a b : D) : Option D := match a, b with
  | .py (.int i), .py (.int j) => some (.py (.int (i + j)))
  | .py (.tuple xs), .py (.tuple ys) => ifC (xs.length + ys.length ≤ 100000) (some (.py (.tuple (xs ++ ys)))) none
  | .py (.list xs), .py (.list ys) => ifC (xs.length + ys.length ≤ 100000) (some (.py (.list (xs ++ ys)))) none
  | _, _ => none
def rAdd3 (K : PySem.W.Frag) : R2 := fun x y H Q => (rI0 (fun i j => .int (i + j))) x y H Q ∨ ((rCatZ K) x y H Q ∨ rCat x y H Q)
theorem op_add3 : OpR X (binaryOp .Add) (rAdd3 X.K) := opr_or op_add (opr_or op_catZ op_cat)
theorem rel_add {K : PySem.W.Frag} : RelOp K (rAdd3 K) fAdd := by
  intro wa Fr G σ H r w x y dx dy dz Q x1 h1 h2 e q
  unfold fAdd at e
  split at e
  · cases e
    cases h1
    cases h2
    exact .inl ⟨_, _, rfl, rfl, q _ H G (Same.refl _) x1 (Dq.int _)⟩
  · rename_i ds es
    by_cases c : ds.length + es.length ≤ 100000
    · rw [ifC_pos c] at e
      cases e
      cases h1 with
      | tup s1 a1 =>
        cases h2 with
        | tup s2 a2 =>
          have t1 := (TupS.mono s1 x1.h.sub).sq (K := K)
          have t2 := (TupS.mono s2 x1.h.sub).sq (K := K)
          have l1 := dpall_len a1
          have l2 := dpall_len a2
          refine .inr (.inl ⟨_, _, _, _, rfl, rfl, t1, t2, big_le (by omega), fun e0 => ?_, fun n0 e0 => ?_, fun n0 n1 p us n hp => ?_⟩)
          · subst e0
            cases a1
            exact q _ H G (Same.refl _) x1 (.tup s2 a2)
          · subst e0
            cases a2
            refine q _ H G (Same.refl _) x1 (.tup s1 ?_)
            rw [List.append_nil]
            exact a1
          · exact q _ _ _ (same_new (x1.h.gnone hp)) (x1.alloc hp _) (.tup TupS.new (dps_mono (same_new (x1.h.gnone hp)) _ _ (dpall_app a1 a2)))
    · rw [ifC_neg c] at e
      cases e
  · rename_i ds es
    by_cases c : ds.length + es.length ≤ 100000
    · rw [ifC_pos c] at e
      cases e
      cases h1 with
      | lst s1 a1 =>
        cases h2 with
        | lst s2 a2 =>
          have l1 := dpall_len a1
          have l2 := dpall_len a2
          refine .inr (.inr ⟨_, _, _, _, rfl, rfl, x1.h.sub _ _ s1, x1.h.sub _ _ s2, big_le (by omega), fun p hp => ?_⟩)
          exact q _ _ _ (same_new (x1.h.gnone hp)) (x1.alloc hp _) (.lst upd_same (dps_mono (same_new (x1.h.gnone hp)) _ _ (dpall_app a1 a2)))
    · rw [ifC_neg c] at e
      cases e
  · cases e
theorem e_add (ha : PE X a (tM X.K X.mg W ma)) (hb : PE X b (tM X.K X.mg W mb)) : PE X (.BinOp a .Add b pos) (tM X.K X.mg W (mOp fAdd ma mb)) := e_op op_add3 rel_add ha hb

instance (i j : Int) : Decidable (CMul i j) := inferInstanceAs (Decidable ((-(2 ^ 64) < i ∧ i < 2 ^ 64) ∨ (-(2 ^ 64) < j ∧ j < 2 ^ 64)))
theorem flat_rep {α : Type} (n : Nat) (xs : List α) : (List.replicate n xs).flatten.length = n * xs.length := by
  induction n with
  | zero => simp
  | succ n ih => rw [List.replicate_succ, List.flatten_cons, List.length_append, ih, Nat.succ_mul]; omega
theorem dpall_rep {K : PySem.W.Frag} {H : Hp} {vs : List V} {ds : List PyData} (h : DqAll K H vs ds) (n : Nat) : DqAll K H (List.replicate n vs).flatten (List.replicate n ds).flatten := by
  induction n with
  | zero => exact .nil
  | succ n ih =>
    rw [List.replicate_succ, List.replicate_succ, List.flatten_cons, List.flatten_cons]
    exact dpall_app h ih
/-! a tuple some times: the same one, or a new one -/
theorem tup_again (l : Addr) (its : Array Value) (n : Nat) (k : Int) (t : Tok) (hb : (decide (k < -(2 ^ 63)) || decide (k ≥ 2 ^ 63)) = false) (h1 : (its.isEmpty || k == 1) = true) :
    Meets (Builtin.«tuple.__mul__» ⟨[.ref l, .int k t], []⟩) (fun _ R s => s.heap.get? l = some (tupO its n) ∧ R (.ok (.ret (.ref l))) s) :=
  .of_wp fun prog w A R s h => by
    obtain ⟨hp, g, d, tk, os⟩ := s
    obtain ⟨hl, q⟩ := h
    have fi := AutoSeq1.idx_int
    wp_walk using wpAny_loadPart' hl
    repeat (first
      | (refine wpAny_ite_false (decide_eq_false (by rw [hb]; exact Bool.false_ne_true)) ?_; wp_walk using wpAny_loadPart' hl)
      | (refine wpAny_ite_true (decide_eq_true h1) ?_; wp_walk using wpAny_loadPart' hl))
    exact ⟨_, rfl, q⟩
def rTimesT : R2 := fun x y H Q => ∃ l k xs, x = .ref l ∧ y = .int k ∧ TupS H l xs ∧ 1 ≤ k ∧ k ≤ 1000 ∧ xs.length ≤ 1000 ∧ (xs = [] ∨ k = 1 → Q (.ref l) H) ∧
  (¬ (xs = [] ∨ k = 1) → ∀ p us n, H p = none → Q (.ref p) (upd H p (.frz (tupO us n) (.tup (List.replicate k.toNat xs).flatten))))
theorem op_timesT : OpR X (binaryOp .Mult) rTimesT := by
  intro pins s σ H x y v u Q I rx ry h
  obtain ⟨l, k, xs, rfl, rfl, hT, k1, k2, xl, qs, qn⟩ := h
  cases rx
  obtain ⟨t, rfl⟩ := ry
  obtain ⟨its, n, rv, e1, hz⟩ := inv_tupS I hT
  have len := rv.length
  have hb : (decide (k < -(2 ^ 63)) || decide (k ≥ 2 ^ 63)) = false := by
    rw [decide_eq_false (by omega), decide_eq_false (by omega)] <;> rfl
  have em : its.toArray.isEmpty = decide (xs = []) := by
    cases its with
    | nil => rw [decide_eq_true (List.eq_nil_of_length_eq_zero (by rw [len]; rfl))]; rfl
    | cons a b => rw [decide_eq_false (fun z => by rw [z] at len; cases len)]; rfl
  by_cases same : xs = [] ∨ k = 1
  · have h1 : (its.toArray.isEmpty || k == 1) = true := by
      rw [em]
      rcases same with z | z
      · rw [decide_eq_true z, Bool.true_or]
      · rw [z, Bool.or_comm]; rfl
    refine wpAny_binaryOp_repeat_ref (T := "tuple") (U := "int") (by decide) ⟨_, e1, rfl⟩ (fun s' => typeIs_int s' k t) noFill_tuple_mul F.fills_int_mul F.slot_int_rmul repeat_tuple F.slot_int_index.lookup ?_
    refine call_meets F.slot_int_rmul (typeIs_int s k t) F.entry_int_rmul (F.args_int_rmul_2 _ _) (int_rmul_tuple k t l its.toArray n none #[]) ⟨e1, rfl, ⟨_, e1, rfl⟩, ?_⟩
    exact call_meets F.slot_tuple_mul ⟨_, e1, rfl⟩ F.entry_tuple_mul (F.args_tuple_mul_2 _ _) (tup_again l its.toArray n k t hb h1) ⟨e1, .ref l, H, I, rfl, qs same⟩
  · have hne : xs ≠ [] := fun z => same (.inl z)
    have hk : k ≠ 1 := fun z => same (.inr z)
    have h1 : (its.toArray.isEmpty || k == 1) = false := by
      rw [em, decide_eq_false hne, Bool.false_or]
      exact beq_eq_false_iff_ne.mpr hk
    have h2 : (decide (k ≤ 0) || its.toArray.isEmpty) = false := by
      rw [em, decide_eq_false hne, Bool.or_false]
      exact decide_eq_false (by omega)
    have sz : its.toArray.size = xs.length := by rw [List.size_toArray, len]
    have few : ((its.toArray.size : Nat) : Int) * k ≤ 1000000 := by
      rw [sz]
      have a1 : ((xs.length : Nat) : Int) * k ≤ 1000 * k := Int.mul_le_mul_of_nonneg_right (by omega) (by omega)
      omega
    have few2 : k.toNat * xs.length ≤ 1000000 := Nat.le_trans (Nat.mul_le_mul (show k.toNat ≤ 1000 by omega) xl) (by decide)
    have h4 : Builtin.Tuple.tupleTooMany (((its.toArray.size : Nat) : Int) * k) = false := by
      unfold Builtin.Tuple.tupleTooMany
      rw [sizeLine_eq]
      exact decide_eq_false (by omega)
    have big : (1000000 : Nat) ≤ sizeLine := by decide
    have flat : (List.replicate k.toNat its).flatten.length ≤ sizeLine := by
      rw [flat_rep, ← len]
      omega
    refine wpAny_binaryOp_repeat_ref (T := "tuple") (U := "int") (by decide) ⟨_, e1, rfl⟩ (fun s' => typeIs_int s' k t) noFill_tuple_mul F.fills_int_mul F.slot_int_rmul repeat_tuple F.slot_int_index.lookup ?_
    refine call_meets F.slot_int_rmul (typeIs_int s k t) F.entry_int_rmul (F.args_int_rmul_2 _ _) (int_rmul_tuple k t l its.toArray n none #[]) ⟨e1, rfl, ⟨_, e1, rfl⟩, ?_⟩
    refine call_meets F.slot_tuple_mul ⟨_, e1, rfl⟩ F.entry_tuple_mul (F.args_tuple_mul_2 _ _) (tuple_mulW l its.toArray n none #[] k t hb h1 h2 (by omega) h4 (by rw [size_rep, List.size_toArray]; exact flat)) ⟨e1, ?_⟩
    rw [size_rep]
    exact ⟨.ref s.heap.objs.size, _, inv_newT I (rv.rep k.toNat) (by rw [flat_rep]; omega) s.toks, rfl, qn same _ _ _ (I.hok.fresh (Nat.le_refl _))⟩
def fMul (a b : D) : Option D := match a, b with
  | .py (.int i), .py (.int j) => ifC ((-(2 ^ 64) < i ∧ i < 2 ^ 64) ∨ (-(2 ^ 64) < j ∧ j < 2 ^ 64)) (some (.py (.int (i * j)))) none
  | .py (.list xs), .py (.int k) => ifC (-1000 ≤ k ∧ k ≤ 1000 ∧ xs.length ≤ 100) (some (.py (.list (List.replicate k.toNat xs).flatten))) none
  | .py (.tuple xs), .py (.int k) => ifC (1 ≤ k ∧ k ≤ 1000 ∧ xs.length ≤ 1000) (some (.py (.tuple (List.replicate k.toNat xs).flatten))) none
  | _, _ => none
def rMul3 (K : PySem.W.Frag) : R2 := fun x y H Q => (rI CMul (fun i j => .int (i * j))) x y H Q ∨ (rRep x y H Q ∨ rTimesT x y H Q)
theorem op_mul3 : OpR X (binaryOp .Mult) (rMul3 X.K) := opr_or op_mul (opr_or op_rep op_timesT)
theorem rep_same {α : Type} {xs : List α} {k : Int} (h : xs = [] ∨ k = 1) : (List.replicate k.toNat xs).flatten = xs := by
  rcases h with z | z
  · subst z
    generalize k.toNat = m
    induction m with
    | zero => rfl
    | succ m ih => rw [List.replicate_succ, List.flatten_cons, ih]; rfl
  · subst z
    show (List.replicate 1 xs).flatten = xs
    simp
theorem rel_mul {K : PySem.W.Frag} : RelOp K (rMul3 K) fMul := by
  intro wa Fr G σ H r w x y dx dy dz Q x1 h1 h2 e q
  unfold fMul at e
  split at e
  · rename_i i j
    by_cases c : (-(2 ^ 64) < i ∧ i < 2 ^ 64) ∨ (-(2 ^ 64) < j ∧ j < 2 ^ 64)
    · rw [ifC_pos c] at e
      cases e
      cases h1
      cases h2
      exact .inl ⟨_, _, rfl, rfl, c, q _ H G (Same.refl _) x1 (Dq.int _)⟩
    · rw [ifC_neg c] at e
      cases e
  · rename_i ds k
    by_cases c : -1000 ≤ k ∧ k ≤ 1000 ∧ ds.length ≤ 100
    · rw [ifC_pos c] at e
      cases e
      cases h2
      cases h1 with
      | lst s1 a1 =>
        have l1 := dpall_len a1
        have z : ds.length * k.toNat ≤ 100 * 1000 := Nat.mul_le_mul c.2.2 (by omega)
        refine .inr (.inl ⟨_, _, _, rfl, rfl, x1.h.sub _ _ s1, by omega, by omega, big_le (by rw [l1]; omega), fun p hp => ?_⟩)
        exact q _ _ _ (same_new (x1.h.gnone hp)) (x1.alloc hp _) (.lst upd_same (dps_mono (same_new (x1.h.gnone hp)) _ _ (dpall_rep a1 _)))
    · rw [ifC_neg c] at e
      cases e
  · rename_i ds k
    by_cases c : 1 ≤ k ∧ k ≤ 1000 ∧ ds.length ≤ 1000
    · rw [ifC_pos c] at e
      cases e
      cases h2
      cases h1 with
      | @tup _ vs _ s1 a1 =>
        have l1 := dpall_len a1
        have en : vs = [] ↔ ds = [] := by
          constructor
          · intro z; rw [z] at l1; exact List.eq_nil_of_length_eq_zero l1.symm
          · intro z; rw [z] at l1; exact List.eq_nil_of_length_eq_zero l1
        refine .inr (.inr ⟨_, _, _, rfl, rfl, s1.mono x1.h.sub, c.1, c.2.1, by omega, fun z => ?_, fun z p us n hp => ?_⟩)
        · have z2 : ds = [] ∨ k = 1 := z.imp en.mp id
          refine q _ H G (Same.refl _) x1 ?_
          rw [rep_same z2]
          exact .tup s1 a1
        · exact q _ _ _ (same_new (x1.h.gnone hp)) (x1.alloc hp _) (.tup TupS.new (dps_mono (same_new (x1.h.gnone hp)) _ _ (dpall_rep a1 _)))
    · rw [ifC_neg c] at e
      cases e
  · cases e
theorem e_mul (ha : PE X a (tM X.K X.mg W ma)) (hb : PE X b (tM X.K X.mg W mb)) : PE X (.BinOp a .Mult b pos) (tM X.K X.mg W (mOp fMul ma mb)) := e_op op_mul3 rel_mul ha hb

/-! ### comparisons -/
abbrev fLt : D → D → Option D := fI fun i j => .bool (decide (i < j))
abbrev fLe : D → D → Option D := fI fun i j => .bool (decide (i ≤ j))
abbrev fGt : D → D → Option D := fI fun i j => .bool (decide (j < i))
abbrev fGe : D → D → Option D := fI fun i j => .bool (decide (j ≤ i))
theorem e_lt (ha : PE X a (tM X.K X.mg W ma)) (hb : PE X b (tM X.K X.mg W mb)) : PE X (.Compare a [.Lt] [b] pos) (tM X.K X.mg W (mOp fLt ma mb)) := e_cmp op_lt (relop_int0 fun _ _ _ _ => Dq.bl _) ha hb (nomark _)
theorem e_le (ha : PE X a (tM X.K X.mg W ma)) (hb : PE X b (tM X.K X.mg W mb)) : PE X (.Compare a [.LtE] [b] pos) (tM X.K X.mg W (mOp fLe ma mb)) := e_cmp op_le (relop_int0 fun _ _ _ _ => Dq.bl _) ha hb (nomark _)
theorem e_gt (ha : PE X a (tM X.K X.mg W ma)) (hb : PE X b (tM X.K X.mg W mb)) : PE X (.Compare a [.Gt] [b] pos) (tM X.K X.mg W (mOp fGt ma mb)) := e_cmp op_gt (relop_int0 fun _ _ _ _ => Dq.bl _) ha hb (nomark _)
theorem e_ge (ha : PE X a (tM X.K X.mg W ma)) (hb : PE X b (tM X.K X.mg W mb)) : PE X (.Compare a [.GtE] [b] pos) (tM X.K X.mg W (mOp fGe ma mb)) := e_cmp op_ge (relop_int0 fun _ _ _ _ => Dq.bl _) ha hb (nomark _)
theorem t_lt (ha : PE X a (tM X.K X.mg W ma)) (hb : PE X b (tM X.K X.mg W mb)) : PT X (.Compare a [.Lt] [b] pos) (tT X.K X.mg W (mB (mOp fLt ma mb))) := t_cmp op_lt (relop_int0 fun _ _ _ _ => Dq.bl _) ha hb (nomark _)
theorem t_le (ha : PE X a (tM X.K X.mg W ma)) (hb : PE X b (tM X.K X.mg W mb)) : PT X (.Compare a [.LtE] [b] pos) (tT X.K X.mg W (mB (mOp fLe ma mb))) := t_cmp op_le (relop_int0 fun _ _ _ _ => Dq.bl _) ha hb (nomark _)
theorem t_gt (ha : PE X a (tM X.K X.mg W ma)) (hb : PE X b (tM X.K X.mg W mb)) : PT X (.Compare a [.Gt] [b] pos) (tT X.K X.mg W (mB (mOp fGt ma mb))) := t_cmp op_gt (relop_int0 fun _ _ _ _ => Dq.bl _) ha hb (nomark _)
theorem t_ge (ha : PE X a (tM X.K X.mg W ma)) (hb : PE X b (tM X.K X.mg W mb)) : PT X (.Compare a [.GtE] [b] pos) (tT X.K X.mg W (mB (mOp fGe ma mb))) := t_cmp op_ge (relop_int0 fun _ _ _ _ => Dq.bl _) ha hb (nomark _)
/-- == and != of plain data -/
def fEq (a b : D) : Option D := match a, b with
  | .py x, .py y => ifC (SeqAt.shaped x = true ∧ SeqAt.shaped y = true) (some (.py (.bool (PyData.eqv x y)))) none
  | _, _ => none
def fNe (a b : D) : Option D := match a, b with
  | .py x, .py y => ifC (SeqAt.shaped x = true ∧ SeqAt.shaped y = true) (some (.py (.bool (!PyData.eqv x y)))) none
  | _, _ => none
theorem rel_eq {K : PySem.W.Frag} : RelOp K (rEqD K) fEq := by
  refine relop_plain fun {wa Fr G σ H r w x y dx dy dz} x1 h1 h2 e => ?_
  unfold fEq at e
  split at e
  · rename_i d1 d2
    by_cases c : SeqAt.shaped d1 = true ∧ SeqAt.shaped d2 = true
    · rw [ifC_pos c] at e
      cases e
      exact ⟨_, Dq.bl _, fun Q q => ⟨d1, d2, dq_dp _ _ (nd_one (SeqAt.canLay_of_shaped c.1)) (dp_mono x1.h.sub _ _ h1), dq_dp _ _ (nd_one (SeqAt.canLay_of_shaped c.2)) (dp_mono x1.h.sub _ _ h2), c.1, c.2, q⟩⟩
    · rw [ifC_neg c] at e
      cases e
  · cases e
theorem rel_ne {K : PySem.W.Frag} : RelOp K (rNeD K) fNe := by
  refine relop_plain fun {wa Fr G σ H r w x y dx dy dz} x1 h1 h2 e => ?_
  unfold fNe at e
  split at e
  · rename_i d1 d2
    by_cases c : SeqAt.shaped d1 = true ∧ SeqAt.shaped d2 = true
    · rw [ifC_pos c] at e
      cases e
      exact ⟨_, Dq.bl _, fun Q q => ⟨d1, d2, dq_dp _ _ (nd_one (SeqAt.canLay_of_shaped c.1)) (dp_mono x1.h.sub _ _ h1), dq_dp _ _ (nd_one (SeqAt.canLay_of_shaped c.2)) (dp_mono x1.h.sub _ _ h2), c.1, c.2, q⟩⟩
    · rw [ifC_neg c] at e
      cases e
  · cases e
theorem e_eq (hu : X.A.units + 64 < cLine) (ha : PE X a (tM X.K X.mg W ma)) (hb : PE X b (tM X.K X.mg W mb)) : PE X (.Compare a [.Eq] [b] pos) (tM X.K X.mg W (mOp fEq ma mb)) := e_cmp (op_eqD hu) rel_eq ha hb (nomark _)
theorem e_ne (hu : X.A.units + 64 < cLine) (ha : PE X a (tM X.K X.mg W ma)) (hb : PE X b (tM X.K X.mg W mb)) : PE X (.Compare a [.NotEq] [b] pos) (tM X.K X.mg W (mOp fNe ma mb)) := e_cmp (op_neD hu) rel_ne ha hb (nomark _)
theorem t_eq (hu : X.A.units + 64 < cLine) (ha : PE X a (tM X.K X.mg W ma)) (hb : PE X b (tM X.K X.mg W mb)) : PT X (.Compare a [.Eq] [b] pos) (tT X.K X.mg W (mB (mOp fEq ma mb))) := t_cmp (op_eqD hu) rel_eq ha hb (nomark _)
theorem t_ne (hu : X.A.units + 64 < cLine) (ha : PE X a (tM X.K X.mg W ma)) (hb : PE X b (tM X.K X.mg W mb)) : PT X (.Compare a [.NotEq] [b] pos) (tT X.K X.mg W (mB (mOp fNe ma mb))) := t_cmp (op_neD hu) rel_ne ha hb (nomark _)
/-- is None -/
def isN (d : D) : Bool := match d with
  | .py .none => true
  | _ => false
def fIsN (a b : D) : Option D := match b with
  | .py .none => some (.py (.bool (isN a)))
  | _ => none
def fNotN (a b : D) : Option D := match b with
  | .py .none => some (.py (.bool (!isN a)))
  | _ => none
theorem rv_none {K : PySem.W.Frag} {wa : WA} {G : Hp} {x : V} {d : D} (h : Rv K wa G x d) : decide (x = .non) = isN d := by
  cases d with
  | mm => cases (show x = _ from h); rfl
  | wt xs => obtain ⟨a, vs, rfl, _⟩ := h; rfl
  | py d =>
    cases (show Dq K G x d from h) <;> rfl
theorem rel_isN {K : PySem.W.Frag} : RelOp K (fun x y H Q => y = .non ∧ Q (.bl (decide (x = .non))) H) fIsN := by
  refine relop_plain fun {wa Fr G σ H r w x y dx dy dz} x1 h1 h2 e => ?_
  unfold fIsN at e
  split at e
  · cases e
    cases h2
    exact ⟨_, Dq.bl _, fun Q q => ⟨rfl, by rw [rv_none h1]; exact q⟩⟩
  · cases e
theorem rel_notN {K : PySem.W.Frag} : RelOp K (fun x y H Q => y = .non ∧ Q (.bl (!decide (x = .non))) H) fNotN := by
  refine relop_plain fun {wa Fr G σ H r w x y dx dy dz} x1 h1 h2 e => ?_
  unfold fNotN at e
  split at e
  · cases e
    cases h2
    exact ⟨_, Dq.bl _, fun Q q => ⟨rfl, by rw [rv_none h1]; exact q⟩⟩
  · cases e
theorem e_isN (ha : PE X a (tM X.K X.mg W ma)) (hb : PE X b (tM X.K X.mg W mb)) : PE X (.Compare a [.Is] [b] pos) (tM X.K X.mg W (mOp fIsN ma mb)) := e_cmp op_isN rel_isN ha hb (nomark _)
theorem e_notN (ha : PE X a (tM X.K X.mg W ma)) (hb : PE X b (tM X.K X.mg W mb)) : PE X (.Compare a [.IsNot] [b] pos) (tM X.K X.mg W (mOp fNotN ma mb)) := e_cmp op_notN rel_notN ha hb (nomark _)
theorem t_isN (ha : PE X a (tM X.K X.mg W ma)) (hb : PE X b (tM X.K X.mg W mb)) : PT X (.Compare a [.Is] [b] pos) (tT X.K X.mg W (mB (mOp fIsN ma mb))) := t_cmp op_isN rel_isN ha hb (nomark _)
theorem t_notN (ha : PE X a (tM X.K X.mg W ma)) (hb : PE X b (tM X.K X.mg W mb)) : PT X (.Compare a [.IsNot] [b] pos) (tT X.K X.mg W (mB (mOp fNotN ma mb))) := t_cmp op_notN rel_notN ha hb (nomark _)
/-- a < b <= c -/
def mCh (f g : D → D → Option D) (ma mb mc : M D) : M D := fun r w => (ma r w).bind fun a r w => (mb r w).bind fun b r w => match f a b with
  | some (.py (.bool true)) => (mc r w).bind fun c r w => match g b c with
    | some d => .ok d r w
    | none => .bad
  | some (.py (.bool false)) => .ok (.py (.bool false)) r w
  | _ => .bad
theorem m_ch {K : PySem.W.Frag} {f g : D → D → Option D} {p p' : R2} (hp : ∀ {wa : WA} {Fr G σ H r w x y dx dy dz}, Rep K wa Fr G σ H r w → Rv K wa G x dx → Rv K wa G y dy → f dx dy = some dz → ∃ v, Rv K wa G v dz ∧ ∀ Q : VK, Q v H → p x y H Q) (hp' : RelOp K p' g) {mc : M D} {σ : L2.St} {H : Hp} {Q : VK} (h : tM K mg W (mCh f g ma mb mc) σ H Q) :
    tChain p p' (tM K mg W ma) (tM K mg W mb) (tM K mg W mc) σ H Q := by
  obtain ⟨wa, Fr, G, r, w, x, q⟩ := h
  unfold mCh at q
  refine ⟨wa, Fr, G, r, w, x, ?_⟩
  cases e1 : ma r w with
  | bad => simp only [e1, Re.bind] at q
  | ex c f y r9 w9 => simp only [e1, Re.bind] at q; exact q
  | ok d1 r1 w1 =>
    simp only [e1, Re.bind] at q
    intro v1 H1 G1 s1 x1 h1
    refine ⟨wa, Fr, G1, r1, w1, x1, ?_⟩
    cases e2 : mb r1 w1 with
    | bad => simp only [e2] at q
    | ex c f y r9 w9 => simp only [e2] at q; exact q.mono s1
    | ok d2 r2 w2 =>
      simp only [e2] at q
      intro v2 H2 G2 s2 x2 h2
      cases e3 : f d1 d2 with
      | none => simp only [e3] at q
      | some d3 =>
        obtain ⟨v3, h3, k⟩ := hp x2 (h1.mono s2) h2 e3
        refine k _ ?_
        rw [e3] at q
        cases d3 with
        | mm => simp only at q
        | wt _ => simp only at q
        | py d3 =>
          cases d3 with
          | bool c =>
            cases h3
            refine ⟨c, rfl, ?_⟩
            cases c with
            | true =>
              simp only [if_true] at q ⊢
              refine ⟨wa, Fr, G2, r2, w2, x2, ?_⟩
              cases e4 : mc r2 w2 with
              | bad => simp only [e4] at q
              | ex c f y r9 w9 => simp only [e4] at q; first | exact q.mono (s1.trans s2) | exact q.mono (s1.trans (s2.trans s3)) | exact q.mono s1 | exact q
              | ok d4 r4 w4 =>
                simp only [e4] at q
                intro v4 H4 G4 s4 x4 h4
                cases e5 : g d2 d4 with
                | none => simp only [e5] at q
                | some d5 =>
                  simp only [e5] at q
                  exact hp' x4 (h2.mono s4) h4 e5 fun v5 H5 G5 s5 x5 h5 => q v5 H5 G5 (((s1.trans s2).trans s4).trans s5) x5 h5
            | false =>
              simp only [Bool.false_eq_true, if_false] at q ⊢
              exact q _ H2 G2 (s1.trans s2) x2 (Dq.bl false)
          | none => simp only at q
          | int i => simp only at q
          | str s => simp only at q
          | list xs => simp only at q
          | tuple xs => simp only at q
          | dict xs => simp only at q
theorem plain_int0 {K : PySem.W.Frag} {g : Int → Int → V} {g' : Int → Int → PyData} (hg : ∀ K H i j, Dq K H (g i j) (g' i j)) {wa : WA} {Fr G σ H r w x y dx dy dz} (x1 : Rep K wa Fr G σ H r w) (h1 : Rv K wa G x dx) (h2 : Rv K wa G y dy) (e : fI g' dx dy = some dz) : ∃ v, Rv K wa G v dz ∧ ∀ Q : VK, Q v H → (rI0 g) x y H Q := by
  unfold fI at e
  split at e
  · cases e
    cases h1
    cases h2
    exact ⟨_, hg _ _ _ _, fun Q q => ⟨_, _, rfl, rfl, q⟩⟩
  · cases e
section
variable {c : Expr} {mc : M D}
theorem e_le_le (ha : PE X a (tM X.K X.mg W ma)) (hb : PE X b (tM X.K X.mg W mb)) (hc : PE X c (tM X.K X.mg W mc)) (hm : lastMarks [.LtE, .LtE] [b, c] = false := by with_unfolding_all rfl) : PE X (.Compare a [.LtE, .LtE] [b, c] pos) (tM X.K X.mg W (mCh fLe fLe ma mb mc)) :=
  pe_imp (pe_chain op_le op_le ha hb hc hm) fun _ _ _ h => m_ch (plain_int0 fun _ _ _ _ => Dq.bl _) (relop_int0 fun _ _ _ _ => Dq.bl _) h
theorem e_le_lt (ha : PE X a (tM X.K X.mg W ma)) (hb : PE X b (tM X.K X.mg W mb)) (hc : PE X c (tM X.K X.mg W mc)) (hm : lastMarks [.LtE, .Lt] [b, c] = false := by with_unfolding_all rfl) : PE X (.Compare a [.LtE, .Lt] [b, c] pos) (tM X.K X.mg W (mCh fLe fLt ma mb mc)) :=
  pe_imp (pe_chain op_le op_lt ha hb hc hm) fun _ _ _ h => m_ch (plain_int0 fun _ _ _ _ => Dq.bl _) (relop_int0 fun _ _ _ _ => Dq.bl _) h
theorem e_lt_lt (ha : PE X a (tM X.K X.mg W ma)) (hb : PE X b (tM X.K X.mg W mb)) (hc : PE X c (tM X.K X.mg W mc)) (hm : lastMarks [.Lt, .Lt] [b, c] = false := by with_unfolding_all rfl) : PE X (.Compare a [.Lt, .Lt] [b, c] pos) (tM X.K X.mg W (mCh fLt fLt ma mb mc)) :=
  pe_imp (pe_chain op_lt op_lt ha hb hc hm) fun _ _ _ h => m_ch (plain_int0 fun _ _ _ _ => Dq.bl _) (relop_int0 fun _ _ _ _ => Dq.bl _) h
end
/-- -a -/
def fNeg (a : D) : Option D := match a with
  | .py (.int i) => some (.py (.int (-i)))
  | _ => none
def mUn (f : D → Option D) (m : M D) : M D := fun r w => (m r w).bind fun d r w => match f d with
  | some d => .ok d r w
  | none => .bad
theorem e_neg (ha : PE X a (tM X.K X.mg W ma)) : PE X (.UnaryOp .USub a pos) (tM X.K X.mg W (mUn fNeg ma)) := by
  refine pe_imp (pe_un un_neg ha) fun σ H Q h => ?_
  obtain ⟨wa, Fr, G, r, w, x, q⟩ := h
  unfold mUn at q
  refine ⟨wa, Fr, G, r, w, x, ?_⟩
  cases e1 : ma r w with
  | bad => simp only [e1, Re.bind] at q
  | ex c f y r9 w9 => simp only [e1, Re.bind] at q; exact q
  | ok d1 r1 w1 =>
    simp only [e1, Re.bind] at q
    intro v1 H1 G1 s1 x1 h1
    cases e2 : fNeg d1 with
    | none => simp only [e2] at q
    | some d2 =>
      simp only [e2] at q
      unfold fNeg at e2
      split at e2
      · cases e2
        cases h1
        exact ⟨_, rfl, q _ H1 G1 s1 x1 (Dq.int _)⟩
      · cases e2
end
end Mi
namespace Mi
open PySem PySem.Spec PyProof.Rows L2
section
variable {X : Cx} {e : Expr} {es : List Expr} {n : M (List D)} {p pos : Pos}
theorem rv_one {K : PySem.W.Frag} {wa : WA} {G : Hp} {vs : List V} {d : D} (h : RvAll K wa G vs [d]) : ∃ v, vs = [v] ∧ Rv K wa G v d := by
  cases h with
  | cons h t => cases t; exact ⟨_, rfl, h⟩
theorem rv_two {K : PySem.W.Frag} {wa : WA} {G : Hp} {vs : List V} {d e : D} (h : RvAll K wa G vs [d, e]) : ∃ v u, vs = [v, u] ∧ Rv K wa G v d ∧ Rv K wa G u e := by
  cases h with
  | cons h t =>
    obtain ⟨u, rfl, q⟩ := rv_one t
    exact ⟨_, _, rfl, h, q⟩
/-- len -/
def fLen (ds : List D) : Option D := match ds with
  | [.py (.list xs)] => some (.py (.int xs.length))
  | [.py (.tuple xs)] => some (.py (.int xs.length))
  | _ => none
theorem rel_len {K : PySem.W.Frag} : RelC K (fun xs H Q => ∃ p ys, xs = [.ref p] ∧ (SqL K H p ys ∨ SqT K H p ys) ∧ Q (.int ys.length) H) fLen := by
  refine relc_plain fun {wa Fr G σ H r w vs ds dz} x1 h1 e => ?_
  unfold fLen at e
  split at e
  · cases e
    obtain ⟨v, rfl, h⟩ := rv_one h1
    cases h with
    | lst s a => exact ⟨_, Dq.int _, fun Q q => ⟨_, _, rfl, .inl (SqL.of (x1.h.sub _ _ s)), by rw [dpall_len a]; exact q⟩⟩
  · cases e
    obtain ⟨v, rfl, h⟩ := rv_one h1
    cases h with
    | tup s a => exact ⟨_, Dq.int _, fun Q q => ⟨_, _, rfl, .inr ((TupS.mono s x1.h.sub).sq), by rw [dpall_len a]; exact q⟩⟩
  · cases e
theorem e_len (hm : X.mg "len" = none) (ha : PA X (e :: es) (tMs X.K X.mg W n)) (hg : Gl X "len" := by rfl) (he : starEach (e :: es) X.env = (false, eval e X.env) :: starEach es X.env := by rfl) (hpl : (backTo pos (starEach es X.env)).any (·.1) = false := by rfl) :
    PE X (.Call (.Name "len" p) (e :: es) [] pos) (tM X.K X.mg W (mFn fLen n)) := pe_imp (pe_callB call_len_seq hg hm PySem.boot_len ha (by decide) (by decide) he hpl) fun _ _ _ h => m_fn rel_len h
/-- sum of a list of intsOf -/
def intsOf : List PyData → Option (List Int)
  | [] => some []
  | .int i :: r => (intsOf r).map (i :: ·)
  | _ :: _ => none
theorem ints_map : ∀ {ds : List PyData} {ns : List Int}, intsOf ds = some ns → ds = ns.map PyData.int
  | [], _, h => by cases h; rfl
  | .int i :: r, ns, h => by
    unfold intsOf at h
    cases e : intsOf r with
    | none => rw [e] at h; cases h
    | some ms =>
      rw [e] at h
      cases h
      rw [ints_map e]
      rfl
  | .none :: _, _, h => by unfold intsOf at h; cases h
  | .bool _ :: _, _, h => by unfold intsOf at h; cases h
  | .str _ :: _, _, h => by unfold intsOf at h; cases h
  | .list _ :: _, _, h => by unfold intsOf at h; cases h
  | .tuple _ :: _, _, h => by unfold intsOf at h; cases h
  | .dict _ :: _, _, h => by unfold intsOf at h; cases h
theorem ints_of (ns : List Int) : intsOf (ns.map PyData.int) = some ns := by
  induction ns with
  | nil => rfl
  | cons n ns ih => rw [List.map_cons]; unfold intsOf; rw [ih]; rfl
def boolsOf : List PyData → Option (List Bool)
  | [] => some []
  | .bool i :: r => (boolsOf r).map (i :: ·)
  | _ :: _ => none
theorem bools_map : ∀ {ds : List PyData} {ns : List Bool}, boolsOf ds = some ns → ds = ns.map PyData.bool
  | [], _, h => by cases h; rfl
  | .bool i :: r, ns, h => by
    unfold boolsOf at h
    cases e : boolsOf r with
    | none => rw [e] at h; cases h
    | some ms =>
      rw [e] at h
      cases h
      rw [bools_map e]
      rfl
  | .none :: _, _, h => by unfold boolsOf at h; cases h
  | .int _ :: _, _, h => by unfold boolsOf at h; cases h
  | .str _ :: _, _, h => by unfold boolsOf at h; cases h
  | .list _ :: _, _, h => by unfold boolsOf at h; cases h
  | .tuple _ :: _, _, h => by unfold boolsOf at h; cases h
  | .dict _ :: _, _, h => by unfold boolsOf at h; cases h
theorem bools_of (ns : List Bool) : boolsOf (ns.map PyData.bool) = some ns := by
  induction ns with
  | nil => rfl
  | cons n ns ih => rw [List.map_cons]; unfold boolsOf; rw [ih]; rfl
def fSum (ds : List D) : Option D := match ds with
  | [.py (.list xs)] => (intsOf xs).map fun ns => .py (.int ns.sum)
  | _ => none
theorem rel_sum {K : PySem.W.Frag} : RelC K (rSum K) fSum := by
  refine relc_plain fun {wa Fr G σ H r w vs ds dz} x1 h1 e => ?_
  unfold fSum at e
  split at e
  · rename_i xs
    cases e2 : intsOf xs with
    | none => rw [e2] at e; cases e
    | some ns =>
      rw [e2] at e
      cases e
      obtain ⟨v, rfl, h⟩ := rv_one h1
      cases h with
      | lst s a =>
        rw [ints_map e2] at a
        have e3 := dpall_ints_inv _ _ a
        exact ⟨_, Dq.int _, fun Q q => ⟨_, ns, rfl, by rw [← e3]; exact SqL.of (x1.h.sub _ _ s), q⟩⟩
  · cases e
theorem e_sum (hc : X.calm = true) (hm : X.mg "sum" = none) (ha : PA X (e :: es) (tMs X.K X.mg W n)) (hg : Gl X "sum" := by rfl) (he : starEach (e :: es) X.env = (false, eval e X.env) :: starEach es X.env := by rfl) (hpl : (backTo pos (starEach es X.env)).any (·.1) = false := by rfl) :
    PE X (.Call (.Name "sum" p) (e :: es) [] pos) (tM X.K X.mg W (mFn fSum n)) := pe_imp (pe_callB (cr_sum hc) hg hm (by decide +kernel) ha (by decide) (by decide) he hpl) fun _ _ _ h => m_fn rel_sum h
def fAll (ds : List D) : Option D := match ds with
  | [.py (.list xs)] => (boolsOf xs).map fun ns => .py (.bool (ns.all id))
  | _ => none
theorem rel_all {K : PySem.W.Frag} : RelC K (rAll K) fAll := by
  refine relc_plain fun {wa Fr G σ H r w vs ds dz} x1 h1 e => ?_
  unfold fAll at e
  split at e
  · rename_i xs
    cases e2 : boolsOf xs with
    | none => rw [e2] at e; cases e
    | some ns =>
      rw [e2] at e
      cases e
      obtain ⟨v, rfl, h⟩ := rv_one h1
      cases h with
      | lst s a =>
        rw [bools_map e2] at a
        have e3 := dpall_bools_inv _ _ a
        exact ⟨_, Dq.bl _, fun Q q => ⟨_, ns, rfl, by rw [← e3]; exact SqL.of (x1.h.sub _ _ s), q⟩⟩
  · cases e
theorem e_all (hc : X.calm = true) (hm : X.mg "all" = none) (ha : PA X (e :: es) (tMs X.K X.mg W n)) (hg : Gl X "all" := by rfl) (he : starEach (e :: es) X.env = (false, eval e X.env) :: starEach es X.env := by rfl) (hpl : (backTo pos (starEach es X.env)).any (·.1) = false := by rfl) :
    PE X (.Call (.Name "all" p) (e :: es) [] pos) (tM X.K X.mg W (mFn fAll n)) := pe_imp (pe_callB (cr_all hc) hg hm (by decide +kernel) ha (by decide) (by decide) he hpl) fun _ _ _ h => m_fn rel_all h
/-- max, min of two intsOf -/
def fMax2 (ds : List D) : Option D := match ds with
  | [.py (.int i), .py (.int j)] => some (.py (.int (if j > i then j else i)))
  | _ => none
def fMin2 (ds : List D) : Option D := match ds with
  | [.py (.int i), .py (.int j)] => some (.py (.int (if j < i then j else i)))
  | _ => none
theorem rel_max2 {K : PySem.W.Frag} : RelC K (fun xs H Q => ∃ i j, xs = [.int i, .int j] ∧ Q (.int (if j > i then j else i)) H) fMax2 := by
  refine relc_plain fun {wa Fr G σ H r w vs ds dz} x1 h1 e => ?_
  unfold fMax2 at e
  split at e
  · cases e
    obtain ⟨v, u, rfl, h, h'⟩ := rv_two h1
    cases h
    cases h'
    exact ⟨_, Dq.int _, fun Q q => ⟨_, _, rfl, q⟩⟩
  · cases e
theorem rel_min2 {K : PySem.W.Frag} : RelC K (fun xs H Q => ∃ i j, xs = [.int i, .int j] ∧ Q (.int (if j < i then j else i)) H) fMin2 := by
  refine relc_plain fun {wa Fr G σ H r w vs ds dz} x1 h1 e => ?_
  unfold fMin2 at e
  split at e
  · cases e
    obtain ⟨v, u, rfl, h, h'⟩ := rv_two h1
    cases h
    cases h'
    exact ⟨_, Dq.int _, fun Q q => ⟨_, _, rfl, q⟩⟩
  · cases e
theorem e_max2 (hc : X.calm = true) (hm : X.mg "max" = none) (ha : PA X (e :: es) (tMs X.K X.mg W n)) (hg : Gl X "max" := by rfl) (he : starEach (e :: es) X.env = (false, eval e X.env) :: starEach es X.env := by rfl) (hpl : (backTo pos (starEach es X.env)).any (·.1) = false := by rfl) :
    PE X (.Call (.Name "max" p) (e :: es) [] pos) (tM X.K X.mg W (mFn fMax2 n)) := pe_imp (pe_callB (call_max2 hc) hg hm (by decide +kernel) ha (by decide) (by decide) he hpl) fun _ _ _ h => m_fn rel_max2 h
theorem e_min2 (hc : X.calm = true) (hm : X.mg "min" = none) (ha : PA X (e :: es) (tMs X.K X.mg W n)) (hg : Gl X "min" := by rfl) (he : starEach (e :: es) X.env = (false, eval e X.env) :: starEach es X.env := by rfl) (hpl : (backTo pos (starEach es X.env)).any (·.1) = false := by rfl) :
    PE X (.Call (.Name "min" p) (e :: es) [] pos) (tM X.K X.mg W (mFn fMin2 n)) := pe_imp (pe_callB (call_min2 hc) hg hm (by decide +kernel) ha (by decide) (by decide) he hpl) fun _ _ _ h => m_fn rel_min2 h
/-- int -/
def fInt (ds : List D) : Option D := match ds with
  | [.py (.int i)] => some (.py (.int i))
  | [.py (.bool b)] => some (.py (.int (if b then 1 else 0)))
  | _ => none
theorem rel_int {K : PySem.W.Frag} : RelC K (fun xs H Q => (∃ i, xs = [.int i] ∧ Q (.int i) H) ∨ ∃ k, xs = [.bl k] ∧ Q (.int (if k then 1 else 0)) H) fInt := by
  refine relc_plain fun {wa Fr G σ H r w vs ds dz} x1 h1 e => ?_
  unfold fInt at e
  split at e
  · cases e
    obtain ⟨v, rfl, h⟩ := rv_one h1
    cases h
    exact ⟨_, Dq.int _, fun Q q => .inl ⟨_, rfl, q⟩⟩
  · cases e
    obtain ⟨v, rfl, h⟩ := rv_one h1
    cases h
    exact ⟨_, Dq.int _, fun Q q => .inr ⟨_, rfl, q⟩⟩
  · cases e
theorem e_int1 (hm : X.mg "int" = none) (ha : PA X (e :: es) (tMs X.K X.mg W n)) (hg : Gl X "int" := by rfl) (he : starEach (e :: es) X.env = (false, eval e X.env) :: starEach es X.env := by rfl) (hpl : (backTo pos (starEach es X.env)).any (·.1) = false := by rfl) :
    PE X (.Call (.Name "int" p) (e :: es) [] pos) (tM X.K X.mg W (mFn fInt n)) := pe_imp (pe_callTy call_int1 hg hm (by decide +kernel) ha (by decide) (by decide) he hpl) fun _ _ _ h => m_fn rel_int h
/-- tuple(xs), list(xs) -/
def fTup (ds : List D) : Option D := match ds with
  | [.py (.list xs)] => some (.py (.tuple xs))
  | [.py (.tuple xs)] => some (.py (.tuple xs))
  | _ => none
theorem rel_tup {K : PySem.W.Frag} : RelC K (fun xs H Q => ∃ p ys, xs = [.ref p] ∧ ((SqL K H p ys ∧ ∀ l us n, H l = none → Q (.ref l) (upd H l (.frz (tupO us n) (.tup ys)))) ∨ (SqT K H p ys ∧ Q (.ref p) H))) fTup := by
  intro wa Fr G σ H r w vs ds dz Q x1 h1 e q
  unfold fTup at e
  split at e
  · cases e
    obtain ⟨v, rfl, h⟩ := rv_one h1
    cases h with
    | lst s a =>
      refine ⟨_, _, rfl, .inl ⟨SqL.of (x1.h.sub _ _ s), fun p us n hp => ?_⟩⟩
      exact q _ _ _ (same_new (x1.h.gnone hp)) (x1.alloc hp _) (.tup TupS.new (dps_mono (same_new (x1.h.gnone hp)) _ _ a))
  · cases e
    obtain ⟨v, rfl, h⟩ := rv_one h1
    cases h with
    | tup s a => exact ⟨_, _, rfl, .inr ⟨(TupS.mono s x1.h.sub).sq, q _ H G (Same.refl _) x1 (.tup s a)⟩⟩
  · cases e
theorem e_tuple (hm : X.mg "tuple" = none) (ha : PA X (e :: es) (tMs X.K X.mg W n)) (hg : Gl X "tuple" := by rfl) (he : starEach (e :: es) X.env = (false, eval e X.env) :: starEach es X.env := by rfl) (hpl : (backTo pos (starEach es X.env)).any (·.1) = false := by rfl) :
    PE X (.Call (.Name "tuple" p) (e :: es) [] pos) (tM X.K X.mg W (mFn fTup n)) := pe_imp (pe_callTy call_tupZ hg hm (by decide +kernel) ha (by decide) (by decide) he hpl) fun _ _ _ h => m_fn rel_tup h
def fList (ds : List D) : Option (List PyData) := match ds with
  | [.py (.list xs)] => some xs
  | [.py (.tuple xs)] => some xs
  | _ => none
theorem rel_list {K : PySem.W.Frag} : RelF K (fun xs H Q => ∃ p ys, xs = [.ref p] ∧ (SqL K H p ys ∨ SqT K H p ys) ∧ ∀ l, H l = none → Q (.ref l) (upd H l (.lst ys))) fList := by
  intro wa Fr G σ H r w vs ds xs Q x1 h1 e q
  unfold fList at e
  split at e
  · cases e
    obtain ⟨v, rfl, h⟩ := rv_one h1
    cases h with
    | lst s a =>
      refine ⟨_, _, rfl, .inl (SqL.of (x1.h.sub _ _ s)), fun p hp => ?_⟩
      obtain ⟨y1, y2, y3⟩ := x1.newList hp a
      exact q p _ _ G (Same.refl _) y1 y2 y3
  · cases e
    obtain ⟨v, rfl, h⟩ := rv_one h1
    cases h with
    | tup s a =>
      refine ⟨_, _, rfl, .inr ((TupS.mono s x1.h.sub).sq), fun p hp => ?_⟩
      obtain ⟨y1, y2, y3⟩ := x1.newList hp a
      exact q p _ _ G (Same.refl _) y1 y2 y3
  · cases e
theorem f_list (hm : X.mg "list" = none) (ha : PA X (e :: es) (tMs X.K X.mg W n)) (hg : Gl X "list" := by rfl) (he : starEach (e :: es) X.env = (false, eval e X.env) :: starEach es X.env := by rfl) (hpl : (backTo pos (starEach es X.env)).any (·.1) = false := by rfl) :
    PE X (.Call (.Name "list" p) (e :: es) [] pos) (tF X.K X.mg W (mFnF fList n)) := pe_imp (pe_callTy call_list_of hg hm (by decide +kernel) ha (by decide) (by decide) he hpl) fun _ _ _ h => m_fnF rel_list h
/-- divmod -/
def fDivmod (ds : List D) : Option D := match ds with
  | [.py (.int i), .py (.int j)] => ifC (0 < j ∧ j < 1073741824) (some (.wt [.int (i / j), .int (i % j)])) none
  | _ => none
theorem rel_divmod {K : PySem.W.Frag} : RelC K (fun xs H Q => ∃ i j, xs = [.int i, .int j] ∧ CDiv i j ∧ ∀ p, H p = none → Q (.ref p) (upd H p (.tup [.int (i / j), .int (i % j)]))) fDivmod := by
  intro wa Fr G σ H r w vs ds dz Q x1 h1 e q
  unfold fDivmod at e
  split at e
  · rename_i i j
    by_cases c : 0 < j ∧ j < 1073741824
    · rw [ifC_pos c] at e
      cases e
      obtain ⟨v, u, rfl, h, h'⟩ := rv_two h1
      cases h
      cases h'
      refine ⟨_, _, rfl, c, fun p hp => ?_⟩
      exact q _ _ _ (same_new (x1.h.gnone hp)) (x1.alloc hp _) ⟨_, _, rfl, .inl (.inl upd_same), .cons (.int _) (.cons (.int _) .nil)⟩
    · rw [ifC_neg c] at e
      cases e
  · cases e
theorem e_divmod (hm : X.mg "divmod" = none) (ha : PA X (e :: es) (tMs X.K X.mg W n)) (hg : Gl X "divmod" := by rfl) (he : starEach (e :: es) X.env = (false, eval e X.env) :: starEach es X.env := by rfl) (hpl : (backTo pos (starEach es X.env)).any (·.1) = false := by rfl) :
    PE X (.Call (.Name "divmod" p) (e :: es) [] pos) (tM X.K X.mg W (mFn fDivmod n)) := pe_imp (pe_callB call_divmod hg hm (by decide +kernel) ha (by decide) (by decide) he hpl) fun _ _ _ h => m_fn rel_divmod h
/-- type(a) == int, and the like -/
def tyOf : D → String
  | .py .none => "NoneType"
  | .py (.bool _) => "bool"
  | .py (.int _) => "int"
  | .py (.str _) => "str"
  | .py (.list _) => "list"
  | .py (.tuple _) => "tuple"
  | .py (.dict _) => "dict"
  | .wt _ => "tuple"
  | .mm => "dict"
theorem ty_of {K : PySem.W.Frag} {wa : WA} {Fr G H : Hp} {σ : L2.St} {r : En} {w : Wd} {v : V} {d : D} (x : Rep K wa Fr G σ H r w) (h : Rv K wa G v d) : TyB K H v (tyOf d) := by
  cases d with
  | mm => cases (show v = _ from h); exact .dK x.h.wr.m
  | wt xs =>
    obtain ⟨a, vs, rfl, s, _⟩ := h
    exact .tup (same_sqT x.h.sub s)
  | py d =>
    cases (show Dq K G v d from h) with
    | non => exact .non
    | bl b => exact .bl b
    | int i => exact .int i
    | str z => exact .str z
    | lst s a => exact .lst (SqL.of (x.h.sub _ _ s))
    | tup s a => exact .tup ((TupS.mono s x.h.sub).sq)
    | dct s a => exact .dK (x.h.sub _ _ s)
def mTyIs (T : String) (m : M D) : M D := fun r w => (m r w).bind fun d r w => .ok (.py (.bool (decide (tyOf d = T)))) r w
end
end Mi
namespace Mi
open PySem PySem.Spec PyProof.Rows L2

/-! ### defs, where nothing is being shown -/
structure FnG (P : Program) (w : World) (K : PySem.W.Frag) (mg : Str → Option Value) (base : Heap) (n : Nat) (fa : Addr) (fd : FuncData) (ps : List Str) (sp : Sp) : Prop where
  cnt : ∀ vs H Q E, sp vs H Q E → vs.length = ps.length
  go : ∀ (B : Around) (outs : List Env) (s0 : Shared) (H : Hp) (ar : Args) (us : List Value) (vs : List V) (Q : VK) (E : XK), Room n B → B.guards = some [] → Env0 P w K mg base B outs s0 H → BindsTo s0 fd ar (ps.zip us) → Vals vs us → sp vs H Q E →
    codeAny (model P w) B (.call (.ref fa) ar) (CR (L2.CX P w) outs P w H s0 Q E) s0
theorem FnG.up {P : Program} {w : World} {K : PySem.W.Frag} {mg : Str → Option Value} {base : Heap} {i j : Nat} {fa : Addr} {fd : FuncData} {ps : List Str} {sp : Sp} (F : FnG P w K mg base i fa fd ps sp) (h : i ≤ j) : FnG P w K mg base j fa fd ps sp :=
  ⟨F.cnt, fun B outs s0 H ar us vs Q E hr => F.go B outs s0 H ar us vs Q E (hr.mono h)⟩
section
variable {P : Program} {w : World} {K : PySem.W.Frag} {mg : Str → Option Value} {base : Heap} {x qual : Str} {pr : Arguments} {body : List Stmt} {sc : Scope} {fa : Addr} {fd : FuncData} {N ps : List Str} {n : Nat} {sp : Sp} {dvs : List V}
/-- a def by its body -/
theorem fng_of (F : FunD K x qual pr body sc dvs [] fa fd) (S : FnScope N ps sc) (cnt : ∀ vs H Q E, sp vs H Q E → vs.length = ps.length)
    (hb : ∀ (cdv : Value) (B : Around) (outs : List Env) (s0 : Shared) (H : Hp) (vs : List V) (Q : VK) (E : XK), Room n (B.deeper (envOfC qual sc s0.heap.objs.size fa cdv)) → B.guards = some [] → sp vs H Q E →
      ∃ t, PSs (cxOf (L2.CX P w) P w K mg base N qual sc fa cdv B outs s0 H E) body t ∧ t { nx := fun _ H' => Q .non H', rt := Q } (L2.start N vs) H) : FnG P w K mg base (n + 1) fa fd ps sp := by
  obtain ⟨oc, od, dV, kV, dc, pm, an, cdv, ct, osl, efd, lk, hcd, _, _⟩ := F.ex
  subst efd
  refine ⟨cnt, fun B outs s0 H ar us vs Q E room gu en bd rv sps => ?_⟩
  have kin1 : K.In s0.heap := en.mod.kin.keeps fun b o q => (en.bs b o q).1
  have lim1 : s0.heap.NoLimit := en.mod.nolimit.keeps fun b o q => (en.bs b o q).1
  have kinds : ∀ z ∈ ps.zip us, sc.names.lookup z.1 = some .local ∨ (sc.names.lookup z.1 = some .cell ∧ ((cellsFrom (s0.heap.objs.size + 1) sc.names []).lookup z.1).isSome = true) := by
    rintro ⟨nm, vl⟩ hz
    have hp := S.par nm (List.of_mem_zip hz).1
    exact hp.imp id fun c => ⟨c, PySem.W.cellsFrom_some _ _ _ (Or.inl c)⟩
  refine codeAny_call_function room.depth (kin1 _ _ lk) rfl S.co S.gen rfl (PySem.W.codeRec_of kin1 hcd) ?_
  refine bd _ _ _ _ (wpAny_newFunctionEnv_cells S.kind kinds fun env0 eenv s1 laid => ?_)
  subst eenv
  refine ⟨lim1.keeps laid.toInCall.keep, codeAny_func ?_⟩
  obtain ⟨t, dt, qt⟩ := hb cdv B outs s0 H vs Q E (room.deeper _) gu sps
  have I0 : Inv (cxOf (L2.CX P w) P w K mg base N qual sc fa cdv B outs s0 H E) [] (L2.start N vs) H s1 := inv_start S room.hd en (cnt _ _ _ _ sps) rv laid
  have r0 := dt.run [] s1 (L2.start N vs) H _ I0 qt
  refine wpAny_mono r0 ?_ fun _ _ z => z
  intro fl s2 hs
  cases fl with
  | ret u =>
    obtain ⟨v, σ2, H2, J, rv2, q2⟩ := hs
    exact ⟨v, H2, J.os, J.bare, J.base, J.hok, rv2, q2⟩
  | next =>
    obtain ⟨σ2, H2, J, q2⟩ := hs
    exact ⟨V.non, H2, J.os, J.bare, J.base, J.hok, rfl, q2⟩
  | brk => exact False.elim hs.choose_spec.choose_spec.2
  | cont => exact False.elim hs.choose_spec.choose_spec.2
end
section
variable {X : Cx} {n : Nat} {fa : Addr} {fd : FuncData} {ps : List Str} {sp : Sp} {x : Str} {p pos : Pos} {e : Expr} {es : List Expr} {t : TA}
theorem run_g {pins : List (Addr × Obj)} {σ : L2.St} {H : Hp} {s : Shared} {Q : VK} {us : List Value} {vs : List V} (F : FnG X.prog X.w X.K X.mg X.base n fa fd ps sp) (hr : Room n X.A) (hu : X.A.guards = some []) (hb : Binds X.K fd ps []) {W : WX} (tk : Takes X W)
    (I : Inv X pins σ H s) (r : Vals vs us) (h : sp vs H Q fun cls d H' => W cls d σ H') : wpAny (model X.prog X.w) X.A (call (.ref fa) us) (EP X pins σ Q) X.xe s := by
  have hl : (us ++ []).length = ps.length := by
    rw [List.append_nil, ← r.length]
    exact F.cnt _ _ _ _ h
  have bd := hb s us I.kIn hl
  rw [List.append_nil] at bd
  have z := F.go X.A X.stack s H ⟨us, []⟩ us vs Q _ hr hu I.env0 bd r h
  refine wpAny_call (codeAny_mono z ?_)
  intro res s2 hq
  cases res with
  | error er => exact passAt tk σ pins H s er s2 I hq
  | ok fl =>
    cases fl with
    | ret u => exact I.after hq
    | next => exact False.elim hq
    | brk => exact False.elim hq
    | cont => exact False.elim hq
def tG (W : WX) (sp : Sp) (t : TA) : TE := fun σ H Q => t σ H fun vs H1 => sp vs H1 Q fun cls d H' => W cls d σ H'
theorem pe_g (F : FnG X.prog X.w X.K X.mg X.base n fa fd ps sp) (hr : Room n X.A) (hu : X.A.guards = some []) (hm : X.mg x = some (.ref fa)) (hk : PySem.W.keepIn X.K (.ref fa) = true) (hb : Binds X.K fd ps []) {W : WX} (tk : Takes X W)
    (ha : PA X (e :: es) t) (hg : Gl X x := by rfl) (hdb : (x == ("__debug__" : Str)) = false := by decide) (he : starEach (e :: es) X.env = (false, eval e X.env) :: starEach es X.env := by rfl) (hpl : (backTo pos (starEach es X.env)).any (·.1) = false := by rfl) :
    PE X (.Call (.Name x p) (e :: es) [] pos) (tG W sp t) := by
  constructor
  intro pins s σ H Q I h
  apply wpAny_Call_Name_kw
  apply ld_glob I hg hm _ hdb
  apply PySem.W.callWith_K (h₀ := X.base) I.ok.mod.kin hk _ he hpl
  apply thn (ha.run pos pins s σ H _ I h)
  rintro us s1 ⟨vs, H1, I1, r, q⟩
  exact ⟨I1.kIn, run_g F hr hu hb tk I1 r q⟩
end
/-! a def that is called without its last arguments: their values stand in the text -/
section
variable {X : Cx} {n : Nat} {fa : Addr} {fd : FuncData} {ps : List Str} {sp : Sp} {x : Str} {p pos : Pos} {e : Expr} {es : List Expr} {t : TA} {dv : List V} {ds : List Value}
theorem run_gD {pins : List (Addr × Obj)} {σ : L2.St} {H : Hp} {s : Shared} {Q : VK} {us : List Value} {vs : List V} (F : FnG X.prog X.w X.K X.mg X.base n fa fd ps sp) (hr : Room n X.A) (hu : X.A.guards = some []) (hd : Vals dv ds) (hb : Binds X.K fd ps ds) {W : WX} (tk : Takes X W)
    (I : Inv X pins σ H s) (r : Vals vs us) (h : sp (vs ++ dv) H Q fun cls d H' => W cls d σ H') : wpAny (model X.prog X.w) X.A (call (.ref fa) us) (EP X pins σ Q) X.xe s := by
  have hl : (us ++ ds).length = ps.length := by
    rw [List.length_append, ← r.length, ← hd.length, ← List.length_append]
    exact F.cnt _ _ _ _ h
  have bd := hb s us I.kIn hl
  have z := F.go X.A X.stack s H ⟨us, []⟩ (us ++ ds) (vs ++ dv) Q _ hr hu I.env0 bd (r.append hd) h
  refine wpAny_call (codeAny_mono z ?_)
  intro res s2 hq
  cases res with
  | error er => exact passAt tk σ pins H s er s2 I hq
  | ok fl =>
    cases fl with
    | ret u => exact I.after hq
    | next => exact False.elim hq
    | brk => exact False.elim hq
    | cont => exact False.elim hq
def tGD (W : WX) (sp : Sp) (dv : List V) (t : TA) : TE := fun σ H Q => t σ H fun vs H1 => sp (vs ++ dv) H1 Q fun cls d H' => W cls d σ H'
theorem pe_gD (F : FnG X.prog X.w X.K X.mg X.base n fa fd ps sp) (hr : Room n X.A) (hu : X.A.guards = some []) (hm : X.mg x = some (.ref fa)) (hk : PySem.W.keepIn X.K (.ref fa) = true) (hd : Vals dv ds) (hb : Binds X.K fd ps ds) {W : WX} (tk : Takes X W)
    (ha : PA X (e :: es) t) (hg : Gl X x := by rfl) (hdb : (x == ("__debug__" : Str)) = false := by decide) (he : starEach (e :: es) X.env = (false, eval e X.env) :: starEach es X.env := by rfl) (hpl : (backTo pos (starEach es X.env)).any (·.1) = false := by rfl) :
    PE X (.Call (.Name x p) (e :: es) [] pos) (tGD W sp dv t) := by
  constructor
  intro pins s σ H Q I h
  apply wpAny_Call_Name_kw
  apply ld_glob I hg hm _ hdb
  apply PySem.W.callWith_K (h₀ := X.base) I.ok.mod.kin hk _ he hpl
  apply thn (ha.run pos pins s σ H _ I h)
  rintro us s1 ⟨vs, H1, I1, r, q⟩
  exact ⟨I1.kIn, run_gD F hr hu hd hb tk I1 r q⟩
end
/-- what such a def is promised to do, by its plain evaluation -/
def spM (K : PySem.W.Frag) (mg : Str → Option Value) (cnt : Nat) (f : List D → Wd → Fl) : Sp := fun vs H Q E => vs.length = cnt ∧ ∃ wa Fr G w ds, RepH wa Fr G H w ∧ RvAll K wa G vs ds ∧ match f ds w with
  | .rt d w' => ∀ v H' G', Same G G' → RepH wa Fr G' H' w' → Rv K wa G' v d → Q v H'
  | .ex c f y _ w' => ∀ H' G' cls d, Same G G' → RepH wa Fr G' H' w' → ExcAt K mg G' cls d c f y → E cls d H'
  | _ => False
def mCall (f : List D → Wd → Fl) (m : M (List D)) : M D := fun r w => (m r w).bind fun ds r w => match f ds w with
  | .rt d w' => .ok d r w'
  | .ex c f y _ w' => .ex c f y r w'
  | _ => .bad
section
variable {K : PySem.W.Frag} {wa : WA} {Fr G G' H H' : Hp} {σ : L2.St} {r : En} {w w' : Wd}
open Classical in
/-- all that the caller has beside what never changes -/
noncomputable def mine (wa : WA) (G H : Hp) : Hp := fun a => if a = wa.m ∨ a = wa.c ∨ a = wa.g ∨ G a ≠ none then none else H a
theorem mine_some {a : Addr} {o : HO} (h : mine wa G H a = some o) : (a ≠ wa.m ∧ a ≠ wa.c ∧ a ≠ wa.g ∧ G a = none) ∧ H a = some o := by
  unfold mine at h
  by_cases c : a = wa.m ∨ a = wa.c ∨ a = wa.g ∨ G a ≠ none
  · rw [if_pos c] at h
    cases h
  · rw [if_neg c] at h
    refine ⟨⟨fun z => c (.inl z), fun z => c (.inr (.inl z)), fun z => c (.inr (.inr (.inl z))), ?_⟩, h⟩
    cases q : G a with
    | none => rfl
    | some y => exact absurd (Or.inr (Or.inr (Or.inr (by rw [q]; simp)))) c
theorem mine_of {a : Addr} {o : HO} (h : H a = some o) (h1 : a ≠ wa.m) (h2 : a ≠ wa.c) (h3 : a ≠ wa.g) (h4 : G a = none) : mine wa G H a = some o := by
  unfold mine
  rw [if_neg]
  · exact h
  · rintro (z | z | z | z)
    · exact h1 z
    · exact h2 z
    · exact h3 z
    · exact z h4
theorem RepH.enter (x : RepH wa Fr G H w) : RepH wa (mine wa G H) G H w :=
  ⟨x.sub, fun a o e => ⟨(mine_some e).2, (mine_some e).1.2.2.2⟩, x.nw, ⟨by unfold mine; rw [if_pos (.inl rfl)], by unfold mine; rw [if_pos (.inr (.inl rfl))], by unfold mine; rw [if_pos (.inr (.inr (.inl rfl)))]⟩, x.wr⟩
theorem Rep.back (x : Rep K wa Fr G σ H r w) (s : Same G G') (y : RepH wa (mine wa G H) G' H' w') : Rep K wa Fr G' σ H' r w' := by
  have keep : ∀ {a : Addr} {o : HO}, H a = some o → a ≠ wa.m → a ≠ wa.c → a ≠ wa.g → G a = none → H' a = some o ∧ G' a = none := fun h h1 h2 h3 h4 => y.fr _ _ (mine_of h h1 h2 h3 h4)
  refine ⟨⟨y.sub, fun a o e => ?_, y.nw, x.h.fw, y.wr⟩, fun i s' e => ?_, x.inj⟩
  · obtain ⟨h1, h2⟩ := x.h.fr a o e
    obtain ⟨f1, f2, f3⟩ := x.h.fw
    exact keep h1 (fun z => by rw [z, f1] at e; cases e) (fun z => by rw [z, f2] at e; cases e) (fun z => by rw [z, f3] at e; cases e) h2
  · obtain ⟨q, e1, e2⟩ := x.slot i s' e
    refine ⟨q, e1, ?_⟩
    cases s' with
    | no => trivial
    | im d =>
      obtain ⟨v, h1, h2⟩ := e2
      exact ⟨v, h1, h2.mono s⟩
    | ow xs =>
      obtain ⟨a, vs, rfl, h⟩ := e2
      obtain ⟨k1, k2⟩ := keep h.at_ h.wm h.wc h.wg h.g
      exact ⟨a, vs, rfl, k1, dps_mono s _ _ h.da, k2, h.f, h.wm, h.wc, h.wg⟩
    | od kvs =>
      obtain ⟨a, ps, rfl, h⟩ := e2
      obtain ⟨k1, k2⟩ := keep h.at_ h.wm h.wc h.wg h.g
      exact ⟨a, ps, rfl, k1, h.da.mono s, k2, h.f, h.wm, h.wc, h.wg⟩
end
section
variable {X : Cx} {n cnt : Nat} {fa : Addr} {fd : FuncData} {ps : List Str} {x : Str} {p pos : Pos} {e : Expr} {es : List Expr} {m : M (List D)} {f : List D → Wd → Fl}
theorem m_call {K : PySem.W.Frag} {σ : L2.St} {H : Hp} {Q : VK} (hc : ∀ r w ds r' w', m r w = .ok ds r' w' → ds.length = cnt) (h : tM K mg W (mCall f m) σ H Q) : tG W (spM K mg cnt f) (tMs K mg W m) σ H Q := by
  obtain ⟨wa, Fr, G, r, w, x, q⟩ := h
  unfold mCall at q
  refine ⟨wa, Fr, G, r, w, x, ?_⟩
  cases e1 : m r w with
  | bad => simp only [e1, Re.bind] at q
  | ex c f y r9 w9 => simp only [e1, Re.bind] at q; exact q
  | ok ds r1 w1 =>
    simp only [e1, Re.bind] at q
    intro vs H1 G1 s1 x1 h1
    refine ⟨by rw [h1.len]; exact hc _ _ _ _ _ e1, wa, _, G1, w1, ds, x1.h.enter, h1, ?_⟩
    cases e2 : f ds w1 with
    | rt d w2 =>
      simp only [e2] at q
      intro v H2 G2 s2 y h2
      exact q v H2 G2 (s1.trans s2) (x1.back s2 y) h2
    | nx r w => simp only [e2] at q
    | br r w => simp only [e2] at q
    | ct r w => simp only [e2] at q
    | bad => simp only [e2] at q
    | ex c f y r9 w9 =>
      simp only [e2] at q
      exact fun H2 G2 cls d s2 y2 ee => q H2 G2 cls d (s1.trans s2) (x1.back s2 y2) ee
/-- the arguments that are told, and behind them those of the text -/
def mDf (dd : List D) (m : M (List D)) : M (List D) := fun r w => (m r w).bind fun ds r w => .ok (ds ++ dd) r w
theorem RvAll.app {K : PySem.W.Frag} {wa : WA} {G : Hp} : ∀ {vs us : List V} {ds es : List D}, RvAll K wa G vs ds → RvAll K wa G us es → RvAll K wa G (vs ++ us) (ds ++ es)
  | _, _, _, _, .nil, t => t
  | _, _, _, _, .cons h r, t => .cons h (RvAll.app r t)
theorem m_callD {K : PySem.W.Frag} {dv : List V} {dd : List D} (hdd : ∀ (wa : WA) (G : Hp), RvAll K wa G dv dd) {σ : L2.St} {H : Hp} {Q : VK} (hc : ∀ r w ds r' w', m r w = .ok ds r' w' → (ds ++ dd).length = cnt) (h : tM K mg W (mCall f (mDf dd m)) σ H Q) : tGD W (spM K mg cnt f) dv (tMs K mg W m) σ H Q := by
  obtain ⟨wa, Fr, G, r, w, x, q⟩ := h
  unfold mCall mDf at q
  refine ⟨wa, Fr, G, r, w, x, ?_⟩
  cases e1 : m r w with
  | bad => simp only [e1, Re.bind] at q
  | ex c f y r9 w9 => simp only [e1, Re.bind] at q; exact q
  | ok ds r1 w1 =>
    simp only [e1, Re.bind] at q
    intro vs H1 G1 s1 x1 h1
    have h2 := h1.app (hdd wa G1)
    refine ⟨by rw [h2.len]; exact hc _ _ _ _ _ e1, wa, _, G1, w1, ds ++ dd, x1.h.enter, h2, ?_⟩
    cases e2 : f (ds ++ dd) w1 with
    | rt d w2 =>
      simp only [e2] at q
      intro v H2 G2 s2 y h2
      exact q v H2 G2 (s1.trans s2) (x1.back s2 y) h2
    | nx r w => simp only [e2] at q
    | br r w => simp only [e2] at q
    | ct r w => simp only [e2] at q
    | bad => simp only [e2] at q
    | ex c f y r9 w9 =>
      simp only [e2] at q
      exact fun H2 G2 cls d s2 y2 ee => q H2 G2 cls d (s1.trans s2) (x1.back s2 y2) ee
/-- how many arguments are told -/
def Arity (m : M (List D)) (k : Nat) : Prop := ∀ r w ds r' w', m r w = .ok ds r' w' → ds.length = k
theorem ar_nil : Arity mNil 0 := fun r w ds r' w' h => by
  unfold mNil at h
  cases h
  rfl
theorem ar_cons {a : M D} {m : M (List D)} {k : Nat} (h : Arity m k) : Arity (mCons a m) (k + 1) := fun r w ds r' w' q => by
  unfold mCons at q
  cases e1 : a r w with
  | bad => simp only [e1, Re.bind] at q; cases q
  | ex c f y r9 w9 => simp only [e1, Re.bind] at q; cases q
  | ok d r1 w1 =>
    simp only [e1, Re.bind] at q
    cases e2 : m r1 w1 with
    | bad => simp only [e2] at q; cases q
    | ex c f y r9 w9 => simp only [e2] at q; cases q
    | ok es r2 w2 =>
      simp only [e2] at q
      cases q
      rw [List.length_cons, h _ _ _ _ _ e2]
theorem e_call (F : FnG X.prog X.w X.K X.mg X.base n fa fd ps (spM X.K X.mg cnt f)) (hr : Room n X.A) (hu : X.A.guards = some []) (hm : X.mg x = some (.ref fa)) (hk : PySem.W.keepIn X.K (.ref fa) = true) (hb : Binds X.K fd ps []) {W : WX} (tk : Takes X W) (hc : Arity m cnt)
    (ha : PA X (e :: es) (tMs X.K X.mg W m)) (hg : Gl X x := by rfl) (hdb : (x == ("__debug__" : Str)) = false := by decide) (he : starEach (e :: es) X.env = (false, eval e X.env) :: starEach es X.env := by rfl) (hpl : (backTo pos (starEach es X.env)).any (·.1) = false := by rfl) :
    PE X (.Call (.Name x p) (e :: es) [] pos) (tM X.K X.mg W (mCall f m)) := pe_imp (pe_g F hr hu hm hk hb tk ha hg hdb he hpl) fun _ _ _ h => m_call hc h
/-- a def of the text, its body evaluated -/
def envOf (n : Nat) (ds : List D) : En := ds.map .im ++ List.replicate (n - ds.length) .no
def fnM (n : Nat) (body : S) : List D → Wd → Fl := fun ds w => match body (envOf n ds) w with
  | .nx _ w' => .rt (.py .none) w'
  | .rt d w' => .rt d w'
  | .ex c f y _ w' => .ex c f y [] w'
  | _ => .bad
theorem rep_start {K : PySem.W.Frag} {wa : WA} {Fr G H : Hp} {w : Wd} {vs : List V} {ds : List D} (N : List Str) (x : RepH wa Fr G H w) (h : RvAll K wa G vs ds) : Rep K wa Fr G (L2.start N vs) H (envOf N.length ds) w := by
  have hl := h.len
  refine ⟨x, fun i s e => ?_, fun i j xs ys a h1 => ?_⟩
  · unfold envOf at e
    unfold L2.start
    by_cases hi : i < ds.length
    · rw [List.getElem?_append_left (by rw [List.length_map]; exact hi), List.getElem?_map] at e
      rw [List.getElem?_append_left (by rw [List.length_map, hl]; exact hi), List.getElem?_map]
      cases q : ds[i]? with
      | none => rw [q] at e; cases e
      | some d =>
        rw [q] at e
        cases e
        obtain ⟨v, h1, h2⟩ := h.get q
        exact ⟨some v, by rw [h1]; rfl, v, rfl, h2⟩
    · rw [List.getElem?_append_right (by rw [List.length_map]; omega), List.getElem?_replicate] at e
      rw [List.getElem?_append_right (by rw [List.length_map, hl]; omega), List.getElem?_replicate]
      rw [List.length_map] at e ⊢
      rw [hl]
      split at e
      · cases e
        rename_i c
        rw [if_pos c]
        exact ⟨none, rfl, trivial⟩
      · cases e
  · unfold envOf at h1
    by_cases hi : i < ds.length
    · rw [List.getElem?_append_left (by rw [List.length_map]; exact hi), List.getElem?_map] at h1
      cases q : ds[i]? with
      | none => rw [q] at h1; cases h1
      | some d => rw [q] at h1; cases h1
    · rw [List.getElem?_append_right (by rw [List.length_map]; omega), List.getElem?_replicate] at h1
      split at h1 <;> cases h1
theorem fn_M {P : Program} {w : World} {K : PySem.W.Frag} {mg : Str → Option Value} {base : Heap} {x qual : Str} {pr : Arguments} {body : List Stmt} {sc : Scope} {fa : Addr} {fd : FuncData} {N ps : List Str} {n : Nat} {m : S} {dvs : List V} (F : FunD K x qual pr body sc dvs [] fa fd) (S : FnScope N ps sc)
    (hb : ∀ (cdv : Value) (B : Around) (outs : List Env) (s0 : Shared) (H : Hp) (E : XK), Room n (B.deeper (envOfC qual sc s0.heap.objs.size fa cdv)) → B.guards = some [] → PassesOwn (model P w) (cxOf (L2.CX P w) P w K mg base N qual sc fa cdv B outs s0 H E).A (cxOf (L2.CX P w) P w K mg base N qual sc fa cdv B outs s0 H E).env (cxOf (L2.CX P w) P w K mg base N qual sc fa cdv B outs s0 H E).xe →
      Takes (cxOf (L2.CX P w) P w K mg base N qual sc fa cdv B outs s0 H E) (fun cls d _ H => E cls d H) → PSs (cxOf (L2.CX P w) P w K mg base N qual sc fa cdv B outs s0 H E) body (tX K mg (fun cls d _ H => E cls d H) m)) :
    FnG P w K mg base (n + 1) fa fd ps (spM K mg ps.length (fnM N.length m)) := by
  refine fng_of F S (fun vs H Q E h => h.1) fun cdv B outs s0 H vs Q E hr hu h => ?_
  obtain ⟨_, wa, Fr, G, w1, ds, x1, h1, q⟩ := h
  refine ⟨_, hb cdv B outs s0 H E hr hu (passes_of rfl) (takes_of rfl rfl rfl rfl), wa, Fr, G, _, w1, rep_start N x1 h1, ?_⟩
  unfold fnM at q
  cases e1 : m (envOf N.length ds) w1 with
  | nx r2 w2 =>
    simp only [e1] at q
    intro σ' H' G' s' x'
    exact q _ H' G' s' x'.h Dq.non
  | rt d w2 =>
    simp only [e1] at q
    exact q
  | br r2 w2 => simp only [e1] at q
  | ct r2 w2 => simp only [e1] at q
  | bad => simp only [e1] at q
  | ex c f y r9 w9 =>
    simp only [e1] at q
    exact fun σ' H' G' cls d s' x' ee => q H' G' cls d s' x'.h ee
end
end Mi
namespace Mi
open PySem PySem.Spec PyProof.Rows L2

/-! ### targets -/
theorem wipe_get (σ : L2.St) (j : Nat) : ∀ us : List Nat, (wipe σ us)[j]? = if j ∈ us ∧ j < σ.length then some none else σ[j]?
  | [] => by
    unfold wipe
    rw [if_neg (by simp)]
  | u :: us => by
    unfold wipe
    by_cases h : u = j
    · subst h
      by_cases hl : u < σ.length
      · rw [List.getElem?_set_self (by rw [wipe_length]; exact hl), if_pos ⟨List.mem_cons_self .., hl⟩]
      · rw [List.getElem?_eq_none (by rw [List.length_set, wipe_length]; omega), if_neg (fun z => hl z.2), List.getElem?_eq_none (by omega)]
    · rw [List.getElem?_set_ne h, wipe_get σ j us]
      by_cases hj : j ∈ us ∧ j < σ.length
      · rw [if_pos hj, if_pos ⟨List.mem_cons_of_mem _ hj.1, hj.2⟩]
      · rw [if_neg hj, if_neg]
        rintro ⟨z, hl⟩
        rcases List.mem_cons.mp z with z | z
        · exact h z.symm
        · exact hj ⟨z, hl⟩
/-- two states of the slots that part in these slots alone -/
def Only2 (vs : List Nat) (σ σ' : L2.St) : Prop := σ'.length = σ.length ∧ ∀ j, j ∉ vs → σ'[j]? = σ[j]?
theorem Only2.wipe {vs us : List Nat} {σ σ' : L2.St} (h : Only2 vs σ σ') (hs : ∀ i ∈ vs, i ∈ us) : L2.wipe σ' us = L2.wipe σ us := by
  apply List.ext_getElem?
  intro j
  rw [wipe_get, wipe_get, h.1]
  by_cases c : j ∈ us ∧ j < σ.length
  · rw [if_pos c, if_pos c]
  · rw [if_neg c, if_neg c]
    by_cases hj : j ∈ vs
    · have : ¬ j < σ.length := fun z => c ⟨hs j hj, z⟩
      rw [List.getElem?_eq_none (by rw [h.1]; omega), List.getElem?_eq_none (by omega)]
    · exact h.2 j hj
def GOk (K : PySem.W.Frag) (g : TG) (asg : D → En → Option En) (vs : List Nat) : Prop :=
  ∀ ⦃wa Fr G σ H r w v d r' Q⦄, Rep K wa Fr G σ H r w → Rv K wa G v d → asg d r = some r' → (∀ σ', Rep K wa Fr G σ' H r' w → Only2 vs σ σ' → Q σ' H) → g v σ H Q
def asgN (i : Nat) : D → En → Option En := fun d r => some (r.set i (.im d))
theorem g_name {K : PySem.W.Frag} (i : Nat) : GOk K (gName i) (asgN i) [i] := by
  intro wa Fr G σ H r w v d r' Q x h e q
  cases e
  refine q _ (x.setIm i h) ⟨List.length_set .., fun j hj => ?_⟩
  rw [List.getElem?_set_ne (fun z => hj (by rw [z]; exact List.mem_singleton.mpr rfl))]
def asgs : List Nat → List PyData → En → Option En
  | [], [], r => some r
  | i :: is, d :: ds, r => asgs is ds (r.set i (.im (.py d)))
  | _, _, _ => none
def asgT (is : List Nat) : D → En → Option En := fun d r => match d with
  | .py (.tuple ds) => asgs is ds r
  | .py (.list ds) => asgs is ds r
  | .wt ds => asgs is ds r
  | _ => none
def gNames : List Nat → TGs
  | [] => gNil
  | i :: is => gCons (gName i) (gNames is)
theorem g_names {K : PySem.W.Frag} : ∀ (is : List Nat) {wa Fr G σ H r w vs ds r'} {Q : L2.St → Hp → Prop}, Rep K wa Fr G σ H r w → DqAll K G vs ds → asgs is ds r = some r' → (∀ σ', Rep K wa Fr G σ' H r' w → Only2 is σ σ' → Q σ' H) → gNames is vs σ H Q
  | [], wa, Fr, G, σ, H, r, w, vs, ds, r', Q, x, h, e, q => by
    cases h with
    | nil =>
      cases e
      exact ⟨rfl, q σ x ⟨rfl, fun _ _ => rfl⟩⟩
    | cons _ _ => cases e
  | i :: is, wa, Fr, G, σ, H, r, w, vs, ds, r', Q, x, h, e, q => by
    cases h with
    | nil => cases e
    | @cons v vs d ds h t =>
      refine ⟨v, vs, rfl, ?_⟩
      refine g_names is (x.setIm i (d := .py d) h) t e fun σ' x' o => q σ' x' ⟨?_, fun j hj => ?_⟩
      · rw [o.1, List.length_set]
      · rw [o.2 j (fun z => hj (List.mem_cons_of_mem _ z)), List.getElem?_set_ne (fun z => hj (by rw [z]; exact List.mem_cons_self ..))]
theorem asgs_len : ∀ (is : List Nat) (ds : List PyData) (r r' : En), asgs is ds r = some r' → ds.length = is.length := by
  intro is
  induction is with
  | nil => intro ds r r' e; cases ds with
    | nil => rfl
    | cons _ _ => cases e
  | cons i is ih => intro ds r r' e; cases ds with
    | nil => cases e
    | cons d ds => rw [List.length_cons, List.length_cons, ih ds _ _ e]
/-- a tuple or a list -/
def gTL (K : PySem.W.Frag) (n : Nat) (t : TGs) : TG := fun v σ H Q => gTup K n t v σ H Q ∨ gUnl K n t v σ H Q
theorem pg_tl {X : Cx} {es : List Expr} {k : Nat} {t : TGs} {n : Nat} {pos : Pos} (hc : X.calm = true) (h : PGs X es t) (hn : (assignEach es X.env).length = n := by rfl) (hst : (assignEach es X.env).findIdx? (·.1) = none := by rfl) : PG X (.Tuple es k pos) (gTL X.K n t) := by
  have h1 := pg_tup (X := X) (pos := pos) (k := k) hc h hn hst
  have h2 := pg_unl (X := X) (pos := pos) (k := k) hc h hn hst
  refine ⟨fun pins s σ H v u Q I r q => ?_⟩
  rcases q with q | q
  · exact h1.run pins s σ H v u Q I r q
  · exact h2.run pins s σ H v u Q I r q
theorem g_tup {K : PySem.W.Frag} (is : List Nat) : GOk K (gTL K is.length (gNames is)) (asgT is) is := by
  intro wa Fr G σ H r w v d r' Q x h e q
  unfold asgT at e
  split at e
  · rename_i ds
    cases h with
    | tup s a => exact .inl ⟨_, _, rfl, (TupS.mono s x.h.sub).sq, by rw [dpall_len a, asgs_len _ _ _ _ e], g_names is x a e q⟩
  · rename_i ds
    cases h with
    | lst s a => exact .inr ⟨_, _, rfl, SqL.of (x.h.sub _ _ s), by rw [dpall_len a, asgs_len _ _ _ _ e], g_names is x a e q⟩
  · rename_i ds
    obtain ⟨a, vs, rfl, s, d⟩ := h
    exact .inl ⟨_, _, rfl, same_sqT x.h.sub s, by rw [dpall_len d, asgs_len _ _ _ _ e], g_names is x d e q⟩
  · cases e

/-! ### statements -/
def sAsg (asg : D → En → Option En) (m : M D) : S := fun r w => match m r w with
  | .ok d r1 w1 => match asg d r1 with
    | some r2 => .nx r2 w1
    | none => .bad
  | .ex c f y r1 w1 => .ex c f y r1 w1
  | .bad => .bad
def sOw (i : Nat) (m : M (List PyData)) : S := fun r w => match m r w with
  | .ok xs r1 w1 => .nx (r1.set i (.ow xs)) w1
  | .ex c f y r1 w1 => .ex c f y r1 w1
  | .bad => .bad
def sAug (i : Nat) (f : Int → Int → Int) (m : M D) : S := fun r w => match r[i]? with
  | some (.im (.py (.int a))) => match m r w with
    | .ok (.py (.int b)) r1 w1 => .nx (r1.set i (.im (.py (.int (f a b))))) w1
    | .ex c f y r1 w1 => .ex c f y r1 w1
    | _ => .bad
  | _ => .bad
def sRet (m : M D) : S := fun r w => match m r w with
  | .ok d _ w1 => .rt d w1
  | .ex c f y r1 w1 => .ex c f y r1 w1
  | .bad => .bad
def sDrop (m : M D) : S := fun r w => match m r w with
  | .ok _ r1 w1 => .nx r1 w1
  | .ex c f y r1 w1 => .ex c f y r1 w1
  | .bad => .bad
def sIf (c : M Bool) (a b : S) : S := fun r w => match c r w with
  | .ok k r1 w1 => if k = true then a r1 w1 else b r1 w1
  | .ex c f y r1 w1 => .ex c f y r1 w1
  | .bad => .bad
def sSeq (a b : S) : S := fun r w => match a r w with
  | .nx r1 w1 => b r1 w1
  | .rt d w1 => .rt d w1
  | .br r1 w1 => .br r1 w1
  | .ct r1 w1 => .ct r1 w1
  | .ex c f y r1 w1 => .ex c f y r1 w1
  | .bad => .bad
def sNil : S := fun r w => .nx r w
def sNever : S := fun _ _ => .bad
def sBr : S := fun r w => .br r w
def sCt : S := fun r w => .ct r w
/-- what is wanted behind a statement, by what its evaluation gives -/
def After (K : PySem.W.Frag) (mg : Str → Option Value) (W : WX) (wa : WA) (Fr G : Hp) (Dn : Ends) : Fl → Prop
  | .nx r' w' => ∀ σ' H' G', Same G G' → Rep K wa Fr G' σ' H' r' w' → Dn.nx σ' H'
  | .br r' w' => ∀ σ' H' G', Same G G' → Rep K wa Fr G' σ' H' r' w' → Dn.bk σ' H'
  | .ct r' w' => ∀ σ' H' G', Same G G' → Rep K wa Fr G' σ' H' r' w' → Dn.ct σ' H'
  | .rt d w' => ∀ v H' G', Same G G' → RepH wa Fr G' H' w' → Rv K wa G' v d → Dn.rt v H'
  | .ex c f y r' w' => ExSt K mg W wa Fr G c f y r' w'
  | .bad => False
theorem tX_after {K : PySem.W.Frag} {m : S} {Dn : Ends} {σ : L2.St} {H : Hp} (h : tX K mg W m Dn σ H) : ∃ wa Fr G r w, Rep K wa Fr G σ H r w ∧ After K mg W wa Fr G Dn (m r w) := by
  obtain ⟨wa, Fr, G, r, w, x, q⟩ := h
  refine ⟨wa, Fr, G, r, w, x, ?_⟩
  cases e : m r w with
  | nx r1 w1 => rw [e] at q; exact q
  | br r1 w1 => rw [e] at q; exact q
  | ct r1 w1 => rw [e] at q; exact q
  | rt d w1 => rw [e] at q; exact q
  | ex c f y r1 w1 => rw [e] at q; exact q
  | bad => rw [e] at q; exact q
theorem after_tX {K : PySem.W.Frag} {m : S} {Dn : Ends} {σ : L2.St} {H : Hp} {wa : WA} {Fr G : Hp} {r : En} {w : Wd} (x : Rep K wa Fr G σ H r w) (q : After K mg W wa Fr G Dn (m r w)) : tX K mg W m Dn σ H := by
  refine ⟨wa, Fr, G, r, w, x, ?_⟩
  cases e : m r w with
  | nx r1 w1 => rw [e] at q; exact q
  | br r1 w1 => rw [e] at q; exact q
  | ct r1 w1 => rw [e] at q; exact q
  | rt d w1 => rw [e] at q; exact q
  | ex c f y r1 w1 => rw [e] at q; exact q
  | bad => rw [e] at q; exact q
theorem After.mono {K : PySem.W.Frag} {wa : WA} {Fr G G1 : Hp} {Dn : Ends} (s : Same G G1) {f : Fl} (q : After K mg W wa Fr G Dn f) : After K mg W wa Fr G1 Dn f := by
  cases f with
  | nx r1 w1 => exact fun σ' H' G' s' x' => q σ' H' G' (s.trans s') x'
  | br r1 w1 => exact fun σ' H' G' s' x' => q σ' H' G' (s.trans s') x'
  | ct r1 w1 => exact fun σ' H' G' s' x' => q σ' H' G' (s.trans s') x'
  | rt d w1 => exact fun σ' H' G' s' x' h' => q σ' H' G' (s.trans s') x' h'
  | ex c f y r1 w1 => exact ExSt.mono q s
  | bad => exact q
section
variable {X : Cx} {K : PySem.W.Frag} {e tg : Expr} {m : M D} {g : TG} {asg : D → En → Option En} {vs : List Nat} {pos : Pos}
theorem m_asg (hg : GOk K g asg vs) {Dn : Ends} {σ : L2.St} {H : Hp} (h : tX K mg W (sAsg asg m) Dn σ H) : tAsg (tM K mg W m) g Dn σ H := by
  obtain ⟨wa, Fr, G, r, w, x, q⟩ := h
  unfold sAsg at q
  refine ⟨wa, Fr, G, r, w, x, ?_⟩
  cases e1 : m r w with
  | bad => simp only [e1] at q
  | ex c f y r9 w9 => simp only [e1] at q; first | exact q | exact q.at
  | ok d r1 w1 =>
    simp only [e1] at q
    intro v H1 G1 s1 x1 h1
    cases e2 : asg d r1 with
    | none => simp only [e2] at q
    | some r2 =>
      simp only [e2] at q
      exact hg x1 h1 e2 fun σ' x' _ => q σ' H1 G1 s1 x'
theorem s_asg (he : PE X e (tM X.K X.mg W m)) (hp : PG X tg g) (hg : GOk X.K g asg vs) (hs : swapsWithSole [tg] e pos.line X.env = pure false := by rfl) (hw : swappedStores [tg] e X.env = pure none := by rfl)
    (h1 : (assignEach [tg] X.env).map (·.2) = [assign tg X.env] := by rfl) : PS X (.Assign [tg] e pos) (tX X.K X.mg W (sAsg asg m)) := ps_imp (ps_asg he hp hs hw h1) fun _ _ _ h => m_asg hg h
/-- x = e -/
theorem s_set (i : Nat) {x : Str} {pos' : Pos} (hN : X.N.Nodup) (he : PE X e (tM X.K X.mg W m)) (hi : X.N[i]? = some x := by rfl) (hx : Loc X.env.scope x := by first | exact Or.inl rfl | exact Or.inr rfl) (hs : swapsWith e (some (.Name x pos')) pos.line X.env = pure false := by rfl) (hf : X.fn x = true ∨ X.env.scope.names.lookup x = some .local := by first | exact .inl rfl | exact .inr rfl | assumption) :
    PS X (.Assign [.Name x pos'] e pos) (tX X.K X.mg W (sAsg (asgN i) m)) := ps_imp (ps_set hN hi hx he hs hf) fun _ _ _ h => m_asg (g_name i) h
theorem m_ow {i : Nat} {m : M (List PyData)} {Dn : Ends} {σ : L2.St} {H : Hp} (h : tX K mg W (sOw i m) Dn σ H) : tAsg (tF K mg W m) (gName i) Dn σ H := by
  obtain ⟨wa, Fr, G, r, w, x, q⟩ := h
  unfold sOw at q
  refine ⟨wa, Fr, G, r, w, x, ?_⟩
  cases e1 : m r w with
  | bad => simp only [e1] at q
  | ex c f y r9 w9 => simp only [e1] at q; first | exact q | exact q.at
  | ok xs r1 w1 =>
    simp only [e1] at q
    intro a vs H1 G1 s1 x1 h1 h2
    exact q _ H1 G1 s1 (x1.setOw i h1 h2)
theorem s_own (i : Nat) {m : M (List PyData)} {x : Str} {pos' : Pos} (hN : X.N.Nodup) (he : PE X e (tF X.K X.mg W m)) (hi : X.N[i]? = some x := by rfl) (hx : Loc X.env.scope x := by first | exact Or.inl rfl | exact Or.inr rfl) (hs : swapsWith e (some (.Name x pos')) pos.line X.env = pure false := by rfl) (hf : X.fn x = true ∨ X.env.scope.names.lookup x = some .local := by first | exact .inl rfl | exact .inr rfl | assumption) :
    PS X (.Assign [.Name x pos'] e pos) (tX X.K X.mg W (sOw i m)) := ps_imp (ps_set hN hi hx he hs hf) fun _ _ _ h => m_ow h
theorem m_aug {i : Nat} {f : Int → Int → Int} {Dn : Ends} {σ : L2.St} {H : Hp} (h : tX K mg W (sAug i f m) Dn σ H) : tAug i (tM K mg W m) (ipI f) Dn σ H := by
  obtain ⟨wa, Fr, G, r, w, x, q⟩ := tX_after h
  unfold sAug at q
  split at q
  · rename_i a e0
    obtain ⟨o, f1, v, rfl, f3⟩ := x.slot i _ e0
    cases f3
    refine ⟨_, f1, wa, Fr, G, r, w, x, ?_⟩
    split at q
    · rename_i b r1 w1 e1
      rw [e1]
      intro v H1 G1 s1 x1 h1
      cases h1
      exact ⟨a, b, rfl, rfl, q _ H1 G1 s1 (x1.setIm i (Dq.int _))⟩
    · rename_i e1
      rw [e1]
      exact ExSt.at q
    · exact False.elim q
  · exact False.elim q
theorem s_aug (i : Nat) {f : Int → Int → Int} {x : Str} {op : Operator} {pos' : Pos} (hN : X.N.Nodup) (he : PE X e (tM X.K X.mg W m)) (ho : PIp X op (ipI f)) (hi : X.N[i]? = some x := by rfl) (hx : Loc X.env.scope x := by first | exact Or.inl rfl | exact Or.inr rfl) (hf : X.fn x = true ∨ X.env.scope.names.lookup x = some .local := by first | exact .inl rfl | exact .inr rfl | assumption) :
    PS X (.AugAssign (.Name x pos') op e pos) (tX X.K X.mg W (sAug i f m)) := ps_imp (ps_aug hN hi hx he ho hf) fun _ _ _ h => m_aug h
theorem s_ret (he : PE X e (tM X.K X.mg W m)) : PS X (.Return (some e) pos) (tX X.K X.mg W (sRet m)) := by
  refine ps_imp (ps_ret he) fun Dn σ H h => ?_
  obtain ⟨wa, Fr, G, r, w, x, q⟩ := h
  unfold sRet at q
  refine ⟨wa, Fr, G, r, w, x, ?_⟩
  cases e1 : m r w with
  | bad => simp only [e1] at q
  | ex c f y r9 w9 => simp only [e1] at q; first | exact q | exact q.at
  | ok d r1 w1 =>
    simp only [e1] at q
    exact fun v H1 G1 s1 x1 h1 => q v H1 G1 s1 x1.h h1
theorem s_drop (he : PE X e (tM X.K X.mg W m)) (hs : swapsWith e none pos.line X.env = pure false := by rfl) : PS X (.Expr e pos) (tX X.K X.mg W (sDrop m)) := by
  refine ps_imp (ps_expr he hs) fun Dn σ H h => ?_
  obtain ⟨wa, Fr, G, r, w, x, q⟩ := h
  unfold sDrop at q
  refine ⟨wa, Fr, G, r, w, x, ?_⟩
  cases e1 : m r w with
  | bad => simp only [e1] at q
  | ex c f y r9 w9 => simp only [e1] at q; first | exact q | exact q.at
  | ok d r1 w1 =>
    simp only [e1] at q
    exact fun v H1 G1 s1 x1 h1 => q σ H1 G1 s1 x1
theorem lift_X {K : PySem.W.Frag} {a : S} {Dn : Ends} {σ : L2.St} {H : Hp} {wa : WA} {Fr G G1 : Hp} {r : En} {w : Wd} (x : Rep K wa Fr G1 σ H r w) (s : Same G G1) (q : match a r w with
  | .nx r' w' => ∀ σ' H' G', Same G G' → Rep K wa Fr G' σ' H' r' w' → Dn.nx σ' H'
  | .br r' w' => ∀ σ' H' G', Same G G' → Rep K wa Fr G' σ' H' r' w' → Dn.bk σ' H'
  | .ct r' w' => ∀ σ' H' G', Same G G' → Rep K wa Fr G' σ' H' r' w' → Dn.ct σ' H'
  | .rt d w' => ∀ v H' G', Same G G' → RepH wa Fr G' H' w' → Rv K wa G' v d → Dn.rt v H'
  | .ex c f y r' w' => ExSt K mg W wa Fr G c f y r' w'
  | .bad => False) : tX K mg W a Dn σ H := by
  refine ⟨wa, Fr, G1, r, w, x, ?_⟩
  cases e2 : a r w with
  | nx r2 w2 =>
    simp only [e2] at q
    exact fun σ' H' G' s' x' => q σ' H' G' (s.trans s') x'
  | br r2 w2 =>
    simp only [e2] at q
    exact fun σ' H' G' s' x' => q σ' H' G' (s.trans s') x'
  | ct r2 w2 =>
    simp only [e2] at q
    exact fun σ' H' G' s' x' => q σ' H' G' (s.trans s') x'
  | rt d w2 =>
    simp only [e2] at q
    exact fun σ' H' G' s' x' h' => q σ' H' G' (s.trans s') x' h'
  | bad => simp only [e2] at q
  | ex c f y r9 w9 => simp only [e2] at q; exact q.mono s
theorem s_if {c : Expr} {a b : List Stmt} {mc : M Bool} {ma mb : S} (hc : PT X c (tT X.K X.mg W mc)) (ha : PSs X a (tX X.K X.mg W ma)) (hb : PSs X b (tX X.K X.mg W mb)) : PS X (.If c a b pos) (tX X.K X.mg W (sIf mc ma mb)) := by
  refine ps_imp (ps_if hc ha hb) fun Dn σ H h => ?_
  obtain ⟨wa, Fr, G, r, w, x, q⟩ := h
  unfold sIf at q
  refine ⟨wa, Fr, G, r, w, x, ?_⟩
  cases e1 : mc r w with
  | bad => simp only [e1] at q
  | ex c f y r9 w9 => simp only [e1] at q; first | exact q | exact q.at
  | ok k r1 w1 =>
    simp only [e1] at q
    intro H1 G1 s1 x1
    cases k with
    | true =>
      simp only [if_true] at q ⊢
      exact lift_X x1 s1 q
    | false =>
      simp only [Bool.false_eq_true, if_false] at q ⊢
      exact lift_X x1 s1 q
theorem ss_nil : PSs X [] (tX X.K X.mg W sNil) := by
  refine pss_imp pss_nil fun Dn σ H h => ?_
  obtain ⟨wa, Fr, G, r, w, x, q⟩ := h
  exact q σ H G (Same.refl _) x
theorem ss_cons {st : Stmt} {rest : List Stmt} {a b : S} (h1 : PS X st (tX X.K X.mg W a)) (h2 : PSs X rest (tX X.K X.mg W b)) : PSs X (st :: rest) (tX X.K X.mg W (sSeq a b)) := by
  refine pss_imp (pss_cons h1 h2) fun Dn σ H h => ?_
  obtain ⟨wa, Fr, G, r, w, x, q⟩ := h
  unfold sSeq at q
  refine ⟨wa, Fr, G, r, w, x, ?_⟩
  cases e1 : a r w with
  | nx r1 w1 =>
    simp only [e1] at q ⊢
    exact fun σ' H' G' s' x' => lift_X x' s' q
  | rt d w1 => simp only [e1] at q ⊢; exact q
  | br r1 w1 => simp only [e1] at q ⊢; exact q
  | ct r1 w1 => simp only [e1] at q ⊢; exact q
  | bad => simp only [e1] at q
  | ex c f y r9 w9 => simp only [e1] at q; first | exact q | exact q.at
theorem ss_one {st : Stmt} {a : S} (h1 : PS X st (tX X.K X.mg W a)) : PSs X [st] (tX X.K X.mg W a) := pss_one h1
theorem s_never {st : Stmt} : PS X st (tX X.K X.mg W sNever) := by
  refine ps_imp ps_never fun Dn σ H h => ?_
  obtain ⟨wa, Fr, G, r, w, x, q⟩ := h
  exact q
theorem ss_never {st : List Stmt} : PSs X st (tX X.K X.mg W sNever) := by
  refine pss_imp pss_never fun Dn σ H h => ?_
  obtain ⟨wa, Fr, G, r, w, x, q⟩ := h
  exact q
theorem s_break : PS X (.Break pos) (tX X.K X.mg W sBr) := by
  refine ps_imp ps_break fun Dn σ H h => ?_
  obtain ⟨wa, Fr, G, r, w, x, q⟩ := h
  exact q σ H G (Same.refl _) x
theorem s_continue : PS X (.Continue pos) (tX X.K X.mg W sCt) := by
  refine ps_imp ps_continue fun Dn σ H h => ?_
  obtain ⟨wa, Fr, G, r, w, x, q⟩ := h
  exact q σ H G (Same.refl _) x
/-- found.append(e), found a list of one's own -/
def sApp (i : Nat) (m : M D) : S := fun r w => match r[i]? with
  | some (.ow _) => match m r w with
    | .ok (.py y) r1 w1 => match r1[i]? with
      | some (.ow xs) => ifC (xs.length < 100000) (.nx (r1.set i (.ow (xs ++ [y]))) w1) .bad
      | _ => .bad
    | .ex c f y r1 w1 => .ex c f y r1 w1
    | _ => .bad
  | _ => .bad
theorem tyV_own {K : PySem.W.Frag} {H : Hp} {a : Addr} {vs : List V} (h : H a = some (.lst vs)) : tyV K "list" (.ref a) H := .inl ⟨rfl, vs, .inl (.inl h)⟩
theorem s_app (i : Nat) {x : Str} {p1 p2 p3 : Pos} (he : PE X e (tM X.K X.mg W m)) (hN : X.N[i]? = some x := by rfl) (hv : Vis X.env.scope x := by first | exact Or.inl rfl | exact Or.inr (Or.inl rfl) | exact Or.inr (Or.inr rfl)) (hd : (x == ("__debug__" : Str)) = false := by decide) (hcd : (x == ("__classdict__" : Str)) = false := by decide)
    (hbase : attributeBase (.Name x p1) "append" X.env (eval (.Name x p1) X.env) = eval (.Name x p1) X.env := by rfl)
    (hfew : ((backTo p3 (starEach (e :: []) X.env)).all (fun x => !x.1) && (backToKw p3 (keywordEach [] X.env)).all (fun x => x.1.isSome)
      && decide ((e :: []).length + ([] : List Keyword).length + (if ([] : List Keyword).isEmpty then 0 else 1) < 30)) = true := by rfl)
    (hline : (p2.endLine == p3.line) = true := by rfl) (hs : starEach (e :: []) X.env = (false, eval e X.env) :: starEach [] X.env := by rfl) (hplain : (backTo p3 (starEach [] X.env)).any (·.1) = false := by rfl)
    (hsw : swapsWith (.Call (.Attribute (.Name x p1) "append" p2) [e] [] p3) none pos.line X.env = pure false := by rfl) :
    PS X (.Expr (.Call (.Attribute (.Name x p1) "append" p2) [e] [] p3) pos) (tX X.K X.mg W (sApp i m)) := by
  refine ps_imp (ps_expr (pe_bm PySem.F.plainAttrs_list PySem.F.slot_list_append PySem.F.type_list_append mt_append (pe_var hN hv hd hcd) (pa_cons he pa_nil hs) hbase hfew hline hs hplain) hsw) fun Dn σ H h => ?_
  obtain ⟨wa, Fr, G, r, w, x0, q⟩ := tX_after h
  unfold sApp at q
  split at q
  · rename_i xs0 e0
    obtain ⟨o, f1, a, vs0, rfl, ho⟩ := x0.slot i _ e0
    refine ⟨.ref a, f1, tyV_own ho.at_, wa, Fr, G, r, w, x0, ?_⟩
    split at q
    · rename_i y r1 w1 e1
      rw [e1]
      intro v H1 G1 s1 x1 h1
      split at q
      · rename_i xs e2
        by_cases c : xs.length < 100000
        · rw [ifC_pos c] at q
          obtain ⟨o, g1, a', vs, e3, hb⟩ := x1.slot i _ e2
          rw [f1] at g1
          cases g1
          cases e3
          refine ⟨a, vs, v, rfl, rfl, hb.at_, big_lt (by rw [dpall_len hb.da]; exact c), ?_⟩
          exact q σ _ G1 s1 (x1.change e2 f1 (dpall_app hb.da (.cons h1 .nil)))
        · rw [ifC_neg c] at q
          exact False.elim q
      · exact False.elim q
    · rename_i e1
      rw [e1]
      exact ExSt.at q
    · exact False.elim q
  · exact False.elim q
/-- found.extend(e), e a list or a tuple -/
def seqOf : PyData → Option (List PyData)
  | .list xs => some xs
  | .tuple xs => some xs
  | _ => none
def sExt (i : Nat) (m : M D) : S := fun r w => match r[i]? with
  | some (.ow _) => match m r w with
    | .ok (.py y) r1 w1 => match r1[i]? with
      | some (.ow xs) => match seqOf y with
        | some ys => ifC (xs.length + ys.length ≤ 100000) (.nx (r1.set i (.ow (xs ++ ys))) w1) .bad
        | none => .bad
      | _ => .bad
    | .ex c f y r1 w1 => .ex c f y r1 w1
    | _ => .bad
  | _ => .bad
def rExtendT : V → List V → Hp → VK → Prop := fun x vs H Q => ∃ l b xs zs, x = .ref l ∧ vs = [.ref b] ∧ H l = some (.lst xs) ∧ TupS H b zs ∧ xs.length + zs.length ≤ sizeLine ∧ Q .non (upd H l (.lst (xs ++ zs)))
theorem mt_extendT : MtM X "list.extend" rExtendT := by
  intro pins s σ H x vs v us Q I rx rv h
  obtain ⟨l, b, xs, zs, rfl, rfl, hH, hB, hz, q⟩ := h
  cases rx
  obtain ⟨u, rfl, ru⟩ := rv.one
  cases ru
  obtain ⟨z, its, n, r, hl, e⟩ := I.lstM hH
  obtain ⟨is2, n2, r2, e2, hl2⟩ := inv_tupS I hB
  have len2 := r2.length
  have fit : its.toArray.size + is2.toArray.size ≤ sizeLine := by rw [List.size_toArray, List.size_toArray]; omega
  have short : ¬ (!its.toArray.isEmpty && Builtin.List.listTooLong (its.toArray.size + is2.toArray.size)) = true := by
    rw [notLongL fit, Bool.and_false]
    exact Bool.false_ne_true
  refine call_meets F.slot_list_extend ⟨_, e, rfl⟩ F.entry_list_extend (F.args_list_extend_2 _ _) (AutoSeq1.list_extend_list_tuple_0 l its.toArray n b is2.toArray n2 short (by rw [List.size_toArray]; omega) (by omega)) ⟨e, e2, ?_⟩
  exact ⟨.non, _, I.lset (its' := its ++ is2) hH e (by simp) (r.append r2) (by rw [List.length_append]; omega), rfl, q⟩
theorem mt_extend2 : MtM X "list.extend" (fun x vs H Q => rExtend x vs H Q ∨ rExtendT x vs H Q) := by
  intro pins s σ H x vs v us Q I rx rv h
  rcases h with h | h
  · exact mt_extend pins s σ H x vs v us Q I rx rv h
  · exact mt_extendT pins s σ H x vs v us Q I rx rv h
theorem s_ext (i : Nat) {x : Str} {p1 p2 p3 : Pos} (he : PE X e (tM X.K X.mg W m)) (hN : X.N[i]? = some x := by rfl) (hv : Vis X.env.scope x := by first | exact Or.inl rfl | exact Or.inr (Or.inl rfl) | exact Or.inr (Or.inr rfl)) (hd : (x == ("__debug__" : Str)) = false := by decide) (hcd : (x == ("__classdict__" : Str)) = false := by decide)
    (hbase : attributeBase (.Name x p1) "extend" X.env (eval (.Name x p1) X.env) = eval (.Name x p1) X.env := by rfl)
    (hfew : ((backTo p3 (starEach (e :: []) X.env)).all (fun x => !x.1) && (backToKw p3 (keywordEach [] X.env)).all (fun x => x.1.isSome)
      && decide ((e :: []).length + ([] : List Keyword).length + (if ([] : List Keyword).isEmpty then 0 else 1) < 30)) = true := by rfl)
    (hline : (p2.endLine == p3.line) = true := by rfl) (hs : starEach (e :: []) X.env = (false, eval e X.env) :: starEach [] X.env := by rfl) (hplain : (backTo p3 (starEach [] X.env)).any (·.1) = false := by rfl)
    (hsw : swapsWith (.Call (.Attribute (.Name x p1) "extend" p2) [e] [] p3) none pos.line X.env = pure false := by rfl) :
    PS X (.Expr (.Call (.Attribute (.Name x p1) "extend" p2) [e] [] p3) pos) (tX X.K X.mg W (sExt i m)) := by
  refine ps_imp (ps_expr (pe_bm PySem.F.plainAttrs_list PySem.F.slot_list_extend PySem.F.type_list_extend mt_extend2 (pe_var hN hv hd hcd) (pa_cons he pa_nil hs) hbase hfew hline hs hplain) hsw) fun Dn σ H h => ?_
  obtain ⟨wa, Fr, G, r, w, x0, q⟩ := tX_after h
  unfold sExt at q
  split at q
  · rename_i xs0 e0
    obtain ⟨o, f1, a, vs0, rfl, ho⟩ := x0.slot i _ e0
    refine ⟨.ref a, f1, tyV_own ho.at_, wa, Fr, G, r, w, x0, ?_⟩
    split at q
    · rename_i y r1 w1 e1
      rw [e1]
      intro v H1 G1 s1 x1 h1
      split at q
      · rename_i xs e2
        split at q
        · rename_i ys ey
          by_cases c : xs.length + ys.length ≤ 100000
          · rw [ifC_pos c] at q
            obtain ⟨o, g1, a', vs, e3, hb⟩ := x1.slot i _ e2
            rw [f1] at g1
            cases g1
            cases e3
            cases h1 with
            | non => cases ey
            | bl b => cases ey
            | int b => cases ey
            | str b => cases ey
            | dct _ _ => cases ey
            | lst sb ab =>
              cases ey
              refine .inl ⟨a, _, vs, _, rfl, rfl, hb.at_, x1.h.sub _ _ sb, big_le (by rw [dpall_len hb.da, dpall_len ab]; exact c), ?_⟩
              exact q σ _ G1 s1 (x1.change e2 f1 (dpall_app hb.da ab))
            | tup sb ab =>
              cases ey
              refine .inr ⟨a, _, vs, _, rfl, rfl, hb.at_, sb.mono x1.h.sub, big_le (by rw [dpall_len hb.da, dpall_len ab]; exact c), ?_⟩
              exact q σ _ G1 s1 (x1.change e2 f1 (dpall_app hb.da ab))
          · rw [ifC_neg c] at q
            exact False.elim q
        · exact False.elim q
      · exact False.elim q
    · rename_i e1
      rw [e1]
      exact ExSt.at q
    · exact False.elim q
  · exact False.elim q
end
end Mi
namespace Mi
open PySem PySem.Spec PyProof.Rows L2

/-! ### what a loop goes over -/
def Yields (K : PySem.W.Frag) (wa : WA) (J : It) (G : Hp) (ds : List D) : Prop := ∀ G1 H1, Same G G1 → Same G1 H1 →
  J.stop ds.length H1 ∧ ∀ (i : Nat) (d : D), ds[i]? = some d → J.go i H1 ∧ ∀ v H2, J.yld i H1 v H2 → (H2 = H1 ∧ Rv K wa G1 v d) ∨ (∃ p vs xs, H1 p = none ∧ H2 = upd H1 p (.tup vs) ∧ v = .ref p ∧ DqAll K G1 vs xs ∧ d = .wt xs)
def IOk (K : PySem.W.Frag) (mg : Str → Option Value) (W : WX) (wi : TI) (mi : M (List D)) : Prop :=
  ∀ ⦃wa Fr G σ H r w R⦄, Rep K wa Fr G σ H r w → (match mi r w with
    | .ok ds r' w' => ∀ J H' G', Same G G' → Rep K wa Fr G' σ H' r' w' → Yields K wa J G' ds → R J H'
    | .ex c f y r' w' => ExOk K mg W wa Fr G σ c f y r' w'
    | .bad => False) → wi σ H R
theorem iok_of {K : PySem.W.Frag} {mg : Str → Option Value} {W : WX} {wi : TI} {mi : M (List D)}
    (h1 : ∀ ⦃wa Fr G σ H r w ds r' w' R⦄, Rep K wa Fr G σ H r w → mi r w = .ok ds r' w' → (∀ J H' G', Same G G' → Rep K wa Fr G' σ H' r' w' → Yields K wa J G' ds → R J H') → wi σ H R)
    (h2 : ∀ ⦃wa Fr G σ H r w c f y r' w' R⦄, Rep K wa Fr G σ H r w → mi r w = .ex c f y r' w' → ExOk K mg W wa Fr G σ c f y r' w' → wi σ H R) : IOk K mg W wi mi := by
  intro wa Fr G σ H r w R x q
  cases e : mi r w with
  | ok ds r1 w1 => rw [e] at q; exact h1 x e q
  | ex c f y r1 w1 => rw [e] at q; exact h2 x e q
  | bad => rw [e] at q; exact q.elim
def forL (asg : D → En → Option En) (body : S) : List D → S
  | [] => fun r w => .nx r w
  | d :: ds => fun r w => match asg d r with
    | none => .bad
    | some r1 => match body r1 w with
      | .nx r2 w2 => forL asg body ds r2 w2
      | .ct r2 w2 => forL asg body ds r2 w2
      | .br r2 w2 => .nx r2 w2
      | .rt d w2 => .rt d w2
      | .ex c f y r2 w2 => .ex c f y r2 w2
      | .bad => .bad
def sFor (asg : D → En → Option En) (mi : M (List D)) (body : S) : S := fun r w => match mi r w with
  | .ok ds r1 w1 => forL asg body ds r1 w1
  | .ex c f y r1 w1 => .ex c f y r1 w1
  | .bad => .bad
def whL (c : M Bool) (body : S) : Nat → S
  | 0 => fun _ _ => .bad
  | n + 1 => fun r w => match c r w with
    | .ok true r1 w1 => match body r1 w1 with
      | .nx r2 w2 => whL c body n r2 w2
      | .ct r2 w2 => whL c body n r2 w2
      | .br r2 w2 => .nx r2 w2
      | .rt d w2 => .rt d w2
      | .ex c f y r2 w2 => .ex c f y r2 w2
      | .bad => .bad
    | .ok false r1 w1 => .nx r1 w1
    | .ex c f y r1 w1 => .ex c f y r1 w1
    | .bad => .bad
section
variable {X : Cx} {K : PySem.W.Frag} {pos : Pos}
theorem m_for {wi : TI} {g : TG} {asg : D → En → Option En} {vs : List Nat} {mi : M (List D)} {body : S} (hi : IOk K mg W wi mi) (hg : GOk K g asg vs) {Dn : Ends} {σ : L2.St} {H : Hp} (h : tX K mg W (sFor asg mi body) Dn σ H) : tFor wi g (tX K mg W body) Dn σ H := by
  obtain ⟨wa, Fr, G, r, w, x, q⟩ := tX_after h
  unfold sFor at q
  cases e1 : mi r w with
  | bad => rw [e1] at q; exact False.elim q
  | ex c f y r9 w9 =>
    rw [e1] at q
    refine hi x ?_
    rw [e1]
    exact ExSt.at q
  | ok ds r1 w1 =>
    rw [e1] at q
    refine hi x ?_
    rw [e1]
    intro J H1 G1 s1 x1 hy
    refine ⟨fun i n σ' H' => ∃ G' r' w', n = ds.length - i ∧ i ≤ ds.length ∧ Same G1 G' ∧ Rep K wa Fr G' σ' H' r' w' ∧ After K mg W wa Fr G' Dn (forL asg body (ds.drop i) r' w'),
      ⟨ds.length, G1, r1, w1, rfl, Nat.zero_le _, Same.refl _, x1, q.mono s1⟩, ?_⟩
    rintro i n σ' H' ⟨G', r', w', rfl, hle, s', x', q'⟩
    obtain ⟨st, tn⟩ := hy G' H' s' x'.h.sub
    by_cases hlt : i < ds.length
    · have ed : ds[i]? = some ds[i] := List.getElem?_eq_getElem hlt
      obtain ⟨go, yl⟩ := tn i _ ed
      rw [List.drop_eq_getElem_cons hlt] at q'
      refine .inr ⟨go, fun σ2 H2 => ∃ G2 r2 w2, i + 1 ≤ ds.length ∧ Same G1 G2 ∧ Rep K wa Fr G2 σ2 H2 r2 w2 ∧ After K mg W wa Fr G2 Dn (forL asg body (ds.drop (i + 1)) r2 w2), ?_, ?_⟩
      · rintro σ2 H2 ⟨G2, r2, w2, h1, h2, h3, h4⟩
        exact ⟨ds.length - (i + 1), by omega, G2, r2, w2, rfl, h1, h2, h3, h4⟩
      · intro v H2 hv
        -- the turn from a state in which the item is a value
        have turn : ∀ G2, Same G' G2 → Rep K wa Fr G2 σ' H2 r' w' → Rv K wa G2 v ds[i] → g v σ' H2 fun σ3 H3 => tX K mg W body { Dn with nx := fun σ2 H2 => ∃ G2 r2 w2, i + 1 ≤ ds.length ∧ Same G1 G2 ∧ Rep K wa Fr G2 σ2 H2 r2 w2 ∧ After K mg W wa Fr G2 Dn (forL asg body (ds.drop (i + 1)) r2 w2), ct := fun σ2 H2 => ∃ G2 r2 w2, i + 1 ≤ ds.length ∧ Same G1 G2 ∧ Rep K wa Fr G2 σ2 H2 r2 w2 ∧ After K mg W wa Fr G2 Dn (forL asg body (ds.drop (i + 1)) r2 w2), bk := Dn.nx } σ3 H3 := by
          intro G2 s2 x2 h2
          unfold forL at q'
          cases ea : asg ds[i] r' with
          | none => rw [ea] at q'; exact False.elim q'
          | some r3 =>
            rw [ea] at q'
            refine hg x2 h2 ea fun σ3 x3 _ => ?_
            refine after_tX x3 ?_
            cases eb : body r3 w' with
            | nx r4 w4 =>
              simp only [eb] at q'
              exact fun σ5 H5 G5 s5 x5 => ⟨G5, r4, w4, hlt, s'.trans (s2.trans s5), x5, q'.mono (s2.trans s5)⟩
            | ct r4 w4 =>
              simp only [eb] at q'
              exact fun σ5 H5 G5 s5 x5 => ⟨G5, r4, w4, hlt, s'.trans (s2.trans s5), x5, q'.mono (s2.trans s5)⟩
            | br r4 w4 =>
              simp only [eb] at q'
              exact fun σ5 H5 G5 s5 x5 => q' σ5 H5 G5 (s2.trans s5) x5
            | rt d w4 =>
              simp only [eb] at q'
              exact fun v5 H5 G5 s5 x5 h5 => q' v5 H5 G5 (s2.trans s5) x5 h5
            | bad => simp only [eb] at q'; exact False.elim q'
            | ex c f y r9 w9 => simp only [eb] at q'; exact ExSt.mono q' s2
        rcases yl v H2 hv with ⟨rfl, h2⟩ | ⟨p, us, xs, hp, rfl, rfl, hd, e2⟩
        · exact turn G' (Same.refl _) x' h2
        · refine turn _ (same_new (x'.h.gnone hp)) (x'.alloc hp _) ?_
          rw [e2]
          exact ⟨_, _, rfl, .inl (.inl upd_same), dps_mono (same_new (x'.h.gnone hp)) _ _ hd⟩
    · have e : i = ds.length := by omega
      subst e
      rw [List.drop_length] at q'
      exact .inl ⟨st, q' σ' H' G' (Same.refl _) x'⟩
theorem s_for {tg iter : Expr} {bd : List Stmt} {wi : TI} {g : TG} {asg : D → En → Option En} {vs : List Nat} {mi : M (List D)} {body : S} (hp : PassesOwn (model X.prog X.w) X.A X.env X.xe) (hc : X.calm = true) (hi : PI X tg iter wi) (ho : IOk X.K X.mg W wi mi) (hpg : PG X tg g) (hg : GOk X.K g asg vs) (hb : PSs X bd (tX X.K X.mg W body))
    (hs : ∀ x, foldedSetIterable iter X.env x = pure x := by intro _; rfl) : PS X (.For tg iter bd [] pos) (tX X.K X.mg W (sFor asg mi body)) := ps_imp (ps_for hp hc hi hpg hb hs) fun _ _ _ h => m_for ho hg h
theorem m_while {c : M Bool} {body : S} (n : Nat) {Dn : Ends} {σ : L2.St} {H : Hp} (h : tX K mg W (whL c body n) Dn σ H) : tWhile (tT K mg W c) (tX K mg W body) Dn σ H := by
  obtain ⟨wa, Fr, G, r, w, x, q⟩ := tX_after h
  refine ⟨fun k σ' H' => ∃ G' r' w', Same G G' ∧ Rep K wa Fr G' σ' H' r' w' ∧ After K mg W wa Fr G' Dn (whL c body k r' w'), ⟨n, G, r, w, Same.refl _, x, q⟩, ?_⟩
  rintro k σ' H' ⟨G', r', w', s', x', q'⟩
  cases k with
  | zero => exact False.elim q'
  | succ k =>
    unfold whL at q'
    refine ⟨wa, Fr, G', r', w', x', ?_⟩
    cases e1 : c r' w' with
    | bad => simp only [e1] at q'; exact False.elim q'
    | ex c f y r9 w9 => simp only [e1] at q'; exact ExSt.at q'
    | ok b r1 w1 =>
      simp only
      intro H1 G1 s1 x1
      cases b with
      | false =>
        simp only [e1] at q'
        simp only [Bool.false_eq_true, if_false]
        exact q' σ' H1 G1 s1 x1
      | true =>
        simp only [e1] at q'
        simp only [if_true]
        refine ⟨fun σ2 H2 => ∃ G2 r2 w2, Same G G2 ∧ Rep K wa Fr G2 σ2 H2 r2 w2 ∧ After K mg W wa Fr G2 Dn (whL c body k r2 w2), ?_, after_tX x1 ?_⟩
        · rintro σ2 H2 ⟨G2, r2, w2, h1, h2, h3⟩
          exact ⟨k, Nat.lt_succ_self k, G2, r2, w2, h1, h2, h3⟩
        · cases eb : body r1 w1 with
          | nx r4 w4 =>
            simp only [eb] at q'
            exact fun σ5 H5 G5 s5 x5 => ⟨G5, r4, w4, s'.trans (s1.trans s5), x5, q'.mono (s1.trans s5)⟩
          | ct r4 w4 =>
            simp only [eb] at q'
            exact fun σ5 H5 G5 s5 x5 => ⟨G5, r4, w4, s'.trans (s1.trans s5), x5, q'.mono (s1.trans s5)⟩
          | br r4 w4 =>
            simp only [eb] at q'
            exact fun σ5 H5 G5 s5 x5 => q' σ5 H5 G5 (s1.trans s5) x5
          | rt d w4 =>
            simp only [eb] at q'
            exact fun v5 H5 G5 s5 x5 h5 => q' v5 H5 G5 (s1.trans s5) x5 h5
          | bad => simp only [eb] at q'; exact False.elim q'
          | ex c f y r9 w9 => simp only [eb] at q'; exact ExSt.mono q' s1
theorem s_while {c : Expr} {bd : List Stmt} {mc : M Bool} {body : S} (n : Nat) (hp : PassesOwn (model X.prog X.w) X.A X.env X.xe) (hc : PT X c (tT X.K X.mg W mc)) (hb : PSs X bd (tX X.K X.mg W body)) : PS X (.While c bd [] pos) (tX X.K X.mg W (whL mc body n)) :=
  ps_imp (ps_while hp hc hb) fun _ _ _ h => m_while n h

/-! ### over a tuple, a list, a range -/
def mSeq (m : M D) : M (List D) := fun r w => (m r w).bind fun d r w => match d with
  | .py (.tuple xs) => .ok (xs.map .py) r w
  | .py (.list xs) => .ok (xs.map .py) r w
  | _ => .bad
def iSeq (K : PySem.W.Frag) (te : TE) : TI := fun σ H R => te σ H fun x H1 => (∃ a, x = .ref a ∧ (∃ xs, SqT K H1 a xs) ∧ R (Itt K a) H1) ∨ (∃ a, x = .ref a ∧ (∃ xs, SqL K H1 a xs) ∧ R (Itl K a) H1)
theorem pi_seq {l tg : Expr} {te : TE} (hl : PE X l te) : PI X tg l (iSeq X.K te) := by
  constructor
  intro pins s σ H R I h
  apply thn (hl.run pins s σ H _ I h)
  rintro v s1 ⟨x, H1, I1, r1, q1⟩
  have fp1 : ∀ b ∈ [s1.heap.objs.size], FpOk X pins H1 b := by
    intro b hb
    rw [List.mem_singleton.mp hb]
    exact I1.fpOk (Nat.le_refl _) (I1.hok.fresh (Nat.le_refl _))
  rcases q1 with ⟨a, rfl, ⟨xs, hq⟩, q⟩ | ⟨a, rfl, ⟨xs, hq⟩, q⟩
  · cases r1
    obtain ⟨its, _, tu, _⟩ := I1.tuple hq
    apply wpAny_pyIter_tuple (show s1.heap.IsTuple a its.toArray from tu)
    exact ⟨_, _, _, _, H1, rfl, I1.kept (t' := s1.toks) fun _ _ e => Heap.get?_push_of_some _ e, turn_tuple a _, ⟨_, Heap.get?_push_size _ rfl, rfl, rfl⟩, fp1, q⟩
  · cases r1
    obtain ⟨its, _, li, _⟩ := I1.list hq
    apply wpAny_pyIter_list li.isList
    exact ⟨_, _, _, _, H1, rfl, I1.kept (t' := s1.toks) fun _ _ e => Heap.get?_push_of_some _ e, turn_list a _, ⟨_, Heap.get?_push_size _ rfl, rfl, rfl⟩, fp1, q⟩
theorem dq_at {K : PySem.W.Frag} {wa : WA} {G : Hp} {vs : List V} {xs : List PyData} (h : DqAll K G vs xs) {i : Nat} {d : D} (e : (xs.map D.py)[i]? = some d) : ∃ v, vs[i]? = some v ∧ Rv K wa G v d := by
  rw [List.getElem?_map] at e
  cases q : xs[i]? with
  | none => rw [q] at e; cases e
  | some y =>
    rw [q] at e
    cases e
    exact dpall_get h q
theorem yields_tup {K : PySem.W.Frag} {wa : WA} {G : Hp} {a : Addr} {vs : List V} {xs : List PyData} (s : TupS G a vs) (h : DqAll K G vs xs) : Yields K wa (Itt K a) G (xs.map .py) := by
  intro G1 H1 s1 s2
  have hs : SqT K H1 a vs := ((s.mono s1).mono s2).sq
  have hd := dps_mono s1 _ _ h
  refine ⟨⟨vs, hs, by rw [List.length_map, dpall_len h]; exact Nat.le_refl _⟩, fun i d e => ?_⟩
  obtain ⟨v, h1, h2⟩ := dq_at (wa := wa) hd e
  refine ⟨⟨vs, v, hs, h1⟩, fun u H2 y => .inl ⟨y.1, ?_⟩⟩
  have z := (y.2 vs hs).symm.trans h1
  cases z
  exact h2
theorem yields_lst {K : PySem.W.Frag} {wa : WA} {G : Hp} {a : Addr} {vs : List V} {xs : List PyData} (s : G a = some (.lst vs)) (h : DqAll K G vs xs) : Yields K wa (Itl K a) G (xs.map .py) := by
  intro G1 H1 s1 s2
  have hs : SqL K H1 a vs := SqL.of (s2 _ _ (s1 _ _ s))
  have hd := dps_mono s1 _ _ h
  refine ⟨⟨vs, hs, by rw [List.length_map, dpall_len h]; exact Nat.le_refl _⟩, fun i d e => ?_⟩
  obtain ⟨v, h1, h2⟩ := dq_at (wa := wa) hd e
  refine ⟨⟨vs, v, hs, h1⟩, fun u H2 y => .inl ⟨y.1, ?_⟩⟩
  have z := (y.2 vs hs).symm.trans h1
  cases z
  exact h2
theorem i_seq {K : PySem.W.Frag} {m : M D} : IOk K mg W (iSeq K (tM K mg W m)) (mSeq m) := by
  intro wa Fr G σ H r w R x q
  unfold mSeq at q
  refine ⟨wa, Fr, G, r, w, x, ?_⟩
  cases e1 : m r w with
  | bad => simp only [e1, Re.bind] at q
  | ex c f y r9 w9 => simp only [e1, Re.bind] at q; exact q
  | ok d r1 w1 =>
    simp only [e1, Re.bind] at q
    intro v H1 G1 s1 x1 h1
    cases d with
    | mm => simp only at q
    | wt _ => simp only at q
    | py d =>
      cases d with
      | tuple xs =>
        cases h1 with
        | tup s a => exact .inl ⟨_, rfl, ⟨_, (TupS.mono s x1.h.sub).sq⟩, q _ H1 G1 s1 x1 (yields_tup s a)⟩
      | list xs =>
        cases h1 with
        | lst s a => exact .inr ⟨_, rfl, ⟨_, SqL.of (x1.h.sub _ _ s)⟩, q _ H1 G1 s1 x1 (yields_lst s a)⟩
      | none => simp only at q
      | int i => simp only at q
      | str s => simp only at q
      | bool b => simp only at q
      | dict xs => simp only at q
/-- range(n), range(a, b) -/
def upto (lo : Int) (n : Nat) : List D := (List.range n).map fun (i : Nat) => .py (.int (lo + i))
theorem yields_rng {K : PySem.W.Frag} {wa : WA} {G : Hp} {lo : Int} {n : Nat} : Yields K wa (Itr lo n) G (upto lo n) := by
  intro G1 H1 s1 s2
  unfold upto
  refine ⟨by rw [List.length_map, List.length_range]; exact Nat.le_refl n, fun i d e => ?_⟩
  rw [List.getElem?_map] at e
  by_cases hi : i < n
  · rw [List.getElem?_range hi] at e
    cases e
    refine ⟨hi, fun u H2 y => .inl ⟨y.1, ?_⟩⟩
    rw [y.2]
    exact Dq.int _
  · rw [List.getElem?_eq_none (by rw [List.length_range]; omega)] at e
    cases e
def mRng1 (m : M (List D)) : M (List D) := fun r w => (m r w).bind fun ds r w => match ds with
  | [.py (.int n)] => ifC (-1000000 ≤ n ∧ n ≤ 1000000) (.ok (upto 0 n.toNat) r w) .bad
  | _ => .bad
def mRng2 (m : M (List D)) : M (List D) := fun r w => (m r w).bind fun ds r w => match ds with
  | [.py (.int a), .py (.int b)] => ifC ((-1000000 ≤ a ∧ a ≤ 1000000) ∧ -1000000 ≤ b ∧ b ≤ 1000000) (.ok (upto a (b - a).toNat) r w) .bad
  | _ => .bad
theorem i_rng1 {K : PySem.W.Frag} {m : M (List D)} : IOk K mg W (iRng1 (tMs K mg W m)) (mRng1 m) := by
  refine iok_of (fun wa Fr G σ H r w ds r' w' R x e q => ?_) (fun wa Fr G σ H r w c f y r' w' R x e q => ?_)
  rotate_left
  · unfold mRng1 at e
    refine ⟨wa, Fr, G, r, w, x, ?_⟩
    cases e1 : m r w with
    | bad => simp only [e1, Re.bind] at e; cases e
    | ex c f y r9 w9 => simp only [e1, Re.bind] at e; cases e; exact q
    | ok d r1 w1 =>
      simp only [e1, Re.bind] at e
      split at e
      · unfold ifC at e
        split at e <;> cases e
      · cases e
  unfold mRng1 at e
  refine ⟨wa, Fr, G, r, w, x, ?_⟩
  cases e1 : m r w with
  | bad => simp only [e1, Re.bind] at e; cases e
  | ex c f y r9 w9 => simp only [e1, Re.bind] at e; cases e
  | ok d r1 w1 =>
    simp only [e1, Re.bind] at e
    intro v H1 G1 s1 x1 h1
    split at e
    · rename_i n
      by_cases c : -1000000 ≤ n ∧ n ≤ 1000000
      · rw [ifC_pos c] at e
        cases e
        obtain ⟨u, rfl, h⟩ := rv_one h1
        cases h
        exact ⟨n, rfl, by omega, by omega, q _ H1 G1 s1 x1 yields_rng⟩
      · rw [ifC_neg c] at e
        cases e
    · cases e
theorem i_rng2 {K : PySem.W.Frag} {m : M (List D)} : IOk K mg W (iRng2 (tMs K mg W m)) (mRng2 m) := by
  refine iok_of (fun wa Fr G σ H r w ds r' w' R x e q => ?_) (fun wa Fr G σ H r w c f y r' w' R x e q => ?_)
  rotate_left
  · unfold mRng2 at e
    refine ⟨wa, Fr, G, r, w, x, ?_⟩
    cases e1 : m r w with
    | bad => simp only [e1, Re.bind] at e; cases e
    | ex c f y r9 w9 => simp only [e1, Re.bind] at e; cases e; exact q
    | ok d r1 w1 =>
      simp only [e1, Re.bind] at e
      split at e
      · unfold ifC at e
        split at e <;> cases e
      · cases e
  unfold mRng2 at e
  refine ⟨wa, Fr, G, r, w, x, ?_⟩
  cases e1 : m r w with
  | bad => simp only [e1, Re.bind] at e; cases e
  | ex c f y r9 w9 => simp only [e1, Re.bind] at e; cases e
  | ok d r1 w1 =>
    simp only [e1, Re.bind] at e
    intro v H1 G1 s1 x1 h1
    split at e
    · rename_i a b
      by_cases c : (-1000000 ≤ a ∧ a ≤ 1000000) ∧ -1000000 ≤ b ∧ b ≤ 1000000
      · rw [ifC_pos c] at e
        cases e
        obtain ⟨u, u', rfl, h, h'⟩ := rv_two h1
        cases h
        cases h'
        exact ⟨a, b, rfl, ⟨by omega, by omega, by omega, by omega⟩, q _ H1 G1 s1 x1 yields_rng⟩
      · rw [ifC_neg c] at e
        cases e
    · cases e

end

/-! ### list comprehensions -/
section
variable {X : Cx} {pos : Pos}
def noE (own : List Nat) (r : En) : En := own.foldl (fun r i => r.set i .no) r
/-- within a comprehension nothing is raised -/
abbrev WF : WX := fun _ _ _ _ => False
def lcL (asg : D → En → Option En) (mt : M Bool) (me : M D) (own : List Nat) : List D → List PyData → M (List PyData)
  | [], acc => fun r w => .ok acc r w
  | d :: ds, acc => fun r w => match asg d r with
    | none => .bad
    | some r1 => (mt r1 w).cut.bind fun b r2 w2 => if b = true then (me r2 w2).cut.bind fun y r3 w3 => match y with
        | .py y => ifC (acc.length < 100000) (lcL asg mt me own ds (acc ++ [y]) (noE own r3) w3) .bad
        | _ => .bad
      else lcL asg mt me own ds acc (noE own r2) w2
def mLc (asg : D → En → Option En) (mi : M (List D)) (mt : M Bool) (me : M D) (own : List Nat) : M (List PyData) := fun r w => (mi r w).bind fun ds r w => lcL asg mt me own ds [] (noE own r) w
def mYes : M Bool := fun r w => .ok true r w
theorem t_yes {K : PySem.W.Frag} {σ : L2.St} {H : Hp} {Q : Bool → Hp → Prop} (h : tT K mg W mYes σ H Q) : tYes σ H Q := by
  obtain ⟨wa, Fr, G, r, w, x, q⟩ := h
  exact q H G (Same.refl _) x
theorem Rep.wipe {K : PySem.W.Frag} {wa : WA} {Fr G H : Hp} {σ : L2.St} {r : En} {w : Wd} (x : Rep K wa Fr G σ H r w) : ∀ own : List Nat, Rep K wa Fr G (L2.wipe σ own) H (noE own r) w := by
  have gen : ∀ (own : List Nat) (r : En), Rep K wa Fr G σ H r w → Rep K wa Fr G σ H (noE own r) w := by
    intro own
    induction own with
    | nil => intro r x; exact x
    | cons i own ih => intro r x; exact ih _ (x.dropNo i)
  have isno : ∀ (own : List Nat) (r : En) (i : Nat), i ∈ own → ∀ s, (noE own r)[i]? = some s → s = .no := by
    have keep : ∀ (own : List Nat) (r : En) (i : Nat), (∀ s, r[i]? = some s → s = .no) → ∀ s, (noE own r)[i]? = some s → s = .no := by
      intro own
      induction own with
      | nil => intro r i h s e; exact h s e
      | cons j own ih =>
        intro r i h s e
        refine ih (r.set j .no) i (fun s' e' => ?_) s e
        by_cases hj : j = i
        · subst hj
          have hl : j < r.length := by
            have := (List.getElem?_eq_some_iff.mp e').1
            rw [List.length_set] at this
            exact this
          rw [List.getElem?_set_self hl] at e'
          cases e'
          rfl
        · rw [List.getElem?_set_ne hj] at e'
          exact h s' e'
    intro own
    induction own with
    | nil => intro r i h; cases h
    | cons j own ih =>
      intro r i h s e
      rcases List.mem_cons.mp h with rfl | h
      · refine keep own _ i (fun s' e' => ?_) s e
        have hl : i < r.length := by
          have := (List.getElem?_eq_some_iff.mp e').1
          rw [List.length_set] at this
          exact this
        rw [List.getElem?_set_self hl] at e'
        cases e'
        rfl
      · exact ih _ i h s e
  intro own
  have y := gen own r x
  refine ⟨y.h, fun i s e => ?_, fun i j xs ys a h1 h2 h3 h4 => ?_⟩
  · by_cases hi : i ∈ own
    · have := isno own r i hi s e
      subst this
      obtain ⟨o, e1, _⟩ := y.slot i _ e
      have hl := (List.getElem?_eq_some_iff.mp e1).1
      refine ⟨none, ?_, trivial⟩
      rw [wipe_get, if_pos ⟨hi, hl⟩]
    · obtain ⟨o, e1, e2⟩ := y.slot i s e
      refine ⟨o, ?_, e2⟩
      rw [wipe_get, if_neg (fun z => hi z.1)]
      exact e1
  · have n1 : i ∉ own := fun z => by cases isno own r i z _ h1
    have n2 : j ∉ own := fun z => by cases isno own r j z _ h2
    rw [wipe_get, if_neg (fun z => n1 z.1)] at h3
    rw [wipe_get, if_neg (fun z => n2 z.1)] at h4
    exact y.inj i j xs ys a h1 h2 h3 h4
/-- the slots that a block has wiped are no longer known; the def's own come back -/
theorem Rep.unwipe {K : PySem.W.Frag} {wa : WA} {Fr G H : Hp} {σ : L2.St} {r : En} {w : Wd} {own : List Nat} (hl : ∀ i s, r[i]? = some s → i < σ.length) (x : Rep K wa Fr G (L2.wipe σ own) H r w) (hno : ∀ i ∈ own, ∀ s, r[i]? = some s → s = .no) : Rep K wa Fr G σ H r w := by
  have back : ∀ {i : Nat} {o : V}, (L2.wipe σ own)[i]? = some (some o) → σ[i]? = some (some o) := fun {i o} e => by
    rw [wipe_get] at e
    split at e
    · cases e
    · exact e
  refine ⟨x.h, fun i s e => ?_, fun i j xs ys a h1 h2 h3 h4 => ?_⟩
  · cases s with
    | no =>
      have := hl i _ e
      exact ⟨σ[i], List.getElem?_eq_getElem this, trivial⟩
    | im d =>
      obtain ⟨o, e1, v, rfl, h⟩ := x.slot i _ e
      exact ⟨some v, back e1, v, rfl, h⟩
    | ow xs =>
      obtain ⟨o, e1, a, vs, rfl, h⟩ := x.slot i _ e
      exact ⟨_, back e1, a, vs, rfl, h⟩
    | od kvs =>
      obtain ⟨o, e1, a, ps, rfl, h⟩ := x.slot i _ e
      exact ⟨_, back e1, a, ps, rfl, h⟩
  · have w1 : (L2.wipe σ own)[i]? = some (some (.ref a)) := by
      have n1 : i ∉ own := fun z => by cases hno i z _ h1
      rw [wipe_get, if_neg (fun z => n1 z.1)]
      exact h3
    have w2 : (L2.wipe σ own)[j]? = some (some (.ref a)) := by
      have n1 : j ∉ own := fun z => by cases hno j z _ h2
      rw [wipe_get, if_neg (fun z => n1 z.1)]
      exact h4
    exact x.inj i j xs ys a h1 h2 w1 w2
/-- range(a, b, c) -/
def uptoC (lo c : Int) (n : Nat) : List D := (List.range n).map fun (i : Nat) => .py (.int (lo + i * c))
theorem yields_rngC {K : PySem.W.Frag} {wa : WA} {G : Hp} {lo c : Int} {n : Nat} : Yields K wa (Itc lo c n) G (uptoC lo c n) := by
  intro G1 H1 s1 s2
  unfold uptoC
  refine ⟨by rw [List.length_map, List.length_range]; exact Nat.le_refl n, fun i d e => ?_⟩
  rw [List.getElem?_map] at e
  by_cases hi : i < n
  · rw [List.getElem?_range hi] at e
    cases e
    refine ⟨hi, fun u H2 y => .inl ⟨y.1, ?_⟩⟩
    rw [y.2]
    exact Dq.int _
  · rw [List.getElem?_eq_none (by rw [List.length_range]; omega)] at e
    cases e
def mRng3 (m : M (List D)) : M (List D) := fun r w => (m r w).bind fun ds r w => match ds with
  | [.py (.int a), .py (.int b), .py (.int c)] => ifC ((-1000000 ≤ a ∧ a ≤ 1000000) ∧ (-1000000 ≤ b ∧ b ≤ 1000000) ∧ (c ≠ 0 ∧ -1000000 ≤ c ∧ c ≤ 1000000)) (.ok (uptoC a c (Builtin.Range.rangeSize a b c).toNat) r w) .bad
  | _ => .bad
theorem rv_three {K : PySem.W.Frag} {wa : WA} {G : Hp} {vs : List V} {d e f : D} (h : RvAll K wa G vs [d, e, f]) : ∃ v u t, vs = [v, u, t] ∧ Rv K wa G v d ∧ Rv K wa G u e ∧ Rv K wa G t f := by
  cases h with
  | cons h t =>
    obtain ⟨u, v, rfl, q, q'⟩ := rv_two t
    exact ⟨_, _, _, rfl, h, q, q'⟩
theorem small_of {a b c : Int} (ha : -1000000 ≤ a ∧ a ≤ 1000000) (hb : -1000000 ≤ b ∧ b ≤ 1000000) (hc : c ≠ 0 ∧ -1000000 ≤ c ∧ c ≤ 1000000) : Builtin.Range.small a b c = true := by
  have n1 := rangeSize_toNat a b c
  have n2 := rangeSize_toNat_le a b c
  have fit : ∀ x : Int, -10000000 ≤ x ∧ x ≤ 10000000 → Builtin.Range.rangeFitsLong x = true := fun x hx => by
    unfold Builtin.Range.rangeFitsLong
    simp
    omega
  unfold Builtin.Range.small
  rw [fit a (by omega), fit b (by omega), fit c (by omega), fit (Builtin.Range.rangeSize a b c) (by omega)]
  by_cases hc0 : c > 0
  · rw [if_pos hc0, fit (b + (c - 1)) (by omega), Bool.or_true]
    rfl
  · rw [if_neg hc0, fit (b + (c + 1)) (by omega), Bool.or_true]
    rfl
theorem i_rng3 {K : PySem.W.Frag} {m : M (List D)} : IOk K mg W (iRng3 (tMs K mg W m)) (mRng3 m) := by
  refine iok_of (fun wa Fr G σ H r w ds r' w' R x e q => ?_) (fun wa Fr G σ H r w c f y r' w' R x e q => ?_)
  rotate_left
  · unfold mRng3 at e
    refine ⟨wa, Fr, G, r, w, x, ?_⟩
    cases e1 : m r w with
    | bad => simp only [e1, Re.bind] at e; cases e
    | ex c f y r9 w9 => simp only [e1, Re.bind] at e; cases e; exact q
    | ok d r1 w1 =>
      simp only [e1, Re.bind] at e
      split at e
      · unfold ifC at e
        split at e <;> cases e
      · cases e
  unfold mRng3 at e
  refine ⟨wa, Fr, G, r, w, x, ?_⟩
  cases e1 : m r w with
  | bad => simp only [e1, Re.bind] at e; cases e
  | ex c f y r9 w9 => simp only [e1, Re.bind] at e; cases e
  | ok d r1 w1 =>
    simp only [e1, Re.bind] at e
    intro v H1 G1 s1 x1 h1
    split at e
    · rename_i a b c
      by_cases k : (-1000000 ≤ a ∧ a ≤ 1000000) ∧ (-1000000 ≤ b ∧ b ≤ 1000000) ∧ (c ≠ 0 ∧ -1000000 ≤ c ∧ c ≤ 1000000)
      · rw [ifC_pos k] at e
        cases e
        obtain ⟨u, u', u'', rfl, h, h', h''⟩ := rv_three h1
        cases h
        cases h'
        cases h''
        exact ⟨a, b, c, _, rfl, ⟨k.2.2.1, by omega, small_of k.1 k.2.1 k.2.2, rangeSize_toNat a b c⟩, q _ H1 G1 s1 x1 yields_rngC⟩
      · rw [ifC_neg k] at e
        cases e
    · cases e
end
end Mi
namespace Mi
open PySem PySem.Spec PyProof.Rows L2
section
variable {K : PySem.W.Frag} {wa : WA} {Fr G H : Hp} {σ : L2.St} {r : En} {w : Wd} {p : Addr} {o o' : HO}
theorem Rep.protect (x : Rep K wa Fr G σ H r w) (hp : H p = none) (o : HO) : Rep K wa (upd Fr p o) G σ (upd H p o) r w := by
  have hg := x.h.gnone hp
  obtain ⟨n1, n2, n3⟩ := x.h.now hp
  obtain ⟨f1, f2, f3⟩ := x.h.fw
  refine ⟨⟨fun b y e => ?_, fun b y e => ?_, x.h.nw, ⟨by rw [upd_ne n1.symm]; exact f1, by rw [upd_ne n2.symm]; exact f2, by rw [upd_ne n3.symm]; exact f3⟩, x.h.wr.upd ⟨n1, n2, n3⟩⟩, fun i s e => ?_, x.inj⟩
  · rw [upd_ne (ne_of_none e hg)]
    exact x.h.sub _ _ e
  · by_cases hb : b = p
    · subst hb
      rw [upd_same] at e ⊢
      exact ⟨e, hg⟩
    · rw [upd_ne hb] at e ⊢
      exact x.h.fr b y e
  · obtain ⟨q, e1, e2⟩ := x.slot i s e
    refine ⟨q, e1, ?_⟩
    cases s with
    | no => trivial
    | im d => exact e2
    | ow ys =>
      obtain ⟨b, us, rfl, h2⟩ := e2
      have hb : b ≠ p := ne_of_none h2.at_ hp
      exact ⟨b, us, rfl, by rw [upd_ne hb]; exact h2.at_, h2.da, h2.g, by rw [upd_ne hb]; exact h2.f, h2.wm, h2.wc, h2.wg⟩
    | od kvs =>
      obtain ⟨b, us, rfl, h2⟩ := e2
      have hb : b ≠ p := ne_of_none h2.at_ hp
      exact ⟨b, us, rfl, by rw [upd_ne hb]; exact h2.at_, h2.da, h2.g, by rw [upd_ne hb]; exact h2.f, h2.wm, h2.wc, h2.wg⟩
theorem Rep.protP (x : Rep K wa (upd Fr p o) G σ H r w) : H p = some o ∧ G p = none ∧ p ≠ wa.m ∧ p ≠ wa.c ∧ p ≠ wa.g := by
  obtain ⟨h1, h2⟩ := x.h.fr p o upd_same
  obtain ⟨f1, f2, f3⟩ := x.h.fw
  exact ⟨h1, h2, fun z => (by rw [← z, upd_same] at f1; cases f1), fun z => (by rw [← z, upd_same] at f2; cases f2), fun z => (by rw [← z, upd_same] at f3; cases f3)⟩
theorem Rep.protChange (x : Rep K wa (upd Fr p o) G σ H r w) (o' : HO) : Rep K wa (upd Fr p o') G σ (upd H p o') r w := by
  obtain ⟨hp, hg, n1, n2, n3⟩ := x.protP
  obtain ⟨f1, f2, f3⟩ := x.h.fw
  refine ⟨⟨fun b y e => ?_, fun b y e => ?_, x.h.nw, ⟨by rw [upd_ne n1.symm] at f1 ⊢; exact f1, by rw [upd_ne n2.symm] at f2 ⊢; exact f2, by rw [upd_ne n3.symm] at f3 ⊢; exact f3⟩, x.h.wr.upd ⟨n1, n2, n3⟩⟩, fun i s e => ?_, x.inj⟩
  · rw [upd_ne (ne_of_none e hg)]
    exact x.h.sub _ _ e
  · by_cases hb : b = p
    · subst hb
      rw [upd_same] at e ⊢
      exact ⟨e, hg⟩
    · rw [upd_ne hb] at e ⊢
      exact x.h.fr b y (by rw [upd_ne hb]; exact e)
  · obtain ⟨q, e1, e2⟩ := x.slot i s e
    refine ⟨q, e1, ?_⟩
    cases s with
    | no => trivial
    | im d => exact e2
    | ow ys =>
      obtain ⟨b, us, rfl, h2⟩ := e2
      have hb : b ≠ p := fun z => by
        have := h2.f
        rw [z, upd_same] at this
        cases this
      have hf := h2.f
      rw [upd_ne hb] at hf
      exact ⟨b, us, rfl, by rw [upd_ne hb]; exact h2.at_, h2.da, h2.g, by rw [upd_ne hb]; exact hf, h2.wm, h2.wc, h2.wg⟩
    | od kvs =>
      obtain ⟨b, us, rfl, h2⟩ := e2
      have hb : b ≠ p := fun z => by
        have := h2.f
        rw [z, upd_same] at this
        cases this
      have hf := h2.f
      rw [upd_ne hb] at hf
      exact ⟨b, us, rfl, by rw [upd_ne hb]; exact h2.at_, h2.da, h2.g, by rw [upd_ne hb]; exact hf, h2.wm, h2.wc, h2.wg⟩
theorem Rep.unprot (x : Rep K wa (upd Fr p o) G σ H r w) (hf : Fr p = none) : Rep K wa Fr G σ H r w ∧ (∀ (j : Nat) (ys : List PyData), r[j]? = some (.ow ys) → σ[j]? ≠ some (some (.ref p))) := by
  obtain ⟨hp, hg, n1, n2, n3⟩ := x.protP
  obtain ⟨f1, f2, f3⟩ := x.h.fw
  rw [upd_ne n1.symm] at f1
  rw [upd_ne n2.symm] at f2
  rw [upd_ne n3.symm] at f3
  refine ⟨⟨⟨x.h.sub, fun b y e => ?_, x.h.nw, ⟨f1, f2, f3⟩, x.h.wr⟩, fun i s e => ?_, x.inj⟩, fun j ys e1 e2 => ?_⟩
  · have hb : b ≠ p := ne_of_none e hf
    exact x.h.fr b y (by rw [upd_ne hb]; exact e)
  · obtain ⟨q, e1, e2⟩ := x.slot i s e
    refine ⟨q, e1, ?_⟩
    cases s with
    | no => trivial
    | im d => exact e2
    | ow ys =>
      obtain ⟨b, us, rfl, h2⟩ := e2
      have hb : b ≠ p := fun z => by
        have := h2.f
        rw [z, upd_same] at this
        cases this
      have hf := h2.f
      rw [upd_ne hb] at hf
      exact ⟨b, us, rfl, h2.at_, h2.da, h2.g, hf, h2.wm, h2.wc, h2.wg⟩
    | od kvs =>
      obtain ⟨b, us, rfl, h2⟩ := e2
      have hb : b ≠ p := fun z => by
        have := h2.f
        rw [z, upd_same] at this
        cases this
      have hf := h2.f
      rw [upd_ne hb] at hf
      exact ⟨b, us, rfl, h2.at_, h2.da, h2.g, hf, h2.wm, h2.wc, h2.wg⟩
  · obtain ⟨q, g1, b, us, rfl, h2⟩ := x.slot j _ e1
    rw [e2] at g1
    cases g1
    have := h2.f
    rw [upd_same] at this
    cases this
end
theorem noE_no (own : List Nat) (r : En) : ∀ i ∈ own, ∀ s, (noE own r)[i]? = some s → s = .no := by
  have keep : ∀ (own : List Nat) (r : En) (i : Nat), (∀ s, r[i]? = some s → s = .no) → ∀ s, (noE own r)[i]? = some s → s = .no := by
    intro own
    induction own with
    | nil => intro r i h s e; exact h s e
    | cons j own ih =>
      intro r i h s e
      refine ih (r.set j .no) i (fun s' e' => ?_) s e
      by_cases hj : j = i
      · subst hj
        rw [List.getElem?_set_self (by have := (List.getElem?_eq_some_iff.mp e').1; rw [List.length_set] at this; exact this)] at e'
        cases e'
        rfl
      · rw [List.getElem?_set_ne hj] at e'
        exact h s' e'
  induction own generalizing r with
  | nil => intro i h; cases h
  | cons j own ih =>
    intro i h s e
    rcases List.mem_cons.mp h with rfl | h
    · refine keep own _ i (fun s' e' => ?_) s e
      rw [List.getElem?_set_self (by have := (List.getElem?_eq_some_iff.mp e').1; rw [List.length_set] at this; exact this)] at e'
      cases e'
      rfl
    · exact ih _ i h s e
section
variable {X : Cx} {K : PySem.W.Frag} {pos : Pos}
def AfterF (K : PySem.W.Frag) (mg : Str → Option Value) (W : WX) (wa : WA) (Fr G : Hp) (σ : L2.St) (Q : VK) : Re (List PyData) → Prop
  | .ok xs r' w' => ∀ a vs H' G', Same G G' → Rep K wa Fr G' σ H' r' w' → Own K wa Fr G' H' a vs xs → (∀ (j : Nat) (ys : List PyData), r'[j]? = some (.ow ys) → σ[j]? ≠ some (some (.ref a))) → Q (.ref a) H'
  | .ex c f y r' w' => ExOk K mg W wa Fr G σ c f y r' w'
  | .bad => False
theorem AfterF.mono {wa : WA} {Fr G G1 : Hp} {σ : L2.St} {Q : VK} (s : Same G G1) {f : Re (List PyData)} (q : AfterF K mg W wa Fr G σ Q f) : AfterF K mg W wa Fr G1 σ Q f := by
  cases f with
  | ok xs r' w' => exact fun a vs H' G' s' x' => q a vs H' G' (s.trans s') x'
  | ex c f y r9 w9 => exact ExOk.mono q s
  | bad => exact q
theorem wipe_wipe (σ : L2.St) (us : List Nat) : L2.wipe (L2.wipe σ us) us = L2.wipe σ us := by
  apply List.ext_getElem?
  intro j
  rw [wipe_get, wipe_get, wipe_length]
  split
  · rfl
  · rfl
theorem m_lc {wi : TI} {g : TG} {asg : D → En → Option En} {vs own : List Nat} {mi : M (List D)} {mt : M Bool} {me : M D} {tt : TT} (hi : IOk K mg W wi mi) (hg : GOk K g asg vs) (ho : ∀ i ∈ vs, i ∈ own) (ht : ∀ σ H Q, tT K mg WF mt σ H Q → tt σ H Q) {σ : L2.St} {H : Hp} {Q : VK} (h : tF K mg W (mLc asg mi mt me own) σ H Q) :
    tLc wi g tt (tM K mg WF me) own σ H Q := by
  obtain ⟨wa, Fr, G, r, w, x, q⟩ := h
  have q : AfterF K mg W wa Fr G σ Q (mLc asg mi mt me own r w) := by
    cases e : mLc asg mi mt me own r w with
    | ok xs r' w' => rw [e] at q; exact q
    | ex c f y r9 w9 => rw [e] at q; exact q
    | bad => rw [e] at q; exact q
  unfold mLc at q
  cases e1 : mi r w with
  | bad => simp only [e1, Re.bind] at q; exact False.elim q
  | ex c f y r9 w9 =>
    simp only [e1, Re.bind] at q
    refine hi x ?_
    rw [e1]
    exact q
  | ok ds r1 w1 =>
    simp only [e1, Re.bind] at q
    refine hi x ?_
    rw [e1]
    intro J H1 G1 s1 x1 hy A hA
    have fA : Fr A = none := x1.h.fnone hA
    refine ⟨fun i n H' => ∃ G' r' w' acc xs, n = ds.length - i ∧ i ≤ ds.length ∧ Same G1 G' ∧ Rep K wa (upd Fr A (.lst acc)) G' (L2.wipe σ own) H' r' w' ∧ DqAll K G' acc xs ∧ (∀ i ∈ own, ∀ s, r'[i]? = some s → s = .no) ∧ AfterF K mg W wa Fr G' σ Q (lcL asg mt me own (ds.drop i) xs r' w'),
      ⟨ds.length, G1, noE own r1, w1, [], [], rfl, Nat.zero_le _, Same.refl _, (x1.wipe own).protect hA _, .nil, noE_no own r1, q.mono s1⟩, ?_⟩
    rintro i n H' ⟨G', r', w', acc, xs, rfl, hle, s', x', hd, hno, q'⟩
    obtain ⟨st, tn⟩ := hy G' H' s' x'.h.sub
    by_cases hlt : i < ds.length
    · have ed : ds[i]? = some ds[i] := List.getElem?_eq_getElem hlt
      obtain ⟨go, yl⟩ := tn i _ ed
      rw [List.drop_eq_getElem_cons hlt] at q'
      refine .inr ⟨go, fun H2 => ∃ G2 r2 w2 acc2 xs2, i + 1 ≤ ds.length ∧ Same G1 G2 ∧ Rep K wa (upd Fr A (.lst acc2)) G2 (L2.wipe σ own) H2 r2 w2 ∧ DqAll K G2 acc2 xs2 ∧ (∀ i ∈ own, ∀ s, r2[i]? = some s → s = .no) ∧ AfterF K mg W wa Fr G2 σ Q (lcL asg mt me own (ds.drop (i + 1)) xs2 r2 w2), ?_, ?_⟩
      · rintro H2 ⟨G2, r2, w2, acc2, xs2, h1, h2, h3, h4, h5, h6⟩
        exact ⟨ds.length - (i + 1), by omega, G2, r2, w2, acc2, xs2, rfl, h1, h2, h3, h4, h5, h6⟩
      · intro v H2 hv
        have turn : ∀ G2, Same G' G2 → Rep K wa (upd Fr A (.lst acc)) G2 (L2.wipe σ own) H2 r' w' → Rv K wa G2 v ds[i] → g v (L2.wipe σ own) H2 fun σ3 H3 => L2.wipe σ3 own = L2.wipe σ own ∧ tt σ3 H3 fun b H4 =>
            if b = true then tM K mg WF me σ3 H4 fun y H5 => ∃ acc, H5 A = some (.lst acc) ∧ acc.length < sizeLine ∧ (fun H2 => ∃ G2 r2 w2 acc2 xs2, i + 1 ≤ ds.length ∧ Same G1 G2 ∧ Rep K wa (upd Fr A (.lst acc2)) G2 (L2.wipe σ own) H2 r2 w2 ∧ DqAll K G2 acc2 xs2 ∧ (∀ i ∈ own, ∀ s, r2[i]? = some s → s = .no) ∧ AfterF K mg W wa Fr G2 σ Q (lcL asg mt me own (ds.drop (i + 1)) xs2 r2 w2)) (upd H5 A (.lst (acc ++ [y])))
            else (fun H2 => ∃ G2 r2 w2 acc2 xs2, i + 1 ≤ ds.length ∧ Same G1 G2 ∧ Rep K wa (upd Fr A (.lst acc2)) G2 (L2.wipe σ own) H2 r2 w2 ∧ DqAll K G2 acc2 xs2 ∧ (∀ i ∈ own, ∀ s, r2[i]? = some s → s = .no) ∧ AfterF K mg W wa Fr G2 σ Q (lcL asg mt me own (ds.drop (i + 1)) xs2 r2 w2)) H4 := by
          intro G2 s2 x2 h2
          unfold lcL at q'
          cases ea : asg ds[i] r' with
          | none => rw [ea] at q'; exact False.elim q'
          | some r3 =>
            rw [ea] at q'
            refine hg x2 h2 ea fun σ3 x3 on => ?_
            have ew : L2.wipe σ3 own = L2.wipe σ own := (on.wipe ho).trans (wipe_wipe σ own)
            refine ⟨ew, ht _ _ _ ⟨wa, _, G2, r3, w', x3, ?_⟩⟩
            cases eb : mt r3 w' with
            | bad => simp only [eb, Re.cut, Re.bind] at q'; exact False.elim q'
            | ex c f y r9 w9 => simp only [eb, Re.cut, Re.bind] at q'; exact False.elim q'
            | ok b r4 w4 =>
              simp only [eb, Re.cut, Re.bind] at q'
              intro H4 G4 s4 x4
              cases b with
              | false =>
                simp only [Bool.false_eq_true, if_false] at q' ⊢
                refine ⟨G4, noE own r4, w4, acc, xs, hlt, s'.trans (s2.trans s4), ?_, dps_mono (s2.trans s4) _ _ hd, noE_no own r4, q'.mono (s2.trans s4)⟩
                rw [← ew]
                exact x4.wipe own
              | true =>
                simp only [if_true] at q' ⊢
                refine ⟨wa, _, G4, r4, w4, x4, ?_⟩
                cases ec : me r4 w4 with
                | bad => simp only [ec, Re.cut] at q'; exact False.elim q'
                | ex c f y r9 w9 => simp only [ec, Re.cut] at q'; exact False.elim q'
                | ok y r5 w5 =>
                  simp only [ec, Re.cut] at q'
                  intro v5 H5 G5 s5 x5 h5
                  cases y with
                  | mm => exact False.elim q'
                  | wt _ => exact False.elim q'
                  | py y =>
                    simp only at q'
                    by_cases c : xs.length < 100000
                    · rw [ifC_pos c] at q'
                      refine ⟨acc, x5.protP.1, big_lt (by rw [dpall_len hd]; exact c), G5, noE own r5, w5, acc ++ [v5], xs ++ [y], hlt, s'.trans (s2.trans (s4.trans s5)), ?_, dpall_app (dps_mono (s2.trans (s4.trans s5)) _ _ hd) (.cons h5 .nil), noE_no own r5, q'.mono (s2.trans (s4.trans s5))⟩
                      rw [← ew]
                      exact (x5.wipe own).protChange _
                    · rw [ifC_neg c] at q'
                      exact False.elim q'
        rcases yl v H2 hv with ⟨rfl, h2⟩ | ⟨p, us, zs, hp, rfl, rfl, hd2, e2⟩
        · exact turn G' (Same.refl _) x' h2
        · refine turn _ (same_new (x'.h.gnone hp)) (x'.alloc hp _) ?_
          rw [e2]
          exact ⟨_, _, rfl, .inl (.inl upd_same), dps_mono (same_new (x'.h.gnone hp)) _ _ hd2⟩
    · have e : i = ds.length := by omega
      subst e
      rw [List.drop_length] at q'
      refine .inl ⟨st, ?_⟩
      obtain ⟨pA, gA, n1, n2, n3⟩ := x'.protP
      have hl : ∀ i s, r'[i]? = some s → i < σ.length := fun i s e => by
        obtain ⟨o, e1, _⟩ := x'.slot i s e
        have := (List.getElem?_eq_some_iff.mp e1).1
        rw [wipe_length] at this
        exact this
      obtain ⟨y1, y2⟩ := (Rep.unwipe hl x' hno).unprot fA
      exact q' A acc H' G' (Same.refl _) y1 ⟨pA, hd, gA, fA, n1, n2, n3⟩ y2
theorem f_lc {elt tg iter : Expr} {ifs : List Expr} {scope : Scope} {nms : List (Str × Nat)} {wi : TI} {g : TG} {asg : D → En → Option En} {vs : List Nat} {mi : M (List D)} {mt : M Bool} {me : M D} {tt : TT} (hc : X.calm = true) (hN : X.N.Nodup) (hi : PI X tg iter wi) (hio : IOk X.K X.mg W wi mi) (ok : BlkOk X.N X.env.scope scope nms)
    (hg : ∀ (s : Shared) (H : Hp) (C : Addr) (cl : List (Str × Addr)) (fp : List Addr), PG (X.blk s H scope (compEnvC scope cl C X.env) fp) tg g) (hgo : GOk X.K g asg vs) (ho : ∀ i ∈ vs, i ∈ nms.map (·.2)) (ht : ∀ (s : Shared) (H : Hp) (C : Addr) (cl : List (Str × Addr)) (fp : List Addr), PTs (X.blk s H scope (compEnvC scope cl C X.env) fp) ifs tt)
    (hto : ∀ σ H Q, tT X.K X.mg WF mt σ H Q → tt σ H Q) (he : ∀ (s : Shared) (H : Hp) (C : Addr) (cl : List (Str × Addr)) (fp : List Addr), PE (X.blk s H scope (compEnvC scope cl C X.env) fp) elt (tM X.K X.mg WF me)) (hs : ∀ x, foldedSetIterable iter X.env x = pure x := by intro _; rfl) :
    PE X (.ListComp elt [⟨tg, iter, ifs, 0⟩] scope pos) (tF X.K X.mg W (mLc asg mi mt me (nms.map (·.2)))) := pe_imp (pe_lc hc hN hi ok hg ht he hs) fun _ _ _ h => m_lc hio hgo ho hto h
/-- x = [..], x not changed later: a value; x changed later: a list of one's own -/
theorem s_setLcV (i : Nat) {y : Str} {py : Pos} {elt tg iter : Expr} {ifs : List Expr} {scope : Scope} {nms : List (Str × Nat)} {spos : Pos} {wi : TI} {g : TG} {asg : D → En → Option En} {vs : List Nat} {mi : M (List D)} {mt : M Bool} {me : M D} {tt : TT} (hc : X.calm = true) (hN : X.N.Nodup)
    (hsw : swapsWith (.ListComp elt [⟨tg, iter, ifs, 0⟩] scope pos) (some (.Name y py)) spos.line X.env = pure true) (hi : PI X tg iter wi) (hio : IOk X.K X.mg W wi mi) (ok : BlkOk X.N X.env.scope scope nms)
    (hg : ∀ (s : Shared) (H : Hp) (C : Addr) (cl : List (Str × Addr)) (fp : List Addr), PG (X.blk s H scope (compEnvC scope cl C X.env) fp) tg g) (hgo : GOk X.K g asg vs) (ho : ∀ i ∈ vs, i ∈ nms.map (·.2)) (ht : ∀ (s : Shared) (H : Hp) (C : Addr) (cl : List (Str × Addr)) (fp : List Addr), PTs (X.blk s H scope (compEnvC scope cl C X.env) fp) ifs tt)
    (hto : ∀ σ H Q, tT X.K X.mg WF mt σ H Q → tt σ H Q) (he : ∀ (s : Shared) (H : Hp) (C : Addr) (cl : List (Str × Addr)) (fp : List Addr), PE (X.blk s H scope (compEnvC scope cl C X.env) fp) elt (tM X.K X.mg WF me)) (hy : X.N[i]? = some y := by rfl) (hyl : X.env.scope.names.lookup y = some .local := by rfl) (hs : ∀ x, foldedSetIterable iter X.env x = pure x := by intro _; rfl) :
    PS X (.Assign [.Name y py] (.ListComp elt [⟨tg, iter, ifs, 0⟩] scope pos) spos) (tX X.K X.mg W (sAsg (asgN i) (mFz (mLc asg mi mt me (nms.map (·.2)))))) := by
  refine ps_imp (ps_setLc hc hN hy hyl hsw hi ok hg ht he hs) fun Dn σ H h => ?_
  have z := m_asg (g_name i) h
  obtain ⟨wa, Fr, G, r, w, x, q⟩ := z
  refine m_lc hio hgo ho hto ⟨wa, Fr, G, r, w, x, ?_⟩
  unfold mFz at q
  cases e1 : mLc asg mi mt me (nms.map (·.2)) r w with
  | bad => simp only [e1, Re.bind] at q
  | ex c f y r9 w9 => simp only [e1, Re.bind] at q; exact q
  | ok xs r1 w1 =>
    simp only [e1, Re.bind] at q
    intro a vs H1 G1 s1 x1 h1 h2
    obtain ⟨y1, y2, y3⟩ := x1.freezeAt h1 h2
    exact q _ H1 _ (s1.trans y1) y2 y3
theorem s_setLcO (i : Nat) {y : Str} {py : Pos} {elt tg iter : Expr} {ifs : List Expr} {scope : Scope} {nms : List (Str × Nat)} {spos : Pos} {wi : TI} {g : TG} {asg : D → En → Option En} {vs : List Nat} {mi : M (List D)} {mt : M Bool} {me : M D} {tt : TT} (hc : X.calm = true) (hN : X.N.Nodup)
    (hsw : swapsWith (.ListComp elt [⟨tg, iter, ifs, 0⟩] scope pos) (some (.Name y py)) spos.line X.env = pure true) (hi : PI X tg iter wi) (hio : IOk X.K X.mg W wi mi) (ok : BlkOk X.N X.env.scope scope nms)
    (hg : ∀ (s : Shared) (H : Hp) (C : Addr) (cl : List (Str × Addr)) (fp : List Addr), PG (X.blk s H scope (compEnvC scope cl C X.env) fp) tg g) (hgo : GOk X.K g asg vs) (ho : ∀ i ∈ vs, i ∈ nms.map (·.2)) (ht : ∀ (s : Shared) (H : Hp) (C : Addr) (cl : List (Str × Addr)) (fp : List Addr), PTs (X.blk s H scope (compEnvC scope cl C X.env) fp) ifs tt)
    (hto : ∀ σ H Q, tT X.K X.mg WF mt σ H Q → tt σ H Q) (he : ∀ (s : Shared) (H : Hp) (C : Addr) (cl : List (Str × Addr)) (fp : List Addr), PE (X.blk s H scope (compEnvC scope cl C X.env) fp) elt (tM X.K X.mg WF me)) (hy : X.N[i]? = some y := by rfl) (hyl : X.env.scope.names.lookup y = some .local := by rfl) (hs : ∀ x, foldedSetIterable iter X.env x = pure x := by intro _; rfl) :
    PS X (.Assign [.Name y py] (.ListComp elt [⟨tg, iter, ifs, 0⟩] scope pos) spos) (tX X.K X.mg W (sOw i (mLc asg mi mt me (nms.map (·.2))))) := by
  refine ps_imp (ps_setLc hc hN hy hyl hsw hi ok hg ht he hs) fun Dn σ H h => ?_
  exact m_lc (Q := fun x H1 => gName i x σ H1 Dn.nx) hio hgo ho hto (by
    obtain ⟨wa, Fr, G, r, w, x, q⟩ := m_ow h
    exact ⟨wa, Fr, G, r, w, x, q⟩)
end
end Mi
namespace Mi
open PySem PySem.Spec PyProof.Rows L2
section
variable {X : Cx} {K : PySem.W.Frag} {a b e : Expr} {ma mb m : M D} {pos p : Pos}
/-! ### items and slices -/
def fIx (x i : D) : Option D := match x, i with
  | .py (.list xs), .py (.int k) => (atI xs k).map .py
  | .py (.tuple xs), .py (.int k) => (atI xs k).map .py
  | _, _ => none
theorem atI_dq {G : Hp} {vs : List V} {xs : List PyData} (h : DqAll K G vs xs) {k : Int} {d : PyData} (e : atI xs k = some d) : ∃ v, atI vs k = some v ∧ Dq K G v d := by
  unfold atI at e ⊢
  rw [dpall_len h]
  cases q : ixN xs.length k with
  | none => rw [q] at e; cases e
  | some j =>
    rw [q] at e
    exact dpall_get h e
def rIx2 (K : PySem.W.Frag) : R2 := fun x y H Q => rIxL K x y H Q ∨ rIxT K x y H Q
theorem ix2 : IxR X (rIx2 X.K) := ix_list.or ix_tup
theorem rel_ix : RelOp K (rIx2 K) fIx := by
  refine relop_plain fun {wa Fr G σ H r w x y dx dy dz} x1 h1 h2 e => ?_
  unfold fIx at e
  split at e
  · rename_i xs k
    cases q : atI xs k with
    | none => rw [q] at e; cases e
    | some d =>
      rw [q] at e
      cases e
      cases h2
      cases h1 with
      | lst s a =>
        obtain ⟨v, e1, e2⟩ := atI_dq a q
        exact ⟨v, e2, fun Q q => .inl ⟨_, _, _, _, rfl, rfl, SqL.of (x1.h.sub _ _ s), e1, q⟩⟩
  · rename_i xs k
    cases q : atI xs k with
    | none => rw [q] at e; cases e
    | some d =>
      rw [q] at e
      cases e
      cases h2
      cases h1 with
      | tup s a =>
        obtain ⟨v, e1, e2⟩ := atI_dq a q
        exact ⟨v, e2, fun Q q => .inr ⟨_, _, _, _, rfl, rfl, (s.mono x1.h.sub).sq, e1, q⟩⟩
  · cases e
theorem e_ix (ha : PE X a (tM X.K X.mg W ma)) (hb : PE X b (tM X.K X.mg W mb)) (hs : PlainIx b := by exact fun _ _ => rfl) : PE X (.Subscript a b pos) (tM X.K X.mg W (mOp fIx ma mb)) := pe_imp (pe_ix ix2 ha hb hs) fun _ _ _ h => m_op rel_ix h
/-- a slice's part -/
def mPart (o : Option (M D)) : M (Option Int) := match o with
  | none => fun r w => .ok none r w
  | some m => fun r w => (m r w).bind fun d r w => match d with
    | .py (.int i) => .ok (some i) r w
    | _ => .bad
def tO (K : PySem.W.Frag) (mg : Str → Option Value) (W : WX) (m : M (Option Int)) : TO := fun σ H Q => ∃ wa Fr G r w, Rep K wa Fr G σ H r w ∧ match m r w with
  | .ok d r' w' => ∀ H' G', Same G G' → Rep K wa Fr G' σ H' r' w' → Q d H'
  | .ex c f y r' w' => ExOk K mg W wa Fr G σ c f y r' w'
  | .bad => False
theorem po_imp {oe : Option Expr} {t t' : TO} (h : PO X oe t) (i : ∀ σ H Q, t' σ H Q → t σ H Q) : PO X oe t' := ⟨fun pins s σ H Q I q => h.run pins s σ H Q I (i σ H Q q)⟩
theorem o_none : PO X none (tO X.K X.mg W (mPart none)) := by
  refine po_imp po_none fun σ H Q h => ?_
  obtain ⟨wa, Fr, G, r, w, x, q⟩ := h
  exact q H G (Same.refl _) x
theorem o_some (h : PE X e (tM X.K X.mg W m)) : PO X (some e) (tO X.K X.mg W (mPart (some m))) := by
  refine po_imp (po_some h) fun σ H Q h => ?_
  obtain ⟨wa, Fr, G, r, w, x, q⟩ := h
  unfold mPart at q
  refine ⟨wa, Fr, G, r, w, x, ?_⟩
  cases e1 : m r w with
  | bad => simp only [e1, Re.bind] at q
  | ex c f y r9 w9 => simp only [e1, Re.bind] at q; exact q
  | ok d r1 w1 =>
    simp only [e1, Re.bind] at q
    intro v1 H1 G1 s1 x1 h1
    cases d with
    | mm => simp only at q
    | wt _ => simp only at q
    | py d =>
      cases d with
      | int i => cases h1; exact ⟨i, rfl, q H1 G1 s1 x1⟩
      | none => simp only at q
      | bool i => simp only at q
      | str s => simp only at q
      | list xs => simp only at q
      | tuple xs => simp only at q
      | dict xs => simp only at q
def cutD (xs : List PyData) (lo hi : Option Int) : List PyData := (xs.drop (HT.sIx xs.length 0 lo)).take (HT.sIx xs.length xs.length hi - HT.sIx xs.length 0 lo)
def fSl (x : D) (lo hi : Option Int) : Option D := match x with
  | .py (.list xs) => some (.py (.list (cutD xs lo hi)))
  | .py (.tuple xs) => some (.py (.tuple (cutD xs lo hi)))
  | _ => none
def mSl (m : M D) (ml mh : M (Option Int)) : M D := fun r w => (m r w).bind fun d r w => (ml r w).bind fun lo r w => (mh r w).bind fun hi r w => match fSl d lo hi with
  | some d => .ok d r w
  | none => .bad
theorem sl2 : SlR X (fun x lo hi H Q => rSlL X.K x lo hi H Q ∨ rSlZ X.K x lo hi H Q) := sl_list.or sl_tupZ
theorem cut_dq {G : Hp} {vs : List V} {xs : List PyData} (h : DqAll K G vs xs) (lo hi : Option Int) : DqAll K G (cutV vs lo hi) (cutD xs lo hi) := by
  unfold cutV cutD
  rw [dpall_len h]
  exact dpall_take _ (dpall_drop _ h)
theorem e_slice {lo hi : Option Expr} {ml mh : M (Option Int)} {p2 : Pos} (ha : PE X a (tM X.K X.mg W m)) (hl : PO X lo (tO X.K X.mg W ml)) (hh : PO X hi (tO X.K X.mg W mh)) : PE X (.Subscript a (.Slice lo hi none p2) pos) (tM X.K X.mg W (mSl m ml mh)) := by
  refine pe_imp (pe_slice sl2 ha hl hh) fun σ H Q h => ?_
  obtain ⟨wa, Fr, G, r, w, x, q⟩ := h
  unfold mSl at q
  refine ⟨wa, Fr, G, r, w, x, ?_⟩
  cases e1 : m r w with
  | bad => simp only [e1, Re.bind] at q
  | ex c f y r9 w9 => simp only [e1, Re.bind] at q; exact q
  | ok d r1 w1 =>
    simp only [e1, Re.bind] at q
    intro v1 H1 G1 s1 x1 h1
    refine ⟨wa, Fr, G1, r1, w1, x1, ?_⟩
    cases e2 : ml r1 w1 with
    | bad => simp only [e2] at q
    | ex c f y r9 w9 => simp only [e2] at q; exact q.mono s1
    | ok lo r2 w2 =>
      simp only [e2] at q
      intro H2 G2 s2 x2
      refine ⟨wa, Fr, G2, r2, w2, x2, ?_⟩
      cases e3 : mh r2 w2 with
      | bad => simp only [e3] at q
      | ex c f y r9 w9 => simp only [e3] at q; first | exact q.mono (s1.trans s2) | exact q.mono (s1.trans (s2.trans s3)) | exact q.mono s1 | exact q
      | ok hi r3 w3 =>
        simp only [e3] at q
        intro H3 G3 s3 x3
        have h3 := h1.mono (s2.trans s3)
        cases e4 : fSl d lo hi with
        | none => simp only [e4] at q
        | some d4 =>
          simp only [e4] at q
          unfold fSl at e4
          split at e4
          · cases e4
            cases h3 with
            | lst s a =>
              refine .inl ⟨_, _, rfl, SqL.of (x3.h.sub _ _ s), fun p hp => ?_⟩
              exact q _ _ _ ((s1.trans (s2.trans s3)).trans (same_new (x3.h.gnone hp))) (x3.alloc hp _) (.lst upd_same (dps_mono (same_new (x3.h.gnone hp)) _ _ (cut_dq a lo hi)))
          · rename_i xs
            cases e4
            cases h3 with
            | @tup a vs _ s ad =>
              refine .inr ⟨_, _, rfl, (s.mono x3.h.sub).sq, fun hw => ?_, fun _ p us n hp => ?_⟩
              · refine q _ _ _ (s1.trans (s2.trans s3)) x3 (.tup s ?_)
                have ec : cutD xs lo hi = xs := by
                  unfold cutD
                  rw [← dpall_len ad, hw.1, hw.2, dpall_len ad]
                  simp
                rw [ec]
                exact ad
              · exact q _ _ _ ((s1.trans (s2.trans s3)).trans (same_new (x3.h.gnone hp))) (x3.alloc hp _) (.tup TupS.new (dps_mono (same_new (x3.h.gnone hp)) _ _ (cut_dq ad lo hi)))
          · cases e4

/-! ### type(a) == T, isinstance(a, T) -/
def metaB (T : String) : Prop := ∀ s' : Shared, s'.TypeIs (.type T) "type"
theorem meta_ty (d : D) : metaB (tyOf d) := by
  cases d with
  | mm => exact PySem.TypeEq.meta_dict
  | wt _ => exact PySem.TypeEq.meta_tuple
  | py d =>
    cases d with
    | none => exact PySem.TypeEq.meta_NoneType
    | bool b => exact PySem.TypeEq.meta_bool
    | int i => exact PySem.TypeEq.meta_int
    | str s => exact PySem.TypeEq.meta_str
    | list xs => exact PySem.TypeEq.meta_list
    | tuple xs => exact PySem.TypeEq.meta_tuple
    | dict xs => exact PySem.TypeEq.meta_dict
def rEqTy : R2 := fun x y H Q => ∃ S T, x = .ty S ∧ y = .ty T ∧ metaB S ∧ metaB T ∧ Q (.bl (decide (S = T))) H
theorem op_eqTy : OpR X (compareOp .Eq) rEqTy := by
  intro pins s σ H x y v u Q I rx ry h
  obtain ⟨S, T, rfl, rfl, mS, mT, q⟩ := h
  cases (show v = Value.type S from rx)
  cases (show u = Value.type T from ry)
  by_cases c : S = T
  · subst c
    rw [decide_eq_true rfl] at q
    exact PySem.TypeEq.eq_type_same mS ⟨.bl true, H, I, rfl, q⟩
  · rw [decide_eq_false c] at q
    exact PySem.TypeEq.eq_type_other mS mT (by rw [ty_beq]; exact decide_eq_false c) ⟨.bl false, H, I, rfl, q⟩
theorem m_tyIs {T : String} (mT : metaB T) {σ : L2.St} {H : Hp} {Q : VK} (h : tM K mg W (mTyIs T m) σ H Q) : tOp rEqTy (tCB (rTyp K) (tCons (tM K mg W m) tNil)) (tC (.ty T)) σ H Q := by
  obtain ⟨wa, Fr, G, r, w, x, q⟩ := h
  unfold mTyIs at q
  refine ⟨wa, Fr, G, r, w, x, ?_⟩
  cases e1 : m r w with
  | bad => simp only [e1, Re.bind] at q
  | ex c f y r9 w9 => simp only [e1, Re.bind] at q; exact q
  | ok d r1 w1 =>
    simp only [e1, Re.bind] at q
    intro v1 H1 G1 s1 x1 h1
    exact ⟨v1, tyOf d, rfl, ty_of x1 h1, tyOf d, T, rfl, rfl, meta_ty d, mT, q _ H1 G1 s1 x1 (Dq.bl _)⟩
theorem e_tyIs {T : Str} {T' : String} {p1 p2 p3 : Pos} (mT : metaB T') (hm : X.mg "type" = none) (hm2 : X.mg T = none) (hv : bootBuiltins T = some (.type T')) (ha : PE X a (tM X.K X.mg W m)) (hg : Gl X "type" := by rfl) (hg2 : Gl X T := by rfl) (hn : T ≠ "__name__" := by decide) (hd : (T == ("__debug__" : Str)) = false := by decide) (he : starEach (a :: []) X.env = (false, eval a X.env) :: starEach [] X.env := by rfl) (hpl : (backTo p2 (starEach [] X.env)).any (·.1) = false := by rfl) :
    PE X (.Compare (.Call (.Name "type" p1) [a] [] p2) [.Eq] [.Name T p3] pos) (tM X.K X.mg W (mTyIs T' m)) :=
  pe_imp (pe_cmpR op_eqTy (pe_callTy call_type1 hg hm (by decide +kernel) (pa_cons ha pa_nil he) (by decide) (by decide) he hpl) (pe_bltn (v := .ty T') hg2 hm2 hv rfl hn hd) (nomark _)) fun _ _ _ h => m_tyIs mT h
/-- isinstance -/
def kitOf (T : String) (d : D) : Bool := decide (tyOf d = T) || (decide (tyOf d = "bool") && decide (T = "int"))
theorem tyX_of {wa : WA} {Fr G H : Hp} {σ : L2.St} {r : En} {w : Wd} {v : V} {d : D} (x : Rep K wa Fr G σ H r w) (h : Rv K wa G v d) (hd : ∀ xs, d ≠ .wt xs) : TyX K H v (.type (tyOf d)) := by
  cases d with
  | mm => cases (show v = _ from h); exact .base (.dK x.h.wr.m)
  | wt xs => exact absurd rfl (hd xs)
  | py d =>
    cases (show Dq K G v d from h) with
    | non => exact .base .non
    | bl b => exact .base (.bl b)
    | int i => exact .base (.int i)
    | str z => exact .base (.str z)
    | lst s a => exact .base (.lst (x.h.sub _ _ s))
    | tup s a =>
      obtain ⟨us, n, e⟩ := s
      exact .fTuple (x.h.sub _ _ e)
    | dct s a => exact .base (.dK (x.h.sub _ _ s))
def mIsI (T : String) (m : M D) : M D := fun r w => (m r w).bind fun d r w => match d with
  | .wt _ => .bad
  | _ => .ok (.py (.bool (kitOf T d))) r w
theorem m_isI {T : String} (hk : ∀ S ∈ ["NoneType", "bool", "int", "str", "list", "tuple", "dict"], kitB S T = some (decide (S = T) || (decide (S = "bool") && decide (T = "int")))) {σ : L2.St} {H : Hp} {Q : VK} (h : tM K mg W (mIsI T m) σ H Q) : tCB (rIsi K) (tCons (tM K mg W m) (tCons (tC (.ty T)) tNil)) σ H Q := by
  obtain ⟨wa, Fr, G, r, w, x, q⟩ := h
  unfold mIsI at q
  refine ⟨wa, Fr, G, r, w, x, ?_⟩
  cases e1 : m r w with
  | bad => simp only [e1, Re.bind] at q
  | ex c f y r9 w9 => simp only [e1, Re.bind] at q; exact q
  | ok d r1 w1 =>
    simp only [e1, Re.bind] at q
    intro v1 H1 G1 s1 x1 h1
    have nw : ∀ xs, d ≠ .wt xs := fun xs z => by
      rw [z] at q
      simp only at q
    have q2 : Q (.bl (kitOf T d)) H1 := by
      cases d with
      | wt xs => exact absurd rfl (nw xs)
      | mm => exact q _ H1 G1 s1 x1 (Dq.bl _)
      | py d => exact q _ H1 G1 s1 x1 (Dq.bl _)
    have hS : tyOf d ∈ ["NoneType", "bool", "int", "str", "list", "tuple", "dict"] := by
      cases d with
      | mm => simp [tyOf]
      | wt _ => simp [tyOf]
      | py d => cases d <;> simp [tyOf]
    exact ⟨v1, .ty T, .type (tyOf d), .type T, kitOf T d, rfl, .ty T, tyX_of x1 h1 nw, kit_ty (hk _ hS), q2⟩
theorem e_isI {T : Str} {T' : String} {p1 p2 p3 : Pos} (hk : ∀ S ∈ ["NoneType", "bool", "int", "str", "list", "tuple", "dict"], kitB S T' = some (decide (S = T') || (decide (S = "bool") && decide (T' = "int")))) (hm : X.mg "isinstance" = none) (hm2 : X.mg T = none) (hv : bootBuiltins T = some (.type T')) (ha : PE X a (tM X.K X.mg W m))
    (hg : Gl X "isinstance" := by rfl) (hg2 : Gl X T := by rfl) (hn : T ≠ "__name__" := by decide) (hd : (T == ("__debug__" : Str)) = false := by decide) (he : starEach (a :: [.Name T p3]) X.env = (false, eval a X.env) :: starEach [.Name T p3] X.env := by rfl) (he2 : starEach (.Name T p3 :: []) X.env = (false, eval (.Name T p3) X.env) :: starEach [] X.env := by rfl) (hpl : (backTo p2 (starEach [.Name T p3] X.env)).any (·.1) = false := by rfl) :
    PE X (.Call (.Name "isinstance" p1) [a, .Name T p3] [] p2) (tM X.K X.mg W (mIsI T' m)) :=
  pe_imp (pe_callB call_isi hg hm (by decide +kernel) (pa_cons ha (pa_cons (pe_bltn (v := .ty T') hg2 hm2 hv rfl hn hd) pa_nil he2) he) (by decide) (by decide) he hpl) fun _ _ _ h => m_isI hk h

/-! ### repr -/
mutual
theorem dq_noDict {H : Hp} : ∀ (d : PyData) (v : V), d.showable = true → Dq K H v d → d.hasDict = false
  | .none, _, _, _ => by unfold PyData.hasDict; rfl
  | .bool _, _, _, _ => by unfold PyData.hasDict; rfl
  | .int _, _, _, _ => by unfold PyData.hasDict; rfl
  | .str _, _, _, _ => by unfold PyData.hasDict; rfl
  | .list ds, _, n, h => by
    cases h with
    | lst s a =>
      unfold PyData.hasDict
      exact dqs_noDict ds _ (by unfold PyData.showable at n; exact n) a
  | .tuple ds, _, n, h => by
    cases h with
    | tup s a =>
      unfold PyData.hasDict
      exact dqs_noDict ds _ (by unfold PyData.showable at n; exact n) a
  | .dict [], _, _, h => by cases h
  | .dict (kv :: kvs), _, n, h => by
    exfalso
    have e : kv = pois := by
      generalize hd : PyData.dict (kv :: kvs) = d at h
      cases h <;> cases hd
      rfl
    rw [e] at n
    unfold pois PyData.showable PyData.showableKv PyData.showable at n
    rw [Bool.and_eq_true, Bool.and_eq_true] at n
    have n1 := of_decide_eq_true n.1.1
    rw [show ((2 : Int) ^ 2000).natAbs = 2 ^ 2000 by rw [Int.natAbs_pow]; rfl, Nat.log2_two_pow] at n1
    omega
theorem dqs_noDict {H : Hp} : ∀ (ds : List PyData) (vs : List V), PyData.showableAll ds = true → DqAll K H vs ds → PyData.hasDictAll ds = false
  | [], _, _, _ => by unfold PyData.hasDictAll; rfl
  | d :: ds, _, n, h => by
    unfold PyData.showableAll at n
    rw [Bool.and_eq_true] at n
    cases h with
    | cons h1 h2 =>
      unfold PyData.hasDictAll
      rw [dq_noDict d _ n.1 h1, dqs_noDict ds _ n.2 h2]
      rfl
end
def fRepr (ds : List D) : Option D := match ds with
  | [.py d] => ifC (d.showable = true ∧ d.depth ≤ 60 ∧ d.shown.length ≤ 1000000) (some (.py (.str d.shown))) none
  | _ => none
def rRepr (K : PySem.W.Frag) : List V → Hp → VK → Prop := fun vs H Q => ∃ v d, vs = [v] ∧ Dq K H v d ∧ d.showable = true ∧ d.depth ≤ 60 ∧ d.shown.length ≤ 1000000 ∧ Q (.str d.shown) H
theorem call_repr (hu : X.A.units + 64 < cLine) (hg : X.A.guards = some []) : CallR X (.builtin "repr") (rRepr X.K) := by
  intro pins s σ H vs us Q I r h
  obtain ⟨v, d, rfl, hd, h1, h2, h3, q⟩ := h
  obtain ⟨u, rfl, rx⟩ := vals1 r
  have hz : d.shown.length ≤ sizeLine := Nat.le_trans h3 (by decide)
  have fin : ∀ tk tk', EP X pins σ Q (.str d.shown tk) { s with toks := tk' } := fun tk tk' => ⟨.str d.shown, H, I.tok tk', ⟨tk, rfl⟩, q⟩
  have deep : ∀ (a : Addr) (as : List Addr), Reads s.heap (.ref a) d as → wpAny (model X.prog X.w) X.A (call (.builtin "repr") [.ref a]) (EP X pins σ Q) X.xe s := fun a as rd =>
    repr_of_reads' rd h1 (PyData.noDict_hsm (dq_noDict d v h1 hd)) hg (by omega) (fun _ _ e => e) (fun h' u tk hk => ⟨.str d.shown, H, I.kept (t' := tk) hk, ⟨u, rfl⟩, q⟩) hz
  obtain ⟨as, rd⟩ := Dp.reads I d v u (dq_dp d v (dq_noDict d v h1 hd) hd) rx
  cases hd with
  | non => cases rx; exact PySem.P.repr_of_none (by unfold PyData.shown at fin; exact fin _ _)
  | bl b => cases rx; exact PySem.P.repr_of_bool (by unfold PyData.shown at fin; exact fin _ _)
  | int i =>
    obtain ⟨t, rfl⟩ := rx
    unfold PyData.showable at h1
    exact PySem.P.repr_of_int (of_decide_eq_true h1) (by unfold PyData.shown at fin; exact fin _ _)
  | str x =>
    obtain ⟨t, rfl⟩ := rx
    exact PySem.P.repr_of_str (by unfold PyData.shown at fin; exact fin _ _) (by unfold PyData.shown at hz; exact hz)
  | lst s a => cases rx; exact deep _ _ rd
  | tup s a => cases rx; exact deep _ _ rd
  | dct s a =>
    have := dq_noDict _ _ h1 (Dq.dct s a)
    unfold PyData.hasDict at this
    cases this
theorem rel_repr : RelC K (rRepr K) fRepr := by
  refine relc_plain fun {wa Fr G σ H r w vs ds dz} x1 h1 e => ?_
  unfold fRepr at e
  split at e
  · rename_i d
    by_cases c : d.showable = true ∧ d.depth ≤ 60 ∧ d.shown.length ≤ 1000000
    · rw [ifC_pos c] at e
      cases e
      obtain ⟨v, rfl, h⟩ := rv_one h1
      exact ⟨_, Dq.str _, fun Q q => ⟨v, d, rfl, dp_mono x1.h.sub _ _ h, c.1, c.2.1, c.2.2, q⟩⟩
    · rw [ifC_neg c] at e
      cases e
  · cases e
theorem e_repr {es : List Expr} {n : M (List D)} (hu : X.A.units + 64 < cLine) (hgu : X.A.guards = some []) (hm : X.mg "repr" = none) (ha : PA X (e :: es) (tMs X.K X.mg W n)) (hg : Gl X "repr" := by rfl) (he : starEach (e :: es) X.env = (false, eval e X.env) :: starEach es X.env := by rfl) (hpl : (backTo pos (starEach es X.env)).any (·.1) = false := by rfl) :
    PE X (.Call (.Name "repr" p) (e :: es) [] pos) (tM X.K X.mg W (mFn fRepr n)) := pe_imp (pe_callB (call_repr hu hgu) hg hm (by decide +kernel) ha (by decide) (by decide) he hpl) fun _ _ _ h => m_fn rel_repr h
end
end Mi
namespace Mi
open PySem PySem.Spec PyProof.Rows L2
/-! ### t.count(k), a tuple of ints -/
section
variable {X : Cx} {K : PySem.W.Frag} {o e : Expr} {mo m : M D} {apos cpos : Pos}
def fCnt (x y : D) : Option D := match x, y with
  | .py (.tuple xs), .py (.int k) => (intsOf xs).map fun ns => .py (.int (ns.count k))
  | _, _ => none
def tCntT (to : TE) (ta : TA) : TE := fun σ H Q => to σ H fun x H1 => ∃ a xs, x = .ref a ∧ TupS H1 a xs ∧ ta σ H1 fun vs H2 => ∃ (ns : List Int) (k : Int), vs = [.int k] ∧ TupS H2 a (ns.map V.int) ∧ Q (.int (ns.count k)) H2
theorem countP_eq (k : Int) : ∀ (ns : List Int) (us : List Value), Vals (ns.map V.int) us → us.countP (fun u => match u with | .int i _ => i == k | _ => false) = ns.count k
  | [], _, r => by cases r; rfl
  | n :: ns, _, r => by
    cases r with
    | cons h t =>
      obtain ⟨tk, rfl⟩ := h
      rw [List.countP_cons, countP_eq k ns _ t, List.count_cons]
theorem pe_cntT {to : TE} {ta : TA} (ho : PE X o to) (ha : PA X (e :: []) ta)
    (hbase : attributeBase o "count" X.env (eval o X.env) = eval o X.env := by rfl)
    (hfew : ((backTo cpos (starEach (e :: []) X.env)).all (fun x => !x.1) && (backToKw cpos (keywordEach [] X.env)).all (fun x => x.1.isSome)
      && decide ((e :: []).length + ([] : List Keyword).length + (if ([] : List Keyword).isEmpty then 0 else 1) < 30)) = true := by rfl)
    (hline : (apos.endLine == cpos.line) = true := by rfl) (hs : starEach (e :: []) X.env = (false, eval e X.env) :: starEach [] X.env := by rfl) (hplain : (backTo cpos (starEach [] X.env)).any (·.1) = false := by rfl) :
    PE X (.Call (.Attribute o "count" apos) [e] [] cpos) (tCntT to ta) := by
  constructor
  intro pins s σ H Q I h
  apply wpAny_Call_method_late hbase hfew hline rfl
  apply thn (ho.run pins s σ H _ I h)
  rintro v s1 ⟨x, H1, I1, r1, a, xs, rfl, ht, q1⟩
  cases r1
  obtain ⟨us, n, rv, e1, hz⟩ := inv_tupS I1 ht
  refine ⟨"tuple", "tuple.count", PySem.F.plainAttrs_tuple, PySem.F.slot_tuple_count, PySem.F.type_tuple_count, ⟨_, e1, rfl⟩, fun b eb => by cases eb; exact ⟨_, e1, rfl⟩, ?_⟩
  have hA := ha.run cpos pins s1 σ H1 _ I1 q1
  rw [hs] at hA ⊢
  have hp2 : (((false, eval e X.env) :: backTo cpos (starEach [] X.env)).any (·.1)) = false := by
    show (false || (backTo cpos (starEach [] X.env)).any (·.1)) = false
    rw [hplain]
    rfl
  apply Calls.callWith_builtin hp2
  apply Calls.evalArgs_plain
  apply thn hA
  rintro ws s2 ⟨vs, H2, I2, r2, ns, k, rfl, ht2, q2⟩
  obtain ⟨u, rfl, t, rfl⟩ := vals1 r2
  obtain ⟨us2, n2, rv2, e2, hz2⟩ := inv_tupS I2 ht2
  have eq : ∀ y, y ∈ us2.toArray → MeetsSeq.EqGives y (.int k t) (match y with | .int i _ => i == k | _ => false) := by
    intro y hy
    have hy2 : y ∈ us2 := by simpa using hy
    obtain ⟨j, hj, rfl⟩ := List.getElem_of_mem hy2
    have hl : j < ns.length := by
      have := rv2.length
      rw [List.length_map] at this
      omega
    obtain ⟨u, hu, ru⟩ := rv2.get (i := j) (x := .int ns[j]) (by rw [List.getElem?_map, List.getElem?_eq_getElem hl]; rfl)
    rw [List.getElem?_eq_getElem hj] at hu
    cases hu
    obtain ⟨tk, ek⟩ := ru
    rw [ek]
    exact MeetsSeq.EqGives.int _ _ _ _
  apply call_meets PySem.F.slot_tuple_count (show s2.TypeIs (.ref a) "tuple" from ⟨_, e2, rfl⟩) PySem.F.entry_tuple_count (PySem.F.args_tuple_count_2 _ _) (MeetsSeq2.tuple_count a us2.toArray n2 (.int k t) _ eq)
  refine ⟨e2, V.int (ns.count k), H2, I2.tok _, ⟨s2.toks, ?_⟩, q2⟩
  rw [← countP_eq k ns us2 rv2]
def mCnt (mo m : M D) : M D := fun r w => (mo r w).bind fun a r w => match a with
  | .py (.tuple xs) => (m r w).bind fun b r w => match fCnt (.py (.tuple xs)) b with
    | some c => .ok c r w
    | none => .bad
  | _ => .bad
theorem e_cnt (ho : PE X o (tM X.K X.mg W mo)) (ha : PE X e (tM X.K X.mg W m))
    (hbase : attributeBase o "count" X.env (eval o X.env) = eval o X.env := by rfl)
    (hfew : ((backTo cpos (starEach (e :: []) X.env)).all (fun x => !x.1) && (backToKw cpos (keywordEach [] X.env)).all (fun x => x.1.isSome)
      && decide ((e :: []).length + ([] : List Keyword).length + (if ([] : List Keyword).isEmpty then 0 else 1) < 30)) = true := by rfl)
    (hline : (apos.endLine == cpos.line) = true := by rfl) (hs : starEach (e :: []) X.env = (false, eval e X.env) :: starEach [] X.env := by rfl) (hplain : (backTo cpos (starEach [] X.env)).any (·.1) = false := by rfl) :
    PE X (.Call (.Attribute o "count" apos) [e] [] cpos) (tM X.K X.mg W (mCnt mo m)) := by
  refine pe_imp (pe_cntT ho (pa_cons ha pa_nil hs) hbase hfew hline hs hplain) fun σ H Q h => ?_
  obtain ⟨wa, Fr, G, r, w, x, q⟩ := h
  unfold mCnt at q
  refine ⟨wa, Fr, G, r, w, x, ?_⟩
  cases e1 : mo r w with
  | bad => simp only [e1, Re.bind] at q
  | ex c f y r9 w9 => simp only [e1, Re.bind] at q; exact q
  | ok d1 r1 w1 =>
    simp only [e1, Re.bind] at q
    intro v1 H1 G1 s1 x1 h1
    cases d1 with
    | mm => simp only at q
    | wt _ => simp only at q
    | py d1 =>
      cases d1 with
      | none => simp only at q
      | bool _ => simp only at q
      | int _ => simp only at q
      | str _ => simp only at q
      | list _ => simp only at q
      | dict _ => simp only at q
      | tuple xs =>
        simp only at q
        cases h1 with
        | @tup a vs _ ts ad =>
          refine ⟨a, _, rfl, ts.mono x1.h.sub, wa, Fr, G1, r1, w1, x1, ?_⟩
          cases e2 : m r1 w1 with
          | bad => simp only [e2] at q
          | ex c f y r9 w9 => simp only [e2] at q; exact q.mono s1
          | ok d2 r2 w2 =>
            simp only [e2] at q
            intro v2 H2 G2 s2 x2 h2
            cases e3 : fCnt (.py (.tuple xs)) d2 with
            | none => simp only [e3] at q
            | some d3 =>
              simp only [e3] at q
              unfold fCnt at e3
              split at e3
              · rename_i xs' k hx
                cases hx
                cases e4 : intsOf xs with
                | none => rw [e4] at e3; cases e3
                | some ns =>
                  rw [e4] at e3
                  cases e3
                  rw [ints_map e4] at ad
                  have ev := dpall_ints_inv _ _ ad
                  subst ev
                  cases h2
                  exact ⟨ns, k, rfl, (ts.mono s2).mono x2.h.sub, q _ H2 G2 (s1.trans s2) x2 (Dq.int _)⟩
              · cases e3
end

/-! ### enumerate of a tuple -/
def IteT (K : PySem.W.Frag) (a : Addr) : It :=
  ⟨fun i H => ∃ (xs : List V) (x : V), SqT K H a xs ∧ xs[i]? = some x, fun i H v H' => ∃ T x, v = .ref T ∧ H T = none ∧ H' = upd H T (.tup [.int (i : Nat), x]) ∧ (∀ xs, SqT K H a xs → xs[i]? = some x), fun i H => ∃ xs : List V, SqT K H a xs ∧ xs.length = i⟩
theorem tupIter_ne {h : Heap} {a it : Addr} {i : Nat} {its : Array Value} (t : h.IsTuple a its) (x : h.IsTupleIter it a i) : a ≠ it := by
  rintro rfl
  obtain ⟨o, e, c, _⟩ := t
  obtain ⟨o', e', c', _⟩ := x
  rw [e] at e'
  cases e'
  rw [c] at c'
  exact absurd (Value.type.inj c') (by decide)
theorem enum_ne {h : Heap} {a e it : Addr} {i : Int} {old : Value} {its : Array Value} (t : h.IsTuple a its) (x : IsEnum h e it i old) : e ≠ a := by
  rintro rfl
  obtain ⟨o, e, c, _⟩ := t
  have x : h.get? _ = some _ := x
  rw [e] at x
  cases x
  exact absurd (Value.type.inj c) (by decide)
theorem turn_enumT {P : Program} {w : World} {K : PySem.W.Frag} {elts : List Expr} {kk : Nat} {tpos : Pos} (a e it : Addr) :
    Turn P w K (.Tuple elts kk tpos) (IteT K a) [e, it] e (fun i h => (∃ old, IsEnum h e it ((i : Nat) : Int) old) ∧ h.IsTupleIter it a i ∧ e ≠ it) := by
  have two : ∀ {b : Addr}, b ∈ [e, it] → b = e ∨ b = it := fun {b} hb => by simpa using hb
  refine ⟨by simp, ?_, ?_, ?_, ?_, ?_⟩
  · rintro i h ⟨⟨old, he⟩, ⟨o, ho, _, hd⟩, _⟩ b hb
    rcases two hb with rfl | rfl
    · exact ⟨_, he, fun v z => nomatch z⟩
    · exact ⟨o, ho, fun v z => by rw [hd] at z; cases z⟩
  · rintro i h h' ⟨⟨old, he⟩, hi, hn⟩ k
    exact ⟨⟨old, k e (by simp) _ he⟩, hi.at fun o z => k it (by simp) o z, hn⟩
  · intro X eP ew eK hc i pins s σ H E I hf st go
    subst eP ew eK
    obtain ⟨⟨old, he⟩, hi, hn⟩ := st
    obtain ⟨xs, x, hq, hx⟩ := go
    obtain ⟨its, rv, tu, hz⟩ := I.tuple hq
    obtain ⟨u, hu, ru⟩ := rv.get hx
    have tu : s.heap.IsTuple a its.toArray := tu
    have hlt : i < its.toArray.size := by
      have := (List.getElem?_eq_some_iff.mp hu).1
      simpa using this
    have na := enum_ne tu he
    have el : e < s.heap.objs.size := Heap.lt_size he
    have il : it < s.heap.objs.size := by
      obtain ⟨_, z, _⟩ := hi
      exact Heap.lt_size z
    have dr : Draws X.prog X.w X.A.in1 it [it, a] its.toArray.size (fun i v => its.toArray[i]? = some v) (fun i h => h.IsTupleIter it a i ∧ h.IsTuple a its.toArray) := Draws.tuple (A := X.A.in1) (I.ok.hd hc) it a (tupIter_ne tu hi) _
    apply wpAny_pyNext_enum_itemD dr he ⟨hi, tu⟩ hlt hn (by intro z; simp only [List.mem_cons, List.not_mem_nil, or_false] at z; exact z.elim hn na)
    intro y h1 tk hy ho hst hT hsz hk
    have ey : y = u := by
      have h2 : its.toArray[i]? = some u := by simpa using hu
      rw [h2] at hy
      exact (Option.some.inj hy).symm
    subst ey
    refine ⟨_, rfl, ?_⟩
    apply wpAny_letOwnedTupleGo_enum (s := { s with heap := h1, toks := tk + 1 }) ho
    intro h2 he2 sb
    have hT2 : h2.get? s.heap.objs.size = some { cls := .type "tuple", data := .seq #[.int i tk, y] } := (sb.2 _ (Nat.ne_of_gt el)).trans hT
    have ob : ObjOk X.prog X.w (upd H s.heap.objs.size (.tup [.int (i : Nat), x])) h2 s.heap.objs.size (.tup [.int (i : Nat), x]) := by
      refine ⟨by show 2 ≤ sizeLine; decide, [.int i tk, y], .cons ⟨_, rfl⟩ (.cons ru .nil), ?_⟩
      exact ⟨_, hT2, rfl, _, rfl⟩
    have J : Inv X pins σ (upd H s.heap.objs.size (.tup [.int (i : Nat), x])) { s with heap := h2, toks := tk + 1 } := by
      refine I.turnedNew (ch := [e, it]) (fun b o hb z => ?_) hf (Nat.le_refl _) ob
      have ne : b ≠ e := fun c => hb (by simp [c])
      have ni : b ≠ it := fun c => hb (by simp [c])
      exact (sb.2 b ne).trans (hk b o ne ni z)
    refine ⟨.ref s.heap.objs.size, _, J, rfl, ⟨_, x, rfl, I.hok.fresh (Nat.le_refl _), rfl, fun ys hy => ?_⟩, ⟨⟨y, ?_⟩, hst.1.at fun o z => (sb.2 it (Ne.symm hn)).trans z, hn⟩, fun b hb => ?_⟩
    · rw [I.tuple_inj hy hq]
      exact hx
    · have e1 : ((i + 1 : Nat) : Int) = (i : Int) + 1 := by omega
      rw [e1]
      exact he2
    · have lt : b < s.heap.objs.size := by
        rcases two hb with rfl | rfl
        · exact el
        · exact il
      rw [upd_ne (Nat.ne_of_lt lt)]
      exact (hf b hb).1
  · intro X eP ew eK hc i pins s σ H E I hf st sp
    subst eP ew eK
    obtain ⟨⟨old, he⟩, hi, hn⟩ := st
    obtain ⟨xs, hq, hx⟩ := sp
    obtain ⟨its, rv, tu, hz⟩ := I.tuple hq
    have tu : s.heap.IsTuple a its.toArray := tu
    have hl : its.toArray.size = i := by
      have := rv.length
      simp only [List.size_toArray]
      omega
    obtain ⟨f0, f1, f2, f3, f4, f5⟩ := hf it (by simp)
    have dr : Draws X.prog X.w X.A.in1 it [it, a] its.toArray.size (fun i v => its.toArray[i]? = some v) (fun i h => h.IsTupleIter it a i ∧ h.IsTuple a its.toArray) := Draws.tuple (A := X.A.in1) (I.ok.hd hc) it a (tupIter_ne tu hi) _
    have hi2 : s.heap.IsTupleIter it a its.toArray.size := by rw [hl]; exact hi
    apply wpAny_pyNext_enum_endD dr he ⟨hi2, tu⟩
    intro h2 eb
    exact ⟨rfl, I.turned (t' := s.toks) (fun b o hb z => eb b o hb z) f0 f1 f3 f4 f5⟩
  · intro A i s Q E st h
    obtain ⟨⟨old, he⟩, _⟩ := st
    exact wpAny_pyIter_enum he h

/-- enumerate(t) made: its two cells -/
theorem enum_new1 {v : Value} {o : Obj} {Z : Heap → Prop} (B : Begins v o Z) :
    Meets (Builtin.«enumerate.__new__» ⟨[.type "enumerate", v], []⟩) (fun _ R s => Z s.heap ∧
      R (.ok (.ret (.ref (s.heap.push o).objs.size))) { s with heap := (s.heap.push o).push { cls := .type "enumerate", data := .fields #[.none, .bool false, .ref s.heap.objs.size, rawInt 0, .none, .none] } }) := by
  refine .of_wp fun prog w A R s h => ?_
  obtain ⟨hp, g, d, tk, os⟩ := s
  obtain ⟨hz, hr⟩ := h
  have sub1 := sub_enumerate
  have it1 : ∀ {A1 : Around} {E : Value → Shared → Prop} {Q : Value → Shared → Prop}, Q (.ref hp.objs.size) ⟨hp.push o, g, d, tk, os⟩ → wpAny (model prog w) A1 (pyIter v) Q E ⟨hp, g, d, tk, os⟩ :=
    fun q => B.iter prog w _ _ ⟨hp, g, d, tk, os⟩ _ hz q
  wp_walk using it1
  apply wpAny_stack_any
  intro st
  apply wpAny_pure
  split
  · rename_i c _ _ _ _ _
    generalize (c == Value.type "enumerate") = bb
    cases bb
    · wp_walk using it1
      exact ⟨_, rfl, hr⟩
    · wp_walk using it1
      exact ⟨_, rfl, hr⟩
  · wp_walk using it1
    exact ⟨_, rfl, hr⟩
section
variable {X : Cx} {K : PySem.W.Frag} {e : Expr} {ta : TA} {p pos tpos : Pos} {elts : List Expr} {kk : Nat} {m : M (List D)}
def iEnT (K : PySem.W.Frag) (ta : TA) : TI := fun σ H R => ta σ H fun vs H1 => ∃ a xs, vs = [.ref a] ∧ SqT K H1 a xs ∧ R (IteT K a) H1
theorem pi_enT (hg : Gl X "enumerate") (hm : X.mg "enumerate" = none) (ha : PA X [e] ta) (hs : starEach [e] X.env = [(false, eval e X.env)] := by rfl) :
    PI X (.Tuple elts kk tpos) (.Call (.Name "enumerate" p) [e] [] pos) (iEnT X.K ta) := by
  constructor
  intro pins s σ H R I h
  refine Call_ ?_
  apply ld_blt I hg hm boot_enumerate
  apply PyProof.Rows.callWith_type1 _ hs rfl
  apply thn (ha.run pos pins s σ H _ I h)
  rintro us s1 ⟨vs, H1, I1, r1, a, xs, rfl, hq, q⟩
  obtain ⟨u, rfl, ru⟩ := vals1 r1
  cases ru
  obtain ⟨its, rv, tu, hz⟩ := I1.tuple hq
  have tu : s1.heap.IsTuple a its.toArray := tu
  have B := begins_tuple a its.toArray
  apply callType_new F.called_enumerate (by decide) (F.typeCall_enumerate_1 _) (F.newCall_enumerate_1 _) (fun ob => F.args_object_init_2 ob _) F.entry_enumerate_new (enum_new1 B)
  refine ⟨tu, ?_⟩
  have sz : (s1.heap.push { cls := .type "tuple_iterator", data := .fields #[.ref a, .int 0 0] }).objs.size = s1.heap.objs.size + 1 := Heap.size_push ..
  show _ ∧ _
  rw [sz]
  have he : IsEnum ((s1.heap.push { cls := .type "tuple_iterator", data := .fields #[.ref a, .int 0 0] }).push
      { cls := .type "enumerate", data := .fields #[.none, .bool false, .ref s1.heap.objs.size, rawInt 0, .none, .none] }) (s1.heap.objs.size + 1) s1.heap.objs.size 0 .none := by
    have z := Heap.get?_push_size (s1.heap.push { cls := .type "tuple_iterator", data := .fields #[.ref a, .int 0 0] })
      (o := { cls := .type "enumerate", data := .fields #[.none, .bool false, .ref s1.heap.objs.size, rawInt 0, .none, .none] }) rfl
    rw [sz] at z
    exact z
  have keep : ∀ b o, s1.heap.get? b = some o → ((s1.heap.push { cls := .type "tuple_iterator", data := .fields #[.ref a, .int 0 0] }).push
      { cls := .type "enumerate", data := .fields #[.none, .bool false, .ref s1.heap.objs.size, rawInt 0, .none, .none] }).get? b = some o := fun b o z => Heap.get?_push_of_some _ (Heap.get?_push_of_some _ z)
  refine ⟨⟨_, he, rfl⟩, ?_⟩
  apply wpAny_pyIter_enum he
  have J := I1.kept (t' := s1.toks) keep
  refine ⟨s1.heap.objs.size + 1, [s1.heap.objs.size + 1, s1.heap.objs.size], _, _, H1, rfl, J, turn_enumT a (s1.heap.objs.size + 1) s1.heap.objs.size, ⟨⟨.none, he⟩, ⟨_, Heap.get?_push_of_some _ (Heap.get?_push_size _ rfl), rfl, rfl⟩, Nat.succ_ne_self _⟩, fun b hb => ?_, q⟩
  have le : s1.heap.objs.size ≤ b := by
    have z : b = s1.heap.objs.size + 1 ∨ b = s1.heap.objs.size := by simpa using hb
    rcases z with z | z
    · rw [z]; exact Nat.le_add_right _ _
    · rw [z]; exact Nat.le_refl _
  exact I1.fpOk le (I1.hok.fresh le)
def numbered : Nat → List PyData → List D
  | _, [] => []
  | n, d :: ds => .wt [.int (n : Nat), d] :: numbered (n + 1) ds
theorem numbered_get : ∀ (ds : List PyData) (n i : Nat), (numbered n ds)[i]? = (ds[i]?).map fun d => D.wt [.int ((n + i : Nat) : Int), d]
  | [], n, i => by unfold numbered; simp
  | d :: ds, n, 0 => by unfold numbered; simp
  | d :: ds, n, i + 1 => by
    unfold numbered
    rw [List.getElem?_cons_succ, List.getElem?_cons_succ, numbered_get ds (n + 1) i]
    have e : n + 1 + i = n + (i + 1) := by omega
    rw [e]
theorem numbered_len : ∀ (ds : List PyData) (n : Nat), (numbered n ds).length = ds.length
  | [], n => by unfold numbered; rfl
  | d :: ds, n => by unfold numbered; rw [List.length_cons, List.length_cons, numbered_len ds (n + 1)]
def mEn (m : M (List D)) : M (List D) := fun r w => (m r w).bind fun ds r w => match ds with
  | [.py (.tuple xs)] => .ok (numbered 0 xs) r w
  | _ => .bad
def mEnL (m : M (List D)) : M (List D) := fun r w => (m r w).bind fun ds r w => match ds with
  | [.py (.list xs)] => .ok (numbered 0 xs) r w
  | _ => .bad
theorem yields_enT {wa : WA} {G : Hp} {a : Addr} {vs : List V} {xs : List PyData} (s : TupS G a vs) (h : DqAll K G vs xs) : Yields K wa (IteT K a) G (numbered 0 xs) := by
  intro G1 H1 s1 s2
  have hs : SqT K H1 a vs := ((s.mono s1).mono s2).sq
  have hd := dps_mono s1 _ _ h
  refine ⟨⟨vs, hs, by rw [numbered_len, dpall_len h]⟩, fun i d e => ?_⟩
  rw [numbered_get] at e
  cases q : xs[i]? with
  | none => rw [q] at e; cases e
  | some y =>
    rw [q] at e
    cases e
    obtain ⟨v, h1, h2⟩ := dpall_get hd q
    refine ⟨⟨vs, v, hs, h1⟩, fun u H2 z => .inr ?_⟩
    obtain ⟨T, x, rfl, hT, rfl, hx⟩ := z
    have ex := (hx vs hs).symm.trans h1
    cases ex
    refine ⟨T, _, _, hT, rfl, rfl, ?_, rfl⟩
    rw [Nat.zero_add]
    exact .cons (.int _) (.cons h2 .nil)
theorem yields_enL {wa : WA} {G : Hp} {a : Addr} {vs : List V} {xs : List PyData} (s : G a = some (.lst vs)) (h : DqAll K G vs xs) : Yields K wa (Ite K a) G (numbered 0 xs) := by
  intro G1 H1 s1 s2
  have hs : SqL K H1 a vs := SqL.of (s2 _ _ (s1 _ _ s))
  have hd := dps_mono s1 _ _ h
  refine ⟨⟨vs, hs, by rw [numbered_len, dpall_len h]; exact Nat.le_refl _⟩, fun i d e => ?_⟩
  rw [numbered_get] at e
  cases q : xs[i]? with
  | none => rw [q] at e; cases e
  | some y =>
    rw [q] at e
    cases e
    obtain ⟨v, h1, h2⟩ := dpall_get hd q
    refine ⟨⟨vs, v, hs, h1⟩, fun u H2 z => .inr ?_⟩
    obtain ⟨T, x, rfl, hT, rfl, hx⟩ := z
    have ex := (hx vs hs).symm.trans h1
    cases ex
    refine ⟨T, _, _, hT, rfl, rfl, ?_, rfl⟩
    rw [Nat.zero_add]
    exact .cons (.int _) (.cons h2 .nil)
theorem i_enT : IOk K mg W (iEnT K (tMs K mg W m)) (mEn m) := by
  refine iok_of (fun wa Fr G σ H r w ds r' w' R x e q => ?_) (fun wa Fr G σ H r w c f y r' w' R x e q => ?_)
  rotate_left
  · unfold mEn at e
    refine ⟨wa, Fr, G, r, w, x, ?_⟩
    cases e1 : m r w with
    | bad => simp only [e1, Re.bind] at e; cases e
    | ex c f y r9 w9 => simp only [e1, Re.bind] at e; cases e; exact q
    | ok d r1 w1 =>
      simp only [e1, Re.bind] at e
      split at e
      · cases e
      · cases e
  unfold mEn at e
  refine ⟨wa, Fr, G, r, w, x, ?_⟩
  cases e1 : m r w with
  | bad => simp only [e1, Re.bind] at e; cases e
  | ex c f y r9 w9 => simp only [e1, Re.bind] at e; cases e
  | ok d r1 w1 =>
    simp only [e1, Re.bind] at e
    intro v H1 G1 s1 x1 h1
    split at e
    · cases e
      obtain ⟨u, rfl, h⟩ := rv_one h1
      cases h with
      | tup s a => exact ⟨_, _, rfl, (s.mono x1.h.sub).sq, q _ H1 G1 s1 x1 (yields_enT s a)⟩
    · cases e
theorem i_enL : IOk K mg W (iEnum K (tMs K mg W m)) (mEnL m) := by
  refine iok_of (fun wa Fr G σ H r w ds r' w' R x e q => ?_) (fun wa Fr G σ H r w c f y r' w' R x e q => ?_)
  rotate_left
  · unfold mEnL at e
    refine ⟨wa, Fr, G, r, w, x, ?_⟩
    cases e1 : m r w with
    | bad => simp only [e1, Re.bind] at e; cases e
    | ex c f y r9 w9 => simp only [e1, Re.bind] at e; cases e; exact q
    | ok d r1 w1 =>
      simp only [e1, Re.bind] at e
      split at e
      · cases e
      · cases e
  unfold mEnL at e
  refine ⟨wa, Fr, G, r, w, x, ?_⟩
  cases e1 : m r w with
  | bad => simp only [e1, Re.bind] at e; cases e
  | ex c f y r9 w9 => simp only [e1, Re.bind] at e; cases e
  | ok d r1 w1 =>
    simp only [e1, Re.bind] at e
    intro v H1 G1 s1 x1 h1
    split at e
    · cases e
      obtain ⟨u, rfl, h⟩ := rv_one h1
      cases h with
      | lst s a => exact ⟨_, _, rfl, SqL.of (x1.h.sub _ _ s), q _ H1 G1 s1 x1 (yields_enL s a)⟩
    · cases e
end
end Mi
namespace Mi
open PySem PySem.Spec PyProof.Rows L2
/-! ### the law's own call -/
/-- the script alone is tracked, or (an object of the text) nothing -/
theorem law_go {P : Program} {w : World} {K : PySem.W.Frag} {mg mb : Str → Option Value} {n : Nat} {fa a : Addr} {fd : FuncData} {x : Str} {sp : Sp} {s1 : Shared} {us : List Value} {ns : List Int} {H : Hp}
    (kin : K.In s1.heap) (gl : s1.heap.Ns mainGlobals mg) (bl : s1.heap.Ns builtinsNs mb) (bb : ∀ z : Str, z ≠ "__name__" → mb z = bootBuiltins z) (lim : s1.heap.NoLimit) (gens : s1.gens = #[])
    (at_ : s1.heap.get? a = some { cls := .type "list", data := .seq us.toArray }) (room : Room n callerA)
    (F : ∀ base : Heap, K.In base → base.Ns mainGlobals mg → FnG P w K mg base n fa fd [x] sp) (bind : ∀ (s : Shared) (u : Value), BindsTo s fd ⟨[u], []⟩ [(x, u)])
    (only : Only H) (ok : HOk P w H s1.heap) (one : ∀ b o, H b = some o → b = a ∧ K.lookup a = none) (sps : sp [.ref a] H (fun v _ => v = .bl true) E0) :
    codeAny (model P w) callerA (.call (.ref fa) ⟨[.ref a], []⟩) (fun r s2 => r = .ok (.ret (.bool true)) ∧ OldK s1.heap s2.heap ∧ s2.os = s1.os ∧ AllBare s2.gens) s1 := by
  have free : ∀ {b : Addr} {o : Obj}, K.lookup b = some o → H b = none := fun {b o} e => by
    cases q : H b with
    | none => rfl
    | some u =>
      obtain ⟨rfl, z⟩ := one b u q
      rw [z] at e
      cases e
  have dictFree : ∀ {b : Addr} {o : Obj} {es : Array DictEntry} {ep : Nat}, s1.heap.get? b = some o → o.data = .dict es ep → H b = none := fun {b o es ep} e d => by
    cases q : H b with
    | none => rfl
    | some u =>
      obtain ⟨rfl, _⟩ := one b u q
      rw [at_] at e
      cases e
      have z : Data.seq us.toArray _ = Data.dict es ep := d
      cases z
  have ns1 : ∀ {b : Addr} {m : Str → Option Value}, s1.heap.Ns b m → (hidT s1.heap H).Ns b m := fun {b m} z => by
    obtain ⟨o, es, ep, e, d, r⟩ := z
    exact ⟨o, es, ep, hidT_get e (dictFree e d), d, r⟩
  have kin1 : K.In (hidT s1.heap H) := fun b o e => hidT_get (kin b o e) (free e)
  have md : Mod K mg (hidT s1.heap H) := by
    refine ⟨kin1, ns1 gl, ⟨mb, ns1 bl, bb⟩, ?_⟩
    obtain ⟨mc, l1, l2⟩ := lim
    exact ⟨mc, ns1 l1, l2⟩
  have en : Env0 P w K mg (hidT s1.heap H) callerA [] s1 H := by
    refine ⟨rfl, md, fun b o e => of_hidT e, Nat.le_of_eq (hidT_size _ _), trivial, fun b hb => ?_, ok, .of_eq gens⟩
    have hb : b ∈ ([] : List Addr) := hb
    cases hb
  have run := (F _ kin1 (ns1 gl)).go callerA [] s1 H ⟨[.ref a], []⟩ [.ref a] [.ref a] _ E0 room rfl en (bind s1 (.ref a)) (.cons rfl .nil) sps
  apply codeAny_mono run
  intro res s2 h
  cases res with
  | error er =>
    obtain ⟨_, _, _, _, _, _, _, _, _, _, _, _, z⟩ := h
    exact False.elim z
  | ok fl =>
    cases fl with
    | next => exact False.elim h
    | brk => exact False.elim h
    | cont => exact False.elim h
    | ret u =>
      obtain ⟨v, H2, os, bare, un, ok2, rv, q⟩ := h
      have q : v = .bl true := q
      subst q
      cases rv
      refine ⟨rfl, OldK.of_keep fun b o e => ?_, os, bare⟩
      have nofs : b ∉ frs ([] : List Env) := fun z => by
        have z : b ∈ ([] : List Addr) := z
        cases z
      cases q : H b with
      | none => exact un.keep b o e q nofs (by simp)
      | some u =>
        rcases only b with z | ⟨ob, xs, z⟩
        · rw [q] at z
          cases z
        · obtain ⟨e1, _⟩ := ok b _ z
          obtain ⟨e2, _⟩ := ok2 b _ (un.frzs b ob _ z)
          rw [e] at e1
          cases e1
          exact e2
theorem law_run {P : Program} {w : World} {K : PySem.W.Frag} {mg mb : Str → Option Value} {n : Nat} {fa a : Addr} {fd : FuncData} {x : Str} {sp : Sp} {s1 : Shared} {us : List Value} {ns : List Int}
    (kin : K.In s1.heap) (gl : s1.heap.Ns mainGlobals mg) (bl : s1.heap.Ns builtinsNs mb) (bb : ∀ z : Str, z ≠ "__name__" → mb z = bootBuiltins z) (lim : s1.heap.NoLimit) (gens : s1.gens = #[])
    (at_ : s1.heap.get? a = some { cls := .type "list", data := .seq us.toArray }) (ia : IntsAre us ns) (hl : ns.length ≤ sizeLine) (room : Room n callerA)
    (F : ∀ base : Heap, K.In base → base.Ns mainGlobals mg → FnG P w K mg base n fa fd [x] sp) (bind : ∀ (s : Shared) (u : Value), BindsTo s fd ⟨[u], []⟩ [(x, u)])
    (sps : ∀ H : Hp, Only H → SqL K H a (ns.map V.int) → sp [.ref a] H (fun v _ => v = .bl true) E0) :
    codeAny (model P w) callerA (.call (.ref fa) ⟨[.ref a], []⟩) (fun r s2 => r = .ok (.ret (.bool true)) ∧ OldK s1.heap s2.heap ∧ s2.os = s1.os ∧ AllBare s2.gens) s1 := by
  have rv := vals_ints ia
  have len := ia.length
  cases hk : K.lookup a with
  | some o =>
    have e := kin a o hk
    rw [at_] at e
    cases e
    have sq : SqL K (fun _ => none) a (ns.map V.int) := .inr ⟨_, us.toArray, _, hk, rfl, rfl, rfl, by rw [List.size_toArray, len]; exact hl, by simpa using rv⟩
    exact law_go (H := fun _ => none) (ns := ns) kin gl bl bb lim gens at_ room F bind (fun _ => .inl rfl) (fun b u z => by cases z) (fun b u z => by cases z) (sps _ (fun _ => .inl rfl) sq)
  | none =>
    have only : Only (fun b => if b = a then some (HO.frz { cls := .type "list", data := .seq us.toArray } (.lst (ns.map V.int))) else none) := fun b => by
      by_cases c : b = a
      · exact .inr ⟨_, _, if_pos c⟩
      · exact .inl (if_neg c)
    have here : ∀ b o, (fun b => if b = a then some (HO.frz { cls := .type "list", data := .seq us.toArray } (.lst (ns.map V.int))) else none) b = some o → b = a ∧ o = HO.frz { cls := .type "list", data := .seq us.toArray } (.lst (ns.map V.int)) := fun b o z => by
      by_cases c : b = a
      · simp only [if_pos c] at z
        cases z
        exact ⟨c, rfl⟩
      · simp only [if_neg c] at z
        cases z
    refine law_go (ns := ns) kin gl bl bb lim gens at_ room F bind only (fun b o z => ?_) (fun b o z => ⟨(here b o z).1, hk⟩) (sps _ only (.inl (.inr ⟨_, if_pos rfl⟩)))
    obtain ⟨rfl, rfl⟩ := here b o z
    exact ⟨at_, by rw [List.length_map]; exact hl, us, _, rv, at_⟩
theorem walk_G {l : PySem.W.OpenLaw} {most n : Nat} {q : Program} {loose : List Str} {XP : (Str → Option Value) → Heap → Prop} {YP : World → Heap → Prop} {d : DefRec} {x : Str}
    (hm : l.most = some most) (hm2 : most ≤ sizeLine) (hdf : d.params.defaults = []) (room : Room n callerA)
    (F : ∀ (w : World) (mg : Str → Option Value) (fa : Addr) (h : Heap), YP w h → h.Ns mainGlobals mg → mg d.name = some (.ref fa) →
      ∃ (K : PySem.W.Frag) (fd : FuncData) (sp : Sp), K.In h ∧ (∀ (s : Shared) (u : Value), BindsTo s fd ⟨[u], []⟩ [(x, u)]) ∧
        (∀ (H : Hp) (a : Addr) (ns : List Int), ns.length ≤ most → Only H → SqL K H a (ns.map V.int) → sp [.ref a] H (fun v _ => v = .bl true) E0) ∧
        ∀ base : Heap, K.In base → base.Ns mainGlobals mg → FnG l.prog w K mg base n fa fd [x] sp) :
    PySem.W.WalkO q loose XP YP l.row.toRowW d [] (fun f vs => PySem.call f vs) := by
  apply Att.attach_call hm hdf
  intro w s0 s1 mg mb fa o pm cd doc a vs ns G Y ho hd hcd hmg hobj hints hlen hg
  obtain ⟨K, fd, sp, kin, bind, sps, FG⟩ := F w mg fa _ Y G.T.g hmg
  exact law_run kin G.T.g G.T.b G.T.builtins G.T.nolimit hg hobj hints (Nat.le_trans hlen hm2) room FG bind fun H on sq => sps H a ns hlen on sq
end Mi
namespace Mi
open PySem PySem.Spec PyProof.Rows L2
/-! ### a def that is known, by its name -/
def Has (P : Program) (w : World) (K : PySem.W.Frag) (mg : Str → Option Value) (base : Heap) (x : Str) (n : Nat) (ps : List Str) (sp : Sp) : Prop :=
  ∃ fa fd, FnG P w K mg base n fa fd ps sp ∧ mg x = some (.ref fa) ∧ PySem.W.keepIn K (.ref fa) = true ∧ Binds K fd ps []
def DefAt (K : PySem.W.Frag) (mg : Str → Option Value) (x : Str) (st : Stmt) : Prop := ∃ fa fd, FunD K x x (defArgs st) (defBody st) (defScope st) [] [] fa fd ∧ mg x = some (.ref fa)
section
variable {X : Cx} {n cnt : Nat} {ps : List Str} {x : Str} {p pos : Pos} {e : Expr} {es : List Expr} {m : M (List D)} {f : List D → Wd → Fl}
theorem e_callH (h : Has X.prog X.w X.K X.mg X.base x n ps (spM X.K X.mg cnt f)) (hr : Room n X.A) (hu : X.A.guards = some []) {W : WX} (tk : Takes X W) (hc : Arity m cnt)
    (ha : PA X (e :: es) (tMs X.K X.mg W m)) (hg : Gl X x := by rfl) (hdb : (x == ("__debug__" : Str)) = false := by decide) (he : starEach (e :: es) X.env = (false, eval e X.env) :: starEach es X.env := by rfl) (hpl : (backTo pos (starEach es X.env)).any (·.1) = false := by rfl) :
    PE X (.Call (.Name x p) (e :: es) [] pos) (tM X.K X.mg W (mCall f m)) := by
  obtain ⟨fa, fd, F, hm, hk, hb⟩ := h
  exact e_call F hr hu hm hk hb tk hc ha hg hdb he hpl
theorem has_M {P : Program} {w : World} {K : PySem.W.Frag} {mg : Str → Option Value} {base : Heap} {st : Stmt} {N ps : List Str} {n : Nat} {m : S} (d : DefAt K mg x st) (S : FnScope N ps (defScope st))
    (hbd : ∀ (kV doc pm : Value) (an : Option Addr) (cdv ct : Value) (us : List Value), us.length = ps.length → bindArgs (PySem.W.fnOf x x (defArgs st) (defBody st) (defScope st) .none kV doc pm an cdv ct) ⟨us, []⟩ = pure (ps.zip us))
    (hb : ∀ (fa : Addr) (cdv : Value) (B : Around) (outs : List Env) (s0 : Shared) (H : Hp) (E : XK), Room n (B.deeper (envOfC x (defScope st) s0.heap.objs.size fa cdv)) → B.guards = some [] →
      PassesOwn (model P w) (cxOf (L2.CX P w) P w K mg base N x (defScope st) fa cdv B outs s0 H E).A (cxOf (L2.CX P w) P w K mg base N x (defScope st) fa cdv B outs s0 H E).env (cxOf (L2.CX P w) P w K mg base N x (defScope st) fa cdv B outs s0 H E).xe → Takes (cxOf (L2.CX P w) P w K mg base N x (defScope st) fa cdv B outs s0 H E) (fun cls d _ H => E cls d H) →
      PSs (cxOf (L2.CX P w) P w K mg base N x (defScope st) fa cdv B outs s0 H E) (defBody st) (tX K mg (fun cls d _ H => E cls d H) m)) :
    Has P w K mg base x (n + 1) ps (spM K mg ps.length (fnM N.length m)) := by
  obtain ⟨fa, fd, F, hm⟩ := d
  exact ⟨fa, fd, fn_M F S (hb fa), hm, F.kp, F.bindsN hbd⟩
end
/-! ### a def whose last arguments have values in the text -/
def DefAtD (K : PySem.W.Frag) (mg : Str → Option Value) (x : Str) (st : Stmt) (dvs : List V) : Prop := ∃ fa fd, FunD K x x (defArgs st) (defBody st) (defScope st) dvs [] fa fd ∧ mg x = some (.ref fa)
def HasD (P : Program) (w : World) (K : PySem.W.Frag) (mg : Str → Option Value) (base : Heap) (x : Str) (n : Nat) (ps : List Str) (dvs : List V) (sp : Sp) : Prop :=
  ∃ fa fd, FnG P w K mg base n fa fd ps sp ∧ mg x = some (.ref fa) ∧ PySem.W.keepIn K (.ref fa) = true ∧ ∃ ds, Vals dvs ds ∧ Binds K fd ps ds
section
variable {X : Cx} {n cnt k : Nat} {ps : List Str} {x : Str} {p pos : Pos} {e : Expr} {es : List Expr} {m : M (List D)} {f : List D → Wd → Fl} {dvs : List V} {dd : List D}
theorem e_callHD (h : HasD X.prog X.w X.K X.mg X.base x n ps dvs (spM X.K X.mg cnt f)) (hdd : ∀ (wa : WA) (G : Hp), RvAll X.K wa G dvs dd) (hr : Room n X.A) (hu : X.A.guards = some []) {W : WX} (tk : Takes X W) (hc : Arity m k) (hk2 : k + dd.length = cnt)
    (ha : PA X (e :: es) (tMs X.K X.mg W m)) (hg : Gl X x := by rfl) (hdb : (x == ("__debug__" : Str)) = false := by decide) (he : starEach (e :: es) X.env = (false, eval e X.env) :: starEach es X.env := by rfl) (hpl : (backTo pos (starEach es X.env)).any (·.1) = false := by rfl) :
    PE X (.Call (.Name x p) (e :: es) [] pos) (tM X.K X.mg W (mCall f (mDf dd m))) := by
  obtain ⟨fa, fd, F, hm, hk, ds, hd, hb⟩ := h
  exact pe_imp (pe_gD F hr hu hm hk hd hb tk ha hg hdb he hpl) fun _ _ _ h => m_callD hdd (fun r w ds r' w' z => by rw [List.length_append, hc r w ds r' w' z, hk2]) h
theorem has_MD {P : Program} {w : World} {K : PySem.W.Frag} {mg : Str → Option Value} {base : Heap} {st : Stmt} {N ps : List Str} {n j : Nat} {m : S} (d : DefAtD K mg x st dvs) (S : FnScope N ps (defScope st)) (hd : dvs ≠ []) (hj : j + dvs.length = ps.length)
    (h1 : ∀ (T : Addr) (kV doc pm : Value) (an : Option Addr) (cdv ct : Value) (us its : List Value), us.length = ps.length → its.length = dvs.length → ∃ k, bindArgs (PySem.W.fnOf x x (defArgs st) (defBody st) (defScope st) (.ref T) kV doc pm an cdv ct) ⟨us, []⟩ = seqItems? (.ref T) >>= k ∧ k (some its.toArray) = pure (ps.zip (us ++ its.drop dvs.length)))
    (h2 : ∀ (T : Addr) (kV doc pm : Value) (an : Option Addr) (cdv ct : Value) (us its : List Value), us.length = j → its.length = dvs.length → ∃ k, bindArgs (PySem.W.fnOf x x (defArgs st) (defBody st) (defScope st) (.ref T) kV doc pm an cdv ct) ⟨us, []⟩ = seqItems? (.ref T) >>= k ∧ k (some its.toArray) = pure (ps.zip (us ++ its.drop 0)))
    (hb : ∀ (fa : Addr) (cdv : Value) (B : Around) (outs : List Env) (s0 : Shared) (H : Hp) (E : XK), Room n (B.deeper (envOfC x (defScope st) s0.heap.objs.size fa cdv)) → B.guards = some [] →
      PassesOwn (model P w) (cxOf (L2.CX P w) P w K mg base N x (defScope st) fa cdv B outs s0 H E).A (cxOf (L2.CX P w) P w K mg base N x (defScope st) fa cdv B outs s0 H E).env (cxOf (L2.CX P w) P w K mg base N x (defScope st) fa cdv B outs s0 H E).xe → Takes (cxOf (L2.CX P w) P w K mg base N x (defScope st) fa cdv B outs s0 H E) (fun cls d _ H => E cls d H) →
      PSs (cxOf (L2.CX P w) P w K mg base N x (defScope st) fa cdv B outs s0 H E) (defBody st) (tX K mg (fun cls d _ H => E cls d H) m)) :
    Has P w K mg base x (n + 1) ps (spM K mg ps.length (fnM N.length m)) ∧ HasD P w K mg base x (n + 1) ps dvs (spM K mg ps.length (fnM N.length m)) := by
  obtain ⟨fa, fd, F, hm⟩ := d
  have G := fn_M F S (hb fa)
  refine ⟨⟨fa, fd, G, hm, F.kp, ?_⟩, fa, fd, G, hm, F.kp, ?_⟩
  · obtain ⟨ds, v, b⟩ := F.binds1 ps.length dvs.length hd (by omega) h1
    rw [List.drop_length] at v
    cases v
    exact b
  · obtain ⟨ds, v, b⟩ := F.binds1 j 0 hd (by omega) h2
    exact ⟨ds, v, b⟩
end
theorem rv_int {K : PySem.W.Frag} {wa : WA} {G : Hp} (i : Int) : Rv K wa G (.int i) (.py (.int i)) := Dq.int i
/-! ### lists joined, a new one -/
def fCatL (a b : D) : Option (List PyData) := match a, b with
  | .py (.list xs), .py (.list ys) => ifC (xs.length + ys.length ≤ 100000) (some (xs ++ ys)) none
  | _, _ => none
def mCatL (ma mb : M D) : M (List PyData) := fun r w => (ma r w).bind fun a r w => (mb r w).bind fun b r w => match fCatL a b with
  | some c => .ok c r w
  | none => .bad
section
variable {X : Cx} {K : PySem.W.Frag} {ma mb : M D} {a b : Expr} {pos : Pos}
theorem f_cat (ha : PE X a (tM X.K X.mg W ma)) (hb : PE X b (tM X.K X.mg W mb)) : PE X (.BinOp a .Add b pos) (tF X.K X.mg W (mCatL ma mb)) := by
  refine pe_imp (pe_op op_cat ha hb) fun σ H Q h => ?_
  obtain ⟨wa, Fr, G, r, w, x, q⟩ := h
  unfold mCatL at q
  refine ⟨wa, Fr, G, r, w, x, ?_⟩
  cases e1 : ma r w with
  | bad => simp only [e1, Re.bind] at q
  | ex c f y r9 w9 => simp only [e1, Re.bind] at q; exact q
  | ok d1 r1 w1 =>
    simp only [e1, Re.bind] at q
    intro v1 H1 G1 s1 x1 h1
    refine ⟨wa, Fr, G1, r1, w1, x1, ?_⟩
    cases e2 : mb r1 w1 with
    | bad => simp only [e2] at q
    | ex c f y r9 w9 => simp only [e2] at q; exact q.mono s1
    | ok d2 r2 w2 =>
      simp only [e2] at q
      intro v2 H2 G2 s2 x2 h2
      cases e3 : fCatL d1 d2 with
      | none => simp only [e3] at q
      | some d3 =>
        simp only [e3] at q
        unfold fCatL at e3
        split at e3
        · rename_i xs ys
          by_cases c : xs.length + ys.length ≤ 100000
          · rw [ifC_pos c] at e3
            cases e3
            cases h1 with
            | lst sa aa =>
              cases h2 with
              | lst sb ab =>
                refine ⟨_, _, _, _, rfl, rfl, x2.h.sub _ _ (s2 _ _ sa), x2.h.sub _ _ sb, big_le (by rw [dpall_len aa, dpall_len ab]; exact c), fun p hp => ?_⟩
                obtain ⟨y1, y2, y3⟩ := x2.newList hp (dpall_app (dps_mono s2 _ _ aa) ab)
                exact q p _ _ G2 (s1.trans s2) y1 y2 y3
          · rw [ifC_neg c] at e3
            cases e3
        · cases e3
end
/-! ### a, b = e1, e2 with both sides written -/
def sPar (i j : Nat) (ma mb : M D) : S := fun r w => match (ma r w).bind fun a r w => (mb r w).bind fun b r w => Re.ok (a, b) r w with
  | .ok (a, b) r1 w1 => .nx ((r1.set i (.im a)).set j (.im b)) w1
  | .ex c f y r1 w1 => .ex c f y r1 w1
  | .bad => .bad
def sParO (i j : Nat) (ma : M (List PyData)) (mb : M D) : S := fun r w => match (ma r w).bind fun a r w => (mb r w).bind fun b r w => Re.ok (a, b) r w with
  | .ok (a, b) r1 w1 => .nx ((r1.set i (.ow a)).set j (.im b)) w1
  | .ex c f y r1 w1 => .ex c f y r1 w1
  | .bad => .bad
section
variable {K : PySem.W.Frag} {wa : WA} {Fr G H : Hp} {σ : L2.St} {r : En} {w : Wd} {a : Addr} {vs : List V} {xs : List PyData}
theorem Rep.protOwn (x : Rep K wa Fr G σ H r w) (h : Own K wa Fr G H a vs xs) (hn : ∀ (j : Nat) (ys : List PyData), r[j]? = some (.ow ys) → σ[j]? ≠ some (some (.ref a))) : Rep K wa (upd Fr a (.lst vs)) G σ H r w := by
  obtain ⟨f1, f2, f3⟩ := x.h.fw
  refine ⟨⟨x.h.sub, fun b y e => ?_, x.h.nw, ⟨by rw [upd_ne h.wm.symm]; exact f1, by rw [upd_ne h.wc.symm]; exact f2, by rw [upd_ne h.wg.symm]; exact f3⟩, x.h.wr⟩, fun i s e => ?_, x.inj⟩
  · by_cases hb : b = a
    · subst hb
      rw [upd_same] at e
      cases e
      exact ⟨h.at_, h.g⟩
    · rw [upd_ne hb] at e
      exact x.h.fr b y e
  · obtain ⟨q, e1, e2⟩ := x.slot i s e
    refine ⟨q, e1, ?_⟩
    cases s with
    | no => trivial
    | im d => exact e2
    | ow ys =>
      obtain ⟨b, us, rfl, h2⟩ := e2
      have hb : b ≠ a := fun z => by
        subst z
        exact hn i ys e e1
      exact ⟨b, us, rfl, h2.at_, h2.da, h2.g, by rw [upd_ne hb]; exact h2.f, h2.wm, h2.wc, h2.wg⟩
    | od kvs =>
      obtain ⟨b, us, rfl, h2⟩ := e2
      have hb : b ≠ a := fun z => by
        have := h2.at_
        rw [z, h.at_] at this
        cases this
      exact ⟨b, us, rfl, h2.at_, h2.da, h2.g, by rw [upd_ne hb]; exact h2.f, h2.wm, h2.wc, h2.wg⟩
end
section
variable {X : Cx} {K : PySem.W.Frag} {a b : Expr} {ma mb : M D} {pos : Pos}
theorem s_par (i j : Nat) {x y : Str} {px py pt : Pos} {kt k2 : Nat} {pt2 : Pos} (hc : X.calm = true) (hN : X.N.Nodup) (hij : i ≠ j) (ha : PE X a (tM X.K X.mg W ma)) (hb : PE X b (tM X.K X.mg W mb))
    (hw : swappedStores [.Tuple [.Name x px, .Name y py] kt pt] (.Tuple [a, b] k2 pt2) X.env = pure (some [x, y]) := by rfl)
    (hi : X.N[i]? = some x := by rfl) (hj : X.N[j]? = some y := by rfl) (hx : X.env.scope.names.lookup x = some .local := by rfl) (hy : X.env.scope.names.lookup y = some .local := by rfl)
    (hs1 : starEach (a :: [b]) X.env = (false, eval a X.env) :: starEach [b] X.env := by rfl) (hs2 : starEach (b :: []) X.env = (false, eval b X.env) :: starEach [] X.env := by rfl)
    (hs : swapsWithSole [.Tuple [.Name x px, .Name y py] kt pt] (.Tuple [a, b] k2 pt2) pos.line X.env = pure false := by rfl) :
    PS X (.Assign [.Tuple [.Name x px, .Name y py] kt pt] (.Tuple [a, b] k2 pt2) pos) (tX X.K X.mg W (sPar i j ma mb)) := by
  refine ps_imp (ps_par hc hN hi hj hij hx hy (pa_cons ha (pa_cons hb pa_nil hs2) hs1) hw hs) fun Dn σ H h => ?_
  obtain ⟨wa, Fr, G, r, w, x, q⟩ := tX_after h
  unfold sPar at q
  refine ⟨wa, Fr, G, r, w, x, ?_⟩
  cases e1 : ma r w with
  | bad => simp only [e1, Re.bind] at q; exact False.elim q
  | ex c f y r9 w9 => simp only [e1, Re.bind] at q; exact ExSt.at q
  | ok d1 r1 w1 =>
    simp only [e1, Re.bind] at q
    intro v1 H1 G1 s1 x1 h1
    refine ⟨wa, Fr, G1, r1, w1, x1, ?_⟩
    cases e2 : mb r1 w1 with
    | bad => simp only [e2] at q; exact False.elim q
    | ex c f y r9 w9 => simp only [e2] at q; exact (ExSt.at q).mono s1
    | ok d2 r2 w2 =>
      simp only [e2] at q
      intro v2 H2 G2 s2 x2 h2
      refine ⟨v1, v2, rfl, ?_⟩
      exact q _ H2 G2 (s1.trans s2) ((x2.setIm i (h1.mono s2)).setIm j h2)
theorem s_parO (i j : Nat) {ma : M (List PyData)} {x y : Str} {px py pt : Pos} {kt k2 : Nat} {pt2 : Pos} (hc : X.calm = true) (hN : X.N.Nodup) (hij : i ≠ j) (ha : PE X a (tF X.K X.mg W ma)) (hb : PE X b (tM X.K X.mg W mb))
    (hw : swappedStores [.Tuple [.Name x px, .Name y py] kt pt] (.Tuple [a, b] k2 pt2) X.env = pure (some [x, y]) := by rfl)
    (hi : X.N[i]? = some x := by rfl) (hj : X.N[j]? = some y := by rfl) (hx : X.env.scope.names.lookup x = some .local := by rfl) (hy : X.env.scope.names.lookup y = some .local := by rfl)
    (hs1 : starEach (a :: [b]) X.env = (false, eval a X.env) :: starEach [b] X.env := by rfl) (hs2 : starEach (b :: []) X.env = (false, eval b X.env) :: starEach [] X.env := by rfl)
    (hs : swapsWithSole [.Tuple [.Name x px, .Name y py] kt pt] (.Tuple [a, b] k2 pt2) pos.line X.env = pure false := by rfl) :
    PS X (.Assign [.Tuple [.Name x px, .Name y py] kt pt] (.Tuple [a, b] k2 pt2) pos) (tX X.K X.mg W (sParO i j ma mb)) := by
  refine ps_imp (ps_par hc hN hi hj hij hx hy (pa_cons ha (pa_cons hb pa_nil hs2) hs1) hw hs) fun Dn σ H h => ?_
  obtain ⟨wa, Fr, G, r, w, x, q⟩ := tX_after h
  unfold sParO at q
  refine ⟨wa, Fr, G, r, w, x, ?_⟩
  cases e1 : ma r w with
  | bad => simp only [e1, Re.bind] at q; exact False.elim q
  | ex c f y r9 w9 => simp only [e1, Re.bind] at q; exact ExSt.at q
  | ok xs r1 w1 =>
    simp only [e1, Re.bind] at q
    intro a1 vs1 H1 G1 s1 x1 h1 n1
    refine ⟨wa, _, G1, r1, w1, x1.protOwn h1 n1, ?_⟩
    cases e2 : mb r1 w1 with
    | bad => simp only [e2] at q; exact False.elim q
    | ex c f y r9 w9 => simp only [e2] at q; exact fun H' G' cls d s' x' ee => (ExSt.at q) H' G' cls d (s1.trans s') (x'.unprot h1.f).1 ee
    | ok d2 r2 w2 =>
      simp only [e2] at q
      intro v2 H2 G2 s2 x2 h2
      obtain ⟨p1, p2, p3, p4, p5⟩ := x2.protP
      obtain ⟨y1, y2⟩ := x2.unprot h1.f
      refine ⟨.ref a1, v2, rfl, ?_⟩
      exact q _ H2 G2 (s1.trans s2) ((y1.setOw i ⟨p1, dps_mono s2 _ _ h1.da, p2, h1.f, p3, p4, p5⟩ y2).setIm j h2)
end
theorem PE_is {X : Cx} {e : Expr} {t t' : TE} (h : PE X e t) (q : t = t') : PE X e t' := q ▸ h

/-! ### the draws -/
def mixW (cell n : Int) : Int := (cell * (1 + 2 * n) * 48271 % 2147483647 + 7919 * n * n + 104729 * n) * 69621 % 2147483629 / 7
def plainV (w : Wd) (n lim : Int) : Int := mixW (mixW (w.cells.getD (n % 64).toNat 0 + 31 * (n / 64)) n) (n + 7) % lim
def drawV (w : Wd) (lim : Int) : Int × Wd :=
  let w1 : Wd := { w with spot := w.spot + 1 }
  let k := (w.spot % (w.great.length : Int)).toNat
  if w.great.length ≠ 0 ∧ 0 < w.great.getD k 0 then (w.great.getD k 0 % lim, { w1 with great := w.great.set k (w.great.getD k 0 / lim) })
  else (plainV w w.spot lim, w1)
structure WOk (w : Wd) (k : Int) : Prop where
  len : w.cells.length = 64
  lo : ∀ c ∈ w.cells, 0 ≤ c ∧ c < 2147483647
  gl : w.great.length ≤ 63
  s0 : 0 ≤ w.spot
  sk : w.spot ≤ k
theorem draw_lo {w : Wd} {lim : Int} (h : 0 < lim) : 0 ≤ (drawV w lim).1 ∧ (drawV w lim).1 < lim := by
  unfold drawV plainV
  simp only
  split
  · exact ⟨Int.emod_nonneg _ (by omega), Int.emod_lt_of_pos _ h⟩
  · exact ⟨Int.emod_nonneg _ (by omega), Int.emod_lt_of_pos _ h⟩
theorem draw_ok {w : Wd} {lim k : Int} (x : WOk w k) : WOk (drawV w lim).2 (k + 1) := by
  have h1 := x.s0
  have h2 := x.sk
  unfold drawV
  simp only
  split
  · exact ⟨x.len, x.lo, by simp only [List.length_set]; exact x.gl, by simp only; omega, by simp only; omega⟩
  · exact ⟨x.len, x.lo, x.gl, by simp only; omega, by simp only; omega⟩
open Classical in
noncomputable def drawF : List D → Wd → Fl := fun ds w => match ds with
  | [.mm, .py (.int lim)] => if 0 < lim ∧ lim < 1073741824 ∧ WOk w 1000000 then .rt (.py (.int (drawV w lim).1)) (drawV w lim).2 else .bad
  | _ => .bad
theorem draw_F {w : Wd} {lim k : Int} (h : 0 < lim) (h2 : lim < 1073741824) (x : WOk w k) (hk : k ≤ 1000000) : ∃ v w', drawF [.mm, .py (.int lim)] w = .rt (.py (.int v)) w' ∧ 0 ≤ v ∧ v < lim ∧ WOk w' (k + 1) := by
  refine ⟨(drawV w lim).1, (drawV w lim).2, ?_, (draw_lo h).1, (draw_lo h).2, draw_ok x⟩
  unfold drawF
  simp only
  rw [if_pos ⟨h, h2, x.len, x.lo, x.gl, x.s0, by have := x.sk; omega⟩]
theorem mix_lo (c n : Int) : 0 ≤ mixW c n ∧ mixW c n < 2147483629 := by
  unfold mixW
  have h1 := Int.emod_nonneg ((c * (1 + 2 * n) * 48271 % 2147483647 + 7919 * n * n + 104729 * n) * 69621) (show (2147483629 : Int) ≠ 0 by decide)
  have h2 := Int.emod_lt_of_pos ((c * (1 + 2 * n) * 48271 % 2147483647 + 7919 * n * n + 104729 * n) * 69621) (show (0 : Int) < 2147483629 by decide)
  omega
end Mi
namespace Mi
open PySem PySem.Spec PyProof.Rows L2
section
variable {X : Cx} {n : Nat} {ps : List Str} {sp : Sp} {x : Str} {p pos : Pos} {e : Expr} {es : List Expr} {t : TA}
theorem pe_H (h : Has X.prog X.w X.K X.mg X.base x n ps sp) (hr : Room n X.A) (hu : X.A.guards = some []) {W : WX} (tk : Takes X W)
    (ha : PA X (e :: es) t) (hg : Gl X x := by rfl) (hdb : (x == ("__debug__" : Str)) = false := by decide) (he : starEach (e :: es) X.env = (false, eval e X.env) :: starEach es X.env := by rfl) (hpl : (backTo pos (starEach es X.env)).any (·.1) = false := by rfl) :
    PE X (.Call (.Name x p) (e :: es) [] pos) (tG W sp t) := by
  obtain ⟨fa, fd, F, hm, hk, hb⟩ := h
  exact pe_g F hr hu hm hk hb tk ha hg hdb he hpl
end
section
variable {wa : WA} {Fr G H : Hp} {w : Wd}
theorem key_spot : valV (wdPairs wa w) (.inr "spot") = some (.int w.spot) := by
  unfold wdPairs
  rw [valV_neg (fun z => by cases z), valV_neg (fun z => by cases z), valV_pos rfl]
theorem key_great : valV (wdPairs wa w) (.inr "great") = some (.ref wa.g) := by
  unfold wdPairs
  rw [valV_neg (fun z => by cases z), valV_pos rfl]
theorem key_cells : valV (wdPairs wa w) (.inr "cells") = some (.ref wa.c) := by
  unfold wdPairs
  rw [valV_pos rfl]
theorem WRep.mc (x : WRep wa w H) : wa.m ≠ wa.c := fun z => by
  have h1 := x.m
  have h2 := x.c
  rw [z, h2] at h1
  cases h1
theorem WRep.mg (x : WRep wa w H) : wa.m ≠ wa.g := fun z => by
  have h1 := x.m
  have h2 := x.g
  rw [z, h2] at h1
  cases h1
theorem put_spot (i : Int) : putK (wdPairs wa w) (.inr "spot") (.int i) = wdPairs wa { w with spot := i } := by
  unfold wdPairs putK
  rfl
theorem RepH.keep (x : RepH wa Fr G H w) {H' : Hp} {w' : Wd} (h : ∀ b, b ≠ wa.m → b ≠ wa.c → b ≠ wa.g → H' b = H b) (y : WRep wa w' H') : RepH wa Fr G H' w' := by
  obtain ⟨g1, g2, g3⟩ := x.nw
  obtain ⟨f1, f2, f3⟩ := x.fw
  refine ⟨fun b o e => ?_, fun b o e => ?_, x.nw, x.fw, y⟩
  · rw [h b (fun z => by rw [z, g1] at e; cases e) (fun z => by rw [z, g2] at e; cases e) (fun z => by rw [z, g3] at e; cases e)]
    exact x.sub _ _ e
  · rw [h b (fun z => by rw [z, f1] at e; cases e) (fun z => by rw [z, f2] at e; cases e) (fun z => by rw [z, f3] at e; cases e)]
    exact x.fr b o e
theorem RepH.spotPut (x : RepH wa Fr G H w) (i : Int) : RepH wa Fr G (upd H wa.m (.dK (putK (wdPairs wa w) (.inr "spot") (.int i)))) { w with spot := i } := by
  rw [put_spot]
  refine x.keep (fun b h1 _ _ => upd_ne h1) ⟨upd_same, ?_, ?_, x.wr.ne⟩
  · rw [upd_ne x.wr.mc.symm]
    exact x.wr.c
  · rw [upd_ne x.wr.mg.symm]
    exact x.wr.g
theorem RepH.greatPut (x : RepH wa Fr G H w) (us : List Int) : RepH wa Fr G (upd H wa.g (.lst (us.map V.int))) { w with great := us } := by
  refine x.keep (fun b _ _ h3 => upd_ne h3) ⟨?_, ?_, upd_same, x.wr.ne⟩
  · rw [upd_ne x.wr.mg]
    exact x.wr.m
  · rw [upd_ne x.wr.ne]
    exact x.wr.c
theorem dp_intsL {K : PySem.W.Frag} {H : Hp} {a : Addr} {ns : List Int} (h : H a = some (.lst (ns.map V.int))) : Dq K H (.ref a) (.list (ns.map PyData.int)) := .lst h (by
  clear h
  induction ns with
  | nil => exact .nil
  | cons n ns ih => exact .cons (.int n) ih)
theorem eqv_nil (ns : List Int) : PyData.eqv (.list (ns.map PyData.int)) (.list []) = decide (ns = []) := by
  cases ns with
  | nil => rfl
  | cons n ns => rfl
theorem lay_ints (ns : List Int) : PyData.canLayAll0 (ns.map PyData.int) = true := by
  induction ns with
  | nil => simp only [List.map_nil, PyData.canLayAll0]
  | cons n ns ih => simp only [List.map_cons, PyData.canLayAll0, PyData.canLay0, ih, Bool.and_self]
theorem dep_ints (ns : List Int) : PyData.depthAll (ns.map PyData.int) = 0 := by
  induction ns with
  | nil => simp only [List.map_nil, PyData.depthAll]
  | cons n ns ih => simp only [List.map_cons, PyData.depthAll, PyData.depth, ih, Nat.max_self]
theorem sh_ints (ns : List Int) : SeqAt.shaped (.list (ns.map PyData.int)) = true := by
  simp only [SeqAt.shaped, PyData.canLay0, PyData.depth, lay_ints, dep_ints, Bool.true_and]
  decide
end
section
variable {wa : WA} {Fr G H : Hp} {w : Wd}
theorem get_spot (x : WRep wa w H) : DGet H wa.m (.str "spot") (some (.int w.spot)) := by
  have z := DGet.k (k := .inr "spot") x.m
  rw [key_spot] at z
  exact z
theorem get_great (x : WRep wa w H) : DGet H wa.m (.str "great") (some (.ref wa.g)) := by
  have z := DGet.k (k := .inr "great") x.m
  rw [key_great] at z
  exact z
theorem get_cells (x : WRep wa w H) : DGet H wa.m (.str "cells") (some (.ref wa.c)) := by
  have z := DGet.k (k := .inr "cells") x.m
  rw [key_cells] at z
  exact z
theorem ixN_in {n : Nat} {i : Int} (h0 : 0 ≤ i) (h1 : i < n) : ixN n i = some i.toNat := by
  unfold ixN
  rw [if_pos h0, if_pos h1]
theorem atI_ints {ns : List Int} {i : Int} (h0 : 0 ≤ i) (h1 : i < ns.length) : atI (ns.map V.int) i = some (.int (ns.getD i.toNat 0)) := by
  unfold atI
  rw [List.length_map, ixN_in h0 h1]
  have hl : i.toNat < ns.length := by omega
  show (ns.map V.int)[i.toNat]? = _
  rw [List.getElem?_map, List.getElem?_eq_getElem hl]
  simp [List.getD, hl]
end
theorem drawF_inv {ds : List D} {w : Wd} {p : D → Wd → Prop} {pe : Str → List Str → List PyData → En → Wd → Prop} (h : match drawF ds w with | .rt d w' => p d w' | .ex c f y r w' => pe c f y r w' | _ => False) :
    ∃ lim : Int, ds = [.mm, .py (.int lim)] ∧ 0 < lim ∧ lim < 1073741824 ∧ WOk w 1000000 ∧ p (.py (.int (drawV w lim).1)) (drawV w lim).2 := by
  unfold drawF at h
  split at h
  · rename_i e
    split at e
    · rename_i lim
      split at e
      · rename_i c
        cases e
        exact ⟨lim, rfl, c.1, c.2.1, c.2.2, h⟩
      · cases e
    · cases e
  · rename_i e
    split at e
    · split at e <;> cases e
    · cases e
  · exact h.elim
theorem same_sqL {K : PySem.W.Frag} {H H' : Hp} {a : Addr} {xs : List V} (e : Same H H') (h : SqL K H a xs) : SqL K H' a xs := by
  rcases h with h | h
  · rcases h with h | ⟨o, h⟩
    · exact .inl (.inl (e _ _ h))
    · exact .inl (.inr ⟨o, e _ _ h⟩)
  · exact .inr h
def Cells (cs : List Int) : Prop := cs.length = 64 ∧ ∀ c ∈ cs, 0 ≤ c ∧ c < 2147483647
theorem Cells.set {cs : List Int} (h : Cells cs) (j : Nat) (v : Int) : Cells (cs.set j (v % 2147483647)) := by
  refine ⟨by rw [List.length_set]; exact h.1, fun c hc => ?_⟩
  rcases List.mem_or_eq_of_mem_set hc with z | z
  · exact h.2 c z
  · subst z
    exact ⟨Int.emod_nonneg _ (by decide), Int.emod_lt_of_pos _ (by decide)⟩
structure FoldI (a p : Addr) (H0 : Hp) (σ : L2.St) (H : Hp) : Prop where
  len : σ.length = 4
  s0 : σ[0]? = some (some (.ref a))
  s1 : σ[1]? = some (some (.ref p))
  sm : Same H0 H
  cs : ∃ cs : List Int, H p = some (.lst (cs.map V.int)) ∧ Cells cs
theorem same_upd {H0 H : Hp} {p : Addr} {o : HO} (h : Same H0 H) (hp : H0 p = none) : Same H0 (upd H p o) := fun b y e => by
  rw [upd_ne (ne_of_none e hp)]
  exact h b y e
/-- the slots behind the law's first statement: the draws' state at slot 1, nothing else known -/
theorem rep_law {K : PySem.W.Frag} {wa : WA} {H : Hp} {wd : Wd} (N : List Str) (v : V) (x : WRep wa wd H) (hN : 2 ≤ N.length) :
    Rep K wa (fun _ => none) (fun _ => none) ((L2.start N [v]).set 1 (some (.ref wa.m))) H ((List.replicate N.length Slot.no).set 1 (.im .mm)) wd := by
  have ls : (L2.start N [v]).length = N.length := by
    unfold L2.start
    rw [List.length_append, List.length_map, List.length_replicate]
    simp only [List.length_cons, List.length_nil]
    omega
  refine ⟨⟨fun a o e => (by cases e), fun a o e => (by cases e), ⟨rfl, rfl, rfl⟩, ⟨rfl, rfl, rfl⟩, x⟩, fun i s e => ?_, fun i j xs ys a h1 => ?_⟩
  · have hi : i < N.length := by
      have := (List.getElem?_eq_some_iff.mp e).1
      rw [List.length_set, List.length_replicate] at this
      exact this
    by_cases h1 : 1 = i
    · subst h1
      rw [List.getElem?_set_self (by rw [List.length_replicate]; exact hi)] at e
      cases e
      exact ⟨_, List.getElem?_set_self (by rw [ls]; exact hi), _, rfl, rfl⟩
    · rw [List.getElem?_set_ne h1, List.getElem?_replicate, if_pos hi] at e
      cases e
      exact ⟨_, List.getElem?_eq_getElem (by rw [List.length_set, ls]; exact hi), trivial⟩
  · by_cases hi : 1 = i
    · subst hi
      rw [List.getElem?_set_self (by
        have := (List.getElem?_eq_some_iff.mp h1).1
        rw [List.length_set] at this
        exact this)] at h1
      cases h1
    · rw [List.getElem?_set_ne hi, List.getElem?_replicate] at h1
      split at h1 <;> cases h1
def spLaw (K : PySem.W.Frag) : Sp := fun vs H Q _ => ∃ (a : Addr) (ns : List Int), vs = [.ref a] ∧ ns.length ≤ 63 ∧ SqL K H a (ns.map V.int) ∧ ∀ H', Q (.bl true) H'
/-- what is left to show of a law: its body, evaluated, tells True, whatever is drawn -/
def Tells (N : List Str) (b : S) : Prop := ∀ wd : Wd, WOk wd 0 → ∃ w', b ((List.replicate N.length Slot.no).set 1 (.im .mm)) wd = .rt (.py (.bool true)) w'
theorem rest_law {K : PySem.W.Frag} {wa : WA} {H : Hp} {wd : Wd} {N : List Str} {v : V} {b : S} {Q : VK} (t : Tells N b) (x : WRep wa wd H) (o : WOk wd 0) (hN : 2 ≤ N.length) (q : ∀ H', Q (.bl true) H') :
    tX K mg W b { nx := fun _ H' => Q .non H', rt := Q } ((L2.start N [v]).set 1 (some (.ref wa.m))) H := by
  obtain ⟨w', e⟩ := t wd o
  refine ⟨wa, _, _, _, wd, rep_law N v x hN, ?_⟩
  rw [e]
  intro u H' G' _ _ hu
  cases (show Dq K G' u (.bool true) from hu)
  exact q H'
/-- x[e], len(x), x a list of one's own: it stays one's own -/
def mIxO (i : Nat) (m : M D) : M D := fun r w => match r[i]? with
  | some (.ow _) => match m r w with
    | .ok (.py (.int k)) r1 w1 => match r1[i]? with
      | some (.ow xs) => match atI xs k with
        | some d => .ok (.py d) r1 w1
        | none => .bad
      | _ => .bad
    | .ex c f y r1 w1 => .ex c f y r1 w1
    | _ => .bad
  | _ => mOp fIx (mVar i) m r w
section
variable {X : Cx} {b : Expr} {m : M D} {pos : Pos}
theorem e_ixO (i : Nat) {x : Str} {p1 : Pos} (hb : PE X b (tM X.K X.mg W m)) (hN : X.N[i]? = some x := by rfl) (hv : Vis X.env.scope x := by first | exact Or.inl rfl | exact Or.inr (Or.inl rfl) | exact Or.inr (Or.inr rfl)) (hd : (x == ("__debug__" : Str)) = false := by decide)
    (hcd : (x == ("__classdict__" : Str)) = false := by decide) (hs : PlainIx b := by exact fun _ _ => rfl) : PE X (.Subscript (.Name x p1) b pos) (tM X.K X.mg W (mIxO i m)) := by
  refine pe_imp (pe_ix ix2 (pe_var hN hv hd hcd) hb hs) fun σ H Q h => ?_
  obtain ⟨wa, Fr, G, r, w, x0, q⟩ := h
  unfold mIxO at q
  have plain : tM X.K X.mg W (mOp fIx (mVar i) m) σ H Q → tOp (rIx2 X.K) (tVar i) (tM X.K X.mg W m) σ H Q := fun z => by
    obtain ⟨wa, Fr, G, r, w, x1, q1⟩ := m_op rel_ix z
    exact m_var ⟨wa, Fr, G, r, w, x1, q1⟩
  split at q
  · rename_i d0 r0 w0 e0
    split at e0
    · rename_i ys eo
      obtain ⟨o, f1, a, vs0, rfl, ho⟩ := x0.slot i _ eo
      refine ⟨.ref a, f1, wa, Fr, G, r, w, x0, ?_⟩
      split at e0
      · rename_i k r1 w1 e1
        rw [e1]
        intro v1 H1 G1 s1 x1 h1
        cases h1
        split at e0
        · rename_i xs e2
          split at e0
          · rename_i d e3
            cases e0
            obtain ⟨o, g1, a', vs, e4, hb⟩ := x1.slot i _ e2
            rw [f1] at g1
            cases g1
            cases e4
            obtain ⟨v, e5, hd⟩ := atI_dq hb.da e3
            exact .inl ⟨_, _, _, _, rfl, rfl, SqL.of hb.at_, e5, q v H1 G1 s1 x1 hd⟩
          · cases e0
        · cases e0
      · cases e0
      · cases e0
    · refine plain ⟨wa, Fr, G, r, w, x0, ?_⟩
      rw [e0]
      exact q
  · rename_i e0
    split at e0
    · rename_i ys eo
      obtain ⟨o, f1, a, vs0, rfl, ho⟩ := x0.slot i _ eo
      refine ⟨.ref a, f1, wa, Fr, G, r, w, x0, ?_⟩
      split at e0
      · split at e0
        · split at e0 <;> cases e0
        · cases e0
      · rename_i e1
        cases e0
        rw [e1]
        exact q
      · cases e0
    · refine plain ⟨wa, Fr, G, r, w, x0, ?_⟩
      rw [e0]
      exact q
  · exact q.elim
end
end Mi
namespace Mi
open PySem PySem.Spec PyProof.Rows L2
/-! ### comprehensions, evaluated -/
section
variable {α : Type} {asg : D → En → Option En} {mt : M Bool} {me : M D} {own : List Nat} {r : En} {w : Wd} (F : α → D)
theorem lc_over (g : α → PyData) : ∀ (xs : List α) (acc : List PyData), acc.length + xs.length ≤ 100000 → (∀ x ∈ xs, ∃ r1 r2, asg (F x) r = some r1 ∧ me r1 w = .ok (.py (g x)) r2 w ∧ noE own r2 = r) →
    lcL asg mYes me own (xs.map F) acc r w = .ok (acc ++ xs.map g) r w
  | [], acc, _, _ => by rw [List.map_nil, List.map_nil, List.append_nil]; rfl
  | x :: xs, acc, hl, h => by
    rw [List.length_cons] at hl
    obtain ⟨r1, r2, e1, e2, e3⟩ := h x (List.mem_cons_self ..)
    rw [List.map_cons]
    unfold lcL
    simp only [e1, mYes, Re.cut, Re.bind, if_true, e2]
    rw [ifC_pos (by omega), e3]
    have ih := lc_over g xs (acc ++ [g x]) (by rw [List.length_append]; simp only [List.length_cons, List.length_nil]; omega) fun y hy => h y (List.mem_cons_of_mem _ hy)
    rw [ih, List.map_cons, List.append_assoc]
    rfl
theorem lc_filt (p : α → Bool) (g : α → PyData) : ∀ (xs : List α) (acc : List PyData), acc.length + xs.length ≤ 100000 →
    (∀ x ∈ xs, ∃ r1 r2, asg (F x) r = some r1 ∧ mt r1 w = .ok (p x) r2 w ∧ (p x = false → noE own r2 = r) ∧ (p x = true → ∃ r3, me r2 w = .ok (.py (g x)) r3 w ∧ noE own r3 = r)) →
    lcL asg mt me own (xs.map F) acc r w = .ok (acc ++ (xs.filter p).map g) r w
  | [], acc, _, _ => by rw [List.map_nil, List.filter_nil, List.map_nil, List.append_nil]; rfl
  | x :: xs, acc, hl, h => by
    rw [List.length_cons] at hl
    obtain ⟨r1, r2, e1, e2, e3, e4⟩ := h x (List.mem_cons_self ..)
    rw [List.map_cons]
    unfold lcL
    simp only [e1, e2, Re.cut, Re.bind]
    cases e : p x with
    | true =>
      obtain ⟨r3, e5, e6⟩ := e4 e
      simp only [if_true, e5, Re.cut]
      rw [ifC_pos (by omega), e6]
      have ih := lc_filt p g xs (acc ++ [g x]) (by rw [List.length_append]; simp only [List.length_cons, List.length_nil]; omega) fun y hy => h y (List.mem_cons_of_mem _ hy)
      rw [ih, List.filter_cons, if_pos e, List.map_cons, List.append_assoc]
      rfl
    | false =>
      simp only [Bool.false_eq_true, if_false]
      rw [e3 e]
      have ih := lc_filt p g xs acc (by omega) fun y hy => h y (List.mem_cons_of_mem _ hy)
      rw [ih, List.filter_cons, if_neg (by rw [e]; simp)]
theorem lc_over1 (g : α → PyData) (xs : List α) (acc : List PyData) (hl : acc.length + xs.length ≤ 100000) (h : ∀ x ∈ xs, ∃ r1, asg (F x) r = some r1 ∧ me r1 w = .ok (.py (g x)) r1 w ∧ noE own r1 = r) :
    lcL asg mYes me own (xs.map F) acc r w = .ok (acc ++ xs.map g) r w := lc_over F g xs acc hl fun x hx => let ⟨r1, a, b, c⟩ := h x hx; ⟨r1, r1, a, b, c⟩
theorem lc_filt1 (p : α → Bool) (g : α → PyData) (xs : List α) (acc : List PyData) (hl : acc.length + xs.length ≤ 100000)
    (h : ∀ x ∈ xs, ∃ r1, asg (F x) r = some r1 ∧ mt r1 w = .ok (p x) r1 w ∧ me r1 w = .ok (.py (g x)) r1 w ∧ noE own r1 = r) :
    lcL asg mt me own (xs.map F) acc r w = .ok (acc ++ (xs.filter p).map g) r w := lc_filt F p g xs acc hl fun x hx => let ⟨r1, a, b, c, d⟩ := h x hx; ⟨r1, r1, a, b, fun _ => d, fun _ => ⟨r1, c, d⟩⟩
/-- each turn draws at most c times -/
theorem lc_some {P : PyData → Prop} {c K : Int} (hc : 0 ≤ c) : ∀ (xs : List α) (acc : List PyData) (k : Int) (w : Wd), acc.length + xs.length ≤ 100000 → WOk w k → k + c * xs.length ≤ K →
    (∀ x ∈ xs, ∀ (k : Int) (w : Wd), WOk w k → k + c ≤ K → ∃ r1 r2 y w', asg (F x) r = some r1 ∧ me r1 w = .ok (.py y) r2 w' ∧ noE own r2 = r ∧ P y ∧ WOk w' (k + c)) →
    ∃ ys w', lcL asg mYes me own (xs.map F) acc r w = .ok (acc ++ ys) r w' ∧ ys.length = xs.length ∧ (∀ y ∈ ys, P y) ∧ WOk w' (k + c * xs.length)
  | [], acc, k, w, _, hw, _, _ => ⟨[], w, by rw [List.map_nil, List.append_nil]; rfl, rfl, fun y h => (by cases h), by simpa using hw⟩
  | x :: xs, acc, k, w, hl, hw, hk, h => by
    rw [List.length_cons] at hl
    have ec : c * ((x :: xs).length : Int) = c + c * (xs.length : Int) := by
      rw [List.length_cons]
      push_cast
      rw [Int.mul_add, Int.mul_one, Int.add_comm]
    have hx : 0 ≤ c * (xs.length : Int) := Int.mul_nonneg hc (by omega)
    rw [ec] at hk
    obtain ⟨r1, r2, y, w1, e1, e2, e3, hy, hw1⟩ := h x (List.mem_cons_self ..) k w hw (by omega)
    obtain ⟨ys, w2, f1, f2, f3, f4⟩ := lc_some hc xs (acc ++ [y]) (k + c) w1 (by rw [List.length_append]; simp only [List.length_cons, List.length_nil]; omega) hw1 (by omega) fun z hz => h z (List.mem_cons_of_mem _ hz)
    refine ⟨y :: ys, w2, ?_, by rw [List.length_cons, List.length_cons, f2], fun z hz => ?_, by rw [ec, ← Int.add_assoc]; exact f4⟩
    · rw [List.map_cons]
      unfold lcL
      simp only [e1, mYes, Re.cut, Re.bind, if_true, e2]
      rw [ifC_pos (by omega), e3, f1, List.append_assoc]
      rfl
    · rcases List.mem_cons.mp hz with z1 | z1
      · rw [z1]
        exact hy
      · exact f3 z z1
end
/-! ### loops, evaluated -/
theorem forL_inv {asg : D → En → Option En} {body : S} (I : Nat → En → Wd → Prop) : ∀ (ds : List D) (n : Nat) (r : En) (w : Wd), I n r w →
    (∀ i d r w, ds[i]? = some d → I (n + i) r w → ∃ r1 r2 w2, asg d r = some r1 ∧ body r1 w = .nx r2 w2 ∧ I (n + i + 1) r2 w2) → ∃ r' w', forL asg body ds r w = .nx r' w' ∧ I (n + ds.length) r' w'
  | [], n, r, w, h0, _ => ⟨r, w, rfl, h0⟩
  | d :: ds, n, r, w, h0, h => by
    obtain ⟨r1, r2, w2, e1, e2, h2⟩ := h 0 d r w rfl h0
    obtain ⟨r', w', e3, h3⟩ := forL_inv I ds (n + 1) r2 w2 h2 fun i d r w hi hI => by
      obtain ⟨a, b, c, f1, f2, f3⟩ := h (i + 1) d r w (by rw [List.getElem?_cons_succ]; exact hi) (by rw [show n + (i + 1) = n + 1 + i by omega]; exact hI)
      exact ⟨a, b, c, f1, f2, by rw [show n + 1 + i + 1 = n + (i + 1) + 1 by omega]; exact f3⟩
    refine ⟨r', w', ?_, by rw [List.length_cons, show n + (ds.length + 1) = n + 1 + ds.length by omega]; exact h3⟩
    unfold forL
    simp only [e1, e2]
    exact e3
theorem forL_ret {asg : D → En → Option En} {body : S} (I : Nat → En → Wd → Prop) (P : D → Wd → Prop) : ∀ (ds : List D) (n : Nat) (r : En) (w : Wd), I n r w →
    (∀ i d r w, ds[i]? = some d → I (n + i) r w → ∃ r1, asg d r = some r1 ∧ ((∃ r2 w2, body r1 w = .nx r2 w2 ∧ I (n + i + 1) r2 w2) ∨ ∃ v w2, body r1 w = .rt v w2 ∧ P v w2)) →
    (∃ r' w', forL asg body ds r w = .nx r' w' ∧ I (n + ds.length) r' w') ∨ ∃ v w', forL asg body ds r w = .rt v w' ∧ P v w'
  | [], n, r, w, h0, _ => .inl ⟨r, w, rfl, h0⟩
  | d :: ds, n, r, w, h0, h => by
    obtain ⟨r1, e1, h1⟩ := h 0 d r w rfl h0
    rcases h1 with ⟨r2, w2, e2, h2⟩ | ⟨v, w2, e2, h2⟩
    · rcases forL_ret I P ds (n + 1) r2 w2 h2 (fun i d r w hi hI => by
        obtain ⟨a, f1, f2⟩ := h (i + 1) d r w (by rw [List.getElem?_cons_succ]; exact hi) (by rw [show n + (i + 1) = n + 1 + i by omega]; exact hI)
        refine ⟨a, f1, ?_⟩
        rw [show n + 1 + i + 1 = n + (i + 1) + 1 by omega]
        exact f2) with ⟨r', w', e3, h3⟩ | ⟨v, w', e3, h3⟩
      · refine .inl ⟨r', w', ?_, by rw [List.length_cons, show n + (ds.length + 1) = n + 1 + ds.length by omega]; exact h3⟩
        unfold forL
        simp only [e1, e2]
        exact e3
      · refine .inr ⟨v, w', ?_, h3⟩
        unfold forL
        simp only [e1, e2]
        exact e3
    · refine .inr ⟨v, w2, ?_, h2⟩
      unfold forL
      simp only [e1, e2]
/-! ### rows -/
abbrev Bk := List Int × Int
def tI (ms : List Int) : PyData := .tuple (ms.map PyData.int)
def bD (b : Bk) : PyData := .tuple [tI b.1, .int b.2]
def rD (r : List Bk) : PyData := .tuple (r.map bD)
structure BOk (b : Bk) : Prop where
  l1 : 1 ≤ b.1.length
  l2 : b.1.length ≤ 60
  mks : ∀ c ∈ b.1, 0 ≤ c ∧ c ≤ 3
  t1 : 1 ≤ b.2
  t2 : b.2 ≤ 1000000000000000000000000000000
def ROk (r : List Bk) : Prop := r.length ≤ 60 ∧ ∀ b ∈ r, BOk b
def szB (b : Bk) : Int := b.1.length * b.2
def sz (r : List Bk) : Int := (r.map szB).sum
def ct (ms : List Int) (m : Int) : Int := ms.count m
/-- how many of a block's first h entries have the mark -/
def cB (b : Bk) (m h : Int) : Int := h / b.1.length * ct b.1 m + ct (b.1.take (h % b.1.length).toNat) m
def clip (h s : Int) : Int := if h ≤ 0 then 0 else if h < s then h else s
/-- how many of a row's first p entries have the mark -/
def cR : List Bk → Int → Int → Int
  | [], _, _ => 0
  | b :: r, m, p => cB b m (clip p (szB b)) + cR r m (p - szB b)
theorem sum_int (ns : List Int) : (ns.map PyData.int) = ns.map PyData.int := rfl
theorem ints_mapped {α : Type} (xs : List α) (f : α → Int) : intsOf (xs.map fun x => PyData.int (f x)) = some (xs.map f) := by
  have e : (xs.map fun x => PyData.int (f x)) = (xs.map f).map PyData.int := by rw [List.map_map]; rfl
  rw [e, ints_of]
theorem ct_le (ms : List Int) (m : Int) : 0 ≤ ct ms m ∧ ct ms m ≤ ms.length := ⟨by unfold ct; omega, by unfold ct; have := List.count_le_length (a := m) (l := ms); omega⟩
theorem cB_zero (b : Bk) (m : Int) : cB b m 0 = 0 := by
  unfold cB ct
  simp
theorem cB_full {b : Bk} (h : BOk b) (m : Int) : cB b m (szB b) = ct b.1 m * b.2 := by
  have := h.l1
  unfold cB szB
  rw [Int.mul_ediv_cancel_left _ (by omega), Int.mul_emod_right]
  unfold ct
  simp [Int.mul_comm]
theorem szB_pos {b : Bk} (h : BOk b) : 0 < szB b := by
  unfold szB
  have h1 := h.l1
  have h2 := h.t1
  exact Int.mul_pos (by omega) (by omega)
theorem sz_cons (b : Bk) (r : List Bk) : sz (b :: r) = szB b + sz r := by
  unfold sz
  rw [List.map_cons, List.sum_cons]
theorem sz_nn {r : List Bk} (h : ∀ b ∈ r, BOk b) : 0 ≤ sz r := by
  induction r with
  | nil => unfold sz; simp
  | cons b r ih =>
    rw [sz_cons]
    have h1 := szB_pos (h b (List.mem_cons_self ..))
    have h2 := ih fun c hc => h c (List.mem_cons_of_mem _ hc)
    omega
theorem cR_zero {r : List Bk} (h : ∀ b ∈ r, BOk b) (m p : Int) (hp : p ≤ 0) : cR r m p = 0 := by
  induction r generalizing p with
  | nil => rfl
  | cons b r ih =>
    unfold cR
    have h1 := szB_pos (h b (List.mem_cons_self ..))
    have e : clip p (szB b) = 0 := by unfold clip; rw [if_pos hp]
    rw [e, cB_zero, ih (fun c hc => h c (List.mem_cons_of_mem _ hc)) _ (by omega)]
    rfl
def tot (r : List Bk) (m : Int) : Int := (r.map fun b => ct b.1 m * b.2).sum
theorem tot_cons (b : Bk) (r : List Bk) (m : Int) : tot (b :: r) m = ct b.1 m * b.2 + tot r m := by
  unfold tot
  rw [List.map_cons, List.sum_cons]
theorem cR_full {r : List Bk} (h : ∀ b ∈ r, BOk b) (m : Int) : cR r m (sz r) = tot r m := by
  induction r with
  | nil => rfl
  | cons b r ih =>
    have h1 := szB_pos (h b (List.mem_cons_self ..))
    have h2 := sz_nn fun c hc => h c (List.mem_cons_of_mem _ hc)
    unfold cR
    rw [sz_cons, tot_cons]
    have e : clip (szB b + sz r) (szB b) = szB b := by
      unfold clip
      rw [if_neg (by omega), if_neg (by omega)]
    have e2 : szB b + sz r - szB b = sz r := by omega
    rw [e, cB_full (h b (List.mem_cons_self ..)), e2, ih fun c hc => h c (List.mem_cons_of_mem _ hc)]
theorem tot_nn {r : List Bk} (h : ∀ b ∈ r, BOk b) (m : Int) : 0 ≤ tot r m := by
  induction r with
  | nil => unfold tot; simp
  | cons b r ih =>
    rw [tot_cons]
    have h1 := (ct_le b.1 m).1
    have h2 := (h b (List.mem_cons_self ..)).t1
    have h3 := ih fun c hc => h c (List.mem_cons_of_mem _ hc)
    have h4 := Int.mul_nonneg h1 (show (0 : Int) ≤ b.2 by omega)
    omega
/-! ### parts of marks -/
theorem sIx_int (n d : Nat) {v : Int} (h : 0 ≤ v) : HT.sIx n d (some v) = min v.toNat n := by
  unfold HT.sIx
  simp only
  rw [if_neg (by omega)]
theorem cut_0 {ms : List Int} {p : Int} (h : 0 ≤ p) : cutD (ms.map PyData.int) (some 0) (some p) = (ms.take p.toNat).map PyData.int := by
  unfold cutD
  rw [sIx_int _ _ (Int.le_refl 0), sIx_int _ _ h, List.length_map]
  simp only [Int.toNat_zero, Nat.zero_min, List.drop_zero, Nat.sub_zero, List.map_take]
  rw [List.take_eq_take_iff, List.length_map]
  omega
theorem cut_n {ms : List Int} {p : Int} (h : 0 ≤ p) : cutD (ms.map PyData.int) none (some p) = (ms.take p.toNat).map PyData.int := by
  have e : cutD (ms.map PyData.int) none (some p) = cutD (ms.map PyData.int) (some 0) (some p) := by
    unfold cutD
    rw [sIx_int _ _ (Int.le_refl 0), HT.sIx_none]
    simp
  rw [e, cut_0 h]
theorem eq_FI (i j : Int) : fEq (.py (.int i)) (.py (.int j)) = some (.py (.bool (decide (i = j)))) := by
  have h : ∀ k : Int, SeqAt.shaped (.int k) = true := fun k => by
    simp only [SeqAt.shaped, PyData.canLay0, PyData.depth, Bool.true_and]
    rfl
  unfold fEq
  simp only [ifC_pos (And.intro (h i) (h j)), PyData.eqv]
  rfl
end Mi
namespace Mi
open PySem PySem.Spec PyProof.Rows L2
/-! ### how long a thing is when shown -/
def TxOk (n : Nat) (s : Str) : Prop := s.length ≤ n ∧ PyData.strOk s = true
theorem TxOk.app {n m : Nat} {s t : Str} (h : TxOk n s) (h2 : TxOk m t) : TxOk (n + m) (s ++ t) := by
  refine ⟨by rw [strLen_append]; have := h.1; have := h2.1; omega, ?_⟩
  have a := h.2
  have b := h2.2
  unfold PyData.strOk at a b ⊢
  show (s.cps ++ t.cps).all _ = true
  rw [Array.all_append, a, b]
  rfl
theorem TxOk.le {n m : Nat} {s : Str} (h : TxOk n s) (l : n ≤ m) : TxOk m s := ⟨Nat.le_trans h.1 l, h.2⟩
theorem txOk_of (s : String) {n : Nat} (h : (Str.ofString s).length ≤ n) : TxOk n (Str.ofString s) := by
  refine ⟨h, ?_⟩
  rw [Str.ofString_eq_toList]
  unfold PyData.strOk
  rw [← Array.all_toList]
  refine List.all_eq_true.mpr fun c hc => ?_
  obtain ⟨ch, _, rfl⟩ := List.mem_map.mp hc
  refine decide_eq_true ?_
  have v := ch.valid
  unfold UInt32.isValidChar Nat.isValidChar at v
  show ch.val.toNat < _
  omega
inductive TxAll : List Nat → List Str → Prop
  | nil : TxAll [] []
  | cons {m : Nat} {t : Str} {ms : List Nat} {ts : List Str} : TxOk m t → TxAll ms ts → TxAll (m :: ms) (t :: ts)
theorem textFrom_ok : ∀ (ts : List Str) (ns : List Nat) (k n : Nat) (acc : Str), TxOk n acc → TxAll ns ts → TxOk (n + (ns.map (· + 2)).sum) (textFrom k acc ts)
  | [], _, k, n, acc, h, f => by
    cases f
    exact h
  | t :: ts, _, k, n, acc, h, f => by
    cases f with
    | @cons m t ms ts h1 h2 =>
      have a : TxOk (n + 2 + m) (acc ++ (if k > 0 then ", " else "" : String) ++ t) := by
        refine (h.app ?_).app h1
        split
        · exact txOk_of ", " (by decide)
        · exact txOk_of "" (by decide)
      have z := textFrom_ok ts ms (k + 1) _ _ a h2
      rw [List.map_cons, List.sum_cons]
      unfold textFrom
      exact z.le (by omega)
theorem listText_ok {ts : List Str} {ns : List Nat} (f : TxAll ns ts) : TxOk ((ns.map (· + 2)).sum + 2) (listText ts) := by
  unfold listText
  exact ((textFrom_ok ts ns 0 1 "[" (txOk_of "[" (by decide)) f).app (txOk_of "]" (n := 1) (by decide))).le (by omega)
theorem join_ok : ∀ {ts : List Str} {ns : List Nat}, TxAll ns ts → TxOk ((ns.map (· + 2)).sum) (Str.join ", " ts)
  | _, _, .nil => txOk_of "" (by decide)
  | _, _, @TxAll.cons m t _ _ h .nil => h.le (by simp)
  | _, _, @TxAll.cons m t _ _ h (@TxAll.cons m2 t2 ms ts h2 f) => by
    have z := join_ok (.cons h2 f)
    show TxOk _ (t ++ ", " ++ Str.join ", " (t2 :: ts))
    rw [List.map_cons, List.sum_cons]
    exact (((h.app (txOk_of ", " (n := 2) (by decide))).app z)).le (by omega)
theorem tupleText_ok {ts : List Str} {ns : List Nat} (f : TxAll ns ts) : TxOk ((ns.map (· + 2)).sum + 3) (tupleText ts) := by
  unfold tupleText
  refine (((txOk_of "(" (n := 1) (by decide)).app (join_ok f)).app (m := 2) ?_).le (by omega)
  split
  · exact txOk_of ",)" (by decide)
  · exact txOk_of ")" (by decide)
mutual
def good (k : Nat) : PyData → Prop
  | .none => True
  | .bool _ => True
  | .int i => i.natAbs < 10 ^ k
  | .str s => TxOk 2000 (reprText s)
  | .list xs => goodAll k xs
  | .tuple xs => goodAll k xs
  | .dict _ => False
def goodAll (k : Nat) : List PyData → Prop
  | [] => True
  | x :: xs => good k x ∧ goodAll k xs
end
mutual
def cost (k : Nat) : PyData → Nat
  | .none => 5
  | .bool _ => 5
  | .int _ => k + 1
  | .str _ => 2000
  | .list xs => costAll k xs + 3
  | .tuple xs => costAll k xs + 3
  | .dict _ => 0
def costAll (k : Nat) : List PyData → Nat
  | [] => 0
  | x :: xs => cost k x + 2 + costAll k xs
end
mutual
def costs (k : Nat) : List PyData → List Nat
  | [] => []
  | x :: xs => cost k x :: costs k xs
end
theorem costs_sum (k : Nat) : ∀ xs : List PyData, ((costs k xs).map (· + 2)).sum = costAll k xs
  | [] => by unfold costs costAll; rfl
  | x :: xs => by
    unfold costs costAll
    rw [List.map_cons, List.sum_cons, costs_sum k xs]
theorem int_ok {k : Nat} (hk : 0 < k) {i : Int} (h : i.natAbs < 10 ^ k) : TxOk (k + 1) (Str.ofString (toString i)) := by
  refine txOk_of _ ?_
  have z := PySem.int_text_length_le10 hk h
  rw [Str.ofString_eq_toList]
  show (List.toArray _).size ≤ _
  rw [List.size_toArray, List.length_map]
  exact z
mutual
theorem shown_ok {k : Nat} (hk : 0 < k) : ∀ d : PyData, good k d → TxOk (cost k d) d.shown
  | .none, _ => by unfold PyData.shown cost; exact txOk_of "None" (by decide)
  | .bool b, _ => by
    unfold PyData.shown cost
    cases b
    · exact txOk_of "False" (by decide)
    · exact txOk_of "True" (by decide)
  | .int i, h => by
    unfold good at h
    unfold PyData.shown cost
    exact int_ok hk h
  | .str s, h => by
    unfold good at h
    unfold PyData.shown cost
    exact h
  | .list xs, h => by
    unfold good at h
    unfold PyData.shown cost
    have z := listText_ok (shownAll_ok hk xs h)
    rw [costs_sum] at z
    exact z.le (by omega)
  | .tuple xs, h => by
    unfold good at h
    unfold PyData.shown cost
    have z := tupleText_ok (shownAll_ok hk xs h)
    rw [costs_sum] at z
    exact z
  | .dict _, h => by unfold good at h; exact h.elim
theorem shownAll_ok {k : Nat} (hk : 0 < k) : ∀ xs : List PyData, goodAll k xs → TxAll (costs k xs) (PyData.shownAll xs)
  | [], _ => by unfold costs PyData.shownAll; exact .nil
  | x :: xs, h => by
    unfold goodAll at h
    unfold costs PyData.shownAll
    exact .cons (shown_ok hk x h.1) (shownAll_ok hk xs h.2)
end
mutual
theorem showable_ok {k : Nat} (hk : k ≤ 500) : ∀ d : PyData, good k d → d.showable = true
  | .none, _ => by unfold PyData.showable; rfl
  | .bool b, _ => by unfold PyData.showable; rfl
  | .int i, h => by
    unfold good at h
    unfold PyData.showable
    refine decide_eq_true ?_
    by_cases e : i.natAbs = 0
    · rw [e]; decide
    · refine (Nat.log2_lt e).mpr (Nat.lt_of_lt_of_le h ?_)
      calc 10 ^ k ≤ 10 ^ 500 := Nat.pow_le_pow_right (by decide) hk
        _ ≤ 2 ^ 1920 := by decide +kernel
  | .str _, h => by unfold PyData.showable; rfl
  | .list xs, h => by
    unfold good at h
    unfold PyData.showable
    exact showableAll_ok hk xs h
  | .tuple xs, h => by
    unfold good at h
    unfold PyData.showable
    exact showableAll_ok hk xs h
  | .dict _, h => by unfold good at h; exact h.elim
theorem showableAll_ok {k : Nat} (hk : k ≤ 500) : ∀ xs : List PyData, goodAll k xs → PyData.showableAll xs = true
  | [], _ => by unfold PyData.showableAll; rfl
  | x :: xs, h => by
    unfold goodAll at h
    unfold PyData.showableAll
    rw [showable_ok hk x h.1, showableAll_ok hk xs h.2]
    rfl
end
theorem repr_F {k : Nat} (h0 : 0 < k) (hk : k ≤ 500) {d : PyData} (h : good k d) (hd : d.depth ≤ 60) (hc : cost k d ≤ 1000000) : fRepr [.py d] = some (.py (.str d.shown)) := by
  unfold fRepr
  simp only
  rw [ifC_pos ⟨showable_ok hk d h, hd, Nat.le_trans (shown_ok h0 d h).1 hc⟩]
theorem eq_FS {s : Str} {n : Nat} (h : TxOk n s) : fEq (.py (.str s)) (.py (.str s)) = some (.py (.bool true)) := by
  have e : SeqAt.shaped (.str s) = true := by
    simp only [SeqAt.shaped, PyData.canLay0, PyData.depth, h.2, Bool.true_and]
    rfl
  unfold fEq
  simp only [ifC_pos (And.intro e e), PyData.eqv]
  rw [beq_self_eq_true]
end Mi
namespace Mi
open PySem PySem.Spec PyProof.Rows L2
/-! ### an error of the program: made, raised -/
/-- what its __init__ does: one field -/
def spI1 (K : PySem.W.Frag) (f : Str) : Sp := fun vs H Q _ => ∃ (a C : Addr) (v : V), vs = [.ref a, v] ∧ OexC K C ∧ PySem.W.findIn K (.ref C) f = some none ∧ H a = some (exo a C none) ∧
  ∀ dx, H dx = none → dx ≠ a → Q .non (upd (upd H dx (exd dx [(f, v)])) a (exo a C (some dx)))
/-- two fields -/
def spI2 (K : PySem.W.Frag) (f g : Str) : Sp := fun vs H Q _ => ∃ (a C : Addr) (v u : V), vs = [.ref a, v, u] ∧ OexC K C ∧ PySem.W.findIn K (.ref C) f = some none ∧ PySem.W.findIn K (.ref C) g = some none ∧ H a = some (exo a C none) ∧
  ∀ dx H', H dx = none → dx ≠ a → (∀ b, b ≠ dx → b ≠ a → H' b = H b) → H' a = some (exo a C (some dx)) → H' dx = some (exd dx [(g, u), (f, v)]) → Q .non H'
structure Err1 (P : Program) (w : World) (K : PySem.W.Frag) (mg : Str → Option Value) (base : Heap) (c f : Str) (C fI : Addr) (fd : FuncData) (ps : List Str) : Prop where
  gC : mg c = some (.ref C)
  T : OexC K C
  iC : PySem.W.findIn K (.ref C) "__init__" = some (some (.ref fI))
  tI : PySem.W.typeIn K (.ref fI) = some (.type "function")
  noF : PySem.W.findIn K (.ref C) f = some none
  F : FnOk P w K mg base CX0 1 fI fd ps (spI1 K f)
  hb : Binds K fd ps []
def sRaise (c : Str) (f : List Str) (m : M D) : S := fun r w => match m r w with
  | .ok (.py y) r1 w1 => .ex c f [y] r1 w1
  | .ex c' f' y r1 w1 => .ex c' f' y r1 w1
  | _ => .bad
section
variable {X : Cx} {e : Expr} {m : M D} {c f : Str} {C fI : Addr} {fd : FuncData} {ps : List Str} {p p2 p3 : Pos}
theorem made_is {H1 : Hp} {a dx : Addr} {o o' o2 o3 : HO} (ha : H1 a = none) (hd : dx ≠ a) : upd (del (upd (upd (upd H1 a o) dx o') a o2) a) dx o3 = upd H1 dx o3 := by
  funext b
  by_cases h1 : b = dx
  · subst h1
    rw [upd_same, upd_same]
  · rw [upd_ne h1, upd_ne h1]
    by_cases h2 : b = a
    · subst h2
      rw [del_same, ha]
    · rw [del_ne h2, upd_ne h2, upd_ne h1, upd_ne h2]
theorem s_raise1 (hc : X.calm = true) (T : Err1 X.prog X.w X.K X.mg X.base c f C fI fd ps) (hr : Room 2 X.A) {W : WX} (tk : Takes X W) (he : PE X e (tM X.K X.mg W m)) (hg : Gl X c := by rfl) (hdb : (c == ("__debug__" : Str)) = false := by decide)
    (hs : starEach (e :: []) X.env = (false, eval e X.env) :: starEach [] X.env := by rfl) (hpl : (backTo p2 (starEach [] X.env)).any (·.1) = false := by rfl) :
    PS X (.Raise (some (.Call (.Name c p) [e] [] p2)) none p3) (tX X.K X.mg W (sRaise c [f] m)) := by
  refine ps_imp (ps_raise hc tk (pmk_oex T.T T.iC T.tI T.F hr T.hb .nil pass0 hg T.gC (pa_cons he pa_nil hs) hdb hs hpl)) fun Dn σ H h => ?_
  obtain ⟨wa, Fr, G, r, w, x, q⟩ := tX_after h
  unfold sRaise at q
  refine ⟨wa, Fr, G, r, w, x, ?_⟩
  cases e1 : m r w with
  | bad => simp only [e1] at q; exact False.elim q
  | ex c' f' y r1 w1 => simp only [e1] at q; exact ExSt.at q
  | ok d r1 w1 =>
    simp only [e1] at q
    cases d with
    | mm => exact False.elim q
    | wt _ => exact False.elim q
    | py y =>
      intro v H1 G1 s1 x1 h1
      refine ⟨(show 1 ≤ 1000 by decide), fun a ha => ⟨a, C, v, rfl, T.T, T.noF, upd_same, fun dx hdx na => ⟨rfl, dx, [(f, v)], ?_, ?_, ?_, ?_⟩⟩⟩
      · exact upd_same
      · rw [upd_ne na, upd_same]
      · rw [upd_ne na] at hdx
        exact hdx
      · have hd1 : H1 dx = none := by rw [upd_ne na] at hdx; exact hdx
        rw [made_is ha na]
        have sm := same_new (o := .xd [(f, v)]) (x1.h.gnone hd1)
        refine ExSt.at (σ := σ) q _ _ _ _ (s1.trans sm) (x1.alloc hd1 _) ⟨C, dx, [v], rfl, T.gC, rfl, upd_same, .cons (dp_mono sm _ _ h1) .nil, rfl⟩
end
/-! ### its __init__ -/
section
variable {P : Program} {w : World} {K : PySem.W.Frag} {mg : Str → Option Value} {base : Heap}
theorem pure_I1 {f : Str} {vs : List V} {H : Hp} {Q : VK} {E : XK} {N : List Str} (hN : N.length = 2) (h : spI1 K f vs H Q E) : tOst K f (tVar 0) (tVar 1) { nx := fun _ H' => Q .non H', rt := Q } (L2.start N vs) H := by
  obtain ⟨a, C, v, rfl, T, no, ha, q⟩ := h
  have e0 : (L2.start N [.ref a, v])[0]? = some (some (.ref a)) := rfl
  have e1 : (L2.start N [.ref a, v])[1]? = some (some v) := rfl
  exact ⟨v, e1, .ref a, e0, a, C, rfl, T, no, .inl ⟨ha, fun dx h1 h2 => q dx h1 h2⟩⟩
end
/-! ### what the head asks of an error class -/
def oexB (K : PySem.W.Frag) (C : Addr) : Bool := (match K.lookup C with
  | some ⟨.type "type", _, .cls kd, slt⟩ => (match kd.mro, slt.toList with
    | .ref D0 :: tl, [_, _, _, _, some (.builtin nw), _] => decide (D0 = C) && (decide (nw = "ValueError.__new__") && (!kd.hasDel && (PySem.HandSPX.refsVE tl && kd.hasDict)))
    | _, _ => false)
  | _ => false) && (decide (PySem.W.findIn K (.ref C) "__setattr__" = some (some (.builtin "object.__setattr__"))) && (decide (PySem.W.subIn K (.ref C) (.type "BaseException") = some true) && (decide (PySem.W.typeIn K (.ref C) = some (.type "type")) && PySem.W.keepIn K (.ref C))))
theorem oexB_ok {K : PySem.W.Frag} {C : Addr} (hyp : oexB K C = true) : OexC K C := by
  unfold oexB at hyp
  obtain ⟨z1, z⟩ := Bool.and_eq_true_iff.mp hyp
  obtain ⟨z2, z⟩ := Bool.and_eq_true_iff.mp z
  obtain ⟨z3, z⟩ := Bool.and_eq_true_iff.mp z
  obtain ⟨z4, z5⟩ := Bool.and_eq_true_iff.mp z
  refine ⟨?_, of_decide_eq_true z2, of_decide_eq_true z3, of_decide_eq_true z4, z5⟩
  split at z1
  · rename_i di kd slt look
    split at z1
    · rename_i D0 tl a0 a1 a2 a3 nw a5 emro eslt
      obtain ⟨y1, y⟩ := Bool.and_eq_true_iff.mp z1
      obtain ⟨y2, y⟩ := Bool.and_eq_true_iff.mp y
      obtain ⟨y3, y⟩ := Bool.and_eq_true_iff.mp y
      obtain ⟨y4, y5⟩ := Bool.and_eq_true_iff.mp y
      have y1 := of_decide_eq_true y1
      have y2 := of_decide_eq_true y2
      have w3 : kd.hasDel = false := by
        revert y3
        cases kd.hasDel <;> simp
      subst y1 y2
      obtain ⟨nm, bs, mr, nsp, qn, hdc, sn, sub, ab, col, dl⟩ := kd
      simp only at emro w3 y5
      subst emro w3 y5
      obtain ⟨lst⟩ := slt
      simp only at eslt
      subst eslt
      exact ⟨nm, qn, nsp, bs, tl, sn, sub, ab, col, di, a0, a1, a2, a3, a5, look, y4⟩
    · cases z1
  · cases z1
end Mi
namespace Mi
open PySem PySem.Spec PyProof.Rows L2
theorem Rep.setAny {K : PySem.W.Frag} {wa : WA} {Fr G H : Hp} {σ : L2.St} {r : En} {w : Wd} (x : Rep K wa Fr G σ H r w) (i : Nat) (o : Option V) : Rep K wa Fr G (σ.set i o) H (r.set i .no) w := by
  have back : ∀ {j : Nat} {ys : List PyData}, (r.set i .no)[j]? = some (.ow ys) → i ≠ j ∧ r[j]? = some (.ow ys) := fun {j ys} e => by
    by_cases hj : i = j
    · subst hj
      have hl : i < r.length := by
        have := (List.getElem?_eq_some_iff.mp e).1
        rw [List.length_set] at this
        exact this
      rw [List.getElem?_set_self hl] at e
      cases e
    · rw [List.getElem?_set_ne hj] at e
      exact ⟨hj, e⟩
  refine ⟨x.h, fun j s e => ?_, fun j k xs ys a h1 h2 h3 h4 => ?_⟩
  · by_cases hj : i = j
    · subst hj
      have hl : i < r.length := by
        have := (List.getElem?_eq_some_iff.mp e).1
        rw [List.length_set] at this
        exact this
      rw [List.getElem?_set_self hl] at e
      cases e
      obtain ⟨p, e1, _⟩ := x.slot i _ (List.getElem?_eq_getElem hl)
      exact ⟨o, List.getElem?_set_self (List.getElem?_eq_some_iff.mp e1).1, trivial⟩
    · rw [List.getElem?_set_ne hj] at e
      rw [List.getElem?_set_ne hj]
      exact x.slot j s e
  · obtain ⟨n1, g1⟩ := back h1
    obtain ⟨n2, g2⟩ := back h2
    rw [List.getElem?_set_ne n1] at h3
    rw [List.getElem?_set_ne n2] at h4
    exact x.inj j k xs ys a g1 g2 h3 h4
theorem ExcAt.mono {K : PySem.W.Frag} {mg : Str → Option Value} {G G' : Hp} {cls : Value} {d : Option Addr} {c : Str} {f : List Str} {y : List PyData} (h : ExcAt K mg G cls d c f y) (s : Same G G') : ExcAt K mg G' cls d c f y := by
  obtain ⟨C, dd, vs, e1, e2, e3, e4, e5, e6⟩ := h
  exact ⟨C, dd, vs, e1, e2, e3, s _ _ e4, dps_mono s _ _ e5, e6⟩
/-! ### what is told in an except suite, by the fields of the error -/
abbrev U := List Str → List PyData → Option D
def tU (K : PySem.W.Frag) (mg : Str → Option Value) (a : Addr) (cls : Value) (d : Option Addr) (c : Str) (i : Nat) (u : U) : TE := fun σ H Q => ∃ wa Fr G f y r w, Rep K wa Fr G σ H r w ∧ σ[i]? = some (some (.ref a)) ∧ ExcAt K mg G cls d c f y ∧ match u f y with
  | some z => ∀ v H' G', Same G G' → Rep K wa Fr G' σ H' r w → Rv K wa G' v z → Q v H'
  | none => False
def tUs (K : PySem.W.Frag) (mg : Str → Option Value) (a : Addr) (cls : Value) (d : Option Addr) (c : Str) (i : Nat) (u : List Str → List PyData → Option (List D)) : TA := fun σ H Q => ∃ wa Fr G f y r w, Rep K wa Fr G σ H r w ∧ σ[i]? = some (some (.ref a)) ∧ ExcAt K mg G cls d c f y ∧ match u f y with
  | some z => ∀ vs H' G', Same G G' → Rep K wa Fr G' σ H' r w → RvAll K wa G' vs z → Q vs H'
  | none => False
def uC (z : PyData) : U := fun _ _ => some (.py z)
def uFld (n : Str) : U := fun f y => ((f.zip y).lookup n).map D.py
def uNil : List Str → List PyData → Option (List D) := fun _ _ => some []
def uCons (u : U) (us : List Str → List PyData → Option (List D)) : List Str → List PyData → Option (List D) := fun f y => match u f y, us f y with
  | some z, some zs => some (z :: zs)
  | _, _ => none
def uTup (us : List Str → List PyData → Option (List D)) : U := fun f y => match us f y with
  | some zs => match pys zs with
    | some xs => ifC (xs.length ≤ 100000) (some (.py (.tuple xs))) none
    | none => none
  | none => none
def uRepr (u : U) : U := fun f y => match u f y with
  | some z => fRepr [z]
  | none => none
section
variable {Y : Cx} {K : PySem.W.Frag} {mg : Str → Option Value} {a : Addr} {cls : Value} {d : Option Addr} {c : Str} {i : Nat} {u : U} {us : List Str → List PyData → Option (List D)} {e : Expr} {es : List Expr} {pos : Pos}
theorem u_str {x j pos} : PE Y (.Constant (.str x) j pos) (tU Y.K mg a cls d c i (uC (.str x))) := pe_imp pe_str fun σ H Q h => by
  obtain ⟨wa, Fr, G, f, y, r, w, x, _, _, q⟩ := h
  exact q _ H G (Same.refl _) x (Dq.str _)
theorem us_nil : PA Y [] (tUs Y.K mg a cls d c i uNil) := pa_imp pa_nil fun σ H Q h => by
  obtain ⟨wa, Fr, G, f, y, r, w, x, _, _, q⟩ := h
  exact q [] H G (Same.refl _) x .nil
theorem us_cons (ha : PE Y e (tU Y.K mg a cls d c i u)) (hr : PA Y es (tUs Y.K mg a cls d c i us)) (hs : starEach (e :: es) Y.env = (false, eval e Y.env) :: starEach es Y.env := by rfl) : PA Y (e :: es) (tUs Y.K mg a cls d c i (uCons u us)) := by
  refine pa_imp (pa_cons ha hr hs) fun σ H Q h => ?_
  obtain ⟨wa, Fr, G, f, y, r, w, x, es', ee, q⟩ := h
  refine ⟨wa, Fr, G, f, y, r, w, x, es', ee, ?_⟩
  unfold uCons at q
  cases e1 : u f y with
  | none => simp only [e1] at q
  | some z =>
    cases e2 : us f y with
    | none => simp only [e1, e2] at q
    | some zs =>
      simp only [e1, e2] at q
      intro v H1 G1 s1 x1 h1
      refine ⟨wa, Fr, G1, f, y, r, w, x1, es', ee.mono s1, ?_⟩
      rw [e2]
      exact fun vs H2 G2 s2 x2 h2 => q (v :: vs) H2 G2 (s1.trans s2) x2 (.cons (h1.mono s2) h2)
theorem u_tup {k} (h : PA Y es (tUs Y.K mg a cls d c i us)) : PE Y (.Tuple es k pos) (tU Y.K mg a cls d c i (uTup us)) := by
  refine pe_imp (pe_tupZ h) fun σ H Q h => ?_
  obtain ⟨wa, Fr, G, f, y, r, w, x, es', ee, q⟩ := h
  refine ⟨wa, Fr, G, f, y, r, w, x, es', ee, ?_⟩
  unfold uTup at q
  cases e1 : us f y with
  | none => simp only [e1] at q
  | some zs =>
    simp only [e1] at q
    intro vs H1 G1 s1 x1 h1
    cases e2 : pys zs with
    | none => simp only [e2] at q
    | some xs =>
      simp only [e2] at q
      by_cases hl : xs.length ≤ 100000
      · rw [ifC_pos hl] at q
        have hd := h1.pys e2
        refine ⟨by rw [dpall_len hd]; exact big_le hl, fun p us n hp => ?_⟩
        exact q _ _ _ (s1.trans (same_new (x1.h.gnone hp))) (x1.alloc hp _) (.tup TupS.new (dps_mono (same_new (x1.h.gnone hp)) _ _ hd))
      · rw [ifC_neg hl] at q
        exact q.elim
theorem zip_look {G : Hp} {n : Str} : ∀ {f : List Str} {vs : List V} {y : List PyData} {z : PyData}, DqAll K G vs y → (f.zip y).lookup n = some z → ∃ v, (f.zip vs).lookup n = some v ∧ Dq K G v z
  | [], _, _, _, _, h => by simp at h
  | x :: f, _, [], z, .nil, h => by simp at h
  | x :: f, v :: vs, y0 :: y, z, .cons h1 h2, h => by
    rw [List.zip_cons_cons, List.lookup_cons] at h
    rw [List.zip_cons_cons, List.lookup_cons]
    cases e : n == x with
    | true =>
      rw [e] at h
      cases h
      exact ⟨v, rfl, h1⟩
    | false =>
      rw [e] at h
      exact zip_look h2 h
end
section
variable {X : Cx} {a : Addr} {oe : Obj} {cls : Value} {d : Option Addr} {pn : List (Addr × Obj)} {i : Nat} {e : Expr} {u : U} {pos p : Pos} {n x : Str}
/-- e.n, e the error that the suite holds, of the class that is named c -/
theorem u_fld {c : Str} {C : Addr} (gC : X.mg c = some (.ref C)) (T : XfC X.K C) (no : PySem.W.findIn X.K (.ref C) n = some none) (hz : Zc cls d oe) (hf : ∃ vs, oe.data = .fields vs)
    (hN : X.N[i]? = some x := by rfl) (hv : Vis X.env.scope x := by first | exact Or.inl rfl | exact Or.inr (Or.inl rfl)) (hd : (x == ("__debug__" : Str)) = false := by decide) (hcd : (x == ("__classdict__" : Str)) = false := by decide)
    (hb : attributeBase (.Name x p) n X.env (eval (.Name x p) X.env) = eval (.Name x p) X.env := by rfl) :
    PE (X.suite a ((a, oe) :: pn)) (.Attribute (.Name x p) n pos) (tU X.K X.mg a cls d c i (uFld n)) := by
  refine pe_imp (pe_xf T no hz hf (pe_var (X := X.suite a ((a, oe) :: pn)) (i := i) hN hv hd hcd) hb) fun σ H Q h => ?_
  obtain ⟨wa, Fr, G, f, y, r, w, x, es', ee, q⟩ := h
  unfold uFld at q
  obtain ⟨C', dd, vs, e1, e2, e3, e4, e5, e6⟩ := ee
  rw [gC] at e2
  cases e2
  cases l : (f.zip y).lookup n with
  | none => rw [l] at q; exact q.elim
  | some z =>
    rw [l] at q
    obtain ⟨v, l2, hv2⟩ := zip_look e5 l
    exact ⟨_, es', rfl, e1, dd, _, v, e3, x.h.sub _ _ e4, l2, q v H G (Same.refl _) x hv2⟩
end
/-! ### try: .. except c as n: x = .. -/
def sTry1 (errs : List Str) (c : Str) (i j : Nat) (body : S) (u : U) : S := fun r w => match body r w with
  | .ex c' f y r1 w1 => if c' = c then (match u f y, r1[i]? with
      | some z, some _ => .nx (((r1.set i .no).set j (.im z)).set i .no) w1
      | _, _ => .bad)
    else if c' ∈ errs then .ex c' f y r1 w1 else .bad
  | .nx r1 w1 => .nx r1 w1
  | .br r1 w1 => .br r1 w1
  | .ct r1 w1 => .ct r1 w1
  | .rt d w1 => .rt d w1
  | .bad => .bad
section
variable {X : Cx} {c n t : Str} {C : Addr} {i j : Nat} {body : List Stmt} {E : Expr} {mb : S} {u : U} {np tp ap hp pos : Pos} {W : WX} {errs : List Str}
theorem s_try1 (hs : X.stack = X.env :: X.outer) (hf : X.env.frame = some X.env.locals) (hN : X.N.Nodup) (hi : X.N[i]? = some n) (hln : X.env.kindOf n = some .local) (hj : X.N[j]? = some t) (htl : X.env.scope.names.lookup t = some .local)
    (gC : X.mg c = some (.ref C)) (hc : Names X c (.ref C)) (tk : Takes X W)
    (hm : ∀ c' C', X.mg c' = some (.ref C') → (c' = c ∨ c' ∈ errs) → PySem.W.exmOne X.K (.ref C') (.ref C) = some (decide (c' = c)))
    (hb : ∀ (W' : WX) (pn : List (Addr × Obj)) (xe : Value → Shared → Prop), Takes (X.tr pn xe) W' → PassesOwn (model X.prog X.w) X.A X.env xe → PSs (X.tr pn xe) body (tX X.K X.mg W' mb))
    (hu : ∀ (a : Addr) (oe : Obj) (cls : Value) (d : Option Addr) (pn : List (Addr × Obj)), Zc cls d oe → (∃ vs, oe.data = .fields vs) → PS (X.suite a ((a, oe) :: pn)) (.Assign [.Name t tp] E ap) (tAsg (tU X.K X.mg a cls d c i u) (gName j))) :
    PS X (.Try body [.ExceptHandler (some (.Name c np)) (some n) [.Assign [.Name t tp] E ap] hp] [] [] pos) (tX X.K X.mg W (sTry1 errs c i j mb u)) := by
  refine ps_imp (ps_try_as (i := i) hs hf hN hi hln hc tk hb (fun a oe cls d pn hz hf => pss_one (hu a oe cls d pn hz hf))) fun Dn σ H h => ?_
  obtain ⟨wa, Fr, G, r, w, x, q⟩ := tX_after h
  unfold sTry1 at q
  refine ⟨wa, Fr, G, r, w, x, ?_⟩
  cases e : mb r w with
  | nx r1 w1 => rw [e] at q; exact q
  | br r1 w1 => rw [e] at q; exact q
  | ct r1 w1 => rw [e] at q; exact q
  | rt d w1 => rw [e] at q; exact q
  | bad => rw [e] at q; exact q
  | ex c' f y r1 w1 =>
    rw [e] at q
    intro σ1 H1 G1 cls d s1 x1 ee
    have ee' := ee
    obtain ⟨C', dd, vs, e1, e2, e3, e4, e5, e6⟩ := ee'
    subst e1
    by_cases ec : c' = c
    · subst ec
      simp only [if_true] at q
      refine ⟨true, (hm c' C' e2 (.inl rfl)).trans (by rw [decide_eq_true rfl]), fun _ a ha => ?_, fun hn => (by cases hn)⟩
      cases eu : u f y with
      | none => rw [eu] at q; exact False.elim q
      | some z =>
        rw [eu] at q
        cases er : r1[i]? with
        | none => rw [er] at q; exact False.elim q
        | some sl =>
          rw [er] at q
          have il : i < σ1.length := by
            obtain ⟨o, e1, _⟩ := x1.slot i _ er
            exact (List.getElem?_eq_some_iff.mp e1).1
          refine ⟨wa, Fr, G1, f, y, _, w1, x1.setAny i (some (.ref a)), List.getElem?_set_self il, ee, ?_⟩
          rw [eu]
          intro v H2 G2 s2 x2 hv
          exact q _ H2 G2 (s1.trans s2) ((x2.setIm j hv).setAny i none)
    · simp only [if_neg ec] at q
      by_cases em : c' ∈ errs
      · simp only [if_pos em] at q
        refine ⟨false, (hm c' C' e2 (.inr em)).trans (by rw [decide_eq_false ec]), fun z => (by cases z), fun _ => q σ1 H1 G1 _ d s1 x1 ee⟩
      · simp only [if_neg em] at q
        exact False.elim q
end
/-- what an except clause asks of its class -/
structure Catch (K : PySem.W.Frag) (mg : Str → Option Value) (c : Str) (errs fs : List Str) (C : Addr) : Prop where
  gC : mg c = some (.ref C)
  xf : XfC K C
  no : ∀ f ∈ fs, PySem.W.findIn K (.ref C) f = some none
  hm : ∀ c' C', mg c' = some (.ref C') → (c' = c ∨ c' ∈ errs) → PySem.W.exmOne K (.ref C') (.ref C) = some (decide (c' = c))
end Mi
namespace Mi
open PySem PySem.Spec PyProof.Rows L2
/-! ### the head, with a further question of one's own -/
def askE (n : Nat) (fa : List He.Fa) (fn : List He.DefD) (ex : PySem.W.Frag → Bool) (g : Addr → Option Obj) : He.AlD × Bool := (He.obsDG n fa fn g, ex (He.frG g (He.asD g n)))
def SaysE (fa : List He.Fa) (fn : List He.DefD) (ex : PySem.W.Frag → Bool) (K : PySem.W.Frag) : Prop := He.SaysD fa fn K ∧ ex K = true
def hookE (n : Nat) (fa : List He.Fa) (fn : List He.DefD) (ex : PySem.W.Frag → Bool) : PySem.W.Hook where
  α := He.AlD × Bool
  obs := fun s => askE n fa fn ex s.heap.get?
  val := fun _ => (He.valD fn, true)
  says := fun _ h => ∃ K : PySem.W.Frag, K.In h ∧ SaysE fa fn ex K
  of := fun _ _ e => ⟨_, He.frG_in, congrArg (fun z : He.AlD × Bool => z.1) e, congrArg (fun z : He.AlD × Bool => z.2) e⟩
  keeps := fun _ _ _ ⟨K, hK, c⟩ k => ⟨K, PySem.W.Frag.In.keeps hK k, c⟩
theorem askE_eq {n : Nat} {fa : List He.Fa} {fn : List He.DefD} {ex : PySem.W.Frag → Bool} {g : Addr → Option Obj} {s : Shared} (h : ∀ a, g a = s.heap.get? a) : askE n fa fn ex g = (hookE n fa fn ex).obs s := by
  have e : g = s.heap.get? := funext h
  rw [e]
  rfl
/-! ### the error classes -/
/-- asked of an error class: its __init__ stands at its method, it has no field of its own by this name -/
def errB (K : PySem.W.Frag) (cf : Str × List Str) : Bool :=
  oexB K (He.ga K cf.1) && (xfB K (He.ga K cf.1) && (decide (PySem.W.findIn K (.ref (He.ga K cf.1)) "__init__" = some (some (.ref (He.fAd K (cf.1, some "__init__"))))) &&
    (decide (PySem.W.typeIn K (.ref (He.fAd K (cf.1, some "__init__"))) = some (.type "function")) && cf.2.all fun f => decide (PySem.W.findIn K (.ref (He.ga K cf.1)) f = some none))))
structure ErrF (K : PySem.W.Frag) (c : Str) (fs : List Str) : Prop where
  oex : OexC K (He.ga K c)
  xf : XfC K (He.ga K c)
  ini : PySem.W.findIn K (.ref (He.ga K c)) "__init__" = some (some (.ref (He.fAd K (c, some "__init__"))))
  fn : PySem.W.typeIn K (.ref (He.fAd K (c, some "__init__"))) = some (.type "function")
  no : ∀ f ∈ fs, PySem.W.findIn K (.ref (He.ga K c)) f = some none
theorem errB_ok {K : PySem.W.Frag} {c : Str} {fs : List Str} (h : errB K (c, fs) = true) : ErrF K c fs := by
  unfold errB at h
  obtain ⟨z1, z⟩ := Bool.and_eq_true_iff.mp h
  obtain ⟨z2, z⟩ := Bool.and_eq_true_iff.mp z
  obtain ⟨z3, z⟩ := Bool.and_eq_true_iff.mp z
  obtain ⟨z4, z5⟩ := Bool.and_eq_true_iff.mp z
  exact ⟨oexB_ok z1, xfB_ok z2, of_decide_eq_true z3, of_decide_eq_true z4, fun f hf => of_decide_eq_true (List.all_eq_true.mp z5 f hf)⟩
def exmB (K : PySem.W.Frag) (c : Str) (errs : List Str) : Bool := (c :: errs).all fun x => decide (PySem.W.exmOne K (.ref (He.ga K x)) (.ref (He.ga K c)) = some (decide (x = c)))
theorem exmB_ok {K : PySem.W.Frag} {c x : Str} {errs : List Str} (h : exmB K c errs = true) (hx : x = c ∨ x ∈ errs) : PySem.W.exmOne K (.ref (He.ga K x)) (.ref (He.ga K c)) = some (decide (x = c)) := by
  refine of_decide_eq_true (List.all_eq_true.mp h x ?_)
  rcases hx with rfl | hx
  · exact List.mem_cons_self ..
  · exact List.mem_cons_of_mem _ hx
theorem catch_of {K : PySem.W.Frag} {mg : Str → Option Value} {c : Str} {fs errs : List Str} (E : ErrF K c fs) (h : exmB K c errs = true) (gl : ∀ x, x = c ∨ x ∈ errs → mg x = some (.ref (He.ga K x))) : Catch K mg c errs fs (He.ga K c) :=
  ⟨gl c (.inl rfl), E.xf, E.no, fun c' C' e hx => by
    rw [gl c' hx] at e
    cases e
    exact exmB_ok h hx⟩
/-- the __init__ of an error class with one field -/
theorem init_1 {P : Program} {w : World} {K : PySem.W.Frag} {mg : Str → Option Value} {base : Heap} {q f : Str} {pr : Arguments} {body : List Stmt} {sc : Scope} {N ps : List Str} {fI : Addr} {fd : FuncData}
    (F : FunD K "__init__" q pr body sc [] [] fI fd) (S : FnScope N ps sc) (hN : N.length = 2) (hp : ps.length = 2)
    (hb : ∀ (cdv : Value) (B : Around) (outs : List Env) (s0 : Shared) (H : Hp) (E : XK), PSs (cxOf CX0 P w K mg base N q sc fI cdv B outs s0 H E) body (tOst K f (tVar 0) (tVar 1))) : FnOk P w K mg base CX0 1 fI fd ps (spI1 K f) :=
  F.ok S (fun vs H Q E h => by obtain ⟨_, _, _, rfl, _⟩ := h; exact hp.symm) fun cdv B outs s0 H vs Q E hr h => ⟨_, hb cdv B outs s0 H E, pure_I1 hN h⟩
theorem err_of {P : Program} {w : World} {K : PySem.W.Frag} {mg : Str → Option Value} {base : Heap} {c f : Str} {fd : FuncData} {ps : List Str} (E : ErrF K c [f]) (gC : mg c = some (.ref (He.ga K c)))
    (F : FnOk P w K mg base CX0 1 (He.fAd K (c, some "__init__")) fd ps (spI1 K f)) (hb : Binds K fd ps []) : Err1 P w K mg base c f (He.ga K c) (He.fAd K (c, some "__init__")) fd ps :=
  ⟨gC, E.oex, E.ini, E.fn, E.no f (.head _), F, hb⟩
end Mi
namespace Mi
open PySem PySem.Spec PyProof.Rows L2
/-- the mark at a place -/
def mk : List Bk → Int → Option Int
  | [], _ => none
  | b :: r, q => if q < szB b then b.1[(q % b.1.length).toNat]? else mk r (q - szB b)
/-! ### rows written out -/
section
variable {α : Type}
def rp (n : Nat) (xs : List α) : List α := (List.replicate n xs).flatten
theorem rp_zero (xs : List α) : rp 0 xs = [] := rfl
theorem rp_succ (n : Nat) (xs : List α) : rp (n + 1) xs = xs ++ rp n xs := by
  unfold rp
  rw [List.replicate_succ, List.flatten_cons]
theorem rp_one (xs : List α) : rp 1 xs = xs := by rw [rp_succ, rp_zero, List.append_nil]
theorem rp_len (n : Nat) (xs : List α) : (rp n xs).length = n * xs.length := flat_rep n xs
theorem rp_add (a b : Nat) (xs : List α) : rp (a + b) xs = rp a xs ++ rp b xs := by
  induction a with
  | zero => rw [Nat.zero_add, rp_zero, List.nil_append]
  | succ a ih => rw [Nat.succ_add, rp_succ, rp_succ, ih, List.append_assoc]
theorem rp_get (n : Nat) (xs : List α) (i : Nat) (h : i < n * xs.length) : (rp n xs)[i]? = xs[i % xs.length]? := by
  induction n generalizing i with
  | zero => rw [Nat.zero_mul] at h; exact absurd h (Nat.not_lt_zero _)
  | succ n ih =>
    rw [rp_succ]
    by_cases c : i < xs.length
    · rw [List.getElem?_append_left c, Nat.mod_eq_of_lt c]
    · rw [List.getElem?_append_right (Nat.le_of_not_lt c), ih (i - xs.length) (by rw [Nat.succ_mul] at h; omega)]
      rw [← Nat.mod_eq_sub_mod (Nat.le_of_not_lt c)]
theorem rp_map {β : Type} (f : α → β) (n : Nat) (xs : List α) : rp n (xs.map f) = (rp n xs).map f := by
  induction n with
  | zero => rfl
  | succ n ih => rw [rp_succ, rp_succ, ih, List.map_append]
/-- the part from a to b -/
def sg (xs : List α) (a b : Int) : List α := (xs.take b.toNat).drop a.toNat
theorem sg_nil (a b : Int) : sg ([] : List α) a b = [] := by unfold sg; simp
theorem sg_none (xs : List α) {a b : Int} (h : b ≤ a) : sg xs a b = [] := by
  unfold sg
  refine List.drop_eq_nil_of_le ?_
  rw [List.length_take]
  omega
theorem sg_low (xs : List α) {b : Int} (a : Int) (h : b ≤ 0) : sg xs a b = [] := by
  unfold sg
  rw [show b.toNat = 0 by omega, List.take_zero, List.drop_nil]
theorem sg_high (xs : List α) {a : Int} (b : Int) (h : (xs.length : Int) ≤ a) : sg xs a b = [] := by
  unfold sg
  refine List.drop_eq_nil_of_le ?_
  rw [List.length_take]
  omega
theorem sg_all (xs : List α) {a b : Int} (ha : a ≤ 0) (hb : (xs.length : Int) ≤ b) : sg xs a b = xs := by
  unfold sg
  rw [show a.toNat = 0 by omega, List.drop_zero, List.take_of_length_le (by omega)]
theorem sg_clip (xs : List α) {a b a' b' : Int} (ha : a' = if 0 > a then 0 else a) (hb : b' = if (xs.length : Int) < b then (xs.length : Int) else b) : sg xs a b = sg xs a' b' := by
  unfold sg
  have e1 : a.toNat = a'.toNat := by rw [ha]; split <;> omega
  rw [e1]
  congr 1
  rw [List.take_eq_take_iff, hb]
  split <;> omega
theorem sg_len (xs : List α) {a b : Int} (h0 : 0 ≤ a) (h1 : a ≤ b) (h2 : b ≤ xs.length) : ((sg xs a b).length : Int) = b - a := by
  unfold sg
  rw [List.length_drop, List.length_take]
  omega
theorem sg_app (xs ys : List α) (a b : Int) : sg (xs ++ ys) a b = sg xs a b ++ sg ys (a - xs.length) (b - xs.length) := by
  unfold sg
  rw [List.take_append, List.drop_append, List.length_take]
  congr 1
  have e1 : b.toNat - xs.length = (b - xs.length).toNat := by omega
  rw [e1]
  by_cases c : b.toNat ≤ xs.length
  · rw [show (b - (xs.length : Int)).toNat = 0 by omega]
    simp
  · rw [Nat.min_eq_right (by omega)]
    congr 1
    omega
theorem sg_get (xs : List α) {a b : Int} (h0 : 0 ≤ a) (h2 : b ≤ xs.length) (i : Nat) (hi : (i : Int) < b - a) : (sg xs a b)[i]? = xs[(a + i).toNat]? := by
  unfold sg
  rw [List.getElem?_drop, List.getElem?_take_of_lt (by omega)]
  congr 1
  omega
/-- a part of a thing that is done again and again -/
theorem rp_sg (ms : List α) (t f l c e : Nat) (hc : c ≤ ms.length) (he : e ≤ ms.length) (hf : f ≤ l) (hl : l * ms.length + e ≤ t * ms.length) (hp : 0 < ms.length) :
    sg (rp t ms) ((f * ms.length + c : Nat) : Int) ((l * ms.length + e : Nat) : Int) = (rp (l - f) ms ++ ms.take e).drop c := by
  have lt : l ≤ t := by
    rcases Nat.lt_or_ge t l with z | z
    · have := Nat.mul_le_mul_right ms.length (show t + 1 ≤ l by omega)
      rw [Nat.succ_mul] at this
      omega
    · exact z
  unfold sg
  rw [Int.toNat_natCast, Int.toNat_natCast]
  have e1 : rp t ms = rp f ms ++ (rp (l - f) ms ++ rp (t - l) ms) := by
    rw [← rp_add, ← rp_add]
    congr 1
    omega
  have e2 : (rp t ms).take (l * ms.length + e) = rp f ms ++ (rp (l - f) ms ++ ms.take e) := by
    have e3 : rp t ms = rp l ms ++ rp (t - l) ms := by
      rw [← rp_add]
      congr 1
      omega
    rw [e3, List.take_append, List.take_of_length_le (by rw [rp_len]; omega), rp_len]
    have e4 : l * ms.length + e - l * ms.length = e := by omega
    rw [e4]
    have e5 : rp l ms = rp f ms ++ rp (l - f) ms := by
      rw [← rp_add]
      congr 1
      omega
    rw [e5, List.append_assoc]
    congr 2
    by_cases z : t = l
    · subst z
      have : e = 0 := by omega
      subst this
      rw [Nat.sub_self]
      simp
    · obtain ⟨u, hu⟩ : ∃ u, t - l = u + 1 := ⟨t - l - 1, by omega⟩
      rw [hu, rp_succ, List.take_append_of_le_length he]
  rw [e2, ← List.drop_drop]
  congr 1
  rw [List.drop_append_of_le_length (by rw [rp_len]; omega), List.drop_eq_nil_of_le (by rw [rp_len]; omega), List.nil_append]
end
def fB (b : Bk) : List Int := rp b.2.toNat b.1
def fl (r : List Bk) : List Int := (r.map fB).flatten
theorem fl_nil : fl [] = [] := rfl
theorem fl_cons (b : Bk) (r : List Bk) : fl (b :: r) = fB b ++ fl r := by
  unfold fl
  rw [List.map_cons, List.flatten_cons]
theorem fl_app (r s : List Bk) : fl (r ++ s) = fl r ++ fl s := by
  unfold fl
  rw [List.map_append, List.flatten_append]
theorem fl_one (b : Bk) : fl [b] = fB b := by rw [fl_cons, fl_nil, List.append_nil]
theorem fB_len {b : Bk} (h : 0 ≤ b.2) : ((fB b).length : Int) = szB b := by
  unfold fB szB
  rw [rp_len]
  push_cast
  rw [Int.toNat_of_nonneg h, Int.mul_comm]
theorem fl_len {r : List Bk} (h : ∀ b ∈ r, 0 ≤ b.2) : ((fl r).length : Int) = sz r := by
  induction r with
  | nil => rfl
  | cons b r ih =>
    rw [fl_cons, List.length_append, sz_cons]
    push_cast
    rw [fB_len (h b (List.mem_cons_self ..)), ih fun c hc => h c (List.mem_cons_of_mem _ hc)]
theorem fB_get {b : Bk} (l1 : 1 ≤ b.1.length) {q : Int} (h0 : 0 ≤ q) (h1 : q < szB b) (t0 : 0 ≤ b.2) : (fB b)[q.toNat]? = b.1[(q % b.1.length).toNat]? := by
  unfold fB
  have hb : q.toNat < b.2.toNat * b.1.length := by
    unfold szB at h1
    have e : ((b.2.toNat * b.1.length : Nat) : Int) = b.1.length * b.2 := by
      push_cast
      rw [Int.toNat_of_nonneg t0, Int.mul_comm]
    omega
  rw [rp_get _ _ _ hb]
  congr 1
  have e : ((q.toNat % b.1.length : Nat) : Int) = q % b.1.length := by
    push_cast
    rw [Int.toNat_of_nonneg h0]
  omega
theorem mk_fl {r : List Bk} (h : ∀ b ∈ r, BOk b) {q : Int} (h0 : 0 ≤ q) : mk r q = (fl r)[q.toNat]? := by
  induction r generalizing q with
  | nil => unfold mk; rw [fl_nil]; rfl
  | cons b r ih =>
    have ok := h b (List.mem_cons_self ..)
    have t1 := ok.t1
    have l := fB_len (b := b) (by omega)
    rw [fl_cons]
    unfold mk
    by_cases c : q < szB b
    · rw [if_pos c, List.getElem?_append_left (by omega), fB_get ok.l1 h0 c (by omega)]
    · rw [if_neg c, List.getElem?_append_right (by omega), ih (fun c hc => h c (List.mem_cons_of_mem _ hc)) (by omega)]
      congr 1
      omega
theorem fl_in {r : List Bk} {p : Int → Prop} (h : ∀ b ∈ r, ∀ c ∈ b.1, p c) : ∀ c ∈ fl r, p c := by
  intro c hc
  unfold fl at hc
  obtain ⟨l, hl, h1⟩ := List.mem_flatten.mp hc
  obtain ⟨b, hb, rfl⟩ := List.mem_map.mp hl
  unfold fB rp at h1
  obtain ⟨l2, hl2, h2⟩ := List.mem_flatten.mp h1
  rw [List.eq_of_mem_replicate hl2] at h2
  exact h b hb c h2
theorem bk_le {r : List Bk} (h : ∀ b ∈ r, 1 ≤ b.1.length ∧ 1 ≤ b.2) : ∀ b ∈ r, b.2 ≤ sz r := by
  have nn : ∀ s : List Bk, (∀ b ∈ s, 1 ≤ b.1.length ∧ 1 ≤ b.2) → 0 ≤ sz s := by
    intro s hs
    rw [← fl_len fun b hb => by have := hs b hb; omega]
    omega
  induction r with
  | nil => intro b hb; cases hb
  | cons a r ih =>
    intro b hb
    have ha := h a (List.mem_cons_self ..)
    have hr := fun c hc => h c (List.mem_cons_of_mem (a := c) a hc)
    have n1 := nn r hr
    have z : a.2 ≤ szB a := by
      unfold szB
      have := Int.mul_le_mul_of_nonneg_right (show (1 : Int) ≤ (a.1.length : Int) by omega) (show 0 ≤ a.2 by omega)
      omega
    rw [sz_cons]
    rcases List.mem_cons.mp hb with e | e
    · rw [e]; omega
    · have := ih hr b e
      omega
/-! ### a part of a block -/
def bp (ms : List Int) (low high : Int) : List Bk :=
  if low / (ms.length : Int) = (high - 1) / (ms.length : Int) then [(sg ms (low % ms.length) (low % ms.length + high - low), 1)] else
  (if 0 < low % (ms.length : Int) then [(ms.drop (low % (ms.length : Int)).toNat, 1)] else []) ++
  ((if (if 0 < low % (ms.length : Int) then low / (ms.length : Int) + 1 else low / (ms.length : Int)) < high / (ms.length : Int) then [(ms, high / (ms.length : Int) - (if 0 < low % (ms.length : Int) then low / (ms.length : Int) + 1 else low / (ms.length : Int)))] else []) ++
  (if 0 < high % (ms.length : Int) then [(ms.take (high % (ms.length : Int)).toNat, 1)] else []))
theorem fB_one (ms : List Int) : fB (ms, 1) = ms := rp_one ms
theorem bp_fl (ms : List Int) (t low high : Int) (l1 : 1 ≤ ms.length) (t0 : 0 ≤ t) (h0 : 0 ≤ low) (h1 : low < high) (h2 : high ≤ ms.length * t) : fl (bp ms low high) = sg (fB (ms, t)) low high := by
  have N0 : (0 : Int) < ms.length := by omega
  obtain ⟨N, hN⟩ : ∃ N : Int, N = ms.length := ⟨_, rfl⟩
  have a1 := Int.mul_ediv_add_emod low N
  have a2 := Int.emod_nonneg low (show N ≠ 0 by omega)
  have a3 := Int.emod_lt_of_pos low (show 0 < N by omega)
  have a4 := Int.ediv_nonneg h0 (show 0 ≤ N by omega)
  have b1 := Int.mul_ediv_add_emod high N
  have b2 := Int.emod_nonneg high (show N ≠ 0 by omega)
  have b3 := Int.emod_lt_of_pos high (show 0 < N by omega)
  have b4 := Int.ediv_nonneg (show 0 ≤ high by omega) (show 0 ≤ N by omega)
  have c1 := Int.mul_ediv_add_emod (high - 1) N
  have c2 := Int.emod_nonneg (high - 1) (show N ≠ 0 by omega)
  have c3 := Int.emod_lt_of_pos (high - 1) (show 0 < N by omega)
  have m1 : low / N ≤ high / N := Int.ediv_le_ediv (by omega) (by omega)
  unfold bp
  rw [← hN]
  obtain ⟨f, hf⟩ : ∃ f : Nat, (f : Int) = low / N := ⟨_, Int.toNat_of_nonneg a4⟩
  obtain ⟨l, hl⟩ : ∃ l : Nat, (l : Int) = high / N := ⟨_, Int.toNat_of_nonneg b4⟩
  obtain ⟨c, hc⟩ : ∃ c : Nat, (c : Int) = low % N := ⟨_, Int.toNat_of_nonneg a2⟩
  obtain ⟨e, he⟩ : ∃ e : Nat, (e : Int) = high % N := ⟨_, Int.toNat_of_nonneg b2⟩
  have key : sg (fB (ms, t)) low high = (rp (l - f) ms ++ ms.take e).drop c := by
    have el : low = ((f * ms.length + c : Nat) : Int) := by push_cast; rw [hf, hc, ← hN, Int.mul_comm]; omega
    have eh : high = ((l * ms.length + e : Nat) : Int) := by push_cast; rw [hl, he, ← hN, Int.mul_comm]; omega
    have tt : l * ms.length + e ≤ t.toNat * ms.length := by
      have z : ((t.toNat * ms.length : Nat) : Int) = ms.length * t := by push_cast; rw [Int.toNat_of_nonneg t0, Int.mul_comm]
      omega
    conv => lhs; rw [el, eh]
    exact rp_sg ms t.toNat f l c e (by omega) (by omega) (by omega) tt (by omega)
  rw [key, ← hf, ← hl, ← hc, ← he]
  by_cases g : (f : Int) = (high - 1) / N
  · rw [if_pos g, fl_one, fB_one]
    rw [← g] at c1
    by_cases z : (high - 1) % N + 1 < N
    · obtain ⟨x1, x2⟩ := (Int.ediv_emod_unique (a := high) (q := (f : Int)) (r := (high - 1) % N + 1) (show 0 < N by omega)).mpr ⟨by omega, by omega, z⟩
      have lf : l = f := by omega
      rw [lf, Nat.sub_self, rp_zero, List.nil_append]
      unfold sg
      rw [← hf] at a1
      have : (c : Int) + high - low = e := by rw [lf] at hl; rw [← hl] at b1; omega
      rw [this]
      rfl
    · obtain ⟨x1, x2⟩ := (Int.ediv_emod_unique (a := high) (q := (f : Int) + 1) (r := 0) (show 0 < N by omega)).mpr ⟨by rw [Int.mul_add]; omega, by omega, by omega⟩
      have lf : l = f + 1 := by omega
      have e0 : e = 0 := by omega
      rw [lf, e0, Nat.add_sub_cancel_left, rp_one, List.take_zero, List.append_nil]
      unfold sg
      rw [← hf] at a1
      have : (c : Int) + high - low = ms.length := by rw [← hl, lf] at b1; push_cast at b1; rw [Int.mul_add] at b1; omega
      have z2 : ((ms.length : Nat) : Int).toNat = ms.length := Int.toNat_natCast _
      show List.drop c (List.take _ ms) = List.drop c ms
      rw [this, z2, List.take_of_length_le (Nat.le_refl _)]
  · rw [if_neg g]
    have m2 : (f : Int) ≤ (high - 1) / N := by rw [hf]; exact Int.ediv_le_ediv (by omega) (by omega)
    have m3 : (high - 1) / N ≤ l := by rw [hl]; exact Int.ediv_le_ediv (by omega) (by omega)
    obtain ⟨k, hk⟩ : ∃ k, l - f = k + 1 := ⟨l - f - 1, by omega⟩
    have te : fl (if (0 : Int) < (e : Int) then [(ms.take (e : Int).toNat, 1)] else []) = ms.take e := by
      by_cases z : (0 : Int) < (e : Int)
      · rw [if_pos z, fl_one, fB_one]; rfl
      · rw [if_neg z, show e = 0 by omega]; rfl
    rw [fl_app, fl_app, te, hk, rp_succ, List.append_assoc, List.drop_append_of_le_length (by omega)]
    by_cases z : (0 : Int) < (c : Int)
    · rw [if_pos z, if_pos z, fl_one, fB_one]
      show ms.drop c ++ _ = _
      congr 2
      by_cases y : (f : Int) + 1 < l
      · rw [if_pos y, fl_one]
        unfold fB
        congr 1
        show ((l : Int) - ((f : Int) + 1)).toNat = k
        omega
      · rw [if_neg y, show k = 0 by omega]; rfl
    · have c0 : c = 0 := by omega
      rw [if_neg z, if_neg z, fl_nil, List.nil_append, if_pos (by omega), fl_one, c0, List.drop_zero, ← List.append_assoc, ← rp_succ]
      unfold fB
      congr 2
      show ((l : Int) - (f : Int)).toNat = k + 1
      omega
theorem bp_ok (ms : List Int) (low high : Int) (l1 : 1 ≤ ms.length) (l2 : ms.length ≤ 60) (h0 : 0 ≤ low) (h1 : low < high) : (bp ms low high).length ≤ 3 ∧ ∀ c ∈ bp ms low high, 1 ≤ c.1.length ∧ c.1.length ≤ 60 ∧ 1 ≤ c.2 ∧ ∀ m ∈ c.1, m ∈ ms := by
  have a2 := Int.emod_nonneg low (show (ms.length : Int) ≠ 0 by omega)
  have a3 := Int.emod_lt_of_pos low (show 0 < (ms.length : Int) by omega)
  unfold bp
  by_cases g : low / (ms.length : Int) = (high - 1) / (ms.length : Int)
  · rw [if_pos g]
    refine ⟨by simp, fun c hc => ?_⟩
    cases List.mem_singleton.mp hc
    refine ⟨?_, ?_, Int.le_refl 1, fun m hm => List.mem_of_mem_take (List.mem_of_mem_drop hm)⟩
    · show 1 ≤ (List.drop _ (List.take _ _)).length
      rw [List.length_drop, List.length_take]
      omega
    · show (List.drop _ (List.take _ _)).length ≤ 60
      rw [List.length_drop, List.length_take]
      omega
  · rw [if_neg g]
    have b2 := Int.emod_nonneg high (show (ms.length : Int) ≠ 0 by omega)
    have b3 := Int.emod_lt_of_pos high (show 0 < (ms.length : Int) by omega)
    refine ⟨?_, fun c hc => ?_⟩
    · rw [List.length_append, List.length_append]
      have z1 : ∀ (p : Prop) [Decidable p] (x : Bk), (if p then [x] else []).length ≤ 1 := fun p _ x => by split <;> simp
      have q1 := z1 (0 < low % (ms.length : Int)) (ms.drop (low % (ms.length : Int)).toNat, 1)
      have q2 := z1 ((if 0 < low % (ms.length : Int) then low / (ms.length : Int) + 1 else low / (ms.length : Int)) < high / (ms.length : Int)) (ms, high / (ms.length : Int) - (if 0 < low % (ms.length : Int) then low / (ms.length : Int) + 1 else low / (ms.length : Int)))
      have q3 := z1 (0 < high % (ms.length : Int)) (ms.take (high % (ms.length : Int)).toNat, 1)
      omega
    · rcases List.mem_append.mp hc with z | z
      · split at z
        · cases List.mem_singleton.mp z
          refine ⟨?_, ?_, Int.le_refl 1, fun m hm => List.mem_of_mem_drop hm⟩
          · show 1 ≤ (List.drop _ _).length
            rw [List.length_drop]
            omega
          · show (List.drop _ _).length ≤ 60
            rw [List.length_drop]
            omega
        · cases z
      · rcases List.mem_append.mp z with z | z
        · by_cases q : (if 0 < low % (ms.length : Int) then low / (ms.length : Int) + 1 else low / (ms.length : Int)) < high / (ms.length : Int)
          · rw [if_pos q] at z
            cases List.mem_singleton.mp z
            exact ⟨l1, l2, by show 1 ≤ high / (ms.length : Int) - _; omega, fun m hm => hm⟩
          · rw [if_neg q] at z
            cases z
        · split at z
          · cases List.mem_singleton.mp z
            refine ⟨?_, ?_, Int.le_refl 1, fun m hm => List.mem_of_mem_take hm⟩
            · show 1 ≤ (List.take _ _).length
              rw [List.length_take]
              omega
            · show (List.take _ _).length ≤ 60
              rw [List.length_take]
              omega
          · cases z
/-! ### a word in sixties -/
def chk (ws : List Int) (n : Nat) : List Bk := (List.range n).map fun (i : Nat) => (sg ws (60 * (i : Int)) (60 * (i : Int) + 60), 1)
theorem chk_fl (ws : List Int) (n : Nat) : fl (chk ws n) = ws.take (60 * n) := by
  induction n with
  | zero => simp [chk, fl_nil]
  | succ n ih =>
    unfold chk at ih ⊢
    rw [List.range_succ, List.map_append, fl_app, ih, List.map_cons, List.map_nil, fl_one, fB_one]
    unfold sg
    have e1 : ((60 : Int) * (n : Int)).toNat = 60 * n := by omega
    have e2 : ((60 : Int) * (n : Int) + 60).toNat = 60 * (n + 1) := by omega
    rw [e1, e2]
    have e3 : ws.take (60 * n) = (ws.take (60 * (n + 1))).take (60 * n) := by rw [List.take_take, Nat.min_eq_left (by omega)]
    rw [e3, List.take_append_drop]
end Mi
namespace Mi
open PySem PySem.Spec PyProof.Rows L2
/-! ### several except clauses, each with a name of its own -/
abbrev Way := Value × Nat × (Addr → Value → Option Addr → TS)
/-- what is to hold behind a clause whose name's slot is i: the name is gone -/
def gone (i : Nat) (D : Ends) : Ends := ⟨fun t G => D.nx (t.set i none) G, D.rt, fun t G => D.bk (t.set i none) G, fun t G => D.ct (t.set i none) G⟩
def wWays (K : PySem.W.Frag) (Wo : WX) (D : Ends) : List Way → WX
  | [] => Wo
  | (C, i, ts) :: l => fun cls d σ H => ∃ k, PySem.W.exmOne K cls C = some k ∧ (k = true → ∀ a, H a = none → ts a cls d (gone i D) (σ.set i (some (.ref a))) H) ∧ (k = false → wWays K Wo D l cls d σ H)
inductive WaysOk (X : Cx) : List ExceptHandler → List Way → Prop
  | nil : WaysOk X [] []
  | cons {c n : Str} {C : Value} {i : Nat} {ts : Addr → Value → Option Addr → TS} {st : Stmt} {sts : List Stmt} {p1 p2 : Pos} {hs : List ExceptHandler} {l : List Way} (nm : Names X c C) (hi : X.N[i]? = some n) (hl : X.env.kindOf n = some .local)
      (su : ∀ (a : Addr) (o : Obj) (cls : Value) (d : Option Addr) (pn : List (Addr × Obj)), Zc cls d o → (∃ vs, o.data = .fields vs) → PSs (X.suite a ((a, o) :: pn)) (st :: sts) (ts a cls d)) (r : WaysOk X hs l) :
      WaysOk X (.ExceptHandler (some (.Name c p1)) (some n) (st :: sts) p2 :: hs) ((C, i, ts) :: l)
section
variable {X : Cx} {body : List Stmt} {h1 : ExceptHandler} {hs : List ExceptHandler} {l : List Way} {pos : Pos} {tb : WX → TS} {Wo : WX}
theorem ps_ways (st : X.stack = X.env :: X.outer) (fr : X.env.frame = some X.env.locals) (nd : X.N.Nodup) (tk : Takes X Wo)
    (hb : ∀ (W' : WX) (pn : List (Addr × Obj)) (xe : Value → Shared → Prop), Takes (X.tr pn xe) W' → PassesOwn (model X.prog X.w) X.A X.env xe → PSs (X.tr pn xe) body (tb W'))
    (ways : WaysOk X (h1 :: hs) l) : PS X (.Try body (h1 :: hs) [] [] pos) (fun D σ H => tb (wWays X.K Wo D l) D σ H) := by
  refine ⟨fun pins s σ H D I q0 => ?_⟩
  have okX := I.ok
  have frames : X.A.frames = some (X.env :: X.outer) := by rw [okX.frames, st]
  refine wpAny_Try_except ?_
  refine wpAny_mono ((hb (wWays X.K Wo D l) (X.pn ++ pins) (fun er t1 => wpAny (model X.prog X.w) X.A (noteFrame er X.env) (fun _ t2 => wpAny (model X.prog X.w) X.A (setFlight er none) (fun _ t3 => wpAny (model X.prog X.w) X.A (handleBy er X.env (h1 :: hs)) (SP X pins D) X.xe t3) X.xe t2) X.xe t1)
    (fun u t got => ?_) PassesOwn.looking).run [] s σ H D (I.toTry _) q0) (fun f t1 z => ?_) (fun er t1 z => z)
  · obtain ⟨a, B, sT, pinsT, σT, HT, cls, d, rfl, JT, nb, up, sky, na, os, ag, wish⟩ := got
    have JO : Inv X pins σT HT sT := JT.ofTry okX
    have skyX : Sky B (X.env :: X.outer) a (Zc cls d) X.env.locals t.heap := by rw [← st]; exact sky
    show wpAny (model X.prog X.w) X.A (noteFrame (.ref a) X.env) _ _ _
    refine Sky.land Zc.steady frames fr skyX fun hp3 fl3 up3 => ?_
    have K3 : Inv X pins σT HT { t with heap := hp3 } := JO.landed nb fl3.1 (up.trans up3) os ag
    obtain ⟨o3, vs3, at3, z3, dat3⟩ := fl3.there
    have apart : a ∉ frs (X.env :: X.outer) := fun hm => by
      obtain ⟨_, o', e', hnf⟩ := fl3.2.2.1.mem hm
      rw [at3] at e'
      cases e'
      exact hnf _ dat3
    have nL : a ≠ X.env.locals := fun z => apart (List.mem_filterMap.mpr ⟨X.env, List.mem_cons_self, by rw [fr, z]⟩)
    have nF : a ∉ X.fs := fun hm => by
      obtain ⟨e, he, q⟩ := List.mem_filterMap.mp hm
      exact apart (List.mem_filterMap.mpr ⟨e, List.mem_cons_of_mem _ he, q⟩)
    have S3 := K3.suite at3 dat3 na nL nF
    have each : ∀ {hs' : List ExceptHandler} {l' : List Way}, WaysOk X hs' l' → wWays X.K Wo D l' cls d σT HT → wpAny (model X.prog X.w) X.A (handleBy (.ref a) X.env hs') (SP X pins D) X.xe { t with heap := hp3 } := by
      intro hs' l' ok
      induction ok with
      | nil =>
        intro wish
        refine wpAny_handleBy_nil ?_
        obtain ⟨_, _, _, oe, vs, T, oT, _, he, _, hd, hf, _⟩ := id fl3
        unfold PySem.passOn
        refine wpAny_bind (wpAny_field he hd hf ?_)
        rw [if_neg (show ¬ ((Value.ref T == Value.none) = true) from by simp)]
        have last : wpAny (model X.prog X.w) X.A (setFlight (.ref a) X.env.frame) (fun _ t4 => wpAny (model X.prog X.w) X.A (throw (.ref a) : Sem Flow) (SP X pins D) X.xe t4) X.xe { t with heap := hp3 } := by
          rw [fr]
          refine HandSPX.setFlight_upZ fl3 fun hp4 held up4 => wpAny_throw (tk _ _ ?_)
          exact ⟨a, B, sT, pins, σT, HT, cls, d, rfl, JO, nb, (up.trans up3).trans up4, .inr (.inr (by rw [st]; exact held)), na, os, ag, wish⟩
        first
          | exact wpAny_bind (wpAny_pure (wpAny_bind last))
          | exact wpAny_bind last
      | @cons c n C i ts st1 sts p1 p2 hs2 l2 nm hi hl su r ih =>
        intro wish
        obtain ⟨k, isK, yes, no⟩ := wish
        refine wpAny_handleBy_cons (codeAny_handlers_test ?_) (by intro q; cases q)
        have lookT : PySem.W.Looks (model X.prog X.w) hp3 (typeOf (.ref a)) cls := fun A Q E t' kp q => wpAny_typeOf_ref (kp _ _ at3) (by rw [z3.1]; exact q)
        have lookM := PySem.W.exm_one (M := model X.prog X.w) (K3.kIn) lookT isK
        have name : ∀ {Q E : Value → Shared → Prop}, Q C { t with heap := hp3 } → wpAny (model X.prog X.w) (X.A.mark (some (.ref a))) (eval (.Name c p1) X.env) Q E { t with heap := hp3 } := fun {Q E} q => by
          obtain ⟨hg, hdb, hm | ⟨hm, hv, hnn⟩⟩ := nm
          · exact ld_glob (X := X.suite a ((a, o3) :: (X.pn ++ pins))) S3 hg hm q hdb
          · exact ld_blt (X := X.suite a ((a, o3) :: (X.pn ++ pins))) S3 hg hm hv q hnn hdb
        refine name (lookM.here ?_)
        cases k with
        | false =>
          show wpAny _ X.A (handleBy (.ref a) X.env hs2) _ _ _
          exact ih (no rfl)
        | true =>
          refine codeAny_handlers_suite_as ?_
          refine HandSPX.lands_againZ fl3 fun hp4 fl4 up4 => ?_
          have K4 : Inv X pins σT HT { t with heap := hp4 } := JO.landed nb fl4.1 ((up.trans up3).trans up4) os ag
          obtain ⟨o4, vs4, at4, z4, dat4⟩ := fl4.there
          have S4 := K4.suite at4 dat4 na nL nF
          refine store_ok (X := X.suite a ((a, o4) :: (X.pn ++ pins))) (v := .ref a) S4 nd hi (.inl hl) rfl (fun t5 S5 => ?_) (.inr hl)
          refine wpAny_mono ((su a o4 cls d (X.pn ++ pins) z4 ⟨_, dat4⟩).run [] t5 _ HT _ S5 (yes rfl a na)) (fun f t6 z6 => ?_) (fun _ _ z => False.elim z)
          have away : ∀ {σ6 : L2.St} {H6 : Hp} {Q : Shared → Prop}, Inv (X.suite a ((a, o4) :: (X.pn ++ pins))) [] σ6 H6 t6 → (∀ t7, Inv X pins (σ6.set i none) H6 t7 → Q t7) →
              wpAny (model X.prog X.w) X.A (do bindName X.env n .none; unbindBehindTheSuite X.env n p2) (fun _ t7 => Q t7) X.xe t6 := fun S6 q => gone_ok (S6.unsuite okX) nd hi hl q
          cases f with
          | next => obtain ⟨σ6, H6, S6, q6⟩ := z6; exact away S6 fun t7 J7 => ⟨_, _, J7, q6⟩
          | brk => obtain ⟨σ6, H6, S6, q6⟩ := z6; exact away S6 fun t7 J7 => ⟨_, _, J7, q6⟩
          | cont => obtain ⟨σ6, H6, S6, q6⟩ := z6; exact away S6 fun t7 J7 => ⟨_, _, J7, q6⟩
          | ret u => obtain ⟨v6, σ6, H6, S6, r6, q6⟩ := z6; exact away S6 fun t7 J7 => ⟨_, _, _, J7, r6, q6⟩
    exact each ways wish
  · cases f with
    | next => obtain ⟨σ', H', J', q⟩ := z; exact wpAny_execs_nil ⟨σ', H', J'.ofTry okX, q⟩
    | brk => obtain ⟨σ', H', J', q⟩ := z; exact ⟨σ', H', J'.ofTry okX, q⟩
    | cont => obtain ⟨σ', H', J', q⟩ := z; exact ⟨σ', H', J'.ofTry okX, q⟩
    | ret u => obtain ⟨v, σ', H', J', r, q⟩ := z; exact ⟨v, σ', H', J'.ofTry okX, r, q⟩
end
/-! ### the same, evaluated: each suite is t = .. -/
def sTryN (errs : List Str) (i j : Nat) (hs : List (Str × U)) (body : S) : S := fun r w => match body r w with
  | .ex c f y r1 w1 => match hs.lookup c with
    | some u => (match u f y, r1[i]? with
      | some z, some _ => .nx (((r1.set i .no).set j (.im z)).set i .no) w1
      | _, _ => .bad)
    | none => if c ∈ errs then .ex c f y r1 w1 else .bad
  | .nx r1 w1 => .nx r1 w1
  | .br r1 w1 => .br r1 w1
  | .ct r1 w1 => .ct r1 w1
  | .rt d w1 => .rt d w1
  | .bad => .bad
/-- one clause: except c as n: t = E -/
inductive WOkN (X : Cx) (i j : Nat) (n t : Str) (univ : List Str) : List ExceptHandler → List (Str × U) → List Way → Prop
  | nil : WOkN X i j n t univ [] [] []
  | cons {c : Str} {C : Addr} {u : U} {E : Expr} {np tp ap hp : Pos} {hs : List ExceptHandler} {us : List (Str × U)} {l : List Way} (gC : X.mg c = some (.ref C)) (nm : Names X c (.ref C))
      (hm : ∀ c' C', X.mg c' = some (.ref C') → c' ∈ univ → PySem.W.exmOne X.K (.ref C') (.ref C) = some (decide (c' = c)))
      (su : ∀ (a : Addr) (oe : Obj) (cls : Value) (d : Option Addr) (pn : List (Addr × Obj)), Zc cls d oe → (∃ vs, oe.data = .fields vs) → PS (X.suite a ((a, oe) :: pn)) (.Assign [.Name t tp] E ap) (tAsg (tU X.K X.mg a cls d c i u) (gName j)))
      (r : WOkN X i j n t univ hs us l) : WOkN X i j n t univ (.ExceptHandler (some (.Name c np)) (some n) [.Assign [.Name t tp] E ap] hp :: hs) ((c, u) :: us) ((.ref C, i, fun a cls d => tAsg (tU X.K X.mg a cls d c i u) (gName j)) :: l)
section
variable {X : Cx} {n t : Str} {i j : Nat} {body : List Stmt} {h1 : ExceptHandler} {hs : List ExceptHandler} {us : List (Str × U)} {l : List Way} {mb : S} {pos : Pos} {W : WX} {errs : List Str}
theorem WOkN.ok (hi : X.N[i]? = some n) (hl : X.env.kindOf n = some .local) {univ : List Str} {hs : List ExceptHandler} (h : WOkN X i j n t univ hs us l) : WaysOk X hs l := by
  induction h with
  | nil => exact .nil
  | cons gC nm hm su r ih => exact .cons nm hi hl (fun a oe cls d pn hz hf => pss_one (su a oe cls d pn hz hf)) ih
/-- what the clauses wish holds where the evaluation goes on -/
theorem WOkN.wish {univ : List Str} {hs : List ExceptHandler} (h : WOkN X i j n t univ hs us l) {D : Ends} {wa : WA} {Fr G1 : Hp} {σ1 : L2.St} {H1 : Hp} {r1 : En} {w1 : Wd} {cls : Value} {d : Option Addr} {c : Str} {f : List Str} {y : List PyData}
    (x1 : Rep X.K wa Fr G1 σ1 H1 r1 w1) (ee : ExcAt X.K X.mg G1 cls d c f y) (cu : c ∈ univ)
    (q : match us.lookup c with
      | some u => (match u f y, r1[i]? with
        | some z, some _ => ∀ σ' H' G', Same G1 G' → Rep X.K wa Fr G' σ' H' (((r1.set i .no).set j (.im z)).set i .no) w1 → D.nx σ' H'
        | _, _ => False)
      | none => W cls d σ1 H1) : wWays X.K W D l cls d σ1 H1 := by
  have ee' := ee
  obtain ⟨C', dd, vs, e1, e2, e3, e4, e5, e6⟩ := ee'
  subst e1
  induction h with
  | nil => exact q
  | @cons c0 C u E np tp ap hp hs us l gC nm hm su r ih =>
    by_cases ec : c = c0
    · subst ec
      refine ⟨true, (hm c C' e2 cu).trans (by rw [decide_eq_true rfl]), fun _ a ha => ?_, fun hn => (by cases hn)⟩
      rw [List.lookup_cons, beq_self_eq_true] at q
      simp only at q
      cases eu : u f y with
      | none => rw [eu] at q; exact False.elim q
      | some z =>
        rw [eu] at q
        cases er : r1[i]? with
        | none => rw [er] at q; exact False.elim q
        | some sl =>
          rw [er] at q
          have il : i < σ1.length := by
            obtain ⟨o, e1, _⟩ := x1.slot i _ er
            exact (List.getElem?_eq_some_iff.mp e1).1
          refine ⟨wa, Fr, G1, f, y, _, w1, x1.setAny i (some (.ref a)), List.getElem?_set_self il, ee, ?_⟩
          rw [eu]
          intro v H2 G2 s2 x2 hv
          exact q _ H2 G2 s2 ((x2.setIm j hv).setAny i none)
    · refine ⟨false, (hm c C' e2 cu).trans (by rw [decide_eq_false ec]), fun z => (by cases z), fun _ => ih ?_⟩
      have nb : (c == c0) = false := beq_eq_false_iff_ne.mpr ec
      rw [List.lookup_cons, nb] at q
      exact q
theorem s_tryN (hs' : X.stack = X.env :: X.outer) (hf : X.env.frame = some X.env.locals) (hN : X.N.Nodup) (hi : X.N[i]? = some n) (hln : X.env.kindOf n = some .local) (tk : Takes X W)
    (hb : ∀ (W' : WX) (pn : List (Addr × Obj)) (xe : Value → Shared → Prop), Takes (X.tr pn xe) W' → PassesOwn (model X.prog X.w) X.A X.env xe → PSs (X.tr pn xe) body (tX X.K X.mg W' mb))
    (ok : WOkN X i j n t (us.map (·.1) ++ errs) (h1 :: hs) us l) : PS X (.Try body (h1 :: hs) [] [] pos) (tX X.K X.mg W (sTryN errs i j us mb)) := by
  refine ps_imp (ps_ways hs' hf hN tk hb (ok.ok hi hln)) fun Dn σ H h => ?_
  obtain ⟨wa, Fr, G, r, w, x, q⟩ := tX_after h
  unfold sTryN at q
  refine ⟨wa, Fr, G, r, w, x, ?_⟩
  cases e : mb r w with
  | nx r1 w1 => rw [e] at q; exact q
  | br r1 w1 => rw [e] at q; exact q
  | ct r1 w1 => rw [e] at q; exact q
  | rt d w1 => rw [e] at q; exact q
  | bad => rw [e] at q; exact q
  | ex c f y r1 w1 =>
    rw [e] at q
    simp only at q
    intro σ1 H1 G1 cls d s1 x1 ee
    cases el : us.lookup c with
    | some u =>
      rw [el] at q
      have cu : c ∈ us.map (·.1) ++ errs := by
        refine List.mem_append_left _ ?_
        obtain ⟨l1, l2, e1, _⟩ := List.lookup_eq_some_iff.mp el
        rw [e1]
        simp
      refine ok.wish x1 ee cu ?_
      rw [el]
      simp only at q ⊢
      cases eu : u f y with
      | none => rw [eu] at q; exact q
      | some z =>
        rw [eu] at q
        cases er : r1[i]? with
        | none => rw [er] at q; exact q
        | some sl =>
          rw [er] at q
          exact fun σ' H' G' s' x' => q σ' H' G' (s1.trans s') x'
    | none =>
      rw [el] at q
      by_cases em : c ∈ errs
      · simp only [if_pos em] at q
        refine ok.wish x1 ee (List.mem_append_right _ em) ?_
        rw [el]
        exact q σ1 H1 G1 cls d s1 x1 ee
      · simp only [if_neg em] at q
        exact False.elim q
end
/-! ### repr in a suite -/
section
variable {X : Cx} {a : Addr} {oe : Obj} {cls : Value} {d : Option Addr} {pn : List (Addr × Obj)} {c : Str} {i : Nat} {u : U} {e : Expr} {p pos : Pos}
theorem u_repr (hu : X.A.units + 64 < cLine) (hgu : X.A.guards = some []) (hm : X.mg "repr" = none) (he : PE (X.suite a ((a, oe) :: pn)) e (tU X.K X.mg a cls d c i u)) (hg : Gl X "repr" := by rfl)
    (hs : starEach (e :: []) X.env = (false, eval e X.env) :: starEach [] X.env := by rfl) (hpl : (backTo pos (starEach [] X.env)).any (·.1) = false := by rfl) :
    PE (X.suite a ((a, oe) :: pn)) (.Call (.Name "repr" p) [e] [] pos) (tU X.K X.mg a cls d c i (uRepr u)) := by
  refine pe_imp (pe_callB (X := X.suite a ((a, oe) :: pn)) (call_repr hu hgu) hg hm (by decide +kernel) (pa_cons he pa_nil hs) (by decide) (by decide) hs hpl) fun σ H Q h => ?_
  obtain ⟨wa, Fr, G, f, y, r, w, x, es', ee, q⟩ := h
  refine ⟨wa, Fr, G, f, y, r, w, x, es', ee, ?_⟩
  unfold uRepr at q
  cases e1 : u f y with
  | none => rw [e1] at q; exact q.elim
  | some z =>
    rw [e1] at q
    simp only at q ⊢
    intro v H1 G1 s1 x1 h1
    cases e2 : fRepr [z] with
    | none => rw [e2] at q; exact q.elim
    | some z2 =>
      rw [e2] at q
      exact rel_repr x1 (.cons h1 .nil) e2 fun v2 H2 G2 s2 x2 h2 => q v2 H2 G2 (s1.trans s2) x2 h2
end
end Mi
namespace Mi
open PySem PySem.Spec PyProof.Rows L2
/-! ### x[::-1], x a list or a tuple -/
section
variable {prog : Program} {w : World} {A : Around} {E : Value → Shared → Prop} {s : Shared}
theorem applied_back {sl : Addr} {n : Nat} {t : Tok} {Q : Int × Int × Nat → Shared → Prop} (hs : s.heap.IsSliceOf sl .none .none (.int (-1) t)) (q : Q ((n : Int) - 1, -1, n) s) :
    wpAny (model prog w) A (Builtin.Slice.sliceApplied (.ref sl) (pure (n : Int))) Q E s := by
  obtain ⟨o, ho, hc, hd⟩ := id hs
  unfold Builtin.Slice.sliceApplied Builtin.Slice.sliceFields
  refine wpAny_bind (wpAny_bind (wpAny_field ho hd (x := .none) rfl (wpAny_bind (wpAny_field ho hd (x := .none) rfl (wpAny_bind (wpAny_field ho hd (x := .int (-1) t) rfl (wpAny_pure ?_)))))))
  refine wpAny_bind (PyProof.Rows.slicePart_int ?_)
  show wpAny _ _ (if ((-1 : Int) == 0) = true then _ else _) _ _ s
  rw [if_neg (by decide)]
  refine wpAny_bind (PyProof.Rows.slicePart_none (wpAny_bind (PyProof.Rows.slicePart_none (wpAny_bind (wpAny_pure ?_)))))
  have e : Builtin.Slice.slicePlaces ((n : Int) - 1) (-1) (-1) = n := by
    unfold Builtin.Slice.slicePlaces
    rw [if_neg (by decide)]
    split
    · rw [show (-(-1) : Int) = 1 by decide, Int.ediv_one]
      omega
    · omega
  show wpAny _ _ (pure ((n : Int) - 1, (-1 : Int), Builtin.Slice.slicePlaces ((n : Int) - 1) (-1) (-1))) _ _ s
  rw [e]
  exact wpAny_pure q
theorem picked_back (xs : Array Value) : ((List.range xs.size).filterMap fun (k : Nat) => xs[((xs.size : Int) - 1 + (k : Int) * (-1)).toNat]?).toArray = xs.toList.reverse.toArray := by
  congr 1
  apply List.ext_getElem?
  intro i
  have e : (List.range xs.size).filterMap (fun (k : Nat) => xs[((xs.size : Int) - 1 + (k : Int) * (-1)).toNat]?) = (List.range xs.size).map fun k => xs.toList.getD (xs.size - 1 - k) .none := by
    have z : ∀ l : List Nat, (∀ k ∈ l, k < xs.size) → l.filterMap (fun (k : Nat) => xs[((xs.size : Int) - 1 + (k : Int) * (-1)).toNat]?) = l.map fun k => xs.toList.getD (xs.size - 1 - k) .none := by
      intro l
      induction l with
      | nil => exact fun _ => rfl
      | cons k l ih =>
        intro h
        have hl := h k (List.mem_cons_self ..)
        have e1 : ((xs.size : Int) - 1 + (k : Int) * (-1)).toNat = xs.size - 1 - k := by omega
        have e2 : xs.size - 1 - k < xs.toList.length := by rw [Array.length_toList]; omega
        have e3 : xs[((xs.size : Int) - 1 + (k : Int) * (-1)).toNat]? = some (xs.toList.getD (xs.size - 1 - k) .none) := by
          rw [e1, ← Array.getElem?_toList, List.getElem?_eq_getElem e2]
          simp only [List.getD, List.getElem?_eq_getElem e2, Option.getD_some]
        rw [List.filterMap_cons, e3, List.map_cons, ih fun j hj => h j (List.mem_cons_of_mem _ hj)]
    exact z _ fun k hk => List.mem_range.mp hk
  rw [e, List.getElem?_map]
  by_cases hi : i < xs.size
  · have e3 : xs.size - 1 - i < xs.toList.length := by rw [Array.length_toList]; omega
    rw [List.getElem?_range hi, List.getElem?_reverse (by rw [Array.length_toList]; exact hi), Array.length_toList, List.getElem?_eq_getElem e3]
    simp only [Option.map_some, List.getD, List.getElem?_eq_getElem e3, Option.getD_some]
  · rw [List.getElem?_eq_none (by rw [List.length_range]; omega), List.getElem?_eq_none (by rw [List.length_reverse, Array.length_toList]; omega)]
    rfl
theorem back_tup {l sl : Addr} {us : Array Value} {n : Nat} {t : Tok} {Q : Value → Shared → Prop} (hl : s.heap.get? l = some (tupO us n)) (hs : s.heap.IsSliceOf sl .none .none (.int (-1) t))
    (q : Q (.ref s.heap.objs.size) { s with heap := s.heap.push { cls := .type "tuple", data := .seq us.toList.reverse.toArray } }) (hz : us.size ≤ sizeLine) : wpAny (model prog w) A (getItem (.ref l) (.ref sl)) Q E s := by
  have room : sizeOk (.seq us.toList.reverse.toArray) := by
    show us.toList.reverse.toArray.size ≤ sizeLine
    rw [List.size_toArray, List.length_reverse, Array.length_toList]
    exact hz
  obtain ⟨o, ho, hc, hd⟩ := id hs
  have isSl : s.TypeIs (.ref sl) "slice" := ⟨o, ho, hc⟩
  have isT : IsTup s.heap l us := ⟨_, hl, rfl, n, rfl⟩
  unfold getItem
  try with_reducible refine wpAny_holding ?_
  first | refine wpAny_bind (wpAny_pure ?_) | skip
  refine wpAny_bind (wpAny_sequenceKey isT.typeIs (by decide) ?_)
  refine wpAny_bind (wpAny_callSpecial?_slot (name := Str.ofString "__getitem__") isT.typeIs PyProof.Rows.slot_tuple_getitem (wpAny_call_entry PyProof.Rows.slot_tuple_getitem isT.typeIs entry_tuple_getitem ?_ (args_tuple_getitem _ _)))
  show wpAny _ _ (Builtin.Tuple.tupleItemsOf (.ref l) >>= _) _ _ s
  refine wpAny_bind (tupleItemsOf_ isT ?_)
  refine wpAny_bind (wpAny_typeOf isSl ?_)
  rw [if_pos (by decide)]
  refine wpAny_bind (applied_back hs ?_)
  have no : ¬ ((((us.size : Int) - 1) == 0 && (-1 : Int) == 1 && us.size == us.size) = true) := by
    have : ((-1 : Int) == 1) = false := by decide
    rw [this, Bool.and_false, Bool.false_and]
    exact Bool.false_ne_true
  show wpAny _ _ (if (((us.size : Int) - 1) == 0 && (-1 : Int) == 1 && us.size == us.size) = true then _ else _) _ _ s
  rw [if_neg no, picked_back]
  first
    | exact wpAny_bind (m := Builtin.Tuple.tupleExact _) (wpAny_newObj_type (wpAny_pure ⟨_, rfl, wpAny_pure q⟩) room)
    | exact wpAny_bind (m := Builtin.Tuple.tupleExact _) (wpAny_newObj_type (wpAny_bind (wpAny_pure (wpAny_pure ⟨_, rfl, wpAny_pure q⟩))) room)
    | exact wpAny_bind (wpAny_bind (m := Builtin.Tuple.tupleExact _) (wpAny_newObj_type (wpAny_pure (wpAny_pure ⟨_, rfl, wpAny_pure q⟩)) room))
    | exact wpAny_bind (wpAny_bind (m := Builtin.Tuple.tupleExact _) (wpAny_newObj_type (wpAny_pure ⟨_, rfl, wpAny_pure q⟩) room))
end
section
variable {X : Cx} {K : PySem.W.Frag} {e : Expr} {m : M D} {pos p1 p2 p3 : Pos} {k : Nat}
def tBack (K : PySem.W.Frag) (te : TE) : TE := fun σ H Q => te σ H fun x H1 => ∃ a xs, x = .ref a ∧ ((SqL K H1 a xs ∧ ∀ p, H1 p = none → Q (.ref p) (upd H1 p (.lst xs.reverse))) ∨ (TupS H1 a xs ∧ ∀ p us n, H1 p = none → Q (.ref p) (upd H1 p (.frz (tupO us n) (.tup xs.reverse)))))
theorem pe_back {te : TE} (he : PE X e te) : PE X (.Subscript e (.Slice none none (some (.UnaryOp .USub (.Constant (.int 1) k p1) p2)) p3) pos) (tBack X.K te) := by
  refine ⟨fun pins s σ H Q I q0 => ?_⟩
  refine Subscript_ (thn (he.run pins s σ H _ I q0) fun v s1 ⟨x, H1, I1, r1, a, xs, ex, way⟩ => ?_)
  subst ex
  cases r1
  have minus : PO X (some (.UnaryOp .USub (.Constant (.int 1) k p1) p2)) (tPart (tUn (rU fun i => .int (-i)) (tC (.int 1)))) := po_some (pe_un un_neg pe_int)
  refine wpAny_Slice (thn (po_none.run pins s1 σ H1 (fun o G => o = none ∧ G = H1) I1 ⟨rfl, rfl⟩) fun vl s2 ⟨l, H2, I2, pl, el, e2⟩ => ?_)
  subst el e2
  refine thn (po_none.run pins s2 σ H2 (fun o G => o = none ∧ G = H2) I2 ⟨rfl, rfl⟩) fun vu s3 ⟨u, H3, I3, pu, eu, e3⟩ => ?_
  subst eu e3
  refine thn (minus.run pins s3 σ H3 (fun o G => o = some (-1) ∧ G = H3) I3 ⟨1, rfl, -1, rfl, rfl, rfl⟩) fun vs s4 ⟨o, H4, I4, ps, eo, e4⟩ => ?_
  subst eo e4
  have I5 : Inv X pins σ H4 { s4 with heap := s4.heap.push { cls := .type "slice", data := .fields #[vl, vu, vs] } } := I4.kept (t' := s4.toks) fun b ob z => Heap.get?_push_of_some _ z
  show wpAny (model X.prog X.w) X.A (subscriptTail e (.Slice none none (some (.UnaryOp .USub (.Constant (.int 1) k p1) p2)) p3) (.ref a) (.ref s4.heap.objs.size)) (EP X pins σ Q) X.xe { s4 with heap := s4.heap.push { cls := .type "slice", data := .fields #[vl, vu, vs] } }
  rcases way with ⟨hx, q⟩ | ⟨hx, q⟩
  · obtain ⟨its, r, ht, hz⟩ := I5.list hx
    have len := r.length
    refine tail_any (ops := [.ref a, .ref s4.heap.objs.size]) ht.isList.typeIs (PySem.slot_list_getitem.lookup) ?_ (by with_unfolding_all rfl)
    refine wpAny_getItem_list_slice ht.isList (Heap.IsSliceOf.new _ vl vu vs) pl pu ps (by decide) ?_ (by rw [List.size_toArray]; omega)
    rw [PySem.W.krv_pick]
    refine ⟨.ref _, _, I5.laid (t' := s4.toks) (o := .lst xs.reverse) (fun b ob z => Heap.get?_push_of_some _ z) (Nat.le_refl _) ?_, rfl, q _ (I5.hok.fresh (Nat.le_refl _))⟩
    exact ⟨by rw [List.length_reverse]; exact hz, _, 0, r.reverse, Heap.get?_push_size _ rfl⟩
  · obtain ⟨its, n, r, at_, hz⟩ := inv_tupS I5 hx
    have len := r.length
    have isT : IsTup (s4.heap.push { cls := .type "slice", data := .fields #[vl, vu, vs] }) a its.toArray := ⟨_, at_, rfl, n, rfl⟩
    cases pl
    cases pu
    cases ps with
    | int i t =>
      refine tail_any (ops := [.ref a, .ref s4.heap.objs.size]) (s := { s4 with heap := s4.heap.push { cls := .type "slice", data := .fields #[.none, .none, .int (-1) t] } }) isT.typeIs (PyProof.Rows.slot_tuple_getitem.lookup) ?_ (by with_unfolding_all rfl)
      refine back_tup at_ (Heap.IsSliceOf.new _ _ _ _) ?_ (by rw [List.size_toArray]; omega)
      exact ⟨.ref _, _, inv_newT I5 r.reverse (by rw [List.length_reverse]; exact hz) s4.toks, rfl, q _ _ _ (I5.hok.fresh (Nat.le_refl _))⟩
def fBack (d : D) : Option D := match d with
  | .py (.list xs) => some (.py (.list xs.reverse))
  | .py (.tuple xs) => some (.py (.tuple xs.reverse))
  | _ => none
theorem dpall_rev {K : PySem.W.Frag} {H : Hp} : ∀ {vs : List V} {ds : List PyData}, DqAll K H vs ds → DqAll K H vs.reverse ds.reverse
  | _, _, .nil => .nil
  | _, _, .cons h t => by
    rw [List.reverse_cons, List.reverse_cons]
    exact dpall_app (dpall_rev t) (.cons h .nil)
theorem e_back (he : PE X e (tM X.K X.mg W m)) : PE X (.Subscript e (.Slice none none (some (.UnaryOp .USub (.Constant (.int 1) k p1) p2)) p3) pos) (tM X.K X.mg W (mUn fBack m)) := by
  refine pe_imp (pe_back he) fun σ H Q h => ?_
  obtain ⟨wa, Fr, G, r, w, x, q⟩ := h
  unfold mUn at q
  refine ⟨wa, Fr, G, r, w, x, ?_⟩
  cases e1 : m r w with
  | bad => simp only [e1, Re.bind] at q
  | ex c f y r9 w9 => simp only [e1, Re.bind] at q; exact q
  | ok d1 r1 w1 =>
    simp only [e1, Re.bind] at q
    intro v1 H1 G1 s1 x1 h1
    cases e2 : fBack d1 with
    | none => simp only [e2] at q
    | some d2 =>
      simp only [e2] at q
      unfold fBack at e2
      split at e2
      · cases e2
        cases h1 with
        | lst s a => exact ⟨_, _, rfl, .inl ⟨SqL.of (x1.h.sub _ _ s), fun p hp => q _ _ _ (s1.trans (same_new (x1.h.gnone hp))) (x1.alloc hp _) (.lst upd_same (dps_mono (same_new (x1.h.gnone hp)) _ _ (dpall_rev a)))⟩⟩
      · cases e2
        cases h1 with
        | tup s a => exact ⟨_, _, rfl, .inr ⟨s.mono x1.h.sub, fun p us n hp => q _ _ _ (s1.trans (same_new (x1.h.gnone hp))) (x1.alloc hp _) (.tup TupS.new (dps_mono (same_new (x1.h.gnone hp)) _ _ (dpall_rev a)))⟩⟩
      · cases e2
end
/-! ### a = b = e -/
def sAsg2 (f g : D → En → Option En) (m : M D) : S := fun r w => match m r w with
  | .ok d r1 w1 => match f d r1 with
    | some r2 => match g d r2 with
      | some r3 => .nx r3 w1
      | none => .bad
    | none => .bad
  | .ex c f y r1 w1 => .ex c f y r1 w1
  | .bad => .bad
section
variable {X : Cx} {t1 t2 e : Expr} {g1 g2 : TG} {a1 a2 : D → En → Option En} {v1 v2 : List Nat} {m : M D} {pos : Pos}
theorem s_asg2 (he : PE X e (tM X.K X.mg W m)) (h1 : PG X t1 g1) (h2 : PG X t2 g2) (o1 : GOk X.K g1 a1 v1) (o2 : GOk X.K g2 a2 v2) (ha : (assignEach [t1, t2] X.env).map (·.2) = [assign t1 X.env, assign t2 X.env] := by rfl) (hw : swappedStores [t1, t2] e X.env = pure none := by rfl) :
    PS X (.Assign [t1, t2] e pos) (tX X.K X.mg W (sAsg2 a1 a2 m)) := by
  refine ps_imp (ps_asg2 he h1 h2 ha hw) fun Dn σ H h => ?_
  obtain ⟨wa, Fr, G, r, w, x, q⟩ := h
  unfold sAsg2 at q
  refine ⟨wa, Fr, G, r, w, x, ?_⟩
  cases e1 : m r w with
  | bad => simp only [e1] at q
  | ex c f y r9 w9 => simp only [e1] at q; exact q.at
  | ok d r1 w1 =>
    simp only [e1] at q
    intro v H1 G1 s1 x1 hv
    cases e2 : a1 d r1 with
    | none => simp only [e2] at q
    | some r2 =>
      simp only [e2] at q
      cases e3 : a2 d r2 with
      | none => simp only [e3] at q
      | some r3 =>
        simp only [e3] at q
        exact o1 x1 hv e2 fun σ' x' _ => o2 x' hv e3 fun σ'' x'' _ => q σ'' H1 G1 s1 x''
end
/-! ### sorted(xs), xs a list of ints -/
/-- ascending -/
def insI (x : Int) : List Int → List Int
  | [] => [x]
  | y :: ys => if x ≤ y then x :: y :: ys else y :: insI x ys
def srtI : List Int → List Int
  | [] => []
  | x :: xs => insI x (srtI xs)
theorem insI_perm (x : Int) : ∀ ys : List Int, (insI x ys).Perm (x :: ys)
  | [] => .refl _
  | y :: ys => by
    unfold insI
    split
    · exact .refl _
    · exact ((insI_perm x ys).cons y).trans (.swap x y ys)
theorem srtI_perm : ∀ xs : List Int, (srtI xs).Perm xs
  | [] => .refl _
  | x :: xs => (insI_perm x _).trans ((srtI_perm xs).cons x)
theorem insI_srt (x : Int) : ∀ ys : List Int, ys.Pairwise (· ≤ ·) → (insI x ys).Pairwise (· ≤ ·)
  | [], _ => by unfold insI; simp
  | y :: ys, h => by
    have h' := h
    rw [List.pairwise_cons] at h'
    unfold insI
    split
    · rename_i c
      refine .cons (fun z hz => ?_) h
      rcases List.mem_cons.mp hz with e | e
      · rw [e]; exact c
      · exact Int.le_trans c (h'.1 z e)
    · rename_i c
      refine .cons (fun z hz => ?_) (insI_srt x ys h'.2)
      rcases List.mem_cons.mp ((insI_perm x ys).mem_iff.mp hz) with e | e
      · rw [e]; omega
      · exact h'.1 z e
theorem srtI_srt : ∀ xs : List Int, (srtI xs).Pairwise (· ≤ ·)
  | [] => .nil
  | x :: xs => insI_srt x _ (srtI_srt xs)
theorem srt_one : ∀ {xs ys : List Int}, xs.Perm ys → xs.Pairwise (· ≤ ·) → ys.Pairwise (· ≤ ·) → xs = ys :=
  fun p h1 h2 => List.Perm.eq_of_pairwise (fun a b _ _ h k => Int.le_antisymm h k) h1 h2 p
def fSorted (ds : List D) : Option (List PyData) := match ds with
  | [.py (.list xs)] => (intsOf xs).map fun ns => (srtI ns).map PyData.int
  | _ => none
section
variable {X : Cx} {e : Expr} {es : List Expr} {n : M (List D)} {p pos : Pos}
theorem rel_sorted {K : PySem.W.Frag} : RelF K (rSortedI K) fSorted := by
  intro wa Fr G σ H r w vs ds xs Q x1 h1 e q
  unfold fSorted at e
  split at e
  · rename_i ys
    cases e2 : intsOf ys with
    | none => rw [e2] at e; cases e
    | some ns =>
      rw [e2] at e
      cases e
      obtain ⟨v, rfl, h⟩ := rv_one h1
      cases h with
      | lst s a =>
        rw [ints_map e2] at a
        have e3 := dpall_ints_inv _ _ a
        subst e3
        refine ⟨_, ns, rfl, SqL.of (x1.h.sub _ _ s), fun ns' p pm srt hp => ?_⟩
        have en : ns' = srtI ns := srt_one (pm.trans (srtI_perm ns).symm) srt (srtI_srt ns)
        subst en
        obtain ⟨y1, y2, y3⟩ := x1.newList hp (dpall_ints (srtI ns))
        exact q p _ _ G (Same.refl _) y1 y2 y3
  · cases e
theorem f_sorted (hm : X.mg "sorted" = none) (ha : PA X (e :: es) (tMs X.K X.mg W n)) (hg : Gl X "sorted" := by rfl) (he : starEach (e :: es) X.env = (false, eval e X.env) :: starEach es X.env := by rfl) (hpl : (backTo pos (starEach es X.env)).any (·.1) = false := by rfl) :
    PE X (.Call (.Name "sorted" p) (e :: es) [] pos) (tF X.K X.mg W (mFnF fSorted n)) := pe_imp (pe_callB cr_sortedI hg hm (by decide +kernel) ha (by decide) (by decide) he hpl) fun _ _ _ h => m_fnF rel_sorted h
end
/-! ### is True, is not False -/
def fIsB (a b : D) : Option D := match a, b with
  | .py (.bool x), .py (.bool y) => some (.py (.bool (decide (x = y))))
  | _, _ => none
def fNotB (a b : D) : Option D := match a, b with
  | .py (.bool x), .py (.bool y) => some (.py (.bool (!decide (x = y))))
  | _, _ => none
theorem rel_isB {K : PySem.W.Frag} : RelOp K rIsB fIsB := by
  refine relop_plain fun {wa Fr G σ H r w x y dx dy dz} x1 h1 h2 e => ?_
  unfold fIsB at e
  split at e
  · cases e
    cases h1
    cases h2
    exact ⟨_, Dq.bl _, fun Q q => ⟨_, _, rfl, rfl, q⟩⟩
  · cases e
theorem rel_notB {K : PySem.W.Frag} : RelOp K rNotB fNotB := by
  refine relop_plain fun {wa Fr G σ H r w x y dx dy dz} x1 h1 h2 e => ?_
  unfold fNotB at e
  split at e
  · cases e
    cases h1
    cases h2
    exact ⟨_, Dq.bl _, fun Q q => ⟨_, _, rfl, rfl, q⟩⟩
  · cases e
section
variable {X : Cx} {a b : Expr} {ma mb : M D} {pos : Pos}
theorem e_isB (ha : PE X a (tM X.K X.mg W ma)) (hb : PE X b (tM X.K X.mg W mb)) : PE X (.Compare a [.Is] [b] pos) (tM X.K X.mg W (mOp fIsB ma mb)) := e_cmp op_isBl rel_isB ha hb (nomark _)
theorem e_notB (ha : PE X a (tM X.K X.mg W ma)) (hb : PE X b (tM X.K X.mg W mb)) : PE X (.Compare a [.IsNot] [b] pos) (tM X.K X.mg W (mOp fNotB ma mb)) := e_cmp op_notBl rel_notB ha hb (nomark _)
theorem t_isB (ha : PE X a (tM X.K X.mg W ma)) (hb : PE X b (tM X.K X.mg W mb)) : PT X (.Compare a [.Is] [b] pos) (tT X.K X.mg W (mB (mOp fIsB ma mb))) := t_cmp op_isBl rel_isB ha hb (nomark _)
theorem t_notB (ha : PE X a (tM X.K X.mg W ma)) (hb : PE X b (tM X.K X.mg W mb)) : PT X (.Compare a [.IsNot] [b] pos) (tT X.K X.mg W (mB (mOp fNotB ma mb))) := t_cmp op_notBl rel_notB ha hb (nomark _)
end
end Mi
namespace Mi
open PySem PySem.Spec PyProof.Rows L2
/-! ### where two words part -/
def fpt : List Int → List Int → Option Nat
  | [], [] => none
  | [], _ :: _ => some 0
  | _ :: _, [] => some 0
  | x :: xs, y :: ys => if x = y then (fpt xs ys).map (· + 1) else some 0
theorem fpt_self : ∀ xs : List Int, fpt xs xs = none
  | [] => rfl
  | x :: xs => by unfold fpt; rw [if_pos rfl, fpt_self xs]; rfl
theorem fpt_none : ∀ {xs ys : List Int}, fpt xs ys = none → xs = ys
  | [], [], _ => rfl
  | [], _ :: _, h => by unfold fpt at h; cases h
  | _ :: _, [], h => by unfold fpt at h; cases h
  | x :: xs, y :: ys, h => by
    unfold fpt at h
    split at h
    · rename_i e
      rw [e, fpt_none (Option.map_eq_none_iff.mp h)]
    · cases h
theorem fpt_cons (x y : Int) (xs ys : List Int) : fpt (x :: xs) (y :: ys) = if x = y then (fpt xs ys).map (· + 1) else some 0 := rfl
theorem fpt_app : ∀ (p xs ys : List Int), fpt (p ++ xs) (p ++ ys) = (fpt xs ys).map (· + p.length)
  | [], xs, ys => by
    rw [List.nil_append, List.nil_append]
    cases h : fpt xs ys with
    | none => rfl
    | some k => rfl
  | c :: p, xs, ys => by
    rw [List.cons_append, List.cons_append, fpt_cons, if_pos rfl, fpt_app p xs ys]
    cases h : fpt xs ys with
    | none => rfl
    | some k => simp only [Option.map_some, List.length_cons]; congr 1
theorem fpt_nil_l {ys : List Int} (h : ys ≠ []) : fpt [] ys = some 0 := by
  cases ys with
  | nil => exact absurd rfl h
  | cons y ys => rfl
theorem fpt_nil_r {xs : List Int} (h : xs ≠ []) : fpt xs [] = some 0 := by
  cases xs with
  | nil => exact absurd rfl h
  | cons y ys => rfl
theorem fpt_at : ∀ (xs ys : List Int) (k : Nat) (a b : Int), (∀ i < k, xs[i]? = ys[i]?) → xs[k]? = some a → ys[k]? = some b → a ≠ b → fpt xs ys = some k
  | [], _, k, a, b, _, h1, _, _ => by simp at h1
  | _ :: _, [], k, a, b, _, _, h2, _ => by simp at h2
  | x :: xs, y :: ys, 0, a, b, _, h1, h2, h3 => by
    simp at h1 h2
    subst h1 h2
    unfold fpt
    rw [if_neg h3]
  | x :: xs, y :: ys, k + 1, a, b, h, h1, h2, h3 => by
    have e : x = y := by
      have := h 0 (Nat.succ_pos k)
      simpa using this
    unfold fpt
    rw [if_pos e, fpt_at xs ys k a b (fun i hi => by have := h (i + 1) (by omega); simpa using this) (by simpa using h1) (by simpa using h2) h3]
    rfl
/-- two things that go around part early or not at all -/
theorem per_eq (x y : Nat → Int) (p q m : Nat) (hx : ∀ i, x (i + p) = x i) (hy : ∀ i, y (i + q) = y i) (hp : 0 < p) (hq : 0 < q) (h : ∀ i, i < m → i < p + q → x i = y i) : ∀ i, i < m → x i = y i := by
  intro i
  induction i using Nat.strongRecOn with
  | ind i ih =>
    intro hi
    by_cases c : i < p + q
    · exact h i hi c
    · have e1 : x i = x (i - p) := by have := hx (i - p); rw [show i - p + p = i by omega] at this; exact this
      have e2 : y (i - p) = y (i - p - q) := by have := hy (i - p - q); rw [show i - p - q + q = i - p by omega] at this; exact this
      have e3 : x (i - q) = x (i - p - q) := by have := hx (i - p - q); rw [show i - p - q + p = i - q by omega] at this; exact this
      have e4 : y i = y (i - q) := by have := hy (i - q); rw [show i - q + q = i by omega] at this; exact this
      rw [e1, ih (i - p) (by omega) (by omega), e2, ← ih (i - p - q) (by omega) (by omega), ← e3, ih (i - q) (by omega) (by omega), e4]
def fo (x y : Nat → Int) : Nat → Nat → Option Nat
  | _, 0 => none
  | s, n + 1 => if x s = y s then fo x y (s + 1) n else some s
theorem fo_none {x y : Nat → Int} : ∀ {n s : Nat}, fo x y s n = none → ∀ i, s ≤ i → i < s + n → x i = y i
  | 0, s, _, i, h1, h2 => by omega
  | n + 1, s, h, i, h1, h2 => by
    unfold fo at h
    split at h
    · rename_i e
      by_cases c : i = s
      · rw [c]; exact e
      · exact fo_none h i (by omega) (by omega)
    · cases h
theorem fo_some {x y : Nat → Int} : ∀ {n s o : Nat}, fo x y s n = some o → s ≤ o ∧ o < s + n ∧ x o ≠ y o ∧ ∀ i, s ≤ i → i < o → x i = y i
  | 0, s, o, h => by unfold fo at h; cases h
  | n + 1, s, o, h => by
    unfold fo at h
    split at h
    · rename_i e
      obtain ⟨h1, h2, h3, h4⟩ := fo_some h
      refine ⟨by omega, by omega, h3, fun i h5 h6 => ?_⟩
      by_cases c : i = s
      · rw [c]; exact e
      · exact h4 i (by omega) h6
    · rename_i e
      cases h
      exact ⟨Nat.le_refl _, by omega, e, fun i h5 h6 => by omega⟩
/-- a block's marks from an entry on -/
def ax (ms : List Int) (d : Nat) (i : Nat) : Int := ms.getD ((d + i) % ms.length) 0
theorem ax_per (ms : List Int) (d i : Nat) : ax ms d (i + ms.length) = ax ms d i := by
  unfold ax
  rw [← Nat.add_assoc, Nat.add_mod_right]
theorem ax_fl {b : Bk} {r : List Bk} (l1 : 1 ≤ b.1.length) (t0 : 0 ≤ b.2) (d i : Nat) (h : ((d + i : Nat) : Int) < szB b) : ((fl (b :: r)).drop d)[i]? = some (ax b.1 d i) := by
  have l := fB_len t0
  rw [List.getElem?_drop, fl_cons, List.getElem?_append_left (by omega)]
  have := fB_get l1 (q := ((d + i : Nat) : Int)) (by omega) h t0
  rw [Int.toNat_natCast] at this
  rw [this]
  have e : (((d + i : Nat) : Int) % (b.1.length : Int)).toNat = (d + i) % b.1.length := by
    rw [← Int.natCast_emod, Int.toNat_natCast]
  have lt := Nat.mod_lt (d + i) (show 0 < b.1.length by omega)
  unfold ax
  rw [e, List.getD, List.getElem?_eq_getElem lt]
  rfl
theorem fl_drop {b : Bk} {r : List Bk} (t0 : 0 ≤ b.2) : (fl (b :: r)).drop (szB b).toNat = fl r := by
  have l := fB_len t0
  rw [fl_cons, List.drop_append_of_le_length (by omega), List.drop_eq_nil_of_le (by omega), List.nil_append]
/-- one step of the search -/
theorem step_at {b c : Bk} {r s : List Bk} (l1 : 1 ≤ b.1.length) (l2 : 1 ≤ c.1.length) (t1 : 0 ≤ b.2) (t2 : 0 ≤ c.2) (d e many : Nat) (h1 : ((d + many : Nat) : Int) ≤ szB b) (h2 : ((e + many : Nat) : Int) ≤ szB c) :
    match fo (ax b.1 d) (ax c.1 e) 0 (min many (b.1.length + c.1.length)) with
    | some o => o < many ∧ fpt ((fl (b :: r)).drop d) ((fl (c :: s)).drop e) = some o
    | none => fpt ((fl (b :: r)).drop d) ((fl (c :: s)).drop e) = (fpt ((fl (b :: r)).drop (d + many)) ((fl (c :: s)).drop (e + many))).map (· + many) := by
  have g1 := fun i (hi : i < many) => ax_fl (r := r) l1 t1 d i (by omega)
  have g2 := fun i (hi : i < many) => ax_fl (r := s) l2 t2 e i (by omega)
  cases q : fo (ax b.1 d) (ax c.1 e) 0 (min many (b.1.length + c.1.length)) with
  | some o =>
    obtain ⟨_, o1, o2, o3⟩ := fo_some q
    refine ⟨by omega, fpt_at _ _ o _ _ (fun i hi => ?_) (g1 o (by omega)) (g2 o (by omega)) o2⟩
    rw [g1 i (by omega), g2 i (by omega), o3 i (Nat.zero_le _) hi]
  | none =>
    have n1 := fo_none q
    have all := per_eq (ax b.1 d) (ax c.1 e) b.1.length c.1.length many (ax_per _ _) (ax_per _ _) (by omega) (by omega) fun i h3 h4 => n1 i (Nat.zero_le _) (by omega)
    have len1 : many ≤ ((fl (b :: r)).drop d).length := by
      rw [List.length_drop, fl_cons, List.length_append]
      have := fB_len t1
      omega
    have len2 : many ≤ ((fl (c :: s)).drop e).length := by
      rw [List.length_drop, fl_cons, List.length_append]
      have := fB_len t2
      omega
    have pe : ((fl (b :: r)).drop d).take many = ((fl (c :: s)).drop e).take many := by
      apply List.ext_getElem?
      intro i
      rw [List.getElem?_take, List.getElem?_take]
      split
      · rename_i hi
        rw [g1 i hi, g2 i hi, all i hi]
      · rfl
    have s1 : (fl (b :: r)).drop d = ((fl (b :: r)).drop d).take many ++ (fl (b :: r)).drop (d + many) := by
      rw [← List.drop_drop, List.take_append_drop]
    have s2 : (fl (c :: s)).drop e = ((fl (b :: r)).drop d).take many ++ (fl (c :: s)).drop (e + many) := by
      rw [pe, ← List.drop_drop, List.take_append_drop]
    show fpt ((fl (b :: r)).drop d) ((fl (c :: s)).drop e) = (fpt ((fl (b :: r)).drop (d + many)) ((fl (c :: s)).drop (e + many))).map (· + many)
    conv => lhs; rw [s1, s2]
    rw [fpt_app, List.length_take, Nat.min_eq_left len1]
/-! ### texts that are shown -/
theorem ch_ok (c : Char) : c.toNat < 0x110000 := by
  have v := c.valid
  unfold UInt32.isValidChar Nat.isValidChar at v
  show c.val.toNat < _
  omega
theorem rc_ok (q c : Nat) (hq : q < 0x110000) (hc : c < 0x110000) : ∀ x ∈ Builtin.Str.reprChar q c, x < 0x110000 := by
  have d : ∀ n : Nat, ∀ x ∈ (Nat.toDigits 16 n).map Char.toNat, x < 0x110000 := fun n x hx => by
    obtain ⟨ch, _, rfl⟩ := List.mem_map.mp hx
    exact ch_ok ch
  intro x hx
  unfold Builtin.Str.reprChar at hx
  dsimp only at hx
  repeat' split at hx
  all_goals simp only [List.mem_append, List.mem_cons, List.mem_replicate, List.not_mem_nil, or_false] at hx
  all_goals first | omega | (rcases hx with (h | h) | ⟨_, h⟩ | h <;> first | omega | exact d _ _ h)
theorem repr_tx {n : Nat} {s : Str} (h : TxOk n s) : TxOk (10 * n + 2) (reprText s) := by
  have h2 := h.2
  unfold PyData.strOk at h2
  rw [← Array.all_toList] at h2
  have hc : ∀ c ∈ s.cps.toList, c < 0x110000 := fun c hc => of_decide_eq_true (List.all_eq_true.mp h2 c hc)
  have l := StrLaws.reprText_len s fun c hm => Nat.lt_of_lt_of_le (hc c hm) (by decide)
  refine ⟨by have := h.1; omega, ?_⟩
  have hq : reprQuote s < 0x110000 := by unfold reprQuote; split <;> decide
  have fold : ∀ (l : List Nat) (acc : Array Nat), (∀ c ∈ l, c < 0x110000) → (∀ x ∈ acc.toList, x < 0x110000) → ∀ x ∈ (l.foldl (fun out c => out ++ (Builtin.Str.reprChar (reprQuote s) c).toArray) acc).toList, x < 0x110000 := by
    intro l
    induction l with
    | nil => exact fun acc _ ha => ha
    | cons c l ih =>
      intro acc hl ha
      rw [List.foldl_cons]
      refine ih _ (fun y hy => hl y (List.mem_cons_of_mem _ hy)) fun x hx => ?_
      rw [Array.toList_append] at hx
      rcases List.mem_append.mp hx with z | z
      · exact ha x z
      · exact rc_ok _ c hq (hl c (List.mem_cons_self ..)) x (by simpa using z)
  unfold reprText PyData.strOk
  rw [← Array.all_toList, ← Array.foldl_toList]
  refine List.all_eq_true.mpr fun x hx => decide_eq_true ?_
  rw [Array.toList_push] at hx
  rcases List.mem_append.mp hx with z | z
  · exact fold s.cps.toList #[reprQuote s] hc (fun y hy => by have e : y = reprQuote s := (by simpa using hy); rw [e]; exact hq) x z
  · have e : x = reprQuote s := (by simpa using z)
    rw [e]
    exact hq
end Mi
namespace Mi
open PySem PySem.Spec PyProof.Rows L2
/-! ### x in s, x not in s, s a list or a tuple of data -/
def hasD (ds : List PyData) (d : PyData) : Bool := ds.any fun z => PyData.eqv z d
def LayD (d : PyData) (ds : List PyData) : Prop := d.canLay0 = true ∧ d.depth ≤ 60 ∧ PyData.canLayAll0 ds = true
def fIn (neg : Bool) (x y : D) : Option D := match x, y with
  | .py d, .py (.list ds) => ifC (LayD d ds) (some (.py (.bool (if neg then !hasD ds d else hasD ds d)))) none
  | .py d, .py (.tuple ds) => ifC (LayD d ds) (some (.py (.bool (if neg then !hasD ds d else hasD ds d)))) none
  | _, _ => none
def rInL (K : PySem.W.Frag) (neg : Bool) : R2 := fun x y H Q => ∃ d ds, Dp K H x d ∧ (Dp K H y (.list ds) ∨ Dp K H y (.tuple ds)) ∧ LayD d ds ∧ Q (.bl (if neg then !hasD ds d else hasD ds d)) H
section
variable {X : Cx} {K : PySem.W.Frag}
theorem room_lay {u : Nat} {d : PyData} {ds : List PyData} (h : LayD d ds) (hu : u + 64 < cLine) : u + 1 + min (PyData.depthAll ds) d.depth < cLine := by
  have h1 := h.2.1
  have h2 := Nat.min_le_right (PyData.depthAll ds) d.depth
  omega
theorem op_inL (hu : X.A.units + 64 < cLine) : OpR X (compareOp .In) (rInL X.K false) := by
  intro pins s σ H x y v u Q I rx ry h
  obtain ⟨d, ds, hd, he, ok, q⟩ := h
  obtain ⟨as, r1⟩ := Dp.reads I d x v hd rx
  rcases he with he | he
  · obtain ⟨bs, r2⟩ := Dp.reads I (.list ds) y u he ry
    exact SeqAt.in_list_reads r2 r1 ok.2.2 ok.1 (room_lay ok hu) ⟨.bl _, H, I, rfl, q⟩
  · obtain ⟨bs, r2⟩ := Dp.reads I (.tuple ds) y u he ry
    exact SeqAt.in_tuple_reads r2 r1 ok.2.2 ok.1 (room_lay ok hu) ⟨.bl _, H, I, rfl, q⟩
theorem op_notInL (hu : X.A.units + 64 < cLine) : OpR X (compareOp .NotIn) (rInL X.K true) := by
  intro pins s σ H x y v u Q I rx ry h
  obtain ⟨d, ds, hd, he, ok, q⟩ := h
  obtain ⟨as, r1⟩ := Dp.reads I d x v hd rx
  rcases he with he | he
  · obtain ⟨bs, r2⟩ := Dp.reads I (.list ds) y u he ry
    exact SeqAt.notIn_list_reads r2 r1 ok.2.2 ok.1 (room_lay ok hu) ⟨.bl _, H, I, rfl, q⟩
  · obtain ⟨bs, r2⟩ := Dp.reads I (.tuple ds) y u he ry
    exact SeqAt.notIn_tuple_reads r2 r1 ok.2.2 ok.1 (room_lay ok hu) ⟨.bl _, H, I, rfl, q⟩
theorem rel_in {neg : Bool} : RelOp K (rInL K neg) (fIn neg) := by
  refine relop_plain fun {wa Fr G σ H r w x y dx dy dz} x1 h1 h2 e => ?_
  unfold fIn at e
  split at e
  · rename_i d ds
    by_cases c : LayD d ds
    · rw [ifC_pos c] at e
      cases e
      exact ⟨_, Dq.bl _, fun Q q => ⟨d, ds, dq_dp _ _ (nd_one c.1) (dp_mono x1.h.sub _ _ h1), .inl (dq_dp _ _ (nd_list c.2.2) (dp_mono x1.h.sub _ _ h2)), c, q⟩⟩
    · rw [ifC_neg c] at e
      cases e
  · rename_i d ds
    by_cases c : LayD d ds
    · rw [ifC_pos c] at e
      cases e
      exact ⟨_, Dq.bl _, fun Q q => ⟨d, ds, dq_dp _ _ (nd_one c.1) (dp_mono x1.h.sub _ _ h1), .inr (dq_dp _ _ (nd_tup c.2.2) (dp_mono x1.h.sub _ _ h2)), c, q⟩⟩
    · rw [ifC_neg c] at e
      cases e
  · cases e
end
section
variable {X : Cx} {a b : Expr} {ma mb : M D} {pos : Pos}
theorem e_in (hu : X.A.units + 64 < cLine) (ha : PE X a (tM X.K X.mg W ma)) (hb : PE X b (tM X.K X.mg W mb)) (hm : behindInMarks .In b = false := by rfl) : PE X (.Compare a [.In] [b] pos) (tM X.K X.mg W (mOp (fIn false) ma mb)) := e_cmp (op_inL hu) rel_in ha hb hm
theorem e_notIn (hu : X.A.units + 64 < cLine) (ha : PE X a (tM X.K X.mg W ma)) (hb : PE X b (tM X.K X.mg W mb)) (hm : behindInMarks .NotIn b = false := by rfl) : PE X (.Compare a [.NotIn] [b] pos) (tM X.K X.mg W (mOp (fIn true) ma mb)) := e_cmp (op_notInL hu) rel_in ha hb hm
theorem t_in (hu : X.A.units + 64 < cLine) (ha : PE X a (tM X.K X.mg W ma)) (hb : PE X b (tM X.K X.mg W mb)) (hm : behindInMarks .In b = false := by rfl) : PT X (.Compare a [.In] [b] pos) (tT X.K X.mg W (mB (mOp (fIn false) ma mb))) := t_cmp (op_inL hu) rel_in ha hb hm
theorem t_notIn (hu : X.A.units + 64 < cLine) (ha : PE X a (tM X.K X.mg W ma)) (hb : PE X b (tM X.K X.mg W mb)) (hm : behindInMarks .NotIn b = false := by rfl) : PT X (.Compare a [.NotIn] [b] pos) (tT X.K X.mg W (mB (mOp (fIn true) ma mb))) := t_cmp (op_notInL hu) rel_in ha hb hm
end
/-! ### the same of a list of one's own: it stays so -/
section
variable {X : Cx} {e : Expr} {m : M D} {pos p p1 : Pos} {x : Str}
theorem own_slot {K : PySem.W.Frag} {wa : WA} {Fr G H : Hp} {σ : L2.St} {r : En} {w : Wd} {i : Nat} {xs : List PyData} (x0 : Rep K wa Fr G σ H r w) (e : r[i]? = some (.ow xs)) : ∃ a vs, σ[i]? = some (some (.ref a)) ∧ H a = some (.lst vs) ∧ DqAll K H vs xs ∧ DqAll K G vs xs := by
  obtain ⟨o, f1, a, vs, rfl, ho⟩ := x0.slot i _ e
  exact ⟨a, vs, f1, ho.at_, dps_mono x0.h.sub _ _ ho.da, ho.da⟩
def mLenO (i : Nat) : M D := fun r w => match r[i]? with
  | some (.ow xs) => .ok (.py (.int xs.length)) r w
  | some (.im d) => (match fLen [d] with
    | some z => .ok z r w
    | none => .bad)
  | _ => .bad
theorem e_lenO (i : Nat) (hm : X.mg "len" = none) (hN : X.N[i]? = some x := by rfl) (hv : Vis X.env.scope x := by first | exact Or.inl rfl | exact Or.inr (Or.inl rfl) | exact Or.inr (Or.inr rfl)) (hd : (x == ("__debug__" : Str)) = false := by decide)
    (hcd : (x == ("__classdict__" : Str)) = false := by decide) (hg : Gl X "len" := by rfl) (he : starEach (.Name x p1 :: []) X.env = (false, eval (.Name x p1) X.env) :: starEach [] X.env := by rfl) (hpl : (backTo pos (starEach [] X.env)).any (·.1) = false := by rfl) :
    PE X (.Call (.Name "len" p) [.Name x p1] [] pos) (tM X.K X.mg W (mLenO i)) := by
  refine pe_imp (pe_callB call_len_seq hg hm PySem.boot_len (pa_cons (pe_var hN hv hd hcd) pa_nil he) (by decide) (by decide) he hpl) fun σ H Q h => ?_
  obtain ⟨wa, Fr, G, r, w, x0, q⟩ := h
  unfold mLenO at q
  cases e0 : r[i]? with
  | none => simp only [e0] at q
  | some sl =>
    cases sl with
    | no => simp only [e0] at q
    | od kvs => simp only [e0] at q
    | ow xs =>
      simp only [e0] at q
      obtain ⟨a, vs, f1, f2, f3, _⟩ := own_slot x0 e0
      exact ⟨_, f1, _, _, rfl, .inl (SqL.of f2), q _ H G (Same.refl _) x0 (by rw [dpall_len f3]; exact Dq.int _)⟩
    | im d =>
      simp only [e0] at q
      obtain ⟨o, f1, v, rfl, hv2⟩ := x0.slot i _ e0
      refine ⟨_, f1, ?_⟩
      cases e1 : fLen [d] with
      | none => simp only [e1] at q
      | some z =>
        simp only [e1] at q
        exact rel_len x0 (.cons hv2 .nil) e1 fun v2 H2 G2 s2 x2 h2 => q v2 H2 G2 s2 x2 h2
def mInO (neg : Bool) (m : M D) (i : Nat) : M D := fun r w => (m r w).bind fun d r w => match r[i]? with
  | some (.ow xs) => (match fIn neg d (.py (.list xs)) with
    | some z => .ok z r w
    | none => .bad)
  | some (.im y) => (match fIn neg d y with
    | some z => .ok z r w
    | none => .bad)
  | _ => .bad
theorem m_inO {K : PySem.W.Frag} {neg : Bool} {i : Nat} {σ : L2.St} {H : Hp} {Q : VK} (h : tM K mg W (mInO neg m i) σ H Q) : tOp (rInL K neg) (tM K mg W m) (tVar i) σ H Q := by
  obtain ⟨wa, Fr, G, r, w, x0, q⟩ := h
  unfold mInO at q
  refine ⟨wa, Fr, G, r, w, x0, ?_⟩
  cases e1 : m r w with
  | bad => simp only [e1, Re.bind] at q
  | ex c f y r9 w9 => simp only [e1, Re.bind] at q; exact q
  | ok d r1 w1 =>
    simp only [e1, Re.bind] at q
    intro v1 H1 G1 s1 x1 h1
    cases e0 : r1[i]? with
    | none => simp only [e0] at q
    | some sl =>
      cases sl with
      | no => simp only [e0] at q
      | od kvs => simp only [e0] at q
      | ow xs =>
        simp only [e0] at q
        obtain ⟨a, vs, f1, f2, f3, _⟩ := own_slot x1 e0
        refine ⟨_, f1, ?_⟩
        cases e2 : fIn neg d (.py (.list xs)) with
        | none => simp only [e2] at q
        | some z =>
          simp only [e2] at q
          unfold fIn at e2
          cases d with
          | mm => cases e2
          | wt _ => cases e2
          | py d =>
            simp only at e2
            by_cases c : LayD d xs
            · rw [ifC_pos c] at e2
              cases e2
              exact ⟨d, xs, dq_dp _ _ (nd_one c.1) (dp_mono x1.h.sub _ _ h1), .inl (.lst (.inl (.inl f2)) (dqs_dp _ _ (nd_all c.2.2) f3)), c, q _ H1 G1 s1 x1 (Dq.bl _)⟩
            · rw [ifC_neg c] at e2
              cases e2
      | im y =>
        simp only [e0] at q
        obtain ⟨o, f1, v, rfl, hv2⟩ := x1.slot i _ e0
        refine ⟨_, f1, ?_⟩
        cases e2 : fIn neg d y with
        | none => simp only [e2] at q
        | some z =>
          simp only [e2] at q
          exact rel_in x1 h1 hv2 e2 fun v2 H2 G2 s2 x2 h2 => q v2 H2 G2 (s1.trans s2) x2 h2
section
variable (i : Nat) {x : Str} {p1 : Pos}
theorem e_inO (hu : X.A.units + 64 < cLine) (ha : PE X e (tM X.K X.mg W m)) (hN : X.N[i]? = some x := by rfl) (hv : Vis X.env.scope x := by first | exact Or.inl rfl | exact Or.inr (Or.inl rfl) | exact Or.inr (Or.inr rfl)) (hd : (x == ("__debug__" : Str)) = false := by decide)
    (hcd : (x == ("__classdict__" : Str)) = false := by decide) (hm : behindInMarks .In (.Name x p1) = false := by rfl) : PE X (.Compare e [.In] [.Name x p1] pos) (tM X.K X.mg W (mInO false m i)) :=
  pe_imp (pe_cmpR (op_inL hu) ha (pe_var hN hv hd hcd) hm) fun _ _ _ h => m_inO h
theorem e_notInO (hu : X.A.units + 64 < cLine) (ha : PE X e (tM X.K X.mg W m)) (hN : X.N[i]? = some x := by rfl) (hv : Vis X.env.scope x := by first | exact Or.inl rfl | exact Or.inr (Or.inl rfl) | exact Or.inr (Or.inr rfl)) (hd : (x == ("__debug__" : Str)) = false := by decide)
    (hcd : (x == ("__classdict__" : Str)) = false := by decide) (hm : behindInMarks .NotIn (.Name x p1) = false := by rfl) : PE X (.Compare e [.NotIn] [.Name x p1] pos) (tM X.K X.mg W (mInO true m i)) :=
  pe_imp (pe_cmpR (op_notInL hu) ha (pe_var hN hv hd hcd) hm) fun _ _ _ h => m_inO h
end
end
end Mi
namespace Mi
open PySem PySem.Spec PyProof.Rows L2
theorem room5 {k : Nat} {A : Around} (r : Room k A) : A.units + 65 < cLine := by have := r.un; omega
/-! ### s.index(x), s a list or a tuple of data -/
def idxD (ds : List PyData) (d : PyData) : Option Nat := ds.findIdx? fun z => PyData.eqv z d
theorem idx_first {ds : List PyData} {d : PyData} {j : Nat} (h : idxD ds d = some j) : ∃ z, ds[j]? = some z ∧ PyData.eqv z d = true ∧ ∀ (m : Nat) (z' : PyData), m < j → ds[m]? = some z' → PyData.eqv z' d = false := by
  unfold idxD at h
  rw [List.findIdx?_eq_some_iff_getElem] at h
  obtain ⟨hl, h1, h2⟩ := h
  refine ⟨_, List.getElem?_eq_getElem hl, h1, fun m z' hm hz => ?_⟩
  obtain ⟨_, e⟩ := List.getElem?_eq_some_iff.mp hz
  rw [← e]
  have := h2 m hm
  simpa using this
def rIdxL (K : PySem.W.Frag) : V → List V → Hp → VK → Prop := fun x vs H Q => ∃ (a : Addr) (y : V) (d : PyData) (ds : List PyData) (j : Nat), x = .ref a ∧ vs = [y] ∧ Dp K H (.ref a) (.list ds) ∧ Dp K H y d ∧ LayD d ds ∧ idxD ds d = some j ∧ Q (.int (j : Nat)) H
def rIdxT (K : PySem.W.Frag) : V → List V → Hp → VK → Prop := fun x vs H Q => ∃ (a : Addr) (y : V) (d : PyData) (ds : List PyData) (j : Nat), x = .ref a ∧ vs = [y] ∧ Dp K H (.ref a) (.tuple ds) ∧ Dp K H y d ∧ LayD d ds ∧ idxD ds d = some j ∧ Q (.int (j : Nat)) H
section
variable {X : Cx}
/-- what both have in common: the items, read -/
theorem idx_items {pins : List (Addr × Obj)} {σ : L2.St} {H : Hp} {s : Shared} (I : Inv X pins σ H s) {ds : List PyData} {xs : List V} {its : List Value} {d : PyData} {j : Nat} (ha : DpAll X.K H xs ds) (rv : Vals xs its) (ok : LayD d ds) (hj : idxD ds d = some j) :
    ∃ as, ReadsAll s.heap its ds as ∧ its.length = ds.length ∧ ∃ hl : j < its.length, PyData.eqv (SeqAt.readOf s.heap its[j]) d = true ∧ ∀ m (hm : m < its.length), m < j → PyData.eqv (SeqAt.readOf s.heap its[m]) d = false := by
  obtain ⟨as, h4⟩ := Dp.readsAll I ds _ its ha rv
  have len : its.length = ds.length := SeqAt.ReadsAll.length ds its as h4
  have map : its.map (SeqAt.readOf s.heap) = ds := SeqAt.readsAll_map ds its as ok.2.2 h4
  obtain ⟨z, hz, hit, no⟩ := idx_first hj
  have hl : j < its.length := by have := (List.getElem?_eq_some_iff.mp hz).1; omega
  have rd : ∀ m (hm : m < its.length) (z' : PyData), ds[m]? = some z' → SeqAt.readOf s.heap its[m] = z' := fun m hm z' hz' => by
    rw [← map, List.getElem?_map, List.getElem?_eq_getElem hm] at hz'
    exact Option.some.inj hz'
  refine ⟨as, h4, len, hl, by rw [rd j hl z hz]; exact hit, fun m hm hmj => ?_⟩
  have hz' : ds[m]? = some ds[m] := List.getElem?_eq_getElem (by omega)
  rw [rd m hm _ hz']
  exact no m _ hmj hz'
theorem mt_idxL (hu : X.A.units + 64 < cLine) : MtR X "list.index" (rIdxL X.K) := by
  intro pins s σ H x vs v us Q I rx rvs h
  obtain ⟨a, y, d, ds, j, rfl, rfl, hl, hy, ok, hj, q⟩ := h
  cases rx
  obtain ⟨uy, rfl, ry⟩ := vals1 rvs
  obtain ⟨bs, r1⟩ := Dp.reads I d y uy hy ry
  cases hl with
  | lst hs ha =>
    obtain ⟨its, rv, ⟨⟨cls, dd, data, sls⟩, n, ho, hc, hdn, hdt⟩, hlen⟩ := I.list hs
    simp only at hc hdt
    subst hc hdt
    obtain ⟨as, h4, len, jl, hit, no⟩ := idx_items I ha rv ok hj
    have fit : its.length ≤ sizeLine := by rw [← rv.length]; exact hlen
    have line := sizeLine_eq
    refine call_meets PySem.F.slot_list_index ⟨_, ho, rfl⟩ PySem.F.entry_list_index (PySem.F.args_list_index_2 _ _)
      (SeqAt.list_indexAt a its.toArray n dd sls uy (fun u => PyData.eqv (SeqAt.readOf s.heap u) d) j (by simpa using jl) (by omega) (by simpa using hit) (fun m hm hmj => by simpa using no m (by simpa using hm) hmj)) ⟨ho, SeqAt.items_eqAt (vs := its.toArray) (show ReadsAll s.heap its.toArray.toList ds as from h4) r1 ok.2.2 ok.1 (room_lay ok hu), ?_⟩
    exact ⟨.int (j : Nat), H, I.tok _, ⟨_, rfl⟩, q⟩
theorem mt_idxT (hu : X.A.units + 64 < cLine) : MtR X "tuple.index" (rIdxT X.K) := by
  intro pins s σ H x vs v us Q I rx rvs h
  obtain ⟨a, y, d, ds, j, rfl, rfl, hl, hy, ok, hj, q⟩ := h
  cases rx
  obtain ⟨uy, rfl, ry⟩ := vals1 rvs
  obtain ⟨bs, r1⟩ := Dp.reads I d y uy hy ry
  cases hl with
  | tup hs ha =>
    obtain ⟨its, rv, ⟨⟨cls, dd, data, sls⟩, ho, hc, n, hdt⟩, hlen⟩ := I.tuple hs
    simp only at hc hdt
    subst hc hdt
    obtain ⟨as, h4, len, jl, hit, no⟩ := idx_items I ha rv ok hj
    refine call_meets PySem.F.slot_tuple_index ⟨_, ho, rfl⟩ PySem.F.entry_tuple_index (PySem.F.args_tuple_index_2 _ _)
      (TI.tuple_indexAt a its.toArray n dd sls uy (fun u => PyData.eqv (SeqAt.readOf s.heap u) d) j (by simpa using jl) (by simpa using hit) (fun m hm hmj => by simpa using no m (by simpa using hm) hmj)) ⟨ho, SeqAt.items_eqAt (vs := its.toArray) (show ReadsAll s.heap its.toArray.toList ds as from h4) r1 ok.2.2 ok.1 (room_lay ok hu), ?_⟩
    exact ⟨.int (j : Nat), H, I.tok _, ⟨_, rfl⟩, q⟩
variable {o e : Expr} {to : TE} {ta : TA} {apos cpos : Pos}
def tIdx (K : PySem.W.Frag) (to : TE) (ta : TA) : TE := fun σ H Q => to σ H fun x H1 => ((∃ a xs, x = .ref a ∧ SqL K H1 a xs) ∧ ta σ H1 fun vs H2 => rIdxL K x vs H2 Q) ∨ ((∃ a xs, x = .ref a ∧ TupS H1 a xs) ∧ ta σ H1 fun vs H2 => rIdxT K x vs H2 Q)
theorem pe_idx (hu : X.A.units + 64 < cLine) (ho : PE X o to) (ha : PA X (e :: []) ta)
    (hbase : attributeBase o "index" X.env (eval o X.env) = eval o X.env := by rfl)
    (hfew : ((backTo cpos (starEach (e :: []) X.env)).all (fun x => !x.1) && (backToKw cpos (keywordEach [] X.env)).all (fun x => x.1.isSome)
      && decide ((e :: []).length + ([] : List Keyword).length + (if ([] : List Keyword).isEmpty then 0 else 1) < 30)) = true := by rfl)
    (hline : (apos.endLine == cpos.line) = true := by rfl) (hs : starEach (e :: []) X.env = (false, eval e X.env) :: starEach [] X.env := by rfl) (hplain : (backTo cpos (starEach [] X.env)).any (·.1) = false := by rfl) :
    PE X (.Call (.Attribute o "index" apos) [e] [] cpos) (tIdx X.K to ta) := by
  refine ⟨fun pins s σ H Q I q0 => ?_⟩
  refine wpAny_Call_method_late hbase hfew hline rfl (thn (ho.run pins s σ H _ I q0) fun v s1 ⟨x, H1, I1, r1, way⟩ => ?_)
  have plain : (((false, eval e X.env) :: backTo cpos (starEach [] X.env)).any (·.1)) = false := by
    show (false || (backTo cpos (starEach [] X.env)).any (·.1)) = false
    rw [hplain]
    rfl
  rcases way with ⟨⟨a, xs, rfl, hx⟩, q⟩ | ⟨⟨a, xs, rfl, hx⟩, q⟩
  · obtain ⟨k1, k2⟩ := tyV_is I1 r1 (T := "list") (.inl ⟨rfl, xs, hx⟩)
    refine ⟨"list", "list.index", PySem.F.plainAttrs_list, PySem.F.slot_list_index, PySem.F.type_list_index, k1, k2, ?_⟩
    have hA := ha.run cpos pins s1 σ H1 _ I1 q
    rw [hs] at hA ⊢
    exact Calls.callWith_builtin plain (Calls.evalArgs_plain (thn hA fun us s2 ⟨vs, H2, I2, r2, q2⟩ => mt_idxL hu pins s2 σ H2 _ vs v us Q I2 r1 r2 q2))
  · cases r1
    obtain ⟨us0, n0, rv0, e0, _⟩ := inv_tupS I1 hx
    refine ⟨"tuple", "tuple.index", PySem.F.plainAttrs_tuple, PySem.F.slot_tuple_index, PySem.F.type_tuple_index, ⟨_, e0, rfl⟩, fun b eb => by cases eb; exact ⟨_, e0, rfl⟩, ?_⟩
    have hA := ha.run cpos pins s1 σ H1 _ I1 q
    rw [hs] at hA ⊢
    exact Calls.callWith_builtin plain (Calls.evalArgs_plain (thn hA fun us s2 ⟨vs, H2, I2, r2, q2⟩ => mt_idxT hu pins s2 σ H2 (V.ref a) vs (Value.ref a) us Q I2 rfl r2 q2))
/-- the receiver is a value -/
def fIdx (x y : D) : Option D := match x, y with
  | .py (.list ds), .py d => (match idxD ds d with
    | some j => ifC (LayD d ds) (some (.py (.int (j : Nat)))) none
    | none => none)
  | .py (.tuple ds), .py d => (match idxD ds d with
    | some j => ifC (LayD d ds) (some (.py (.int (j : Nat)))) none
    | none => none)
  | _, _ => none
def seqD (d : D) : Bool := match d with
  | .py (.list _) => true
  | .py (.tuple _) => true
  | _ => false
def mIdx (mo m : M D) : M D := fun r w => (mo r w).bind fun a r w => if seqD a = true then (m r w).bind fun b r w => (match fIdx a b with
    | some c => .ok c r w
    | none => .bad) else .bad
theorem e_idx {mo m : M D} (hu : X.A.units + 64 < cLine) (ho : PE X o (tM X.K X.mg W mo)) (ha : PE X e (tM X.K X.mg W m))
    (hbase : attributeBase o "index" X.env (eval o X.env) = eval o X.env := by rfl)
    (hfew : ((backTo cpos (starEach (e :: []) X.env)).all (fun x => !x.1) && (backToKw cpos (keywordEach [] X.env)).all (fun x => x.1.isSome)
      && decide ((e :: []).length + ([] : List Keyword).length + (if ([] : List Keyword).isEmpty then 0 else 1) < 30)) = true := by rfl)
    (hline : (apos.endLine == cpos.line) = true := by rfl) (hs : starEach (e :: []) X.env = (false, eval e X.env) :: starEach [] X.env := by rfl) (hplain : (backTo cpos (starEach [] X.env)).any (·.1) = false := by rfl) :
    PE X (.Call (.Attribute o "index" apos) [e] [] cpos) (tM X.K X.mg W (mIdx mo m)) := by
  refine pe_imp (pe_idx hu ho (pa_cons ha pa_nil hs) hbase hfew hline hs hplain) fun σ H Q h => ?_
  obtain ⟨wa, Fr, G, r, w, x, q⟩ := h
  unfold mIdx at q
  refine ⟨wa, Fr, G, r, w, x, ?_⟩
  cases e1 : mo r w with
  | bad => simp only [e1, Re.bind] at q
  | ex c f y r9 w9 => simp only [e1, Re.bind] at q; exact q
  | ok d1 r1 w1 =>
    simp only [e1, Re.bind] at q
    intro v1 H1 G1 s1 x1 h1
    cases es : seqD d1 with
    | false => simp only [es, Bool.false_eq_true, if_false] at q
    | true =>
      simp only [es, if_true] at q
      -- the answer, once the second value is there
      have rest : ∀ (P : V → List V → Hp → VK → Prop), (∀ v2 H2 G2 d2 j, Rv X.K wa G2 v2 d2 → Same G1 G2 → Rep X.K wa Fr G2 σ H2 (match m r1 w1 with | .ok _ r' _ => r' | _ => r1) (match m r1 w1 with | .ok _ _ w' => w' | _ => w1) → fIdx d1 d2 = some (.py (.int (j : Nat))) → Q (.int (j : Nat)) H2 → P v1 [v2] H2 Q) →
          tCons (tM X.K X.mg W m) tNil σ H1 (fun vs H2 => P v1 vs H2 Q) := by
        intro P hP
        refine ⟨wa, Fr, G1, r1, w1, x1, ?_⟩
        cases e2 : m r1 w1 with
        | bad => simp only [e2] at q
        | ex c f y r9 w9 => simp only [e2] at q; exact q.mono s1
        | ok d2 r2 w2 =>
          simp only [e2] at q hP
          intro v2 H2 G2 s2 x2 h2
          cases e3 : fIdx d1 d2 with
          | none => simp only [e3] at q
          | some d3 =>
            simp only [e3] at q
            obtain ⟨j, rfl⟩ : ∃ j : Nat, d3 = .py (.int (j : Nat)) := by
              unfold fIdx at e3
              split at e3
              · split at e3
                · unfold ifC at e3
                  split at e3 <;> cases e3
                  exact ⟨_, rfl⟩
                · cases e3
              · split at e3
                · unfold ifC at e3
                  split at e3 <;> cases e3
                  exact ⟨_, rfl⟩
                · cases e3
              · cases e3
            exact hP v2 H2 G2 d2 j h2 s2 x2 e3 (q _ H2 G2 (s1.trans s2) x2 (Dq.int _))
      cases d1 with
      | mm => cases es
      | wt _ => cases es
      | py d1 =>
        cases d1 with
        | none => cases es
        | bool _ => cases es
        | int _ => cases es
        | str _ => cases es
        | dict _ => cases es
        | list ds =>
          cases h1 with
          | @lst a vs _ ss ad =>
            refine .inl ⟨⟨_, _, rfl, SqL.of (x1.h.sub _ _ ss)⟩, rest (rIdxL X.K) ?_⟩
            intro v2 H2 G2 d2 j h2 s2 x2 e3 qq
            unfold fIdx at e3
            cases d2 with
            | mm => cases e3
            | wt _ => cases e3
            | py d2 =>
              simp only at e3
              cases e4 : idxD ds d2 with
              | none => rw [e4] at e3; cases e3
              | some j' =>
                rw [e4] at e3
                simp only at e3
                by_cases c : LayD d2 ds
                · rw [ifC_pos c] at e3
                  cases e3
                  exact ⟨_, _, d2, ds, _, rfl, rfl, dq_dp _ _ (nd_list c.2.2) (dp_mono x2.h.sub _ _ (dp_mono s2 _ _ (Dq.lst ss ad))), dq_dp _ _ (nd_one c.1) (dp_mono x2.h.sub _ _ h2), c, e4, qq⟩
                · rw [ifC_neg c] at e3
                  cases e3
        | tuple ds =>
          cases h1 with
          | @tup a vs _ ss ad =>
            refine .inr ⟨⟨_, _, rfl, ss.mono x1.h.sub⟩, rest (rIdxT X.K) ?_⟩
            intro v2 H2 G2 d2 j h2 s2 x2 e3 qq
            unfold fIdx at e3
            cases d2 with
            | mm => cases e3
            | wt _ => cases e3
            | py d2 =>
              simp only at e3
              cases e4 : idxD ds d2 with
              | none => rw [e4] at e3; cases e3
              | some j' =>
                rw [e4] at e3
                simp only at e3
                by_cases c : LayD d2 ds
                · rw [ifC_pos c] at e3
                  cases e3
                  exact ⟨_, _, d2, ds, _, rfl, rfl, dq_dp _ _ (nd_tup c.2.2) (dp_mono x2.h.sub _ _ (dp_mono s2 _ _ (Dq.tup ss ad))), dq_dp _ _ (nd_one c.1) (dp_mono x2.h.sub _ _ h2), c, e4, qq⟩
                · rw [ifC_neg c] at e3
                  cases e3
end
end Mi
namespace Mi
open PySem PySem.Spec PyProof.Rows L2
section
variable {X : Cx} {x : Str} {e : Expr} {m : M D} {p1 apos cpos pos : Pos}
/-! ### own.index(x) -/
def mIdxO (i : Nat) (m : M D) : M D := fun r w => match r[i]? with
  | some (.ow _) => (m r w).bind fun d r w => (match r[i]? with
    | some (.ow xs) => (match fIdx (.py (.list xs)) d with
      | some z => .ok z r w
      | none => .bad)
    | _ => .bad)
  | some (.im _) => mIdx (mVar i) m r w
  | _ => .bad
theorem e_idxO (i : Nat) (hu : X.A.units + 64 < cLine) (ha : PE X e (tM X.K X.mg W m)) (hN : X.N[i]? = some x := by rfl) (hv : Vis X.env.scope x := by first | exact Or.inl rfl | exact Or.inr (Or.inl rfl) | exact Or.inr (Or.inr rfl)) (hd : (x == ("__debug__" : Str)) = false := by decide)
    (hcd : (x == ("__classdict__" : Str)) = false := by decide)
    (hbase : attributeBase (.Name x p1) "index" X.env (eval (.Name x p1) X.env) = eval (.Name x p1) X.env := by rfl)
    (hfew : ((backTo cpos (starEach (e :: []) X.env)).all (fun x => !x.1) && (backToKw cpos (keywordEach [] X.env)).all (fun x => x.1.isSome)
      && decide ((e :: []).length + ([] : List Keyword).length + (if ([] : List Keyword).isEmpty then 0 else 1) < 30)) = true := by rfl)
    (hline : (apos.endLine == cpos.line) = true := by rfl) (hs : starEach (e :: []) X.env = (false, eval e X.env) :: starEach [] X.env := by rfl) (hplain : (backTo cpos (starEach [] X.env)).any (·.1) = false := by rfl) :
    PE X (.Call (.Attribute (.Name x p1) "index" apos) [e] [] cpos) (tM X.K X.mg W (mIdxO i m)) := by
  constructor
  intro pins s σ H Q I h
  obtain ⟨wa, Fr, G, r, w, x0, q⟩ := h
  unfold mIdxO at q
  cases e0 : r[i]? with
  | none => simp only [e0] at q
  | some sl =>
    cases sl with
    | no => simp only [e0] at q
    | od kvs => simp only [e0] at q
    | im y =>
      simp only [e0] at q
      exact (e_idx hu (e_var i hN hv hd hcd) ha hbase hfew hline hs hplain).run pins s σ H Q I ⟨wa, Fr, G, r, w, x0, q⟩
    | ow xs0 =>
      simp only [e0] at q
      refine (pe_idx hu (pe_var hN hv hd hcd) (pa_cons ha pa_nil hs) hbase hfew hline hs hplain).run pins s σ H Q I ?_
      obtain ⟨a, vs, f1, f2, f3, _⟩ := own_slot x0 e0
      refine ⟨_, f1, .inl ⟨⟨_, _, rfl, SqL.of f2⟩, wa, Fr, G, r, w, x0, ?_⟩⟩
      cases e1 : m r w with
      | bad => simp only [e1, Re.bind] at q
      | ex c f y r9 w9 => simp only [e1, Re.bind] at q; exact q
      | ok d r1 w1 =>
        simp only [e1, Re.bind] at q
        intro v1 H1 G1 s1 x1 h1
        cases e2 : r1[i]? with
        | none => simp only [e2] at q
        | some sl =>
          cases sl with
          | no => simp only [e2] at q
          | od kvs => simp only [e2] at q
          | im y => simp only [e2] at q
          | ow xs =>
            simp only [e2] at q
            obtain ⟨a', vs', g1, g2, g3, _⟩ := own_slot x1 e2
            rw [f1] at g1
            cases g1
            cases e3 : fIdx (.py (.list xs)) d with
            | none => simp only [e3] at q
            | some z =>
              simp only [e3] at q
              unfold fIdx at e3
              cases d with
              | mm => cases e3
              | wt _ => cases e3
              | py d =>
                simp only at e3
                cases e4 : idxD xs d with
                | none => rw [e4] at e3; cases e3
                | some j =>
                  rw [e4] at e3
                  simp only at e3
                  by_cases c : LayD d xs
                  · rw [ifC_pos c] at e3
                    cases e3
                    exact ⟨_, _, d, xs, j, rfl, rfl, .lst (.inl (.inl g2)) (dqs_dp _ _ (nd_all c.2.2) g3), dq_dp _ _ (nd_one c.1) (dp_mono x1.h.sub _ _ h1), c, e4, q _ H1 G1 s1 x1 (Dq.int _)⟩
                  · rw [ifC_neg c] at e3
                    cases e3
/-! ### own.pop(k) -/
def popAt (i : Nat) (d : D) (r : En) : Option (PyData × En) := match d, r[i]? with
  | .py (.int k), some (.ow xs) => (match seqIndex? k xs.length with
    | some j => (match xs[j]? with
      | some y => ifC (-1000000 ≤ k ∧ k ≤ 1000000) (some (y, r.set i (.ow (xs.eraseIdx j)))) none
      | none => none)
    | none => none)
  | _, _ => none
def mPopO (i : Nat) (m : M D) : M D := fun r w => match r[i]? with
  | some (.ow _) => (m r w).bind fun d r w => (match popAt i d r with
    | some yr => .ok (.py yr.1) yr.2 w
    | none => .bad)
  | _ => .bad
theorem dpall_erase {K : PySem.W.Frag} {H : Hp} : ∀ {vs : List V} {ds : List PyData} (j : Nat), DqAll K H vs ds → DqAll K H (vs.eraseIdx j) (ds.eraseIdx j)
  | _, _, _, .nil => .nil
  | _, _, 0, .cons _ t => t
  | _, _, j + 1, .cons h t => .cons h (dpall_erase j t)
theorem dpall_set {K : PySem.W.Frag} {H : Hp} {v : V} {d : PyData} (hv : Dq K H v d) : ∀ {vs : List V} {ds : List PyData} (j : Nat), DqAll K H vs ds → DqAll K H (vs.set j v) (ds.set j d)
  | _, _, _, .nil => .nil
  | _, _, 0, .cons _ t => .cons hv t
  | _, _, j + 1, .cons h t => .cons h (dpall_set hv j t)
theorem e_popO (i : Nat) (ha : PE X e (tM X.K X.mg W m)) (hN : X.N[i]? = some x := by rfl) (hv : Vis X.env.scope x := by first | exact Or.inl rfl | exact Or.inr (Or.inl rfl) | exact Or.inr (Or.inr rfl)) (hd : (x == ("__debug__" : Str)) = false := by decide)
    (hcd : (x == ("__classdict__" : Str)) = false := by decide)
    (hbase : attributeBase (.Name x p1) "pop" X.env (eval (.Name x p1) X.env) = eval (.Name x p1) X.env := by rfl)
    (hfew : ((backTo cpos (starEach (e :: []) X.env)).all (fun x => !x.1) && (backToKw cpos (keywordEach [] X.env)).all (fun x => x.1.isSome)
      && decide ((e :: []).length + ([] : List Keyword).length + (if ([] : List Keyword).isEmpty then 0 else 1) < 30)) = true := by rfl)
    (hline : (apos.endLine == cpos.line) = true := by rfl) (hs : starEach (e :: []) X.env = (false, eval e X.env) :: starEach [] X.env := by rfl) (hplain : (backTo cpos (starEach [] X.env)).any (·.1) = false := by rfl) :
    PE X (.Call (.Attribute (.Name x p1) "pop" apos) [e] [] cpos) (tM X.K X.mg W (mPopO i m)) := by
  refine pe_imp (pe_bm PySem.F.plainAttrs_list PySem.F.slot_list_pop PySem.F.type_list_pop mt_popAt (pe_var hN hv hd hcd) (pa_cons ha pa_nil hs) hbase hfew hline hs hplain) fun σ H Q h => ?_
  obtain ⟨wa, Fr, G, r, w, x0, q⟩ := h
  unfold mPopO at q
  cases e0 : r[i]? with
  | none => simp only [e0] at q
  | some sl =>
    cases sl with
    | no => simp only [e0] at q
    | od kvs => simp only [e0] at q
    | im y => simp only [e0] at q
    | ow xs0 =>
      simp only [e0] at q
      obtain ⟨a, vs, f1, f2, f3, _⟩ := own_slot x0 e0
      refine ⟨_, f1, tyV_own f2, wa, Fr, G, r, w, x0, ?_⟩
      cases e1 : m r w with
      | bad => simp only [e1, Re.bind] at q
      | ex c f y r9 w9 => simp only [e1, Re.bind] at q; exact q
      | ok d r1 w1 =>
        simp only [e1, Re.bind] at q
        intro v1 H1 G1 s1 x1 h1
        cases e9 : popAt i d r1 with
        | none => simp only [e9] at q
        | some yr =>
          simp only [e9] at q
          unfold popAt at e9
          split at e9
          · rename_i k xs e2
            split at e9
            · rename_i j ej
              split at e9
              · rename_i y ey
                by_cases c : -1000000 ≤ k ∧ k ≤ 1000000
                · rw [ifC_pos c] at e9
                  cases e9
                  cases h1
                  obtain ⟨a', vs', g1, g2, g3, g4⟩ := own_slot x1 e2
                  rw [f1] at g1
                  cases g1
                  obtain ⟨v, e3, hv3⟩ := dpall_get g4 ey
                  have lv := dpall_len g4
                  refine ⟨a, vs', k, j, v, rfl, rfl, g2, by omega, by omega, by rw [lv]; exact ej, e3, ?_⟩
                  exact q v _ G1 s1 (x1.change e2 f1 (dpall_erase j g4)) hv3
                · rw [ifC_neg c] at e9
                  cases e9
              · cases e9
            · cases e9
          · cases e9
/-! ### own[k] = v -/
def sPutO (i : Nat) (mk mv : M D) : S := fun r w => match mv r w with
  | .ok (.py y) r1 w1 => (match r1[i]? with
    | some (.ow _) => (match mk r1 w1 with
      | .ok (.py (.int k)) r2 w2 => (match r2[i]? with
        | some (.ow xs) => (match ixN xs.length k with
          | some j => .nx (r2.set i (.ow (xs.set j y))) w2
          | none => .bad)
        | _ => .bad)
      | .ex c f y r2 w2 => .ex c f y r2 w2
      | _ => .bad)
    | _ => .bad)
  | .ex c f y r1 w1 => .ex c f y r1 w1
  | _ => .bad
theorem s_putO (i : Nat) {k v : Expr} {mk mv : M D} {p2 : Pos} (hvl : PE X v (tM X.K X.mg W mv)) (hk : PE X k (tM X.K X.mg W mk)) (hN : X.N[i]? = some x := by rfl) (hv : Vis X.env.scope x := by first | exact Or.inl rfl | exact Or.inr (Or.inl rfl) | exact Or.inr (Or.inr rfl)) (hd : (x == ("__debug__" : Str)) = false := by decide)
    (hcd : (x == ("__classdict__" : Str)) = false := by decide) (hs : swapsWithSole [.Subscript (.Name x p1) k p2] v pos.line X.env = pure false := by rfl) (hw : swappedStores [.Subscript (.Name x p1) k p2] v X.env = pure none := by rfl)
    (h1 : (assignEach [.Subscript (.Name x p1) k p2] X.env).map (·.2) = [assign (.Subscript (.Name x p1) k p2) X.env] := by rfl)
    (how : ∀ u, assign (.Subscript (.Name x p1) k p2) X.env u = (do let ov ← holding [u] (eval (.Name x p1) X.env); let iv ← holding [u, ov] (eval k X.env); standAt p2; holding [u, ov, iv] (setItem ov iv u); release [u, ov, iv] []) := by intro _; rfl) :
    PS X (.Assign [.Subscript (.Name x p1) k p2] v pos) (tX X.K X.mg W (sPutO i mk mv)) := by
  refine ps_imp (ps_asg hvl (pg_sub (pe_var hN hv hd hcd) hk set_list how) hs hw h1) fun Dn σ H h => ?_
  obtain ⟨wa, Fr, G, r, w, x0, q⟩ := tX_after h
  unfold sPutO at q
  refine ⟨wa, Fr, G, r, w, x0, ?_⟩
  split at q
  · rename_i y r1 w1 e1
    rw [e1]
    intro v1 H1 G1 s1 x1 h1
    split at q
    · rename_i xs0 e0
      obtain ⟨a, vs, f1, f2, f3, _⟩ := own_slot x1 e0
      refine ⟨_, f1, wa, Fr, G1, r1, w1, x1, ?_⟩
      split at q
      · rename_i kk r2 w2 e2
        rw [e2]
        intro v2 H2 G2 s2 x2 h2
        cases h2
        split at q
        · rename_i xs e3
          split at q
          · rename_i j ej
            obtain ⟨a', vs', g1, g2, g3, g4⟩ := own_slot x2 e3
            rw [f1] at g1
            cases g1
            have lv := dpall_len g4
            refine ⟨a, vs', kk, j, rfl, rfl, g2, by rw [lv]; exact ej, ?_⟩
            exact q σ _ G2 (s1.trans s2) (x2.change e3 f1 (dpall_set (dp_mono s2 _ _ h1) j g4))
          · exact False.elim q
        · exact False.elim q
      · rename_i e2
        rw [e2]
        exact ExSt.at (ExSt.mono q s1)
      · exact False.elim q
    · exact False.elim q
  · rename_i e1
    rw [e1]
    exact ExSt.at q
  · exact False.elim q
end
end Mi
namespace Mi
open PySem PySem.Spec PyProof.Rows L2
/-! ### several names at once, values and new lists -/
inductive Item where
  | val (d : D)
  | new (xs : List PyData)
inductive MxAll (K : PySem.W.Frag) (wa : WA) (Fr G H : Hp) (r : En) (σ : L2.St) : List V → List Item → List Addr → Prop
  | nil : MxAll K wa Fr G H r σ [] [] []
  | val {v : V} {vs : List V} {d : D} {its : List Item} {as : List Addr} : Rv K wa G v d → MxAll K wa Fr G H r σ vs its as → MxAll K wa Fr G H r σ (v :: vs) (.val d :: its) as
  | new {a : Addr} {vs us : List V} {xs : List PyData} {its : List Item} {as : List Addr} : Own K wa Fr G H a us xs → (∀ (j : Nat) (ys : List PyData), r[j]? = some (.ow ys) → σ[j]? ≠ some (some (.ref a))) → a ∉ as → MxAll K wa Fr G H r σ vs its as →
      MxAll K wa Fr G H r σ (.ref a :: vs) (.new xs :: its) (a :: as)
def tMx (K : PySem.W.Frag) (mg : Str → Option Value) (W : WX) (m : M (List Item)) : TA := fun σ H Q => ∃ wa Fr G r w, Rep K wa Fr G σ H r w ∧ match m r w with
  | .ok its r' w' => ∀ vs as H' G', Same G G' → Rep K wa Fr G' σ H' r' w' → MxAll K wa Fr G' H' r' σ vs its as → Q vs H'
  | .ex c f y r' w' => ExOk K mg W wa Fr G σ c f y r' w'
  | .bad => False
def xNil : M (List Item) := fun r w => .ok [] r w
def xVal (m : M D) (n : M (List Item)) : M (List Item) := fun r w => (m r w).bind fun d r w => (n r w).bind fun its r w => .ok (.val d :: its) r w
def xNew (m : M (List PyData)) (n : M (List Item)) : M (List Item) := fun r w => (m r w).bind fun d r w => (n r w).bind fun its r w => .ok (.new d :: its) r w
section
variable {K : PySem.W.Frag} {wa : WA} {Fr G H : Hp} {r : En} {σ : L2.St} {w : Wd} {vs us : List V} {its : List Item} {as : List Addr} {a : Addr} {p : Addr} {o : HO}
theorem MxAll.noFr (h : MxAll K wa Fr G H r σ vs its as) : ∀ a ∈ as, Fr a = none ∧ ∃ ws, H a = some (.lst ws) := by
  induction h with
  | nil => intro a ha; cases ha
  | val _ _ ih => exact ih
  | new ho _ _ _ ih =>
    intro b hb
    rcases List.mem_cons.mp hb with e | e
    · rw [e]; exact ⟨ho.f, _, ho.at_⟩
    · exact ih b e
theorem MxAll.unprot (h : MxAll K wa (upd Fr p o) G H r σ vs its as) : MxAll K wa Fr G H r σ vs its as := by
  induction h with
  | nil => exact .nil
  | val hv _ ih => exact .val hv ih
  | @new a vs us xs its as ho hn ha _ ih =>
    have np : a ≠ p := fun z => by
      have := ho.f
      rw [z, upd_same] at this
      cases this
    refine .new ⟨ho.at_, ho.da, ho.g, ?_, ho.wm, ho.wc, ho.wg⟩ hn ha ih
    have := ho.f
    rw [upd_ne np] at this
    exact this
theorem MxAll.setIm (i : Nat) (v : V) (d : D) (h : MxAll K wa Fr G H r σ vs its as) : MxAll K wa Fr G H (r.set i (.im d)) (σ.set i (some v)) vs its as := by
  induction h with
  | nil => exact .nil
  | val hv _ ih => exact .val hv ih
  | new ho hn ha _ ih =>
    refine .new ho (fun j ys e => ?_) ha ih
    by_cases hj : i = j
    · subst hj
      have hl : i < r.length := by
        have := (List.getElem?_eq_some_iff.mp e).1
        rw [List.length_set] at this
        exact this
      rw [List.getElem?_set_self hl] at e
      cases e
    · rw [List.getElem?_set_ne hj] at e
      rw [List.getElem?_set_ne hj]
      exact hn j ys e
theorem MxAll.setOw (i : Nat) (b : Addr) (zs : List PyData) (hb : b ∉ as) (h : MxAll K wa Fr G H r σ vs its as) : MxAll K wa Fr G H (r.set i (.ow zs)) (σ.set i (some (.ref b))) vs its as := by
  induction h with
  | nil => exact .nil
  | val hv _ ih => exact .val hv (ih hb)
  | @new a vs us xs its as ho hn ha _ ih =>
    refine .new ho (fun j ys e => ?_) ha (ih fun z => hb (List.mem_cons_of_mem _ z))
    have nb : b ≠ a := fun z => hb (by rw [z]; exact List.mem_cons_self ..)
    by_cases hj : i = j
    · subst hj
      intro z
      by_cases hl : i < σ.length
      · rw [List.getElem?_set_self hl] at z
        cases z
        exact nb rfl
      · rw [List.getElem?_eq_none (by rw [List.length_set]; omega)] at z
        cases z
    · rw [List.getElem?_set_ne hj] at e
      rw [List.getElem?_set_ne hj]
      exact hn j ys e
theorem MxAll.alloc (h : MxAll K wa Fr G H r σ vs its as) (R : RepH wa Fr G H w) (hp : H p = none) : MxAll K wa Fr (upd G p o) (upd H p o) r σ vs its as := by
  induction h with
  | nil => exact .nil
  | val hv _ ih => exact .val (hv.mono (same_new (R.gnone hp))) ih
  | new ho hn ha _ ih => exact .new (ho.alloc R hp) hn ha ih
/-- the names, set one after the other -/
def setV : List Nat → List V → L2.St → L2.St
  | i :: is, v :: vs, σ => setV is vs (σ.set i (some v))
  | _, _, σ => σ
def setAll : List Nat → List Item → En → En
  | i :: is, .val d :: its, r => setAll is its (r.set i (.im d))
  | i :: is, .new xs :: its, r => setAll is its (r.set i (.ow xs))
  | _, _, r => r
theorem MxAll.len (h : MxAll K wa Fr G H r σ vs its as) : vs.length = its.length := by
  induction h with
  | nil => rfl
  | val _ _ ih => rw [List.length_cons, List.length_cons, ih]
  | new _ _ _ _ ih => rw [List.length_cons, List.length_cons, ih]
theorem setAll_ok : ∀ (is : List Nat) (vs : List V) (its : List Item) (as : List Addr) (r : En) (σ : L2.St), MxAll K wa Fr G H r σ vs its as → Rep K wa Fr G σ H r w → Rep K wa Fr G (setV is vs σ) H (setAll is its r) w
  | [], vs, its, as, r, σ, h, x => by unfold setV setAll; exact x
  | i :: is, _, _, _, r, σ, .nil, x => by unfold setV setAll; exact x
  | i :: is, _, _, _, r, σ, .val (v := v) (d := d) hv h, x => by
    unfold setV setAll
    exact setAll_ok is _ _ _ _ _ (h.setIm i v d) (x.setIm i hv)
  | i :: is, _, _, _, r, σ, .new (a := a) (xs := xs) ho hn ha h, x => by
    unfold setV setAll
    exact setAll_ok is _ _ _ _ _ (h.setOw i a xs ha) (x.setOw i ho hn)
theorem names_V : ∀ (is : List Nat) (vs : List V) {Q : L2.St → Hp → Prop}, vs.length = is.length → Q (setV is vs σ) H → gNames is vs σ H Q := by
  intro is
  induction is generalizing σ with
  | nil =>
    intro vs Q hl q
    cases vs with
    | nil => exact ⟨rfl, q⟩
    | cons _ _ => cases hl
  | cons i is ih =>
    intro vs Q hl q
    cases vs with
    | nil => cases hl
    | cons v vs =>
      refine ⟨v, vs, rfl, ?_⟩
      exact ih vs (by simpa using hl) q
end
section
variable {X : Cx} {e : Expr} {es : List Expr} {m : M D} {mf : M (List PyData)} {n : M (List Item)} {pos : Pos}
theorem x_nil : PA X [] (tMx X.K X.mg W xNil) := pa_imp pa_nil fun σ H Q h => by
  obtain ⟨wa, Fr, G, r, w, x, q⟩ := h
  exact q [] [] H G (Same.refl _) x .nil
theorem x_val (ha : PE X e (tM X.K X.mg W m)) (hr : PA X es (tMx X.K X.mg W n)) (hs : starEach (e :: es) X.env = (false, eval e X.env) :: starEach es X.env := by rfl) : PA X (e :: es) (tMx X.K X.mg W (xVal m n)) := by
  refine pa_imp (pa_cons ha hr hs) fun σ H Q h => ?_
  obtain ⟨wa, Fr, G, r, w, x, q⟩ := h
  unfold xVal at q
  refine ⟨wa, Fr, G, r, w, x, ?_⟩
  cases e1 : m r w with
  | bad => simp only [e1, Re.bind] at q
  | ex c f y r9 w9 => simp only [e1, Re.bind] at q; exact q
  | ok d r1 w1 =>
    simp only [e1, Re.bind] at q
    intro v1 H1 G1 s1 x1 h1
    refine ⟨wa, Fr, G1, r1, w1, x1, ?_⟩
    cases e2 : n r1 w1 with
    | bad => simp only [e2] at q
    | ex c f y r9 w9 => simp only [e2] at q; exact q.mono s1
    | ok its r2 w2 =>
      simp only [e2] at q
      exact fun vs as H2 G2 s2 x2 h2 => q (v1 :: vs) as H2 G2 (s1.trans s2) x2 (.val (h1.mono s2) h2)
theorem x_new (ha : PE X e (tF X.K X.mg W mf)) (hr : PA X es (tMx X.K X.mg W n)) (hs : starEach (e :: es) X.env = (false, eval e X.env) :: starEach es X.env := by rfl) : PA X (e :: es) (tMx X.K X.mg W (xNew mf n)) := by
  refine pa_imp (pa_cons ha hr hs) fun σ H Q h => ?_
  obtain ⟨wa, Fr, G, r, w, x, q⟩ := h
  unfold xNew at q
  refine ⟨wa, Fr, G, r, w, x, ?_⟩
  cases e1 : mf r w with
  | bad => simp only [e1, Re.bind] at q
  | ex c f y r9 w9 => simp only [e1, Re.bind] at q; exact q
  | ok xs r1 w1 =>
    simp only [e1, Re.bind] at q
    intro a1 vs1 H1 G1 s1 x1 h1 n1
    refine ⟨wa, _, G1, r1, w1, x1.protOwn h1 n1, ?_⟩
    cases e2 : n r1 w1 with
    | bad => simp only [e2] at q
    | ex c f y r9 w9 => simp only [e2] at q; exact fun H' G' cls d s' x' ee => q H' G' cls d (s1.trans s') (x'.unprot h1.f).1 ee
    | ok its r2 w2 =>
      simp only [e2] at q
      intro vs as H2 G2 s2 x2 h2
      obtain ⟨p1, p2, p3, p4, p5⟩ := x2.protP
      obtain ⟨y1, y2⟩ := x2.unprot h1.f
      have na : a1 ∉ as := fun z => by
        have := (h2.noFr a1 z).1
        rw [upd_same] at this
        cases this
      exact q (.ref a1 :: vs) (a1 :: as) H2 G2 (s1.trans s2) y1 (.new ⟨p1, dps_mono s2 _ _ h1.da, p2, h1.f, p3, p4, p5⟩ y2 na h2.unprot)
def sMx (is : List Nat) (m : M (List Item)) : S := fun r w => match m r w with
  | .ok its r1 w1 => if its.length = is.length then .nx (setAll is its r1) w1 else .bad
  | .ex c f y r1 w1 => .ex c f y r1 w1
  | .bad => .bad
theorem m_mx {is : List Nat} {Dn : Ends} {σ : L2.St} {H : Hp} (h : tX X.K X.mg W (sMx is n) Dn σ H) : tMx X.K X.mg W n σ H fun vs H' => vs.length = is.length ∧ Dn.nx (setV is vs σ) H' := by
  obtain ⟨wa, Fr, G, r, w, x, q⟩ := tX_after h
  unfold sMx at q
  refine ⟨wa, Fr, G, r, w, x, ?_⟩
  cases e1 : n r w with
  | bad => rw [e1] at q; exact False.elim q
  | ex c f y r9 w9 => rw [e1] at q; exact ExSt.at q
  | ok its r1 w1 =>
    rw [e1] at q
    simp only at q
    intro vs as H1 G1 s1 x1 h1
    by_cases hl : its.length = is.length
    · rw [if_pos hl] at q
      exact ⟨by rw [h1.len, hl], q _ H1 G1 s1 (setAll_ok is vs its as r1 σ h1 x1)⟩
    · rw [if_neg hl] at q
      exact False.elim q
theorem pa_weak {es : List Expr} {t : TA} (h : PA X es t) : PA X es t := h
theorem s_mx2 (i j : Nat) {a b : Expr} {x y : Str} {px py pt : Pos} {kt k2 : Nat} {pt2 : Pos} (hc : X.calm = true) (hN : X.N.Nodup) (hij : i ≠ j) (ha : PA X [a, b] (tMx X.K X.mg W n))
    (hw : swappedStores [.Tuple [.Name x px, .Name y py] kt pt] (.Tuple [a, b] k2 pt2) X.env = pure (some [x, y]) := by rfl)
    (hi : X.N[i]? = some x := by rfl) (hj : X.N[j]? = some y := by rfl) (hx : X.env.scope.names.lookup x = some .local := by rfl) (hy : X.env.scope.names.lookup y = some .local := by rfl)
    (hs : swapsWithSole [.Tuple [.Name x px, .Name y py] kt pt] (.Tuple [a, b] k2 pt2) pos.line X.env = pure false := by rfl) :
    PS X (.Assign [.Tuple [.Name x px, .Name y py] kt pt] (.Tuple [a, b] k2 pt2) pos) (tX X.K X.mg W (sMx [i, j] n)) := by
  refine ps_imp (ps_par hc hN hi hj hij hx hy ha hw hs) fun Dn σ H h => ?_
  obtain ⟨wa, Fr, G, r, w, x0, q⟩ := m_mx h
  refine ⟨wa, Fr, G, r, w, x0, ?_⟩
  cases e1 : n r w with
  | bad => simp only [e1] at q
  | ex c f y r9 w9 => simp only [e1] at q; exact q
  | ok its r1 w1 =>
    simp only [e1] at q
    intro vs as H1 G1 s1 x1 h1
    obtain ⟨hl, q1⟩ := q vs as H1 G1 s1 x1 h1
    match vs, hl with
    | [u, v], _ => exact ⟨u, v, rfl, q1⟩
theorem s_mx3 (i j l : Nat) {a b c : Expr} {x y z : Str} {px py pz pt : Pos} {kt k2 : Nat} {pt2 : Pos} (hc : X.calm = true) (hN : X.N.Nodup) (hij : i ≠ j) (hil : i ≠ l) (hjl : j ≠ l) (ha : PA X [a, b, c] (tMx X.K X.mg W n))
    (hw : swappedStores [.Tuple [.Name x px, .Name y py, .Name z pz] kt pt] (.Tuple [a, b, c] k2 pt2) X.env = pure (some [x, y, z]) := by rfl)
    (hi : X.N[i]? = some x := by rfl) (hj : X.N[j]? = some y := by rfl) (hl : X.N[l]? = some z := by rfl) (hx : X.env.scope.names.lookup x = some .local := by rfl) (hy : X.env.scope.names.lookup y = some .local := by rfl) (hz : X.env.scope.names.lookup z = some .local := by rfl)
    (hs : swapsWithSole [.Tuple [.Name x px, .Name y py, .Name z pz] kt pt] (.Tuple [a, b, c] k2 pt2) pos.line X.env = pure false := by rfl) :
    PS X (.Assign [.Tuple [.Name x px, .Name y py, .Name z pz] kt pt] (.Tuple [a, b, c] k2 pt2) pos) (tX X.K X.mg W (sMx [i, j, l] n)) := by
  refine ps_imp (ps_par3 hc hN hi hj hl hij hil hjl hx hy hz ha hw hs) fun Dn σ H h => ?_
  obtain ⟨wa, Fr, G, r, w, x0, q⟩ := m_mx h
  refine ⟨wa, Fr, G, r, w, x0, ?_⟩
  cases e1 : n r w with
  | bad => simp only [e1] at q
  | ex c f y r9 w9 => simp only [e1] at q; exact q
  | ok its r1 w1 =>
    simp only [e1] at q
    intro vs as H1 G1 s1 x1 h1
    obtain ⟨hl, q1⟩ := q vs as H1 G1 s1 x1 h1
    match vs, hl with
    | [u, v, t], _ => exact ⟨u, v, t, rfl, q1⟩
/-- four and more: by a tuple -/
theorem s_mxT (is : List Nat) {ts : List Expr} {kt k2 : Nat} {pt pt2 : Pos} (hc : X.calm = true) (ha : PA X es (tMx X.K X.mg W n)) (hg : PGs X ts (gNames is)) (hn : (assignEach ts X.env).length = is.length := by rfl) (hst : (assignEach ts X.env).findIdx? (·.1) = none := by rfl) (h100 : is.length ≤ 100 := by decide)
    (hs : swapsWithSole [.Tuple ts kt pt] (.Tuple es k2 pt2) pos.line X.env = pure false := by rfl) (hw : swappedStores [.Tuple ts kt pt] (.Tuple es k2 pt2) X.env = pure none := by rfl)
    (h1 : (assignEach [.Tuple ts kt pt] X.env).map (·.2) = [assign (.Tuple ts kt pt) X.env] := by rfl) :
    PS X (.Assign [.Tuple ts kt pt] (.Tuple es k2 pt2) pos) (tX X.K X.mg W (sMx is n)) := by
  refine ps_imp (ps_asg (pe_tupZ ha) (pg_tup hc hg hn hst) hs hw h1) fun Dn σ H h => ?_
  obtain ⟨wa, Fr, G, r, w, x, q⟩ := tX_after h
  unfold sMx at q
  refine ⟨wa, Fr, G, r, w, x, ?_⟩
  cases e1 : n r w with
  | bad => rw [e1] at q; exact False.elim q
  | ex c f y r9 w9 => rw [e1] at q; exact ExSt.at q
  | ok its r1 w1 =>
    rw [e1] at q
    simp only at q
    intro vs as H1 G1 s1 x1 hm
    by_cases hl : its.length = is.length
    · rw [if_pos hl] at q
      have lv : vs.length = is.length := by rw [hm.len, hl]
      refine ⟨big_le (by omega), fun p us k hp => ?_⟩
      have x2 := x1.alloc hp (.frz (tupO us k) (.tup vs))
      have m2 := hm.alloc (o := .frz (tupO us k) (.tup vs)) x1.h hp
      refine ⟨p, vs, rfl, (show TupS _ p vs from TupS.new).sq, lv, names_V is vs lv ?_⟩
      exact q _ _ _ (s1.trans (same_new (x1.h.gnone hp))) (setAll_ok is vs its as r1 σ m2 x2)
    · rw [if_neg hl] at q
      exact False.elim q
end
end Mi
namespace Mi
open PySem PySem.Spec PyProof.Rows L2
/-! ### an error with two fields -/
def spT2 (K : PySem.W.Frag) (f g : Str) : Sp := fun vs H Q _ => ∃ (a C : Addr) (v u : V), vs = [.ref a, v, u] ∧ OexC K C ∧ PySem.W.findIn K (.ref C) f = some none ∧ PySem.W.findIn K (.ref C) g = some none ∧ H a = some (exo a C none) ∧
  ∀ dx, H dx = none → dx ≠ a → Q .non (upd (upd (upd H dx (exd dx [(f, v)])) a (exo a C (some dx))) dx (exd dx [(g, u), (f, v)]))
structure Err2 (P : Program) (w : World) (K : PySem.W.Frag) (mg : Str → Option Value) (base : Heap) (c f g : Str) (C fI : Addr) (fd : FuncData) (ps : List Str) : Prop where
  gC : mg c = some (.ref C)
  T : OexC K C
  iC : PySem.W.findIn K (.ref C) "__init__" = some (some (.ref fI))
  tI : PySem.W.typeIn K (.ref fI) = some (.type "function")
  noF : PySem.W.findIn K (.ref C) f = some none
  noG : PySem.W.findIn K (.ref C) g = some none
  F : FnOk P w K mg base CX0 1 fI fd ps (spT2 K f g)
  hb : Binds K fd ps []
def sRaise2 (c : Str) (f : List Str) (m : M (List D)) : S := fun r w => match m r w with
  | .ok [.py y, .py z] r1 w1 => .ex c f [z, y] r1 w1
  | .ex c' f' y r1 w1 => .ex c' f' y r1 w1
  | _ => .bad
section
variable {X : Cx} {e1 e2 : Expr} {m : M (List D)} {c f g : Str} {C fI : Addr} {fd : FuncData} {ps : List Str} {p p2 p3 : Pos}
theorem made_two {H1 : Hp} {a dx : Addr} {o o' o2 o3 o4 : HO} (ha : H1 a = none) (hd : dx ≠ a) : upd (del (upd (upd (upd (upd H1 a o) dx o') a o2) dx o3) a) dx o4 = upd H1 dx o4 := by
  funext b
  by_cases h1 : b = dx
  · subst h1
    rw [upd_same, upd_same]
  · rw [upd_ne h1, upd_ne h1]
    by_cases h2 : b = a
    · subst h2
      rw [del_same, ha]
    · rw [del_ne h2, upd_ne h1, upd_ne h2, upd_ne h1, upd_ne h2]
theorem s_raise2 (hc : X.calm = true) (T : Err2 X.prog X.w X.K X.mg X.base c f g C fI fd ps) (hr : Room 2 X.A) {W : WX} (tk : Takes X W) (ha : PA X [e1, e2] (tMs X.K X.mg W m)) (hg : Gl X c := by rfl) (hdb : (c == ("__debug__" : Str)) = false := by decide)
    (hs : starEach (e1 :: [e2]) X.env = (false, eval e1 X.env) :: starEach [e2] X.env := by rfl) (hpl : (backTo p2 (starEach [e2] X.env)).any (·.1) = false := by rfl) :
    PS X (.Raise (some (.Call (.Name c p) [e1, e2] [] p2)) none p3) (tX X.K X.mg W (sRaise2 c [g, f] m)) := by
  refine ps_imp (ps_raise hc tk (pmk_oex T.T T.iC T.tI T.F hr T.hb .nil pass0 hg T.gC ha hdb hs hpl)) fun Dn σ H h => ?_
  obtain ⟨wa, Fr, G, r, w, x, q⟩ := tX_after h
  unfold sRaise2 at q
  refine ⟨wa, Fr, G, r, w, x, ?_⟩
  cases e0 : m r w with
  | bad => simp only [e0] at q; exact False.elim q
  | ex c' f' y r1 w1 => simp only [e0] at q; exact ExSt.at q
  | ok ds r1 w1 =>
    simp only [e0] at q
    intro vs H1 G1 s1 x1 h1
    match ds, h1, q with
    | [.py y, .py z], .cons (v := v) h2 (.cons (v := u) h3 .nil), q =>
      refine ⟨(show 2 ≤ 1000 by decide), fun a hna => ⟨a, C, v, u, rfl, T.T, T.noF, T.noG, upd_same, fun dx hdx na => ⟨rfl, dx, [(g, u), (f, v)], ?_, ?_, ?_, ?_⟩⟩⟩
      · rw [upd_ne (Ne.symm na), upd_same]
      · exact upd_same
      · rw [upd_ne na] at hdx
        exact hdx
      · have hd1 : H1 dx = none := by rw [upd_ne na] at hdx; exact hdx
        rw [made_two hna na]
        have sm := same_new (o := .xd [(g, u), (f, v)]) (x1.h.gnone hd1)
        refine ExSt.at (σ := σ) q _ _ _ _ (s1.trans sm) (x1.alloc hd1 _) ⟨C, dx, [u, v], rfl, T.gC, rfl, upd_same, .cons (dp_mono sm _ _ h3) (.cons (dp_mono sm _ _ h2) .nil), rfl⟩
end
section
variable {P : Program} {w : World} {K : PySem.W.Frag} {mg : Str → Option Value} {base : Heap}
theorem pure_T2 {f g : Str} {vs : List V} {H : Hp} {Q : VK} {E : XK} {N : List Str} (hN : N.length = 3) (h : spT2 K f g vs H Q E) : tSeq (tOst K f (tVar 0) (tVar 1)) (tOst K g (tVar 0) (tVar 2)) { nx := fun _ H' => Q .non H', rt := Q } (L2.start N vs) H := by
  obtain ⟨a, C, v, u, rfl, T, nf, ng, ha, q⟩ := h
  have e0 : (L2.start N [.ref a, v, u])[0]? = some (some (.ref a)) := rfl
  have e1 : (L2.start N [.ref a, v, u])[1]? = some (some v) := rfl
  have e2 : (L2.start N [.ref a, v, u])[2]? = some (some u) := rfl
  exact ⟨v, e1, .ref a, e0, a, C, rfl, T, nf, .inl ⟨ha, fun dx h1 h2 => ⟨u, e2, .ref a, e0, a, C, rfl, T, ng, .inr ⟨dx, [(f, v)], upd_same, by rw [upd_ne h2, upd_same], (show 1 ≤ 900 by decide), q dx h1 h2⟩⟩⟩⟩
theorem init_2 {q f g : Str} {pr : Arguments} {body : List Stmt} {sc : Scope} {N ps : List Str} {fI : Addr} {fd : FuncData}
    (F : FunD K "__init__" q pr body sc [] [] fI fd) (S : FnScope N ps sc) (hN : N.length = 3) (hp : ps.length = 3)
    (hb : ∀ (cdv : Value) (B : Around) (outs : List Env) (s0 : Shared) (H : Hp) (E : XK), PSs (cxOf CX0 P w K mg base N q sc fI cdv B outs s0 H E) body (tSeq (tOst K f (tVar 0) (tVar 1)) (tOst K g (tVar 0) (tVar 2)))) : FnOk P w K mg base CX0 1 fI fd ps (spT2 K f g) :=
  F.ok S (fun vs H Q E h => by obtain ⟨_, _, _, _, rfl, _⟩ := h; exact hp.symm) fun cdv B outs s0 H vs Q E hr h => ⟨_, hb cdv B outs s0 H E, pure_T2 hN h⟩
theorem err_of2 {c f g : Str} {fd : FuncData} {ps : List Str} (E : ErrF K c [f, g]) (gC : mg c = some (.ref (He.ga K c)))
    (F : FnOk P w K mg base CX0 1 (He.fAd K (c, some "__init__")) fd ps (spT2 K f g)) (hb : Binds K fd ps []) : Err2 P w K mg base c f g (He.ga K c) (He.fAd K (c, some "__init__")) fd ps :=
  ⟨gC, E.oex, E.ini, E.fn, E.no f (.head _), E.no g (.tail _ (.head _)), F, hb⟩
end
/-! ### len(set(xs)), xs a tuple of ints -/
/-- each once -/
def onceI : List Int → List Int
  | [] => []
  | x :: xs => if x ∈ xs then onceI xs else x :: onceI xs
theorem once_mem (y : Int) : ∀ xs : List Int, y ∈ onceI xs ↔ y ∈ xs
  | [] => .rfl
  | x :: xs => by
    unfold onceI
    split
    · rename_i c
      rw [once_mem y xs, List.mem_cons]
      exact ⟨.inr, fun h => h.elim (fun e => by rw [e]; exact c) id⟩
    · rw [List.mem_cons, List.mem_cons, once_mem y xs]
theorem once_nodup : ∀ xs : List Int, (onceI xs).Nodup
  | [] => .nil
  | x :: xs => by
    unfold onceI
    split
    · exact once_nodup xs
    · rename_i c
      exact List.nodup_cons.mpr ⟨fun h => c ((once_mem x xs).mp h), once_nodup xs⟩
theorem few_of {α : Type} [DecidableEq α] : ∀ {xs ys : List α}, xs.Nodup → (∀ x ∈ xs, x ∈ ys) → xs.length ≤ ys.length
  | [], _, _, _ => Nat.zero_le _
  | x :: xs, ys, h, s => by
    have hx := s x (.head _)
    have h' := List.nodup_cons.mp h
    have := few_of (xs := xs) (ys := ys.erase x) h'.2 fun y hy => by
      have ne : y ≠ x := fun z => h'.1 (by rw [← z]; exact hy)
      exact (List.mem_erase_of_ne ne).mpr (s y (List.mem_cons_of_mem _ hy))
    rw [List.length_erase_of_mem hx] at this
    have := List.length_pos_of_mem hx
    rw [List.length_cons]
    omega
theorem once_len {xs ys : List Int} (h : ys.Nodup) (s : ∀ k, k ∈ ys ↔ k ∈ xs) : ys.length = (onceI xs).length :=
  Nat.le_antisymm (few_of h fun y hy => (once_mem y xs).mpr ((s y).mp hy)) (few_of (once_nodup xs) fun y hy => (s y).mpr ((once_mem y xs).mp hy))
theorem once_le : ∀ xs : List Int, (onceI xs).length ≤ xs.length
  | [] => Nat.le_refl _
  | x :: xs => by
    have := once_le xs
    unfold onceI
    split
    · rw [List.length_cons]; omega
    · rw [List.length_cons, List.length_cons]; omega
/-- all unlike: as many as there are -/
theorem once_all {xs : List Int} : (onceI xs).length = xs.length ↔ xs.Nodup := by
  constructor
  · intro h
    induction xs with
    | nil => exact .nil
    | cons x xs ih =>
      have := once_le xs
      unfold onceI at h
      split at h
      · rw [List.length_cons] at h; omega
      · rename_i c
        rw [List.length_cons, List.length_cons] at h
        exact List.nodup_cons.mpr ⟨c, ih (by omega)⟩
  · intro h
    exact (once_len h fun _ => .rfl).symm
def fLenSet (d : D) : Option D := match d with
  | .py (.tuple xs) => (intsOf xs).bind fun ns => ifC (ns.length ≤ 4000) (some (.py (.int ((onceI ns).length : Nat)))) none
  | _ => none
def tLenSet2 (ta : TE) : TE := fun σ H Q => ta σ H fun x H1 => ∃ (l : Addr) (ns : List Int), x = .ref l ∧ TupS H1 l (ns.map V.int) ∧ ns.length ≤ 4000 ∧ Q (.int ((onceI ns).length : Nat)) H1
section
variable {X : Cx} {a : Expr} {ta : TE} {m : M D} {W : WX} {p p2 q pos : Pos}
theorem pe_lenSet2 (hc : X.calm = true) (hg : Gl X "len") (hm : X.mg "len" = none) (hg2 : Gl X "set") (hm2 : X.mg "set" = none) (ha : PE X a ta)
    (na : starEach [a] X.env = (false, eval a X.env) :: starEach [] X.env := by rfl) : PE X (.Call (.Name "len" p) [.Call (.Name "set" p2) [a] [] q] [] pos) (tLenSet2 ta) := by
  refine ⟨fun pins s σ H Q I h => Call_ (ld_blt I hg hm boot_len (PyProof.Rows.callWith_builtin1 (PyProof.Rows.args_cons (Call_ (ld_blt I hg2 hm2 boot_set (PyProof.Rows.callWith_type1 (PyProof.Rows.args_cons (thn (ha.run pins s σ H _ I h) fun v s1 z => PyProof.Rows.args_nil ?_) na) na rfl))) rfl) rfl rfl))⟩
  obtain ⟨x, H1, I1, r1, l, ns, ex, hq, hl, q1⟩ := z
  subst ex
  cases r1
  obtain ⟨its, n, r, at_, hz⟩ := inv_tupS I1 hq
  have isT : s1.heap.IsTuple l its.toArray := ⟨_, at_, rfl, n, rfl⟩
  refine call_set_tupI ns (I1.ok.hd hc) isT (by simpa using Vals.ints r) (by unfold scanBound; omega) fun h' tk c hS hc' hk => PyProof.Rows.args_nil ?_
  have I2 : Inv X pins σ H1 { s1 with heap := h', toks := tk } := I1.kept fun b o e => hk b o e
  obtain ⟨o, es, ep, t, ho, hex, hd, _, nd, mem, hb, hf, hn, _⟩ := hS
  have len : es.size = (onceI ns).length := by
    have := once_len (xs := ns) nd fun k => by rw [← mem k, decide_eq_true_iff]
    rw [List.length_map, Array.length_toList] at this
    exact this
  have := once_le ns
  refine call_len_set ho hex hd hf (by rw [len]; omega) ⟨.int _, H1, I2.tok _, ⟨_, by rw [len]⟩, q1⟩
theorem e_lenSet (hc : X.calm = true) (hm : X.mg "len" = none) (hm2 : X.mg "set" = none) (ha : PE X a (tM X.K X.mg W m)) (hg : Gl X "len" := by rfl) (hg2 : Gl X "set" := by rfl)
    (na : starEach [a] X.env = (false, eval a X.env) :: starEach [] X.env := by rfl) : PE X (.Call (.Name "len" p) [.Call (.Name "set" p2) [a] [] q] [] pos) (tM X.K X.mg W (mUn fLenSet m)) := by
  refine pe_imp (pe_lenSet2 hc hg hm hg2 hm2 ha na) fun σ H Q h => ?_
  obtain ⟨wa, Fr, G, r, w, x, q⟩ := h
  unfold mUn at q
  refine ⟨wa, Fr, G, r, w, x, ?_⟩
  cases e1 : m r w with
  | bad => simp only [e1, Re.bind] at q
  | ex c f y r9 w9 => simp only [e1, Re.bind] at q; exact q
  | ok d1 r1 w1 =>
    simp only [e1, Re.bind] at q
    intro v1 H1 G1 s1 x1 h1
    cases e2 : fLenSet d1 with
    | none => simp only [e2] at q
    | some d2 =>
      simp only [e2] at q
      unfold fLenSet at e2
      split at e2
      · rename_i xs
        cases e3 : intsOf xs with
        | none => rw [e3] at e2; cases e2
        | some ns =>
          rw [e3] at e2
          simp only [Option.bind_some] at e2
          by_cases c : ns.length ≤ 4000
          · rw [ifC_pos c] at e2
            cases e2
            cases h1 with
            | tup s a =>
              rw [ints_map e3] at a
              have e4 := dpall_ints_inv _ _ a
              subst e4
              exact ⟨_, ns, rfl, s.mono x1.h.sub, c, q _ H1 G1 s1 x1 (Dq.int _)⟩
          · rw [ifC_neg c] at e2
            cases e2
      · cases e2
end
/-! ### list(range(..)) -/
def rgI (a b : Int) : List Int := (List.range (b - a).toNat).map fun i => a + (i : Nat)
theorem rgV_eq (a b : Int) : rgV a b = (rgI a b).map V.int := by
  unfold rgV rgI
  rw [List.map_map]
  rfl
def fLstR (ds : List D) : Option (List PyData) := match ds with
  | [.py (.int b)] => ifC (b ≤ 1000000 ∧ -1000000 ≤ b) (some ((rgI 0 b).map PyData.int)) none
  | [.py (.int a), .py (.int b)] => ifC ((a ≤ 1000000 ∧ -1000000 ≤ a) ∧ b ≤ 1000000 ∧ -1000000 ≤ b) (some ((rgI a b).map PyData.int)) none
  | _ => none
section
variable {X : Cx} {a b : Expr} {ma mb : M D} {W : WX} {p p2 q pos : Pos}
theorem f_listR1 (hc : X.calm = true) (hm : X.mg "list" = none) (hm2 : X.mg "range" = none) (ha : PE X a (tM X.K X.mg W ma)) (hg : Gl X "list" := by rfl) (hg2 : Gl X "range" := by rfl)
    (na : starEach [a] X.env = (false, eval a X.env) :: starEach [] X.env := by rfl) (nb : starEach [.Call (.Name "range" p2) [a] [] q] X.env = (false, eval (.Call (.Name "range" p2) [a] [] q) X.env) :: starEach [] X.env := by rfl) :
    PE X (.Call (.Name "list" p) [.Call (.Name "range" p2) [a] [] q] [] pos) (tF X.K X.mg W (mFnF fLstR (mCons ma mNil))) := by
  refine pe_imp (pe_listRg hc hg hm (prg_1 hg2 hm2 ha na) nb) fun σ H Q h => ?_
  obtain ⟨wa, Fr, G, r, w, x, q⟩ := h
  unfold mFnF mCons mNil at q
  refine ⟨wa, Fr, G, r, w, x, ?_⟩
  cases e1 : ma r w with
  | bad => simp only [e1, Re.bind] at q
  | ex c f y r9 w9 => simp only [e1, Re.bind] at q; exact q
  | ok d1 r1 w1 =>
    simp only [e1, Re.bind] at q
    intro v1 H1 G1 s1 x1 h1
    cases e2 : fLstR [d1] with
    | none => simp only [e2] at q
    | some xs =>
      simp only [e2] at q
      unfold fLstR at e2
      split at e2
      · rename_i b e3
        cases e3
        by_cases c : b ≤ 1000000 ∧ -1000000 ≤ b
        · rw [ifC_pos c] at e2
          cases e2
          cases h1
          refine ⟨_, rfl, ⟨by omega, by omega, by omega, by omega, by omega⟩, fun p hp => ?_⟩
          rw [rgV_eq]
          obtain ⟨y1, y2, y3⟩ := x1.newList hp (dpall_ints (rgI 0 b))
          exact q p _ _ G1 s1 y1 y2 y3
        · rw [ifC_neg c] at e2
          cases e2
      · rename_i e3
        cases e3
      · cases e2
theorem f_listR2 (hc : X.calm = true) (hm : X.mg "list" = none) (hm2 : X.mg "range" = none) (ha : PE X a (tM X.K X.mg W ma)) (hb : PE X b (tM X.K X.mg W mb)) (hg : Gl X "list" := by rfl) (hg2 : Gl X "range" := by rfl)
    (na : starEach [a, b] X.env = (false, eval a X.env) :: starEach [b] X.env := by rfl) (nb : starEach [b] X.env = (false, eval b X.env) :: starEach [] X.env := by rfl) (np : (backTo q (starEach [b] X.env)).any (·.1) = false := by rfl)
    (nr : starEach [.Call (.Name "range" p2) [a, b] [] q] X.env = (false, eval (.Call (.Name "range" p2) [a, b] [] q) X.env) :: starEach [] X.env := by rfl) :
    PE X (.Call (.Name "list" p) [.Call (.Name "range" p2) [a, b] [] q] [] pos) (tF X.K X.mg W (mFnF fLstR (mCons ma (mCons mb mNil)))) := by
  refine pe_imp (pe_listRg hc hg hm (prg_2 hg2 hm2 ha hb na nb np) nr) fun σ H Q h => ?_
  obtain ⟨wa, Fr, G, r, w, x, q⟩ := h
  unfold mFnF mCons mNil at q
  refine ⟨wa, Fr, G, r, w, x, ?_⟩
  cases e1 : ma r w with
  | bad => simp only [e1, Re.bind] at q
  | ex c f y r9 w9 => simp only [e1, Re.bind] at q; exact q
  | ok d1 r1 w1 =>
    simp only [e1, Re.bind] at q
    intro v1 H1 G1 s1 x1 h1
    refine ⟨wa, Fr, G1, r1, w1, x1, ?_⟩
    cases e2 : mb r1 w1 with
    | bad => simp only [e2] at q
    | ex c f y r9 w9 => simp only [e2] at q; exact q.mono s1
    | ok d2 r2 w2 =>
      simp only [e2] at q
      intro v2 H2 G2 s2 x2 h2
      have h1' := h1.mono s2
      cases e4 : fLstR [d1, d2] with
      | none => simp only [e4] at q
      | some xs =>
        simp only [e4] at q
        unfold fLstR at e4
        split at e4
        · rename_i e3
          cases e3
        · rename_i a b e3
          cases e3
          by_cases c : (a ≤ 1000000 ∧ -1000000 ≤ a) ∧ b ≤ 1000000 ∧ -1000000 ≤ b
          · rw [ifC_pos c] at e4
            cases e4
            cases h1'
            cases h2
            refine ⟨_, _, rfl, rfl, ⟨by omega, by omega, by omega, by omega, by omega⟩, fun p hp => ?_⟩
            rw [rgV_eq]
            obtain ⟨y1, y2, y3⟩ := x2.newList hp (dpall_ints (rgI a b))
            exact q p _ _ G2 (s1.trans s2) y1 y2 y3
          · rw [ifC_neg c] at e4
            cases e4
        · cases e4
end
end Mi
namespace Mi
open PySem PySem.Spec PyProof.Rows L2
/-! ### range(a, b), a and b as great as may be -/
theorem turn_long {P : Program} {w : World} {K : PySem.W.Frag} {tg : Expr} (q : Addr) (lo : Int) (n : Nat) : Turn P w K tg (Itr lo n) [q] q (fun j h => IsLongIter h q (lo + (j : Nat) * 1) ((n : Int) - (j : Nat)) 1) := by
  refine ⟨List.mem_singleton.mpr rfl, fun j h st b hb => ?_, fun j h h' st k => k q (List.mem_singleton.mpr rfl) _ st, ?_, ?_, fun _ _ _ _ _ st h => wpAny_pyIter_longiter st h⟩
  · cases List.mem_singleton.mp hb
    refine ⟨_, st, fun v z => ?_⟩
    have z' : Data.fields #[rawInt (lo + (j : Nat) * 1), rawInt ((n : Int) - (j : Nat)), rawInt 1] = Data.cell v := z
    cases z'
  · intro X eP ew eK hc j pins s σ H E I hf st hg
    subst eP ew eK
    obtain ⟨g0, g1, g2, g3, g4, g5⟩ := hf q (List.mem_singleton.mpr rfl)
    refine (Walks.longrange (prog := X.prog) (w := X.w) (I.ok.hd hc) q lo 1 n).item j s _ _ hg st fun v h2 t2 hv st2 same => ?_
    obtain ⟨k, rfl⟩ := hv
    have J : Inv X pins σ H { s with heap := h2, toks := t2 } := I.turned (fun b o hb e => same b o (by simpa using hb) e) g0 g1 g3 g4 g5
    exact ⟨_, rfl, go_of (s := { s with heap := h2, toks := t2 }) (n := "longrange_iterator") st2 rfl rfl (by decide) ⟨.int (lo + j), H, J, ⟨k, by rw [Int.mul_one]⟩, ⟨rfl, rfl⟩, st2, fun b hb => (hf b hb).1⟩⟩
  · intro X eP ew eK hc j pins s σ H E I hf st hg
    subst eP ew eK
    obtain ⟨g0, g1, g2, g3, g4, g5⟩ := hf q (List.mem_singleton.mpr rfl)
    have hn : n ≤ j := hg
    exact wpAny_pyNext_long_end (I.ok.hd hc) st (by omega) fun h2 eb => ⟨rfl, I.turned (t' := s.toks) (fun b o hb e => eb b o hb e) g0 g1 g3 g4 g5⟩
section
variable {X : Cx} {tg : Expr}
theorem rangeL_it {pins : List (Addr × Obj)} {σ : L2.St} {H : Hp} {s : Shared} {R : It → Hp → Prop} {E : Value → Shared → Prop} {lo hi : Int} {t u v : Tok} {tk : Nat} (I : Inv X pins σ H s)
    (q : R (Itr lo (hi - lo).toNat) H) : wpAny (model X.prog X.w) X.A (pyIter (.ref s.heap.objs.size)) (PIE X pins σ tg R) E { s with heap := s.heap.push { cls := .type "range", data := .fields #[.int lo t, .int hi u, .int 1 v] }, toks := tk } := by
  have J : Inv X pins σ H { s with heap := s.heap.push { cls := .type "range", data := .fields #[.int lo t, .int hi u, .int 1 v] }, toks := tk } := I.kept fun b o e => Heap.get?_push_of_some _ e
  have e0 : lo = lo + ((0 : Nat) : Int) * 1 := by simp
  have e2 : Builtin.Range.rangeSize lo hi 1 = (((hi - lo).toNat : Nat) : Int) - ((0 : Nat) : Int) := by
    rw [rangeSize_one]
    split <;> omega
  generalize hs1 : ({ s with heap := s.heap.push { cls := .type "range", data := .fields #[.int lo t, .int hi u, .int 1 v] }, toks := tk } : Shared) = s1 at J
  have isR : IsRange s1.heap s.heap.objs.size lo hi 1 t u v := by
    rw [← hs1]
    exact IsRange.new ..
  have fresh : ∀ b ∈ [s1.heap.objs.size], FpOk X pins H b := fun b hb => by
    cases List.mem_singleton.mp hb
    exact J.fpOk (Nat.le_refl _) (J.hok.fresh (Nat.le_refl _))
  cases hb : Builtin.Range.small lo hi 1 with
  | true =>
    refine wpAny_pyIter_range isR hb ?_
    refine ⟨s1.heap.objs.size, _, _, _, H, rfl, J.kept (t' := s1.toks) fun b o e => Heap.get?_push_of_some _ e, turn_range _ lo (hi - lo).toNat, ?_, fresh, q⟩
    show IsRangeIter _ _ (lo + ((0 : Nat) : Int) * 1) _ 1
    rw [← e0, ← e2]
    exact Heap.get?_push_size _ rfl
  | false =>
    refine wpAny_pyIter_longrange isR hb ?_
    refine ⟨s1.heap.objs.size, _, _, _, H, rfl, J.kept (t' := s1.toks) fun b o e => Heap.get?_push_of_some _ e, turn_long _ lo (hi - lo).toNat, ?_, fresh, q⟩
    show IsLongIter _ _ (lo + ((0 : Nat) : Int) * 1) _ 1
    rw [← e0, ← e2]
    exact Heap.get?_push_size _ rfl
def iRngB (ta : TA) : TI := fun σ H R => ta σ H fun vs H1 => ∃ i j : Int, vs = [.int i, .int j] ∧ R (Itr i (j - i).toNat) H1
theorem pi_rangeB {a b : Expr} {ta : TA} {p pos : Pos} (hg : Gl X "range") (hm : X.mg "range" = none) (ha : PA X [a, b] ta) (na : starEach [a, b] X.env = [(false, eval a X.env), (false, eval b X.env)] := by rfl) (nb : starEach [b] X.env = [(false, eval b X.env)] := by rfl) :
    PI X tg (.Call (.Name "range" p) [a, b] [] pos) (iRngB ta) := by
  refine ⟨fun pins s σ H R I h => Call_ (ld_blt I hg hm boot_range (PyProof.Rows.callWith_type1 (thn (ha.run pos pins s σ H _ I h) fun us s1 z => ?_) (by rw [na, nb]) (by rw [nb]; rfl)))⟩
  obtain ⟨vs, H1, I1, r1, i, j, e, q⟩ := z
  subst e
  match us, r1 with
  | [_, _], .cons ⟨t, e1⟩ (.cons ⟨t', e2⟩ .nil) =>
    subst e1 e2
    exact call_range_2 (rangeL_it I1 q)
end
def mRngB (m : M (List D)) : M (List D) := fun r w => (m r w).bind fun ds r w => match ds with
  | [.py (.int a), .py (.int b)] => ifC (b - a ≤ 1000000) (.ok (upto a (b - a).toNat) r w) .bad
  | _ => .bad
theorem i_rngB {K : PySem.W.Frag} {m : M (List D)} : IOk K mg W (iRngB (tMs K mg W m)) (mRngB m) := by
  refine iok_of (fun wa Fr G σ H r w ds r' w' R x e q => ?_) (fun wa Fr G σ H r w c f y r' w' R x e q => ?_)
  rotate_left
  · unfold mRngB at e
    refine ⟨wa, Fr, G, r, w, x, ?_⟩
    cases e1 : m r w with
    | bad => simp only [e1, Re.bind] at e; cases e
    | ex c f y r9 w9 => simp only [e1, Re.bind] at e; cases e; exact q
    | ok d r1 w1 =>
      simp only [e1, Re.bind] at e
      split at e
      · unfold ifC at e
        split at e <;> cases e
      · cases e
  unfold mRngB at e
  refine ⟨wa, Fr, G, r, w, x, ?_⟩
  cases e1 : m r w with
  | bad => simp only [e1, Re.bind] at e; cases e
  | ex c f y r9 w9 => simp only [e1, Re.bind] at e; cases e
  | ok d r1 w1 =>
    simp only [e1, Re.bind] at e
    intro v H1 G1 s1 x1 h1
    split at e
    · rename_i a b
      by_cases c : b - a ≤ 1000000
      · rw [ifC_pos c] at e
        cases e
        obtain ⟨u, u', rfl, h, h'⟩ := rv_two h1
        cases h
        cases h'
        exact ⟨a, b, rfl, q _ H1 G1 s1 x1 yields_rng⟩
      · rw [ifC_neg c] at e
        cases e
    · cases e
end Mi
namespace Mi
open PySem PySem.Spec PyProof.Rows L2
/-! ### how many numbers there are with something -/
section
variable (p q : Nat → Bool)
def pq (n : Nat) : List Nat := (List.range n).filter p
def cn (n : Nat) : Nat := (pq p n).length
theorem pq_succ (n : Nat) : pq p (n + 1) = pq p n ++ if p n = true then [n] else [] := by
  unfold pq
  rw [List.range_succ, List.filter_append]
  congr 1
  rw [List.filter_cons]
  split <;> rfl
theorem cn_zero : cn p 0 = 0 := rfl
theorem cn_succ (n : Nat) : cn p (n + 1) = cn p n + if p n = true then 1 else 0 := by
  unfold cn
  rw [pq_succ, List.length_append]
  split <;> rfl
variable {p q}
theorem pq_congr {n : Nat} (h : ∀ i, i < n → p i = q i) : pq p n = pq q n := List.filter_congr fun i hi => h i (List.mem_range.mp hi)
theorem cn_congr {n : Nat} (h : ∀ i, i < n → p i = q i) : cn p n = cn q n := by unfold cn; rw [pq_congr h]
variable (p)
theorem cn_add (a b : Nat) : cn p (a + b) = cn p a + cn (fun j => p (a + j)) b := by
  induction b with
  | zero => rfl
  | succ b ih => rw [← Nat.add_assoc, cn_succ, cn_succ, ih, Nat.add_assoc]
theorem cn_le (n : Nat) : cn p n ≤ n := by
  induction n with
  | zero => exact Nat.le_refl _
  | succ n ih =>
    rw [cn_succ]
    split <;> omega
theorem cn_mono {a b : Nat} (h : a ≤ b) : cn p a ≤ cn p b := by
  obtain ⟨c, rfl⟩ := Nat.exists_eq_add_of_le h
  rw [cn_add]
  omega
theorem cn_none {n : Nat} (h : ∀ i, i < n → p i = false) : cn p n = 0 := by
  induction n with
  | zero => rfl
  | succ n ih => rw [cn_succ, ih fun i hi => h i (by omega), h n (by omega)]; rfl
theorem lt_of_cn {a b : Nat} (h : cn p a < cn p b) : a < b := by
  by_cases c : a < b
  · exact c
  · have := cn_mono p (show b ≤ a by omega)
    omega
theorem cn_per {n : Nat} (per : ∀ i, p (n + i) = p i) (k t : Nat) : cn p (k * n + t) = k * cn p n + cn p t := by
  induction k with
  | zero => simp
  | succ k ih =>
    rw [show (k + 1) * n + t = n + (k * n + t) by rw [Nat.succ_mul]; omega, cn_add, cn_congr (q := p) (fun i _ => per i), ih, Nat.succ_mul]
    omega
theorem per_mul {n : Nat} (per : ∀ i, p (n + i) = p i) (k i : Nat) : p (k * n + i) = p i := by
  induction k with
  | zero => simp
  | succ k ih => rw [show (k + 1) * n + i = n + (k * n + i) by rw [Nat.succ_mul]; omega, per, ih]
theorem pq_lt {t n : Nat} (h : t ≤ n) : (pq p n).filter (fun i => decide (i < t)) = pq p t := by
  obtain ⟨c, rfl⟩ := Nat.exists_eq_add_of_le h
  induction c with
  | zero =>
    show (pq p t).filter _ = _
    rw [List.filter_eq_self]
    intro i hi
    have := List.mem_range.mp (List.mem_filter.mp hi).1
    exact decide_eq_true this
  | succ c ih =>
    rw [← Nat.add_assoc, pq_succ, List.filter_append, ih (by omega)]
    split
    · rw [List.filter_cons_of_neg (by simp)]
      simp
    · simp
theorem pq_get {n j i : Nat} (h : (pq p n)[j]? = some i) : i < n ∧ p i = true ∧ cn p i = j := by
  induction n with
  | zero => simp [pq] at h
  | succ n ih =>
    rw [pq_succ] at h
    by_cases c : j < (pq p n).length
    · rw [List.getElem?_append_left c] at h
      obtain ⟨a, b, d⟩ := ih h
      exact ⟨by omega, b, d⟩
    · rw [List.getElem?_append_right (by omega)] at h
      split at h
      · rename_i e
        have z : j - (pq p n).length = 0 := by
          have := (List.getElem?_eq_some_iff.mp h).1
          rw [List.length_singleton] at this
          omega
        rw [z] at h
        cases h
        exact ⟨by omega, e, by unfold cn; omega⟩
      · simp at h
theorem pq_ex {n j : Nat} (h : j < cn p n) : ∃ i, (pq p n)[j]? = some i := ⟨(pq p n)[j]'h, List.getElem?_eq_getElem h⟩
/-- the law's sum -/
def lw (n I : Nat) : Nat → Nat
  | 0 => 0
  | k + 1 => lw n I k + if p k = true then (I - 1 - k) / n + 1 else 0
theorem div_is {m n a : Nat} (h1 : n * a ≤ m) (h2 : m < n * a + n) : m / n = a := Nat.div_eq_of_lt_le (by rw [Nat.mul_comm]; exact h1) (by rw [Nat.mul_comm, Nat.mul_succ]; exact h2)
theorem div_step {n I k : Nat} (hk : k < n) (hi : k < I) : (I - 1 - k) / n + 1 = I / n + if k < I % n then 1 else 0 := by
  have e := Nat.div_add_mod I n
  have tl := Nat.mod_lt I (show 0 < n by omega)
  generalize I / n = a at e ⊢
  generalize I % n = t at e tl ⊢
  split
  · rw [div_is (a := a) (by omega) (by omega)]
  · cases a with
    | zero => rw [Nat.mul_zero] at e; omega
    | succ a =>
      rw [Nat.mul_succ] at e
      rw [div_is (a := a) (by omega) (by omega)]
theorem lw_eq {n I : Nat} : ∀ k, k ≤ n → k ≤ I → lw p n I k = I / n * cn p k + cn p (min k (I % n))
  | 0, _, _ => by simp [lw, cn_zero]
  | k + 1, h1, h2 => by
    unfold lw
    rw [lw_eq k (by omega) (by omega), div_step (by omega) (by omega), cn_succ]
    by_cases c : k < I % n
    · rw [show min (k + 1) (I % n) = k + 1 by omega, show min k (I % n) = k by omega, cn_succ]
      simp only [if_pos c]
      split
      · rw [Nat.mul_add, Nat.mul_one]; omega
      · rw [Nat.add_zero (cn p k)]; omega
    · rw [show min (k + 1) (I % n) = I % n by omega, show min k (I % n) = I % n by omega]
      simp only [if_neg c]
      split
      · rw [Nat.mul_add, Nat.mul_one]; omega
      · rw [Nat.add_zero (cn p k)]; omega
/-- both come to how many there are -/
theorem lw_cn {n I : Nat} (hn : 0 < n) (per : ∀ i, p (n + i) = p i) : lw p n I (min n I) = cn p I := by
  have e := Nat.div_add_mod I n
  have tl := Nat.mod_lt I hn
  rw [lw_eq p _ (by omega) (by omega)]
  by_cases c : n ≤ I
  · rw [show min n I = n by omega, show min n (I % n) = I % n by omega, ← cn_per p per, Nat.mul_comm, e]
  · rw [show min n I = I by omega, Nat.mod_eq_of_lt (show I < n by omega), Nat.div_eq_of_lt (show I < n by omega), Nat.zero_mul, Nat.zero_add, show min I I = I by omega]
theorem below_cn {n I : Nat} (hn : 0 < n) (per : ∀ i, p (n + i) = p i) : I / n * cn p n + cn p (I % n) = cn p I := by
  rw [← cn_per p per, Nat.mul_comm, Nat.div_add_mod]
end
/-! ### where a word stands -/
def StW (L ws : List Int) (p : Nat) : Bool := decide ((L.drop p).take ws.length = ws)
theorem StW_iff {L ws : List Int} {p : Nat} (hw : ws ≠ []) : StW L ws p = true ↔ p + ws.length ≤ L.length ∧ ∀ j, j < ws.length → L[p + j]? = ws[j]? := by
  have wp := List.length_pos_iff.mpr hw
  unfold StW
  rw [decide_eq_true_iff]
  constructor
  · intro h
    have hl := congrArg List.length h
    rw [List.length_take, List.length_drop] at hl
    refine ⟨by omega, fun j hj => ?_⟩
    rw [← h, List.getElem?_take_of_lt hj, List.getElem?_drop]
  · rintro ⟨h1, h2⟩
    apply List.ext_getElem?
    intro j
    by_cases hj : j < ws.length
    · rw [List.getElem?_take_of_lt hj, List.getElem?_drop, h2 j hj]
    · rw [List.getElem?_eq_none (by rw [List.length_take]; omega), List.getElem?_eq_none (by omega)]
theorem StW_take {L ws : List Int} (hw : ws ≠ []) (m p : Nat) : StW (L.take m) ws p = (decide (p + ws.length ≤ m) && StW L ws p) := by
  rw [Bool.eq_iff_iff, Bool.and_eq_true_iff, StW_iff hw, StW_iff hw, decide_eq_true_iff, List.length_take]
  constructor
  · rintro ⟨h1, h2⟩
    refine ⟨by omega, by omega, fun j hj => ?_⟩
    rw [← h2 j hj, List.getElem?_take_of_lt (by omega)]
  · rintro ⟨h0, h1, h2⟩
    refine ⟨by omega, fun j hj => ?_⟩
    rw [List.getElem?_take_of_lt (by omega), h2 j hj]
theorem StW_drop (L ws : List Int) (a i : Nat) : StW L ws (a + i) = StW (L.drop a) ws i := by unfold StW; rw [List.drop_drop]
/-- as it stands in a block done on and on -/
def pat (ms ws : List Int) (i : Nat) : Bool := (List.range ws.length).all fun j => decide (ws[j]? = ms[(i + j) % ms.length]?)
theorem pat_per (ms ws : List Int) (i : Nat) : pat ms ws (ms.length + i) = pat ms ws i := by
  unfold pat
  congr 1
  funext j
  rw [show ms.length + i + j = i + j + ms.length by omega, Nat.add_mod_right]
theorem StW_pat {ms ws R : List Int} {t : Nat} (hw : ws ≠ []) (i : Nat) (hi : i + ws.length ≤ t * ms.length) : StW (rp t ms ++ R) ws i = pat ms ws i := by
  rw [Bool.eq_iff_iff, StW_iff hw, pat, List.all_eq_true]
  have rl := rp_len t ms
  constructor
  · rintro ⟨h1, h2⟩ j hj
    have hj := List.mem_range.mp hj
    rw [decide_eq_true_iff, ← h2 j hj, List.getElem?_append_left (by omega), rp_get t ms _ (by omega)]
  · intro h
    refine ⟨by rw [List.length_append]; omega, fun j hj => ?_⟩
    have := of_decide_eq_true (h j (List.mem_range.mpr hj))
    rw [this, List.getElem?_append_left (by omega), rp_get t ms _ (by omega)]
end Mi
namespace Mi
open PySem PySem.Spec PyProof.Rows L2
/-! ### tuple(range(..)) -/
def fTupR (ds : List D) : Option D := match ds with
  | [.py (.int b)] => ifC (b ≤ 1000000 ∧ -1000000 ≤ b) (some (.py (.tuple ((rgI 0 b).map PyData.int)))) none
  | [.py (.int a), .py (.int b)] => ifC ((a ≤ 1000000 ∧ -1000000 ≤ a) ∧ b ≤ 1000000 ∧ -1000000 ≤ b) (some (.py (.tuple ((rgI a b).map PyData.int)))) none
  | _ => none
section
variable {X : Cx} {a b e : Expr} {ma mb : M D} {W : WX} {p p2 q pos : Pos} {te : L2.St → Hp → (Int → Int → Hp → Prop) → Prop}
def tTupRF (te : L2.St → Hp → (Int → Int → Hp → Prop) → Prop) : TE := fun σ H Q => te σ H fun a b H1 => RgOk a b ∧ ∀ p us n, H1 p = none → Q (.ref p) (upd H1 p (.frz (tupO us n) (.tup (rgV a b))))
theorem pe_tupRF (hc : X.calm = true) (hg : Gl X "tuple") (hm : X.mg "tuple" = none) (he : PRg X e te) (na : starEach [e] X.env = (false, eval e X.env) :: starEach [] X.env := by rfl) : PE X (.Call (.Name "tuple" p) [e] [] pos) (tTupRF te) := by
  refine ⟨fun pins s σ H Q I h => Call_ (ld_blt I hg hm boot_tuple (PyProof.Rows.callWith_type1 (args_cons (thn (he pins s σ H _ I h) fun x s1 z => args_nil ?_) na) na))⟩
  obtain ⟨r, lo, hi, t, u, v, H1, ex, hr, I1, ⟨b1, b2, b3, b4, b5⟩, q1⟩ := z
  subst ex
  refine call_tuple_range (n := (hi - lo).toNat) (I1.ok.hd hc) hr (small_one b1 b2 b3 b4) (rangeSize_nat lo hi) b5 fun h' tk acc hk items => ?_
  have I2 : Inv X pins σ H1 { s1 with heap := h', toks := tk } := I1.kept hk
  exact ⟨.ref h'.objs.size, _, inv_newT I2 (vals_rg items) (by rw [rgV_length, sizeLine_eq]; omega) tk, rfl, q1 _ _ _ (I2.hok.fresh (Nat.le_refl _))⟩
theorem e_tupR1 (hc : X.calm = true) (hm : X.mg "tuple" = none) (hm2 : X.mg "range" = none) (ha : PE X a (tM X.K X.mg W ma)) (hg : Gl X "tuple" := by rfl) (hg2 : Gl X "range" := by rfl)
    (na : starEach [a] X.env = (false, eval a X.env) :: starEach [] X.env := by rfl) (nb : starEach [.Call (.Name "range" p2) [a] [] q] X.env = (false, eval (.Call (.Name "range" p2) [a] [] q) X.env) :: starEach [] X.env := by rfl) :
    PE X (.Call (.Name "tuple" p) [.Call (.Name "range" p2) [a] [] q] [] pos) (tM X.K X.mg W (mFn fTupR (mCons ma mNil))) := by
  refine pe_imp (pe_tupRF hc hg hm (prg_1 hg2 hm2 ha na) nb) fun σ H Q h => ?_
  obtain ⟨wa, Fr, G, r, w, x, q⟩ := h
  unfold mFn mCons mNil at q
  refine ⟨wa, Fr, G, r, w, x, ?_⟩
  cases e1 : ma r w with
  | bad => simp only [e1, Re.bind] at q
  | ex c f y r9 w9 => simp only [e1, Re.bind] at q; exact q
  | ok d1 r1 w1 =>
    simp only [e1, Re.bind] at q
    intro v1 H1 G1 s1 x1 h1
    cases e2 : fTupR [d1] with
    | none => simp only [e2] at q
    | some z =>
      simp only [e2] at q
      unfold fTupR at e2
      split at e2
      · rename_i b e3
        cases e3
        by_cases c : b ≤ 1000000 ∧ -1000000 ≤ b
        · rw [ifC_pos c] at e2
          cases e2
          cases h1
          refine ⟨_, rfl, ⟨by omega, by omega, by omega, by omega, by omega⟩, fun p us n hp => ?_⟩
          rw [rgV_eq]
          have sm := same_new (o := .frz (tupO us n) (.tup ((rgI 0 b).map V.int))) (x1.h.gnone hp)
          exact q _ _ _ (s1.trans sm) (x1.alloc hp _) (.tup TupS.new (dps_mono sm _ _ (dpall_ints (rgI 0 b))))
        · rw [ifC_neg c] at e2
          cases e2
      · rename_i e3
        cases e3
      · cases e2
end
/-! ### max(xs), min(xs), xs a list of ints -/
def fMaxL (ds : List D) : Option D := match ds with
  | [.py (.list xs)] => (intsOf xs).bind fun ns => match ns with
    | [] => none
    | n :: ns => some (.py (.int (ns.foldl (fun a b => if a < b then b else a) n)))
  | _ => none
def fMinL (ds : List D) : Option D := match ds with
  | [.py (.list xs)] => (intsOf xs).bind fun ns => match ns with
    | [] => none
    | n :: ns => some (.py (.int (ns.foldl (fun a b => if b < a then b else a) n)))
  | _ => none
theorem top_is : ∀ (ns : List Int) (n m : Int), (m = n ∨ m ∈ ns) → (∀ y, (y = n ∨ y ∈ ns) → y ≤ m) → ns.foldl (fun a b => if a < b then b else a) n = m
  | [], n, m, h, _ => by
    rcases h with rfl | h
    · rfl
    · cases h
  | x :: ns, n, m, h, u => by
    rw [List.foldl_cons]
    have hx := u x (.inr (.head _))
    have hn := u n (.inl rfl)
    refine top_is ns _ m ?_ ?_
    · rcases h with rfl | h
      · split
        · left; omega
        · exact .inl rfl
      · rcases List.mem_cons.mp h with rfl | h
        · split
          · exact .inl rfl
          · left; omega
        · exact .inr h
    · intro y hy
      rcases hy with rfl | hy
      · split <;> omega
      · exact u y (.inr (List.mem_cons_of_mem _ hy))
theorem low_is : ∀ (ns : List Int) (n m : Int), (m = n ∨ m ∈ ns) → (∀ y, (y = n ∨ y ∈ ns) → m ≤ y) → ns.foldl (fun a b => if b < a then b else a) n = m
  | [], n, m, h, _ => by
    rcases h with rfl | h
    · rfl
    · cases h
  | x :: ns, n, m, h, u => by
    rw [List.foldl_cons]
    have hx := u x (.inr (.head _))
    have hn := u n (.inl rfl)
    refine low_is ns _ m ?_ ?_
    · rcases h with rfl | h
      · split
        · left; omega
        · exact .inl rfl
      · rcases List.mem_cons.mp h with rfl | h
        · split
          · exact .inl rfl
          · left; omega
        · exact .inr h
    · intro y hy
      rcases hy with rfl | hy
      · split <;> omega
      · exact u y (.inr (List.mem_cons_of_mem _ hy))
theorem rel_maxL {K : PySem.W.Frag} : RelC K (rMax K) fMaxL := by
  refine relc_plain fun {wa Fr G σ H r w vs ds dz} x1 h1 e => ?_
  unfold fMaxL at e
  split at e
  · rename_i xs
    cases e2 : intsOf xs with
    | none => rw [e2] at e; cases e
    | some ns =>
      rw [e2] at e
      simp only [Option.bind_some] at e
      cases ns with
      | nil => cases e
      | cons n ns =>
        cases e
        obtain ⟨v, rfl, h⟩ := rv_one h1
        cases h with
        | lst s a =>
          rw [ints_map e2] at a
          have e3 := dpall_ints_inv _ _ a
          subst e3
          refine ⟨_, Dq.int _, fun Q q => ⟨_, n :: ns, rfl, SqL.of (x1.h.sub _ _ s), by simp, fun m hm hu => ?_⟩⟩
          rw [top_is ns n m (List.mem_cons.mp hm) fun y hy => hu y (List.mem_cons.mpr hy)] at q
          exact q
  · cases e
theorem rel_minL {K : PySem.W.Frag} : RelC K (rMin K) fMinL := by
  refine relc_plain fun {wa Fr G σ H r w vs ds dz} x1 h1 e => ?_
  unfold fMinL at e
  split at e
  · rename_i xs
    cases e2 : intsOf xs with
    | none => rw [e2] at e; cases e
    | some ns =>
      rw [e2] at e
      simp only [Option.bind_some] at e
      cases ns with
      | nil => cases e
      | cons n ns =>
        cases e
        obtain ⟨v, rfl, h⟩ := rv_one h1
        cases h with
        | lst s a =>
          rw [ints_map e2] at a
          have e3 := dpall_ints_inv _ _ a
          subst e3
          refine ⟨_, Dq.int _, fun Q q => ⟨_, n :: ns, rfl, SqL.of (x1.h.sub _ _ s), by simp, fun m hm hu => ?_⟩⟩
          rw [low_is ns n m (List.mem_cons.mp hm) fun y hy => hu y (List.mem_cons.mpr hy)] at q
          exact q
  · cases e
section
variable {X : Cx} {e : Expr} {es : List Expr} {n : M (List D)} {W : WX} {p pos : Pos}
theorem e_maxL (hc : X.calm = true) (hm : X.mg "max" = none) (ha : PA X (e :: es) (tMs X.K X.mg W n)) (hg : Gl X "max" := by rfl) (he : starEach (e :: es) X.env = (false, eval e X.env) :: starEach es X.env := by rfl) (hpl : (backTo pos (starEach es X.env)).any (·.1) = false := by rfl) :
    PE X (.Call (.Name "max" p) (e :: es) [] pos) (tM X.K X.mg W (mFn fMaxL n)) := pe_imp (pe_callB (cr_max hc) hg hm (by decide +kernel) ha (by decide) (by decide) he hpl) fun _ _ _ h => m_fn rel_maxL h
theorem e_minL (hc : X.calm = true) (hm : X.mg "min" = none) (ha : PA X (e :: es) (tMs X.K X.mg W n)) (hg : Gl X "min" := by rfl) (he : starEach (e :: es) X.env = (false, eval e X.env) :: starEach es X.env := by rfl) (hpl : (backTo pos (starEach es X.env)).any (·.1) = false := by rfl) :
    PE X (.Call (.Name "min" p) (e :: es) [] pos) (tM X.K X.mg W (mFn fMinL n)) := pe_imp (pe_callB (cr_min hc) hg hm (by decide +kernel) ha (by decide) (by decide) he hpl) fun _ _ _ h => m_fn rel_minL h
end
end Mi
namespace Mi
open PySem PySem.Spec PyProof.Rows L2
/-! ### max(xs), min(xs), xs a tuple of ints -/
section
variable {prog : Program} {w : World} {A : Around} {E : Value → Shared → Prop} {s : Shared} {l : Addr} {ns : List Int} {its : List Value} {Q : Value → Shared → Prop}
theorem walk_tup {I : Addr} (hT : s.heap.IsTuple l its.toArray) : l < s.heap.objs.size := by
  obtain ⟨o, ho, _⟩ := hT
  exact Heap.lt_size ho
theorem max_tup (hh : A.handled = none) (hT : s.heap.IsTuple l its.toArray) (hi : IntsAre its ns) (hne : 0 < ns.length)
    (h : ∀ (g : Heap) (tk : Nat) (M : Int) (t' : Tok), (∀ b o, s.heap.get? b = some o → g.get? b = some o) → M ∈ ns → (∀ a, a ∈ ns → a ≤ M) → Q (.int M t') { s with heap := g, toks := tk }) : wpAny (model prog w) A (call (.builtin "max") [.ref l]) Q E s := by
  have ⟨xs, e⟩ := hi.allInts.items
  have en : xs.toList.map (·.1) = ns := by
    rw [← nums_intItems, ← e]
    exact hi.numsOf
  have old := walk_tup (I := l) hT
  rw [e] at hT
  have len : 0 < xs.size := by
    rw [← en, List.length_map, Array.length_toList] at hne
    exact hne
  have lenI : (intItems xs).size = xs.size := by unfold intItems; rw [Array.size_map]
  refine call_max_walk (wpAny_pyIter_tuple hT ⟨s.heap.objs.size, [s.heap.objs.size, l], [s.heap.objs.size], (intItems xs).size, _, _, fun i j => decide (numAt xs i > numAt xs j), rfl, Walks.tuple (A := A.in1) hh _ l (Nat.ne_of_lt old) (intItems xs),
    ⟨⟨_, Heap.get?_push_size _ rfl, rfl, rfl⟩, hT.push _⟩, fun d hd => ?_, by rw [lenI]; exact len, CmpOf.ints_gt (numAt xs) (fun _ _ => intItems_at), fun v h' tk hP hk => ?_⟩)
  · rw [Heap.size_push]
    rcases List.mem_cons.mp hd with z | z
    · rw [z]; exact Nat.lt_succ_self _
    · cases List.mem_singleton.mp z
      exact Nat.lt_succ_of_lt old
  · obtain ⟨t, ev⟩ := intItems_at hP
    subst ev
    obtain ⟨b1, b2⟩ := argBest_gt (numAt xs) (xs.size - 1)
    rw [lenI]
    refine h h' tk _ t (fun b o eo => hk b o (fun hm => ?_) (Heap.get?_push_of_some _ eo)) ?_ fun a ha => ?_
    · have := Heap.lt_size eo
      rw [List.mem_singleton.mp hm] at this
      exact Nat.lt_irrefl _ this
    · rw [numAt_eq, en]
      exact PySem.getD_mem (by rw [← en, List.length_map, Array.length_toList]; omega)
    · rw [← en] at ha
      obtain ⟨j, hj, ej⟩ := mem_getD ha
      rw [List.length_map, Array.length_toList] at hj
      rw [← ej, ← numAt_eq]
      exact b2 j (by omega)
theorem min_tup (hh : A.handled = none) (hT : s.heap.IsTuple l its.toArray) (hi : IntsAre its ns) (hne : 0 < ns.length)
    (h : ∀ (g : Heap) (tk : Nat) (M : Int) (t' : Tok), (∀ b o, s.heap.get? b = some o → g.get? b = some o) → M ∈ ns → (∀ a, a ∈ ns → M ≤ a) → Q (.int M t') { s with heap := g, toks := tk }) : wpAny (model prog w) A (call (.builtin "min") [.ref l]) Q E s := by
  have ⟨xs, e⟩ := hi.allInts.items
  have en : xs.toList.map (·.1) = ns := by
    rw [← nums_intItems, ← e]
    exact hi.numsOf
  have old := walk_tup (I := l) hT
  rw [e] at hT
  have len : 0 < xs.size := by
    rw [← en, List.length_map, Array.length_toList] at hne
    exact hne
  have lenI : (intItems xs).size = xs.size := by unfold intItems; rw [Array.size_map]
  refine call_min_walk (wpAny_pyIter_tuple hT ⟨s.heap.objs.size, [s.heap.objs.size, l], [s.heap.objs.size], (intItems xs).size, _, _, fun i j => decide (numAt xs i < numAt xs j), rfl, Walks.tuple (A := A.in1) hh _ l (Nat.ne_of_lt old) (intItems xs),
    ⟨⟨_, Heap.get?_push_size _ rfl, rfl, rfl⟩, hT.push _⟩, fun d hd => ?_, by rw [lenI]; exact len, CmpOf.ints_lt (numAt xs) (fun _ _ => intItems_at), fun v h' tk hP hk => ?_⟩)
  · rw [Heap.size_push]
    rcases List.mem_cons.mp hd with z | z
    · rw [z]; exact Nat.lt_succ_self _
    · cases List.mem_singleton.mp z
      exact Nat.lt_succ_of_lt old
  · obtain ⟨t, ev⟩ := intItems_at hP
    subst ev
    obtain ⟨b1, b2⟩ := argBest_lt (numAt xs) (xs.size - 1)
    rw [lenI]
    refine h h' tk _ t (fun b o eo => hk b o (fun hm => ?_) (Heap.get?_push_of_some _ eo)) ?_ fun a ha => ?_
    · have := Heap.lt_size eo
      rw [List.mem_singleton.mp hm] at this
      exact Nat.lt_irrefl _ this
    · rw [numAt_eq, en]
      exact PySem.getD_mem (by rw [← en, List.length_map, Array.length_toList]; omega)
    · rw [← en] at ha
      obtain ⟨j, hj, ej⟩ := mem_getD ha
      rw [List.length_map, Array.length_toList] at hj
      rw [← ej, ← numAt_eq]
      exact b2 j (by omega)
end
def rMaxS (K : PySem.W.Frag) : List V → Hp → VK → Prop := fun vs H Q => ∃ (a : Addr) (ns : List Int), vs = [V.ref a] ∧ (SqL K H a (ns.map V.int) ∨ TupS H a (ns.map V.int)) ∧ 0 < ns.length ∧ ∀ m, m ∈ ns → (∀ y, y ∈ ns → y ≤ m) → Q (.int m) H
theorem cr_maxS {X : Cx} (hc : X.calm = true) : CallR X (.builtin "max") (rMaxS X.K) := by
  intro pins s σ H vs us Q I r h
  obtain ⟨a, ns, rfl, hs, hne, q⟩ := h
  rw [Vals.ref1 r]
  rcases hs with hs | hs
  · obtain ⟨its, rv, hl, _⟩ := I.list hs
    exact max_raw (I.ok.hd hc) hl.isList rv.ints hne fun h' tk m t' hk h1 h2 => ⟨.int _, H, I.kept hk, ⟨t', rfl⟩, q m h1 h2⟩
  · obtain ⟨its, n, rv, at_, _⟩ := inv_tupS I hs
    exact max_tup (I.ok.hd hc) ⟨_, at_, rfl, n, rfl⟩ rv.ints hne fun h' tk m t' hk h1 h2 => ⟨.int _, H, I.kept hk, ⟨t', rfl⟩, q m h1 h2⟩
def pickMax : List Int → Option Int
  | [] => none
  | n :: ns => some (ns.foldl (fun a b => if a < b then b else a) n)
def fMaxS (ds : List D) : Option D := match ds with
  | [.py (.list xs)] => ((intsOf xs).bind pickMax).map fun i => .py (.int i)
  | [.py (.tuple xs)] => ((intsOf xs).bind pickMax).map fun i => .py (.int i)
  | _ => none
theorem pick_max {ns : List Int} {i : Int} (h : pickMax ns = some i) : 0 < ns.length ∧ ∀ m, m ∈ ns → (∀ y, y ∈ ns → y ≤ m) → m = i := by
  cases ns with
  | nil => cases h
  | cons n ns =>
    cases h
    exact ⟨by simp, fun m hm hu => (top_is ns n m (List.mem_cons.mp hm) fun y hy => hu y (List.mem_cons.mpr hy)).symm⟩
theorem rel_maxS {K : PySem.W.Frag} : RelC K (rMaxS K) fMaxS := by
  refine relc_plain fun {wa Fr G σ H r w vs ds dz} x1 h1 e => ?_
  unfold fMaxS at e
  split at e
  · rename_i xs
    cases e2 : intsOf xs with
    | none => rw [e2] at e; cases e
    | some ns =>
      rw [e2, Option.bind_some] at e
      cases e4 : pickMax ns with
      | none => rw [e4] at e; cases e
      | some i =>
        rw [e4] at e
        cases e
        obtain ⟨p1, p2⟩ := pick_max e4
        obtain ⟨v, rfl, h⟩ := rv_one h1
        cases h with
        | lst s a =>
          rw [ints_map e2] at a
          have e3 := dpall_ints_inv _ _ a
          subst e3
          exact ⟨_, Dq.int _, fun Q q => ⟨_, ns, rfl, .inl (SqL.of (x1.h.sub _ _ s)), p1, fun m hm hu => by rw [p2 m hm hu]; exact q⟩⟩
  · rename_i xs
    cases e2 : intsOf xs with
    | none => rw [e2] at e; cases e
    | some ns =>
      rw [e2, Option.bind_some] at e
      cases e4 : pickMax ns with
      | none => rw [e4] at e; cases e
      | some i =>
        rw [e4] at e
        cases e
        obtain ⟨p1, p2⟩ := pick_max e4
        obtain ⟨v, rfl, h⟩ := rv_one h1
        cases h with
        | tup s a =>
          rw [ints_map e2] at a
          have e3 := dpall_ints_inv _ _ a
          subst e3
          exact ⟨_, Dq.int _, fun Q q => ⟨_, ns, rfl, .inr (s.mono x1.h.sub), p1, fun m hm hu => by rw [p2 m hm hu]; exact q⟩⟩
  · cases e
theorem e_maxS {X : Cx} {e : Expr} {es : List Expr} {n : M (List D)} {W : WX} {p pos : Pos} (hc : X.calm = true) (hm : X.mg "max" = none) (ha : PA X (e :: es) (tMs X.K X.mg W n)) (hg : Gl X "max" := by rfl) (he : starEach (e :: es) X.env = (false, eval e X.env) :: starEach es X.env := by rfl) (hpl : (backTo pos (starEach es X.env)).any (·.1) = false := by rfl) :
    PE X (.Call (.Name "max" p) (e :: es) [] pos) (tM X.K X.mg W (mFn fMaxS n)) := pe_imp (pe_callB (cr_maxS hc) hg hm (by decide +kernel) ha (by decide) (by decide) he hpl) fun _ _ _ h => m_fn rel_maxS h
def rMinS (K : PySem.W.Frag) : List V → Hp → VK → Prop := fun vs H Q => ∃ (a : Addr) (ns : List Int), vs = [V.ref a] ∧ (SqL K H a (ns.map V.int) ∨ TupS H a (ns.map V.int)) ∧ 0 < ns.length ∧ ∀ m, m ∈ ns → (∀ y, y ∈ ns → m ≤ y) → Q (.int m) H
theorem cr_minS {X : Cx} (hc : X.calm = true) : CallR X (.builtin "min") (rMinS X.K) := by
  intro pins s σ H vs us Q I r h
  obtain ⟨a, ns, rfl, hs, hne, q⟩ := h
  rw [Vals.ref1 r]
  rcases hs with hs | hs
  · obtain ⟨its, rv, hl, _⟩ := I.list hs
    exact min_raw (I.ok.hd hc) hl.isList rv.ints hne fun h' tk m t' hk h1 h2 => ⟨.int _, H, I.kept hk, ⟨t', rfl⟩, q m h1 h2⟩
  · obtain ⟨its, n, rv, at_, _⟩ := inv_tupS I hs
    exact min_tup (I.ok.hd hc) ⟨_, at_, rfl, n, rfl⟩ rv.ints hne fun h' tk m t' hk h1 h2 => ⟨.int _, H, I.kept hk, ⟨t', rfl⟩, q m h1 h2⟩
def pickMin : List Int → Option Int
  | [] => none
  | n :: ns => some (ns.foldl (fun a b => if b < a then b else a) n)
def fMinS (ds : List D) : Option D := match ds with
  | [.py (.list xs)] => ((intsOf xs).bind pickMin).map fun i => .py (.int i)
  | [.py (.tuple xs)] => ((intsOf xs).bind pickMin).map fun i => .py (.int i)
  | _ => none
theorem pick_min {ns : List Int} {i : Int} (h : pickMin ns = some i) : 0 < ns.length ∧ ∀ m, m ∈ ns → (∀ y, y ∈ ns → m ≤ y) → m = i := by
  cases ns with
  | nil => cases h
  | cons n ns =>
    cases h
    exact ⟨by simp, fun m hm hu => (low_is ns n m (List.mem_cons.mp hm) fun y hy => hu y (List.mem_cons.mpr hy)).symm⟩
theorem rel_minS {K : PySem.W.Frag} : RelC K (rMinS K) fMinS := by
  refine relc_plain fun {wa Fr G σ H r w vs ds dz} x1 h1 e => ?_
  unfold fMinS at e
  split at e
  · rename_i xs
    cases e2 : intsOf xs with
    | none => rw [e2] at e; cases e
    | some ns =>
      rw [e2, Option.bind_some] at e
      cases e4 : pickMin ns with
      | none => rw [e4] at e; cases e
      | some i =>
        rw [e4] at e
        cases e
        obtain ⟨p1, p2⟩ := pick_min e4
        obtain ⟨v, rfl, h⟩ := rv_one h1
        cases h with
        | lst s a =>
          rw [ints_map e2] at a
          have e3 := dpall_ints_inv _ _ a
          subst e3
          exact ⟨_, Dq.int _, fun Q q => ⟨_, ns, rfl, .inl (SqL.of (x1.h.sub _ _ s)), p1, fun m hm hu => by rw [p2 m hm hu]; exact q⟩⟩
  · rename_i xs
    cases e2 : intsOf xs with
    | none => rw [e2] at e; cases e
    | some ns =>
      rw [e2, Option.bind_some] at e
      cases e4 : pickMin ns with
      | none => rw [e4] at e; cases e
      | some i =>
        rw [e4] at e
        cases e
        obtain ⟨p1, p2⟩ := pick_min e4
        obtain ⟨v, rfl, h⟩ := rv_one h1
        cases h with
        | tup s a =>
          rw [ints_map e2] at a
          have e3 := dpall_ints_inv _ _ a
          subst e3
          exact ⟨_, Dq.int _, fun Q q => ⟨_, ns, rfl, .inr (s.mono x1.h.sub), p1, fun m hm hu => by rw [p2 m hm hu]; exact q⟩⟩
  · cases e
theorem e_minS {X : Cx} {e : Expr} {es : List Expr} {n : M (List D)} {W : WX} {p pos : Pos} (hc : X.calm = true) (hm : X.mg "min" = none) (ha : PA X (e :: es) (tMs X.K X.mg W n)) (hg : Gl X "min" := by rfl) (he : starEach (e :: es) X.env = (false, eval e X.env) :: starEach es X.env := by rfl) (hpl : (backTo pos (starEach es X.env)).any (·.1) = false := by rfl) :
    PE X (.Call (.Name "min" p) (e :: es) [] pos) (tM X.K X.mg W (mFn fMinS n)) := pe_imp (pe_callB (cr_minS hc) hg hm (by decide +kernel) ha (by decide) (by decide) he hpl) fun _ _ _ h => m_fn rel_minS h
/-! ### max and min of three -/
def fMax3 (ds : List D) : Option D := match ds with
  | [.py (.int a), .py (.int b), .py (.int c)] => some (.py (.int (if b > a then (if c > b then c else b) else if c > a then c else a)))
  | _ => none
def rMax3 : List V → Hp → VK → Prop := fun vs H Q => ∃ a b c : Int, vs = [.int a, .int b, .int c] ∧ Q (.int (if b > a then (if c > b then c else b) else if c > a then c else a)) H
theorem cr_max3 {X : Cx} (hc : X.calm = true) : CallR X (.builtin "max") rMax3 := by
  intro pins s σ H vs us Q I r h
  obtain ⟨a, b, c, rfl, q⟩ := h
  match us, r with
  | [_, _, _], .cons ⟨t, e1⟩ (.cons ⟨u, e2⟩ (.cons ⟨x, e3⟩ .nil)) =>
    subst e1 e2 e3
    refine max_three_ints (I.ok.hd hc) fun h' tk hk => ⟨.int _, H, I.kept hk, ?_, q⟩
    split <;> split <;> exact ⟨_, rfl⟩
def fMin3 (ds : List D) : Option D := match ds with
  | [.py (.int a), .py (.int b), .py (.int c)] => some (.py (.int (if b < a then (if c < b then c else b) else if c < a then c else a)))
  | _ => none
def rMin3 : List V → Hp → VK → Prop := fun vs H Q => ∃ a b c : Int, vs = [.int a, .int b, .int c] ∧ Q (.int (if b < a then (if c < b then c else b) else if c < a then c else a)) H
theorem cr_min3 {X : Cx} (hc : X.calm = true) : CallR X (.builtin "min") rMin3 := by
  intro pins s σ H vs us Q I r h
  obtain ⟨a, b, c, rfl, q⟩ := h
  match us, r with
  | [_, _, _], .cons ⟨t, e1⟩ (.cons ⟨u, e2⟩ (.cons ⟨x, e3⟩ .nil)) =>
    subst e1 e2 e3
    refine min_three_ints (I.ok.hd hc) fun h' tk hk => ⟨.int _, H, I.kept hk, ?_, q⟩
    split <;> split <;> exact ⟨_, rfl⟩
theorem rel_max3 {K : PySem.W.Frag} : RelC K rMax3 fMax3 := by
  refine relc_plain fun {wa Fr G σ H r w vs ds dz} x1 h1 e => ?_
  unfold fMax3 at e
  split at e
  · cases e
    obtain ⟨x, y, z, rfl, h2, h3, h4⟩ := rv_three h1
    cases h2
    cases h3
    cases h4
    exact ⟨_, Dq.int _, fun Q q => ⟨_, _, _, rfl, q⟩⟩
  · cases e
theorem rel_min3 {K : PySem.W.Frag} : RelC K rMin3 fMin3 := by
  refine relc_plain fun {wa Fr G σ H r w vs ds dz} x1 h1 e => ?_
  unfold fMin3 at e
  split at e
  · cases e
    obtain ⟨x, y, z, rfl, h2, h3, h4⟩ := rv_three h1
    cases h2
    cases h3
    cases h4
    exact ⟨_, Dq.int _, fun Q q => ⟨_, _, _, rfl, q⟩⟩
  · cases e
section
variable {X : Cx} {e : Expr} {es : List Expr} {n : M (List D)} {W : WX} {p pos : Pos}
theorem e_max3 (hc : X.calm = true) (hm : X.mg "max" = none) (ha : PA X (e :: es) (tMs X.K X.mg W n)) (hg : Gl X "max" := by rfl) (he : starEach (e :: es) X.env = (false, eval e X.env) :: starEach es X.env := by rfl) (hpl : (backTo pos (starEach es X.env)).any (·.1) = false := by rfl) :
    PE X (.Call (.Name "max" p) (e :: es) [] pos) (tM X.K X.mg W (mFn fMax3 n)) := pe_imp (pe_callB (cr_max3 hc) hg hm (by decide +kernel) ha (by decide) (by decide) he hpl) fun _ _ _ h => m_fn rel_max3 h
theorem e_min3 (hc : X.calm = true) (hm : X.mg "min" = none) (ha : PA X (e :: es) (tMs X.K X.mg W n)) (hg : Gl X "min" := by rfl) (he : starEach (e :: es) X.env = (false, eval e X.env) :: starEach es X.env := by rfl) (hpl : (backTo pos (starEach es X.env)).any (·.1) = false := by rfl) :
    PE X (.Call (.Name "min" p) (e :: es) [] pos) (tM X.K X.mg W (mFn fMin3 n)) := pe_imp (pe_callB (cr_min3 hc) hg hm (by decide +kernel) ha (by decide) (by decide) he hpl) fun _ _ _ h => m_fn rel_min3 h
end
end Mi
namespace Mi
open PySem PySem.Spec PyProof.Rows L2
/-! ### a dict of one's own, its keys whole numbers -/
def valI : List (Int × PyData) → Int → Option PyData
  | [], _ => none
  | q :: kvs, i => if q.1 = i then some q.2 else valI kvs i
def chgI : List (Int × PyData) → Int → PyData → List (Int × PyData)
  | [], _, _ => []
  | q :: kvs, i, d => (if q.1 = i then (q.1, d) else q) :: chgI kvs i d
def putI (kvs : List (Int × PyData)) (i : Int) (d : PyData) : List (Int × PyData) := if (valI kvs i).isSome = true then chgI kvs i d else kvs ++ [(i, d)]
theorem inl_eq {i j : Int} : ((Sum.inl i : Key) = Sum.inl j) ↔ i = j := ⟨fun h => by cases h; rfl, fun h => by rw [h]⟩
theorem DPs.none {K : PySem.W.Frag} {G : Hp} {i : Int} : ∀ {ps : List (Key × V)} {kvs : List (Int × PyData)}, DPs K G ps kvs → valI kvs i = none → valV ps (Sum.inl i) = none
  | _, _, .nil, _ => rfl
  | _, _, .cons (i := j) (v := v) h t, e => by
    unfold valI at e
    by_cases c : j = i
    · rw [if_pos c] at e
      cases e
    · rw [if_neg c] at e
      rw [valV_neg (p := ((Sum.inl j : Key), v)) fun z => c (inl_eq.mp z)]
      exact t.none e
theorem DPs.some {K : PySem.W.Frag} {G : Hp} {i : Int} {d : PyData} : ∀ {ps : List (Key × V)} {kvs : List (Int × PyData)}, DPs K G ps kvs → valI kvs i = some d → ∃ v, valV ps (Sum.inl i) = some v ∧ Dq K G v d
  | _, _, .nil, e => by cases e
  | _, _, .cons (i := j) (v := v) h t, e => by
    unfold valI at e
    by_cases c : j = i
    · rw [if_pos c] at e
      cases e
      exact ⟨v, valV_pos (p := ((Sum.inl j : Key), v)) (inl_eq.mpr c), h⟩
    · rw [if_neg c] at e
      rw [valV_neg (p := ((Sum.inl j : Key), v)) fun z => c (inl_eq.mp z)]
      exact t.some e
theorem DPs.isSome {K : PySem.W.Frag} {G : Hp} {i : Int} {ps : List (Key × V)} {kvs : List (Int × PyData)} (h : DPs K G ps kvs) : (valV ps (Sum.inl i)).isSome = (valI kvs i).isSome := by
  cases e : valI kvs i with
  | none =>
    rw [h.none e]
    rfl
  | some d =>
    obtain ⟨v, e2, _⟩ := h.some e
    rw [e2]
    rfl
theorem DPs.len {K : PySem.W.Frag} {G : Hp} : ∀ {ps : List (Key × V)} {kvs : List (Int × PyData)}, DPs K G ps kvs → ps.length = kvs.length
  | _, _, .nil => rfl
  | _, _, .cons _ t => by rw [List.length_cons, List.length_cons, t.len]
theorem DPs.chg {K : PySem.W.Frag} {G : Hp} {i : Int} {u : V} {d : PyData} (hu : Dq K G u d) : ∀ {ps : List (Key × V)} {kvs : List (Int × PyData)}, DPs K G ps kvs → DPs K G (ps.map fun kv => if kv.1 = (Sum.inl i : Key) then (kv.1, u) else kv) (chgI kvs i d)
  | _, _, .nil => .nil
  | _, _, .cons (i := j) (v := v) h t => by
    rw [List.map_cons]
    unfold chgI
    by_cases c : j = i
    · rw [if_pos c, if_pos (inl_eq.mpr c)]
      exact .cons hu (t.chg hu)
    · rw [if_neg c, if_neg fun z => c (inl_eq.mp z)]
      exact .cons h (t.chg hu)
theorem DPs.snoc {K : PySem.W.Frag} {G : Hp} {i : Int} {u : V} {d : PyData} (hu : Dq K G u d) : ∀ {ps : List (Key × V)} {kvs : List (Int × PyData)}, DPs K G ps kvs → DPs K G (ps ++ [((Sum.inl i : Key), u)]) (kvs ++ [(i, d)])
  | _, _, .nil => .cons hu .nil
  | _, _, .cons h t => .cons h (t.snoc hu)
theorem DPs.put {K : PySem.W.Frag} {G : Hp} {i : Int} {u : V} {d : PyData} {ps : List (Key × V)} {kvs : List (Int × PyData)} (h : DPs K G ps kvs) (hu : Dq K G u d) : DPs K G (putK ps (Sum.inl i) u) (putI kvs i d) := by
  unfold putK putI
  rw [valV_any, h.isSome]
  split
  · exact h.chg hu
  · exact h.snoc hu
/-- no other name holds a dict -/
def notOd : Slot → Bool
  | .od _ => false
  | _ => true
def oneD (i : Nat) (r : En) : Bool := (r.set i .no).all notOd
theorem oneD_at {i j : Nat} {r : En} {kvs : List (Int × PyData)} (h : oneD i r = true) (e : r[j]? = some (.od kvs)) : j = i := by
  by_cases c : i = j
  · exact c.symm
  · unfold oneD at h
    have := List.all_eq_true.mp h (.od kvs) (List.mem_of_getElem? (i := j) (by rw [List.getElem?_set_ne c]; exact e))
    cases this
section
variable {K : PySem.W.Frag} {wa : WA} {Fr G H : Hp} {σ : L2.St} {r : En} {w : Wd} {a : Addr} {ps : List (Key × V)} {kvs : List (Int × PyData)} {i : Nat}
theorem own_dict (x : Rep K wa Fr G σ H r w) (e : r[i]? = some (.od kvs)) : ∃ a ps, σ[i]? = some (some (.ref a)) ∧ OwnD K wa Fr G H a ps kvs := by
  obtain ⟨o, e1, a, ps, rfl, h⟩ := x.slot i _ e
  exact ⟨a, ps, e1, h⟩
theorem Rep.fresh {p : Addr} (x : Rep K wa Fr G σ H r w) (hp : H p = none) (o : HO) : Rep K wa Fr G σ (upd H p o) r w := by
  have hg := x.h.gnone hp
  refine ⟨⟨fun b y e => ?_, fun b y e => ?_, x.h.nw, x.h.fw, x.h.wr.upd (x.h.now hp)⟩, fun i s e => ?_, x.inj⟩
  · rw [upd_ne (ne_of_none e hg)]
    exact x.h.sub _ _ e
  · rw [upd_ne (ne_of_none (x.h.fr b y e).1 hp)]
    exact x.h.fr b y e
  · obtain ⟨q, e1, e2⟩ := x.slot i s e
    refine ⟨q, e1, ?_⟩
    cases s with
    | no => trivial
    | im d => exact e2
    | ow ys =>
      obtain ⟨b, us, rfl, h2⟩ := e2
      have hb : b ≠ p := ne_of_none h2.at_ hp
      exact ⟨b, us, rfl, by rw [upd_ne hb]; exact h2.at_, h2.da, h2.g, h2.f, h2.wm, h2.wc, h2.wg⟩
    | od kvs =>
      obtain ⟨b, us, rfl, h2⟩ := e2
      have hb : b ≠ p := ne_of_none h2.at_ hp
      exact ⟨b, us, rfl, by rw [upd_ne hb]; exact h2.at_, h2.da, h2.g, h2.f, h2.wm, h2.wc, h2.wg⟩
theorem Rep.setOd (x : Rep K wa Fr G σ H r w) (i : Nat) (h : OwnD K wa Fr G H a ps kvs) : Rep K wa Fr G (σ.set i (some (.ref a))) H (r.set i (.od kvs)) w := by
  have no : ∀ {j : Nat} {ys : List PyData}, (r.set i (.od kvs))[j]? = some (.ow ys) → i ≠ j ∧ r[j]? = some (.ow ys) := fun {j ys} e => by
    by_cases hj : i = j
    · subst hj
      have hl : i < r.length := by
        have := (List.getElem?_eq_some_iff.mp e).1
        rw [List.length_set] at this
        exact this
      rw [List.getElem?_set_self hl] at e
      cases e
    · rw [List.getElem?_set_ne hj] at e
      exact ⟨hj, e⟩
  refine ⟨x.h, fun j s e => ?_, fun j k xs ys b h1 h2 h3 h4 => ?_⟩
  · by_cases hj : i = j
    · subst hj
      have hl : i < r.length := by
        have := (List.getElem?_eq_some_iff.mp e).1
        rw [List.length_set] at this
        exact this
      rw [List.getElem?_set_self hl] at e
      cases e
      obtain ⟨o, e1, _⟩ := x.slot i _ (List.getElem?_eq_getElem hl)
      exact ⟨some (.ref a), List.getElem?_set_self (List.getElem?_eq_some_iff.mp e1).1, a, ps, rfl, h⟩
    · rw [List.getElem?_set_ne hj] at e
      rw [List.getElem?_set_ne hj]
      exact x.slot j s e
  · obtain ⟨nj, g1⟩ := no h1
    obtain ⟨nk, g2⟩ := no h2
    rw [List.getElem?_set_ne nj] at h3
    rw [List.getElem?_set_ne nk] at h4
    exact x.inj j k xs ys b g1 g2 h3 h4
theorem Rep.putD (x : Rep K wa Fr G σ H r w) (e : r[i]? = some (.od kvs)) (e1 : σ[i]? = some (some (.ref a))) (one : oneD i r = true) {ps' : List (Key × V)} {kvs' : List (Int × PyData)} (hd : DPs K G ps' kvs') : Rep K wa Fr G σ (upd H a (.dK ps')) (r.set i (.od kvs')) w := by
  obtain ⟨a', ps, ea, ho⟩ := own_dict x e
  rw [e1] at ea
  cases ea
  have hl : i < r.length := (List.getElem?_eq_some_iff.mp e).1
  have no : ∀ {j : Nat} {ys : List PyData}, (r.set i (.od kvs'))[j]? = some (.ow ys) → i ≠ j ∧ r[j]? = some (.ow ys) := fun {j ys} ej => by
    by_cases hj : i = j
    · subst hj
      rw [List.getElem?_set_self hl] at ej
      cases ej
    · rw [List.getElem?_set_ne hj] at ej
      exact ⟨hj, ej⟩
  refine ⟨⟨fun b y eb => ?_, fun b y eb => ?_, x.h.nw, x.h.fw, x.h.wr.upd ⟨ho.wm, ho.wc, ho.wg⟩⟩, fun j s ej => ?_, fun j k z1 z2 b h1 h2 h3 h4 => x.inj j k z1 z2 b (no h1).2 (no h2).2 h3 h4⟩
  · have hb : b ≠ a := ne_of_none eb ho.g
    rw [upd_ne hb]
    exact x.h.sub _ _ eb
  · have hb : b ≠ a := ne_of_none eb ho.f
    rw [upd_ne hb]
    exact x.h.fr b y eb
  · by_cases hj : i = j
    · subst hj
      rw [List.getElem?_set_self hl] at ej
      cases ej
      exact ⟨some (.ref a), e1, a, ps', rfl, upd_same, hd, ho.g, ho.f, ho.wm, ho.wc, ho.wg⟩
    · rw [List.getElem?_set_ne hj] at ej
      obtain ⟨q, f1, f2⟩ := x.slot j s ej
      refine ⟨q, f1, ?_⟩
      cases s with
      | no => trivial
      | im d => exact f2
      | ow zs =>
        obtain ⟨b, ws, rfl, hb⟩ := f2
        have nb : b ≠ a := fun z => by
          have := hb.at_
          rw [z, ho.at_] at this
          cases this
        exact ⟨b, ws, rfl, by rw [upd_ne nb]; exact hb.at_, hb.da, hb.g, hb.f, hb.wm, hb.wc, hb.wg⟩
      | od zs => exact absurd (oneD_at one ej).symm hj
end
/-! ### d = {}; k in d; d[k]; d[k] = v -/
def sNewD (i : Nat) : S := fun r w => .nx (r.set i (.od [])) w
def inD (neg : Bool) (d : D) (s : Option Slot) : Option D := match d, s with
  | .py (.int k), some (.od kvs) => some (.py (.bool (if neg then !(valI kvs k).isSome else (valI kvs k).isSome)))
  | _, _ => none
def ixD (d : D) (s : Option Slot) : Option D := match d, s with
  | .py (.int k), some (.od kvs) => (valI kvs k).map D.py
  | _, _ => none
def mInD (neg : Bool) (m : M D) (i : Nat) : M D := fun r w => (m r w).bind fun d r w => match inD neg d r[i]? with
  | some z => .ok z r w
  | none => .bad
def mIxD (i : Nat) (m : M D) : M D := fun r w => match r[i]? with
  | some (.od _) => (m r w).bind fun d r w => (match ixD d r[i]? with
    | some z => .ok z r w
    | none => .bad)
  | _ => .bad
def sPutD (i : Nat) (mk mv : M D) : S := fun r w => match mv r w with
  | .ok (.py y) r1 w1 => (match r1[i]? with
    | some (.od _) => (match mk r1 w1 with
      | .ok (.py (.int k)) r2 w2 => (match r2[i]? with
        | some (.od kvs) => if oneD i r2 = true then ifC (kvs.length < 100000) (.nx (r2.set i (.od (putI kvs k y))) w2) .bad else .bad
        | _ => .bad)
      | .ex c f y r2 w2 => .ex c f y r2 w2
      | _ => .bad)
    | _ => .bad)
  | .ex c f y r1 w1 => .ex c f y r1 w1
  | _ => .bad
section
variable {X : Cx} {x : Str} {e k v : Expr} {m mk mv : M D} {p1 p2 pos : Pos}
theorem s_newD (i : Nat) {dpos : Pos} (hN : X.N.Nodup) (hi : X.N[i]? = some x := by rfl) (hx : Loc X.env.scope x := by first | exact Or.inl rfl | exact Or.inr rfl) (hs : swapsWith (.Dict [] [] dpos) (some (.Name x p1)) pos.line X.env = pure false := by rfl) (hf : X.fn x = true ∨ X.env.scope.names.lookup x = some .local := by first | exact .inl rfl | exact .inr rfl | assumption) :
    PS X (.Assign [.Name x p1] (.Dict [] [] dpos) pos) (tX X.K X.mg W (sNewD i)) := by
  refine ps_imp (ps_set hN hi hx pe_dnewK hs hf) fun Dn σ H h => ?_
  obtain ⟨wa, Fr, G, r, w, x0, q⟩ := tX_after h
  unfold sNewD at q
  intro p hp
  obtain ⟨n1, n2, n3⟩ := x0.h.now hp
  have hg := x0.h.gnone hp
  exact q _ _ G (Same.refl _) ((x0.fresh hp (.dK [])).setOd i ⟨upd_same, .nil, hg, x0.h.fnone hp, n1, n2, n3⟩)
theorem e_inD (hu : X.A.units + 64 < cLine) {i : Nat} (ha : PE X e (tM X.K X.mg W m)) (hN : X.N[i]? = some x := by rfl) (hv : Vis X.env.scope x := by first | exact Or.inl rfl | exact Or.inr (Or.inl rfl) | exact Or.inr (Or.inr rfl)) (hd : (x == ("__debug__" : Str)) = false := by decide)
    (hcd : (x == ("__classdict__" : Str)) = false := by decide) : PE X (.Compare e [.In] [.Name x p1] pos) (tM X.K X.mg W (mInD false m i)) := by
  refine pe_imp (pe_cmp (pc_din (by omega) ha (pe_var hN hv hd hcd))) fun σ H Q h => ?_
  obtain ⟨wa, Fr, G, r, w, x0, q⟩ := h
  unfold mInD at q
  refine ⟨wa, Fr, G, r, w, x0, ?_⟩
  cases e1 : m r w with
  | bad => simp only [e1, Re.bind] at q
  | ex c f y r9 w9 => simp only [e1, Re.bind] at q; exact q
  | ok d r1 w1 =>
    simp only [e1, Re.bind] at q
    intro v1 H1 G1 s1 x1 h1
    cases e9 : inD false d r1[i]? with
    | none => simp only [e9] at q
    | some z =>
      simp only [e9] at q
      unfold inD at e9
      split at e9
      · rename_i k kvs e2
        cases e9
        cases h1
        obtain ⟨a, ps, f1, ho⟩ := own_dict x1 e2
        refine ⟨_, f1, a, _, rfl, DGet.k (k := Sum.inl k) ho.at_, ?_⟩
        rw [ho.da.isSome]
        exact q _ H1 G1 s1 x1 (Dq.bl _)
      · cases e9
theorem e_notInD (hu : X.A.units + 64 < cLine) {i : Nat} (ha : PE X e (tM X.K X.mg W m)) (hN : X.N[i]? = some x := by rfl) (hv : Vis X.env.scope x := by first | exact Or.inl rfl | exact Or.inr (Or.inl rfl) | exact Or.inr (Or.inr rfl)) (hd : (x == ("__debug__" : Str)) = false := by decide)
    (hcd : (x == ("__classdict__" : Str)) = false := by decide) : PE X (.Compare e [.NotIn] [.Name x p1] pos) (tM X.K X.mg W (mInD true m i)) := by
  refine pe_imp (pe_cmp (pc_dnotin (by omega) ha (pe_var hN hv hd hcd))) fun σ H Q h => ?_
  obtain ⟨wa, Fr, G, r, w, x0, q⟩ := h
  unfold mInD at q
  refine ⟨wa, Fr, G, r, w, x0, ?_⟩
  cases e1 : m r w with
  | bad => simp only [e1, Re.bind] at q
  | ex c f y r9 w9 => simp only [e1, Re.bind] at q; exact q
  | ok d r1 w1 =>
    simp only [e1, Re.bind] at q
    intro v1 H1 G1 s1 x1 h1
    cases e9 : inD true d r1[i]? with
    | none => simp only [e9] at q
    | some z =>
      simp only [e9] at q
      unfold inD at e9
      split at e9
      · rename_i k kvs e2
        cases e9
        cases h1
        obtain ⟨a, ps, f1, ho⟩ := own_dict x1 e2
        refine ⟨_, f1, a, _, rfl, DGet.k (k := Sum.inl k) ho.at_, ?_⟩
        rw [ho.da.isSome]
        exact q _ H1 G1 s1 x1 (Dq.bl _)
      · cases e9
theorem e_ixD (hu : X.A.units + 64 < cLine) (i : Nat) (ha : PE X e (tM X.K X.mg W m)) (hN : X.N[i]? = some x := by rfl) (hv : Vis X.env.scope x := by first | exact Or.inl rfl | exact Or.inr (Or.inl rfl) | exact Or.inr (Or.inr rfl)) (hd : (x == ("__debug__" : Str)) = false := by decide)
    (hcd : (x == ("__classdict__" : Str)) = false := by decide) (hs : NoSl e := by exact fun _ _ => rfl) : PE X (.Subscript (.Name x p1) e pos) (tM X.K X.mg W (mIxD i m)) := by
  refine pe_imp (pe_dget (by omega) (pe_var hN hv hd hcd) ha hs) fun σ H Q h => ?_
  obtain ⟨wa, Fr, G, r, w, x0, q⟩ := h
  unfold mIxD at q
  cases e0 : r[i]? with
  | none => simp only [e0] at q
  | some sl =>
    cases sl with
    | no => simp only [e0] at q
    | im y => simp only [e0] at q
    | ow ys => simp only [e0] at q
    | od kvs0 =>
      simp only [e0] at q
      obtain ⟨a, ps0, f1, _⟩ := own_dict x0 e0
      refine ⟨_, f1, wa, Fr, G, r, w, x0, ?_⟩
      cases e1 : m r w with
      | bad => simp only [e1, Re.bind] at q
      | ex c f y r9 w9 => simp only [e1, Re.bind] at q; exact q
      | ok d r1 w1 =>
        simp only [e1, Re.bind] at q
        intro v1 H1 G1 s1 x1 h1
        cases e9 : ixD d r1[i]? with
        | none => simp only [e9] at q
        | some z =>
          simp only [e9] at q
          unfold ixD at e9
          split at e9
          · rename_i k kvs e2
            cases h1
            obtain ⟨a', ps, g1, ho⟩ := own_dict x1 e2
            rw [f1] at g1
            cases g1
            cases e3 : valI kvs k with
            | none => rw [e3] at e9; cases e9
            | some y =>
              rw [e3] at e9
              cases e9
              obtain ⟨u, e4, hu4⟩ := ho.da.some e3
              refine ⟨a, u, rfl, ?_, q _ H1 G1 s1 x1 hu4⟩
              have := DGet.k (H := H1) (a := a) (k := Sum.inl k) ho.at_
              rw [e4] at this
              exact this
          · cases e9
theorem s_putD (hu : X.A.units + 64 < cLine) (i : Nat) (hvl : PE X v (tM X.K X.mg W mv)) (hk : PE X k (tM X.K X.mg W mk)) (hN : X.N[i]? = some x := by rfl) (hv : Vis X.env.scope x := by first | exact Or.inl rfl | exact Or.inr (Or.inl rfl) | exact Or.inr (Or.inr rfl)) (hd : (x == ("__debug__" : Str)) = false := by decide)
    (hcd : (x == ("__classdict__" : Str)) = false := by decide) (hs : swapsWith v (some (.Subscript (.Name x p1) k p2)) pos.line X.env = pure false := by rfl) :
    PS X (.Assign [.Subscript (.Name x p1) k p2] v pos) (tX X.K X.mg W (sPutD i mk mv)) := by
  refine ps_imp (ps_dput (by omega) (pe_var hN hv hd hcd) hk hvl hs) fun Dn σ H h => ?_
  obtain ⟨wa, Fr, G, r, w, x0, q⟩ := tX_after h
  unfold sPutD at q
  refine ⟨wa, Fr, G, r, w, x0, ?_⟩
  split at q
  · rename_i y r1 w1 e1
    rw [e1]
    intro v1 H1 G1 s1 x1 h1
    split at q
    · rename_i kvs0 e0
      obtain ⟨a, ps0, f1, _⟩ := own_dict x1 e0
      refine ⟨_, f1, wa, Fr, G1, r1, w1, x1, ?_⟩
      split at q
      · rename_i kk r2 w2 e2
        rw [e2]
        intro v2 H2 G2 s2 x2 h2
        cases h2
        split at q
        · rename_i kvs e3
          by_cases c1 : oneD i r2 = true
          · rw [if_pos c1] at q
            by_cases c2 : kvs.length < 100000
            · rw [ifC_pos c2] at q
              obtain ⟨a', ps, g1, ho⟩ := own_dict x2 e3
              rw [f1] at g1
              cases g1
              refine ⟨a, _, rfl, DPut.k (k := Sum.inl kk) ho.at_ (by rw [ho.da.len]; exact big_lt c2), ?_⟩
              exact q σ _ G2 (s1.trans s2) (x2.putD e3 f1 c1 (ho.da.put (dp_mono s2 _ _ h1)))
            · rw [ifC_neg c2] at q
              exact False.elim q
          · rw [if_neg c1] at q
            exact False.elim q
        · exact False.elim q
      · rename_i e2
        rw [e2]
        exact ExSt.at (ExSt.mono q s1)
      · exact False.elim q
    · exact False.elim q
  · rename_i e1
    rw [e1]
    exact ExSt.at q
  · exact False.elim q
end
end Mi
namespace Mi
open PySem PySem.Spec PyProof.Rows L2
/-! ### list(d), d a dict of one's own -/
def mKeysD (i : Nat) : M (List PyData) := fun r w => match r[i]? with
  | some (.od kvs) => .ok (kvs.map fun q => PyData.int q.1) r w
  | _ => .bad
theorem DPs.keys {K : PySem.W.Frag} {G : Hp} : ∀ {ps : List (Key × V)} {kvs : List (Int × PyData)}, DPs K G ps kvs → (ps.map fun kv => kV kv.1) = (kvs.map (·.1)).map V.int
  | _, _, .nil => rfl
  | _, _, .cons h t => by
    rw [List.map_cons, List.map_cons, List.map_cons, t.keys]
    rfl
section
variable {X : Cx} {x : Str} {p p1 pos : Pos}
theorem f_listD (i : Nat) (hc : X.calm = true) (hm : X.mg "list" = none) (hN : X.N[i]? = some x := by rfl) (hv : Vis X.env.scope x := by first | exact Or.inl rfl | exact Or.inr (Or.inl rfl) | exact Or.inr (Or.inr rfl)) (hd : (x == ("__debug__" : Str)) = false := by decide)
    (hcd : (x == ("__classdict__" : Str)) = false := by decide) (hg : Gl X "list" := by rfl) (he : starEach ((.Name x p1) :: []) X.env = (false, eval (.Name x p1) X.env) :: starEach [] X.env := by rfl) (hpl : (backTo pos (starEach [] X.env)).any (·.1) = false := by rfl) :
    PE X (.Call (.Name "list" p) [.Name x p1] [] pos) (tF X.K X.mg W (mKeysD i)) := by
  refine pe_imp (pe_callTy (call_list_dK hc) hg hm (by decide +kernel) (pa_cons (pe_var hN hv hd hcd) pa_nil he) (by decide) (by decide) he hpl) fun σ H Q h => ?_
  obtain ⟨wa, Fr, G, r, w, x0, q⟩ := h
  unfold mKeysD at q
  cases e0 : r[i]? with
  | none => simp only [e0] at q
  | some sl =>
    cases sl with
    | no => simp only [e0] at q
    | im y => simp only [e0] at q
    | ow ys => simp only [e0] at q
    | od kvs =>
      simp only [e0] at q
      obtain ⟨a, ps, f1, ho⟩ := own_dict x0 e0
      refine ⟨_, f1, a, ps, rfl, ho.at_, fun l hl => ?_⟩
      rw [ho.da.keys]
      have e2 : (kvs.map fun q => PyData.int q.1) = (kvs.map (·.1)).map PyData.int := by rw [List.map_map]; rfl
      rw [e2] at q
      obtain ⟨y1, y2, y3⟩ := x0.newList hl (dpall_ints (kvs.map (·.1)))
      exact q l _ _ G (Same.refl _) y1 y2 y3
end
/-! ### a < b < c as a test -/
section
variable {X : Cx} {a b c : Expr} {ma mb mc : M D} {pos : Pos}
theorem t_le_le (ha : PE X a (tM X.K X.mg W ma)) (hb : PE X b (tM X.K X.mg W mb)) (hc : PE X c (tM X.K X.mg W mc)) (hm : lastMarks [.LtE, .LtE] [b, c] = false := by with_unfolding_all rfl) : PT X (.Compare a [.LtE, .LtE] [b, c] pos) (tT X.K X.mg W (mB (mCh fLe fLe ma mb mc))) :=
  pt_imp (pt_chain op_le op_le ha hb hc hm) fun σ H Q h => m_ch (Q := fun x H' => ∃ k, x = .bl k ∧ Q k H') (plain_int0 fun _ _ _ _ => Dq.bl _) (relop_int0 fun _ _ _ _ => Dq.bl _) (m_B h)
theorem t_le_lt (ha : PE X a (tM X.K X.mg W ma)) (hb : PE X b (tM X.K X.mg W mb)) (hc : PE X c (tM X.K X.mg W mc)) (hm : lastMarks [.LtE, .Lt] [b, c] = false := by with_unfolding_all rfl) : PT X (.Compare a [.LtE, .Lt] [b, c] pos) (tT X.K X.mg W (mB (mCh fLe fLt ma mb mc))) :=
  pt_imp (pt_chain op_le op_lt ha hb hc hm) fun σ H Q h => m_ch (Q := fun x H' => ∃ k, x = .bl k ∧ Q k H') (plain_int0 fun _ _ _ _ => Dq.bl _) (relop_int0 fun _ _ _ _ => Dq.bl _) (m_B h)
theorem t_lt_le (ha : PE X a (tM X.K X.mg W ma)) (hb : PE X b (tM X.K X.mg W mb)) (hc : PE X c (tM X.K X.mg W mc)) (hm : lastMarks [.Lt, .LtE] [b, c] = false := by with_unfolding_all rfl) : PT X (.Compare a [.Lt, .LtE] [b, c] pos) (tT X.K X.mg W (mB (mCh fLt fLe ma mb mc))) :=
  pt_imp (pt_chain op_lt op_le ha hb hc hm) fun σ H Q h => m_ch (Q := fun x H' => ∃ k, x = .bl k ∧ Q k H') (plain_int0 fun _ _ _ _ => Dq.bl _) (relop_int0 fun _ _ _ _ => Dq.bl _) (m_B h)
theorem t_lt_lt (ha : PE X a (tM X.K X.mg W ma)) (hb : PE X b (tM X.K X.mg W mb)) (hc : PE X c (tM X.K X.mg W mc)) (hm : lastMarks [.Lt, .Lt] [b, c] = false := by with_unfolding_all rfl) : PT X (.Compare a [.Lt, .Lt] [b, c] pos) (tT X.K X.mg W (mB (mCh fLt fLt ma mb mc))) :=
  pt_imp (pt_chain op_lt op_lt ha hb hc hm) fun σ H Q h => m_ch (Q := fun x H' => ∃ k, x = .bl k ∧ Q k H') (plain_int0 fun _ _ _ _ => Dq.bl _) (relop_int0 fun _ _ _ _ => Dq.bl _) (m_B h)
theorem e_lt_le (ha : PE X a (tM X.K X.mg W ma)) (hb : PE X b (tM X.K X.mg W mb)) (hc : PE X c (tM X.K X.mg W mc)) (hm : lastMarks [.Lt, .LtE] [b, c] = false := by with_unfolding_all rfl) : PE X (.Compare a [.Lt, .LtE] [b, c] pos) (tM X.K X.mg W (mCh fLt fLe ma mb mc)) :=
  pe_imp (pe_chain op_lt op_le ha hb hc hm) fun _ _ _ h => m_ch (plain_int0 fun _ _ _ _ => Dq.bl _) (relop_int0 fun _ _ _ _ => Dq.bl _) h
end
/-! ### in and not in of one's own, as a test -/
section
variable {X : Cx} {e : Expr} {m : M D} {x : Str} {p1 pos : Pos}
theorem t_inO (i : Nat) (hu : X.A.units + 64 < cLine) (ha : PE X e (tM X.K X.mg W m)) (hN : X.N[i]? = some x := by rfl) (hv : Vis X.env.scope x := by first | exact Or.inl rfl | exact Or.inr (Or.inl rfl) | exact Or.inr (Or.inr rfl)) (hd : (x == ("__debug__" : Str)) = false := by decide) (hcd : (x == ("__classdict__" : Str)) = false := by decide) : PT X (.Compare e [.In] [.Name x p1] pos) (tT X.K X.mg W (mB (mInO false m i))) :=
  pt_imp (pt_cmpR (op_inL hu) ha (pe_var hN hv hd hcd) rfl) fun σ H Q h => m_inO (Q := fun x H' => ∃ k, x = .bl k ∧ Q k H') (m_B h)
theorem t_notInO (i : Nat) (hu : X.A.units + 64 < cLine) (ha : PE X e (tM X.K X.mg W m)) (hN : X.N[i]? = some x := by rfl) (hv : Vis X.env.scope x := by first | exact Or.inl rfl | exact Or.inr (Or.inl rfl) | exact Or.inr (Or.inr rfl)) (hd : (x == ("__debug__" : Str)) = false := by decide) (hcd : (x == ("__classdict__" : Str)) = false := by decide) : PT X (.Compare e [.NotIn] [.Name x p1] pos) (tT X.K X.mg W (mB (mInO true m i))) :=
  pt_imp (pt_cmpR (op_notInL hu) ha (pe_var hN hv hd hcd) rfl) fun σ H Q h => m_inO (Q := fun x H' => ∃ k, x = .bl k ∧ Q k H') (m_B h)
theorem m_inD {K : PySem.W.Frag} {neg : Bool} {i : Nat} {σ : L2.St} {H : Hp} {Q : VK} (h : tM K mg W (mInD neg m i) σ H Q) : tM K mg W m σ H fun y H1 => tVar i σ H1 fun z H2 => ∃ a o, z = .ref a ∧ DGet H2 a y o ∧ Q (.bl (if neg then !o.isSome else o.isSome)) H2 := by
  obtain ⟨wa, Fr, G, r, w, x0, q⟩ := h
  unfold mInD at q
  refine ⟨wa, Fr, G, r, w, x0, ?_⟩
  cases e1 : m r w with
  | bad => simp only [e1, Re.bind] at q
  | ex c f y r9 w9 => simp only [e1, Re.bind] at q; exact q
  | ok d r1 w1 =>
    simp only [e1, Re.bind] at q
    intro v1 H1 G1 s1 x1 h1
    cases e9 : inD neg d r1[i]? with
    | none => simp only [e9] at q
    | some z =>
      simp only [e9] at q
      unfold inD at e9
      split at e9
      · rename_i k kvs e2
        cases e9
        cases h1
        obtain ⟨a, ps, f1, ho⟩ := own_dict x1 e2
        refine ⟨_, f1, a, _, rfl, DGet.k (k := Sum.inl k) ho.at_, ?_⟩
        rw [ho.da.isSome]
        exact q _ H1 G1 s1 x1 (Dq.bl _)
      · cases e9
theorem t_inD (i : Nat) (hu : X.A.units + 64 < cLine) (ha : PE X e (tM X.K X.mg W m)) (hN : X.N[i]? = some x := by rfl) (hv : Vis X.env.scope x := by first | exact Or.inl rfl | exact Or.inr (Or.inl rfl) | exact Or.inr (Or.inr rfl)) (hd : (x == ("__debug__" : Str)) = false := by decide) (hcd : (x == ("__classdict__" : Str)) = false := by decide) : PT X (.Compare e [.In] [.Name x p1] pos) (tT X.K X.mg W (mB (mInD false m i))) :=
  pt_imp (pt_cmp (pc_din (by omega) ha (pe_var hN hv hd hcd))) fun σ H Q h => m_inD (Q := fun x H' => ∃ k, x = .bl k ∧ Q k H') (m_B h)
theorem t_notInD (i : Nat) (hu : X.A.units + 64 < cLine) (ha : PE X e (tM X.K X.mg W m)) (hN : X.N[i]? = some x := by rfl) (hv : Vis X.env.scope x := by first | exact Or.inl rfl | exact Or.inr (Or.inl rfl) | exact Or.inr (Or.inr rfl)) (hd : (x == ("__debug__" : Str)) = false := by decide) (hcd : (x == ("__classdict__" : Str)) = false := by decide) : PT X (.Compare e [.NotIn] [.Name x p1] pos) (tT X.K X.mg W (mB (mInD true m i))) :=
  pt_imp (pt_cmp (pc_dnotin (by omega) ha (pe_var hN hv hd hcd))) fun σ H Q h => m_inD (Q := fun x H' => ∃ k, x = .bl k ∧ Q k H') (m_B h)
end
end Mi
namespace Mi
open PySem PySem.Spec PyProof.Rows L2
abbrev PW : Program := PySem.Challenge.pw_pointingreads_k02_whole_parts_of_rows
def top (i : Nat) : Stmt := PW.main.body.getD i (.Pass ⟨0, 0, 0, 0⟩)

def d_entry_count : He.DefD := ⟨("entry_count", none), "entry_count", "entry_count", defArgs (top 1), defBody (top 1), defScope (top 1), [], []⟩
def d_entry_mark : He.DefD := ⟨("entry_mark", none), "entry_mark", "entry_mark", defArgs (top 2), defBody (top 2), defScope (top 2), [], []⟩
def d_block_part : He.DefD := ⟨("block_part", none), "block_part", "block_part", defArgs (top 3), defBody (top 3), defScope (top 3), [], []⟩
def d_part_of : He.DefD := ⟨("part_of", none), "part_of", "part_of", defArgs (top 4), defBody (top 4), defScope (top 4), [], []⟩
def d_from_the_end : He.DefD := ⟨("from_the_end", none), "from_the_end", "from_the_end", defArgs (top 5), defBody (top 5), defScope (top 5), [], []⟩
def d_unlike_offset : He.DefD := ⟨("unlike_offset", none), "unlike_offset", "unlike_offset", defArgs (top 6), defBody (top 6), defScope (top 6), [], []⟩
def d_first_parting : He.DefD := ⟨("first_parting", none), "first_parting", "first_parting", defArgs (top 7), defBody (top 7), defScope (top 7), [], []⟩
def d_is_whole : He.DefD := ⟨("is_whole", none), "is_whole", "is_whole", defArgs (top 10), defBody (top 10), defScope (top 10), [], []⟩
def d_is_tuple : He.DefD := ⟨("is_tuple", none), "is_tuple", "is_tuple", defArgs (top 11), defBody (top 11), defScope (top 11), [], []⟩
def d_are_whole : He.DefD := ⟨("are_whole", none), "are_whole", "are_whole", defArgs (top 12), defBody (top 12), defScope (top 12), [], []⟩
def d_is_block : He.DefD := ⟨("is_block", none), "is_block", "is_block", defArgs (top 13), defBody (top 13), defScope (top 13), [], []⟩
def d_need_entry : He.DefD := ⟨("need_entry", none), "need_entry", "need_entry", defArgs (top 20), defBody (top 20), defScope (top 20), [], []⟩
def d_need_border : He.DefD := ⟨("need_border", none), "need_border", "need_border", defArgs (top 21), defBody (top 21), defScope (top 21), [], []⟩
def d_need_row : He.DefD := ⟨("need_row", none), "need_row", "need_row", defArgs (top 24), defBody (top 24), defScope (top 24), [], []⟩
def d_length_of : He.DefD := ⟨("length_of", none), "length_of", "length_of", defArgs (top 25), defBody (top 25), defScope (top 25), [], []⟩
def d_mark_at : He.DefD := ⟨("mark_at", none), "mark_at", "mark_at", defArgs (top 26), defBody (top 26), defScope (top 26), [], []⟩
def d_few_blocks : He.DefD := ⟨("few_blocks", none), "few_blocks", "few_blocks", defArgs (top 28), defBody (top 28), defScope (top 28), [], []⟩
def d_cut_out : He.DefD := ⟨("cut_out", none), "cut_out", "cut_out", defArgs (top 29), defBody (top 29), defScope (top 29), [], []⟩
def d_rows_joined : He.DefD := ⟨("rows_joined", none), "rows_joined", "rows_joined", defArgs (top 30), defBody (top 30), defScope (top 30), [], []⟩
def d_turned_about : He.DefD := ⟨("turned_about", none), "turned_about", "turned_about", defArgs (top 31), defBody (top 31), defScope (top 31), [], []⟩
def d_read_alike : He.DefD := ⟨("read_alike", none), "read_alike", "read_alike", defArgs (top 33), defBody (top 33), defScope (top 33), [], []⟩
def d__law_mixed : He.DefD := ⟨("_law_mixed", none), "_law_mixed", "_law_mixed", defArgs (top 35), defBody (top 35), defScope (top 35), [], []⟩
def d__law_folded : He.DefD := ⟨("_law_folded", none), "_law_folded", "_law_folded", defArgs (top 36), defBody (top 36), defScope (top 36), [], []⟩
def d__law_draw : He.DefD := ⟨("_law_draw", none), "_law_draw", "_law_draw", defArgs (top 37), defBody (top 37), defScope (top 37), [], []⟩
def d__law_begun : He.DefD := ⟨("_law_begun", none), "_law_begun", "_law_begun", defArgs (top 38), defBody (top 38), defScope (top 38), [], []⟩
def d__law_like : He.DefD := ⟨("_law_like", none), "_law_like", "_law_like", defArgs (top 39), defBody (top 39), defScope (top 39), [], []⟩
def d__law_of : He.DefD := ⟨("_law_of", none), "_law_of", "_law_of", defArgs (top 40), defBody (top 40), defScope (top 40), [], []⟩
def d__law_tens : He.DefD := ⟨("_law_tens", none), "_law_tens", "_law_tens", defArgs (top 41), defBody (top 41), defScope (top 41), [], []⟩
def d__law_times : He.DefD := ⟨("_law_times", none), "_law_times", "_law_times", defArgs (top 42), defBody (top 42), defScope (top 42), [], []⟩
def d__law_wide_row : He.DefD := ⟨("_law_wide_row", none), "_law_wide_row", "_law_wide_row", defArgs (top 43), defBody (top 43), defScope (top 43), [], []⟩
def d__law_size : He.DefD := ⟨("_law_size", none), "_law_size", "_law_size", defArgs (top 44), defBody (top 44), defScope (top 44), [], []⟩
def d__law_mark : He.DefD := ⟨("_law_mark", none), "_law_mark", "_law_mark", defArgs (top 45), defBody (top 45), defScope (top 45), [], []⟩
def d__law_piece : He.DefD := ⟨("_law_piece", none), "_law_piece", "_law_piece", defArgs (top 46), defBody (top 46), defScope (top 46), [], []⟩
def d__law_below : He.DefD := ⟨("_law_below", none), "_law_below", "_law_below", defArgs (top 47), defBody (top 47), defScope (top 47), [], []⟩
def d__law_borders : He.DefD := ⟨("_law_borders", none), "_law_borders", "_law_borders", defArgs (top 48), defBody (top 48), defScope (top 48), [], []⟩
def d__law_spot : He.DefD := ⟨("_law_spot", none), "_law_spot", "_law_spot", defArgs (top 49), defBody (top 49), defScope (top 49), [], []⟩
def d__law_refused : He.DefD := ⟨("_law_refused", none), "_law_refused", "_law_refused", defArgs (top 50), defBody (top 50), defScope (top 50), [], []⟩
def d__law_limits_right : He.DefD := ⟨("_law_limits_right", none), "_law_limits_right", "_law_limits_right", defArgs (top 51), defBody (top 51), defScope (top 51), [], []⟩
def d_law : He.DefD := ⟨("law", none), "law", "law", defArgs (top 52), defBody (top 52), defScope (top 52), [], []⟩
def clsB : Stmt → List Stmt
  | .ClassDef (body := b) .. => b
  | _ => []
def ini (i j : Nat) : Stmt := (clsB (top i)).getD j (.Pass ⟨0, 0, 0, 0⟩)
def i_BadRow : He.DefD := ⟨("BadRow", some "__init__"), "__init__", "BadRow.__init__", defArgs (ini 16 0), defBody (ini 16 0), defScope (ini 16 0), [], []⟩
def i_BadPlace : He.DefD := ⟨("BadPlace", some "__init__"), "__init__", "BadPlace.__init__", defArgs (ini 17 0), defBody (ini 17 0), defScope (ini 17 0), [], []⟩
def i_TooGreat : He.DefD := ⟨("TooGreat", some "__init__"), "__init__", "TooGreat.__init__", defArgs (ini 18 0), defBody (ini 18 0), defScope (ini 18 0), [], []⟩
def errs1 : List (Str × List Str) := [("BadRow", ["place"]), ("BadPlace", ["place"]), ("TooGreat", ["most"])]
def exs (K : PySem.W.Frag) : Bool := (errs1.all fun cf => errB K cf) && exmB K "BadPlace" ["BadRow", "TooGreat"] && exmB K "TooGreat" ["BadRow", "BadPlace"]
def fns : List He.DefD := [d_entry_count, d_entry_mark, d_block_part, d_part_of, d_from_the_end, d_unlike_offset, d_first_parting, d_is_whole, d_is_tuple, d_are_whole, d_is_block, d_need_entry, d_need_border, d_need_row, d_length_of, d_mark_at, d_few_blocks, d_cut_out, d_rows_joined, d_turned_about, d_read_alike, d__law_mixed, d__law_folded, d__law_draw, d__law_begun, d__law_like, d__law_of, d__law_tens, d__law_times, d__law_wide_row, d__law_size, d__law_mark, d__law_piece, d__law_below, d__law_borders, d__law_spot, d__law_refused, d__law_limits_right, d_law, i_BadRow, i_BadPlace, i_TooGreat]
def fas : List He.Fa := [.glo "entry_count", .glo "entry_mark", .glo "block_part", .glo "part_of", .glo "from_the_end", .glo "unlike_offset", .glo "first_parting", .glo "is_whole", .glo "is_tuple", .glo "are_whole", .glo "is_block", .glo "need_entry", .glo "need_border", .glo "need_row", .glo "length_of", .glo "mark_at", .glo "few_blocks", .glo "cut_out", .glo "rows_joined", .glo "turned_about", .glo "read_alike", .glo "_law_mixed", .glo "_law_folded", .glo "_law_draw", .glo "_law_begun", .glo "_law_like", .glo "_law_of", .glo "_law_tens", .glo "_law_times", .glo "_law_wide_row", .glo "_law_size", .glo "_law_mark", .glo "_law_piece", .glo "_law_below", .glo "_law_borders", .glo "_law_spot", .glo "_law_refused", .glo "_law_limits_right", .glo "law", .free "ValueError", .free "all", .free "divmod", .free "enumerate", .free "int", .free "len", .free "max", .free "min", .free "range", .free "repr", .free "sorted", .free "sum", .free "tuple", .free "type", .int "MOST_TIMES" (1000000000000000000000000000000), .int "MOST_BLOCKS" (60), .glo "ReadError", .glo "BadRow", .glo "BadPlace", .glo "TooGreat"]
abbrev Rw : PySem.W.OpenRow := PySem.W.OpenLaw.row PySem.Challenge.rw_pointingreads_k02_whole_parts_of_rows
abbrev hks : PySem.W.Hook := hookE 5 fas fns exs
def obs (s : PySem.W.SharedT) : He.AlD × Bool := askE 5 fas fns exs (HandSHeadRun.getT s)
theorem obs_eq (s : PySem.W.SharedT) : obs s = hks.obs s.abs := askE_eq (HandSHeadRun.getT_eq s)
def loose : List PySem.Str := (["entry_count", "entry_mark", "block_part", "part_of", "from_the_end", "unlike_offset", "first_parting", "is_whole", "is_tuple", "are_whole", "is_block", "need_entry", "need_border", "need_row", "length_of", "mark_at", "few_blocks", "cut_out", "rows_joined", "turned_about", "read_alike", "_law_mixed", "_law_folded", "_law_draw", "_law_begun", "_law_like", "_law_of", "_law_tens", "_law_times", "_law_wide_row"] : List PySem.Str) ++ (["_law_size", "_law_mark", "_law_piece", "_law_below", "_law_borders", "_law_spot", "_law_refused", "_law_limits_right", "ReadError", "BadRow", "BadPlace", "TooGreat", "MOST_TIMES", "MOST_BLOCKS"] : List PySem.Str)
theorem run_eq (w : World) : HandSHeadRun.RunEq Rw (PySem.W.view Rw.prog [52]) hks obs 3000 loose w := by
  intro os
  kernel_rfl
end Mi
namespace Mi
open PySem PySem.Spec PyProof.Rows L2
abbrev fSub : D → D → Option D := fI fun i j => .int (i - j)
theorem boot_int : bootBuiltins "int" = some (.type "int") := by decide +kernel
theorem boot_tuple : bootBuiltins "tuple" = some (.type "tuple") := by decide +kernel
theorem boot_bool : bootBuiltins "bool" = some (.type "bool") := by decide +kernel
theorem boot_list : bootBuiltins "list" = some (.type "list") := by decide +kernel
theorem meta_int : metaB "int" := meta_ty (.py (.int 0))
theorem meta_tuple : metaB "tuple" := meta_ty (.py (.tuple []))
theorem meta_bool : metaB "bool" := meta_ty (.py (.bool true))
theorem meta_list : metaB "list" := meta_ty (.py (.list []))
theorem isi_int : ∀ S ∈ ["NoneType", "bool", "int", "str", "list", "tuple", "dict"], kitB S "int" = some (decide (S = "int") || (decide (S = "bool") && decide ("int" = "int"))) := by decide +kernel
theorem isi_bool : ∀ S ∈ ["NoneType", "bool", "int", "str", "list", "tuple", "dict"], kitB S "bool" = some (decide (S = "bool") || (decide (S = "bool") && decide ("bool" = "int"))) := by decide +kernel
theorem isi_tuple : ∀ S ∈ ["NoneType", "bool", "int", "str", "list", "tuple", "dict"], kitB S "tuple" = some (decide (S = "tuple") || (decide (S = "bool") && decide ("tuple" = "int"))) := by decide +kernel
theorem isi_list : ∀ S ∈ ["NoneType", "bool", "int", "str", "list", "tuple", "dict"], kitB S "list" = some (decide (S = "list") || (decide (S = "bool") && decide ("list" = "int"))) := by decide +kernel
theorem isi_str : ∀ S ∈ ["NoneType", "bool", "int", "str", "list", "tuple", "dict"], kitB S "str" = some (decide (S = "str") || (decide (S = "bool") && decide ("str" = "int"))) := by decide +kernel
theorem boot_str : bootBuiltins "str" = some (.type "str") := by decide +kernel
abbrev f__law_draw : List D → Wd → Fl := drawF
def oth_BadPlace : List Str := ["BadRow", "TooGreat"]
def oth_TooGreat : List Str := ["BadRow", "BadPlace"]
structure G0 (mg : Str → Option Value) : Prop where
  all : mg "all" = none
  divmod : mg "divmod" = none
  enumerate : mg "enumerate" = none
  int : mg "int" = none
  len : mg "len" = none
  max : mg "max" = none
  min : mg "min" = none
  range : mg "range" = none
  repr : mg "repr" = none
  sorted : mg "sorted" = none
  sum : mg "sum" = none
  tuple : mg "tuple" = none
  type : mg "type" = none
  MOST_BLOCKS : ∃ t, mg "MOST_BLOCKS" = some (.int (60) t)
  MOST_TIMES : ∃ t, mg "MOST_TIMES" = some (.int (1000000000000000000000000000000) t)
def b_entry_count : S := sRet (mFn fSum (mCons (mFz (mLc (asgT [1, 2]) (mSeq (mVar 0)) (mYes) (mOp fMul (mFn fLen (mCons (mVar 1) (mNil))) (mVar 2)) [1, 2])) (mNil)))
def f_entry_count : List D → Wd → Fl := fnM 3 b_entry_count
def b_entry_mark_L1 : S := sSeq (sAsg (asgN 4) (mOp fMul (mFn fLen (mCons (mVar 2) (mNil))) (mVar 3))) (sSeq (sIf (mB (mOp fLt (mVar 1) (mVar 4))) (sRet (mOp fIx (mVar 2) (mOp fMod (mVar 1) (mFn fLen (mCons (mVar 2) (mNil)))))) (sNil)) (sAug 1 (fun i j => i - j) (mVar 4)))
def b_entry_mark : S := sSeq (sFor (asgT [2, 3]) (mSeq (mVar 0)) (b_entry_mark_L1)) (sRet (mC (.py .none)))
def f_entry_mark : List D → Wd → Fl := fnM 5 b_entry_mark
def b_block_part : S := sSeq (sAsg (asgN 3) (mFn fLen (mCons (mVar 0) (mNil)))) (sSeq (sAsg (asgT [5, 6]) (mFn fDivmod (mCons (mVar 1) (mCons (mVar 3) (mNil))))) (sSeq (sAsg (asgT [7, 8]) (mFn fDivmod (mCons (mVar 2) (mCons (mVar 3) (mNil))))) (sSeq (sIf (mB (mOp fEq (mVar 5) (mOp fDiv (mOp fSub (mVar 2) (mC (.py (.int 1)))) (mVar 3)))) (sRet (mFz (mLst (mCons (mTup (mCons (mSl (mVar 0) (mPart (some (mVar 6))) (mPart (some (mOp fSub (mOp fAdd (mVar 6) (mVar 2)) (mVar 1))))) (mCons (mC (.py (.int 1))) (mNil)))) (mNil))))) (sNil)) (sSeq (sOw 4 (mLst (mNil))) (sSeq (sIf (mB (mOp fGt (mVar 6) (mC (.py (.int 0))))) (sSeq (sApp 4 (mTup (mCons (mSl (mVar 0) (mPart (some (mVar 6))) (mPart none)) (mCons (mC (.py (.int 1))) (mNil))))) (sAug 5 (fun i j => i + j) (mC (.py (.int 1))))) (sNil)) (sSeq (sIf (mB (mOp fGt (mVar 7) (mVar 5))) (sApp 4 (mTup (mCons (mVar 0) (mCons (mOp fSub (mVar 7) (mVar 5)) (mNil))))) (sNil)) (sSeq (sIf (mB (mOp fGt (mVar 8) (mC (.py (.int 0))))) (sApp 4 (mTup (mCons (mSl (mVar 0) (mPart none) (mPart (some (mVar 8)))) (mCons (mC (.py (.int 1))) (mNil))))) (sNil)) (sRet (mVar 4)))))))))
def f_block_part : List D → Wd → Fl := fnM 9 b_block_part
def b_part_of_L1 : S := sSeq (sAsg (asgN 7) (mOp fMul (mFn fLen (mCons (mVar 5) (mNil))) (mVar 6))) (sSeq (sAsg (asgN 8) (mFn fMax2 (mCons (mOp fSub (mVar 1) (mVar 4)) (mCons (mC (.py (.int 0))) (mNil))))) (sSeq (sAsg (asgN 9) (mFn fMin2 (mCons (mOp fSub (mVar 2) (mVar 4)) (mCons (mVar 7) (mNil))))) (sSeq (sIf (mB (mOp fLt (mVar 8) (mVar 9))) (sExt 3 (mCall f_block_part (mCons (mVar 5) (mCons (mVar 8) (mCons (mVar 9) (mNil)))))) (sNil)) (sAug 4 (fun i j => i + j) (mVar 7)))))
def b_part_of : S := sSeq (sOw 3 (mLst (mNil))) (sSeq (sAsg (asgN 4) (mC (.py (.int 0)))) (sSeq (sFor (asgT [5, 6]) (mSeq (mVar 0)) (b_part_of_L1)) (sRet (mFn fTup (mCons (mVar 3) (mNil))))))
def f_part_of : List D → Wd → Fl := fnM 10 b_part_of
def b_from_the_end : S := sRet (mFn fTup (mCons (mFz (mLc (asgT [1, 2]) (mSeq (mUn fBack (mVar 0))) (mYes) (mTup (mCons (mUn fBack (mVar 1)) (mCons (mVar 2) (mNil)))) [1, 2])) (mNil)))
def f_from_the_end : List D → Wd → Fl := fnM 3 b_from_the_end
def b_unlike_offset_L1 : S := sIf (mB (mOp fNe (mOp fIx (mVar 0) (mOp fMod (mOp fAdd (mVar 1) (mVar 5)) (mFn fLen (mCons (mVar 0) (mNil))))) (mOp fIx (mVar 2) (mOp fMod (mOp fAdd (mVar 3) (mVar 5)) (mFn fLen (mCons (mVar 2) (mNil))))))) (sRet (mVar 5)) (sNil)
def b_unlike_offset : S := sSeq (sFor (asgN 5) (mRng1 (mCons (mFn fMin2 (mCons (mVar 4) (mCons (mOp fAdd (mFn fLen (mCons (mVar 0) (mNil))) (mFn fLen (mCons (mVar 2) (mNil)))) (mNil)))) (mNil))) (b_unlike_offset_L1)) (sRet (mC (.py .none)))
def f_unlike_offset : List D → Wd → Fl := fnM 6 b_unlike_offset
def b_first_parting_L1 : S := sSeq (sAsg (asgT [11, 12]) (mOp fIx (mVar 0) (mVar 3))) (sSeq (sAsg (asgT [13, 14]) (mOp fIx (mVar 1) (mVar 4))) (sSeq (sAsg (asgN 7) (mOp fMul (mFn fLen (mCons (mVar 11) (mNil))) (mVar 12))) (sSeq (sAsg (asgN 8) (mOp fMul (mFn fLen (mCons (mVar 13) (mNil))) (mVar 14))) (sSeq (sAsg (asgN 9) (mFn fMin2 (mCons (mOp fSub (mVar 7) (mVar 5)) (mCons (mOp fSub (mVar 8) (mVar 6)) (mNil))))) (sSeq (sAsg (asgN 10) (mCall f_unlike_offset (mCons (mVar 11) (mCons (mVar 5) (mCons (mVar 13) (mCons (mVar 6) (mCons (mVar 9) (mNil)))))))) (sSeq (sIf (mB (mOp fNotN (mVar 10) (mC (.py .none)))) (sRet (mOp fAdd (mVar 2) (mVar 10))) (sNil)) (sSeq (sAug 2 (fun i j => i + j) (mVar 9)) (sSeq (sAug 5 (fun i j => i + j) (mVar 9)) (sSeq (sAug 6 (fun i j => i + j) (mVar 9)) (sSeq (sIf (mB (mOp fEq (mVar 5) (mVar 7))) (sSeq (sAug 3 (fun i j => i + j) (mC (.py (.int 1)))) (sAsg (asgN 5) (mC (.py (.int 0))))) (sNil)) (sIf (mB (mOp fEq (mVar 6) (mVar 8))) (sSeq (sAug 4 (fun i j => i + j) (mC (.py (.int 1)))) (sAsg (asgN 6) (mC (.py (.int 0))))) (sNil))))))))))))
def b_first_parting : S := sSeq (sAsg (asgN 2) (mC (.py (.int 0)))) (sSeq (sAsg2 (asgN 3) (asgN 4) (mC (.py (.int 0)))) (sSeq (sAsg2 (asgN 5) (asgN 6) (mC (.py (.int 0)))) (sSeq (whL (mAnd (mB (mOp fLt (mVar 3) (mFn fLen (mCons (mVar 0) (mNil))))) (mB (mOp fLt (mVar 4) (mFn fLen (mCons (mVar 1) (mNil)))))) (b_first_parting_L1) 1000000) (sSeq (sIf (mAnd (mB (mOp fEq (mVar 3) (mFn fLen (mCons (mVar 0) (mNil))))) (mB (mOp fEq (mVar 4) (mFn fLen (mCons (mVar 1) (mNil)))))) (sRet (mC (.py .none))) (sNil)) (sRet (mVar 2))))))
def f_first_parting : List D → Wd → Fl := fnM 15 b_first_parting
def b_is_whole : S := sRet (mAndV (mTyIs "int" (mVar 0)) (mCh fLe fLe (mVar 1) (mVar 0) (mVar 2)))
def f_is_whole : List D → Wd → Fl := fnM 3 b_is_whole
def b_is_tuple : S := sRet (mAndV (mTyIs "tuple" (mVar 0)) (mCh fLe fLe (mVar 1) (mFn fLen (mCons (mVar 0) (mNil))) (mVar 2)))
def f_is_tuple : List D → Wd → Fl := fnM 3 b_is_tuple
def b_are_whole : S := sRet (mFn fAll (mCons (mFz (mLc (asgN 3) (mSeq (mVar 0)) (mYes) (mAndV (mTyIs "int" (mVar 3)) (mCh fLe fLe (mVar 1) (mVar 3) (mVar 2))) [3])) (mNil)))
def f_are_whole : List D → Wd → Fl := fnM 4 b_are_whole
def b_is_block : S := sSeq (sIf (mNot (mB (mCall f_is_tuple (mCons (mVar 0) (mCons (mC (.py (.int 2))) (mCons (mC (.py (.int 2))) (mNil))))))) (sRet (mC (.py (.bool false)))) (sNil)) (sSeq (sAsg (asgT [1, 2]) (mVar 0)) (sRet (mAndV (mCall f_is_tuple (mCons (mVar 1) (mCons (mC (.py (.int 1))) (mCons (mC (.py (.int 60))) (mNil))))) (mAndV (mCall f_are_whole (mCons (mVar 1) (mCons (mC (.py (.int 0))) (mCons (mC (.py (.int 3))) (mNil))))) (mCall f_is_whole (mCons (mVar 2) (mCons (mC (.py (.int 1))) (mCons (mC (.py (.int (1000000000000000000000000000000)))) (mNil)))))))))
def f_is_block : List D → Wd → Fl := fnM 3 b_is_block
def b_need_entry : S := sIf (mNot (mB (mCall f_is_whole (mCons (mVar 1) (mCons (mC (.py (.int 0))) (mCons (mOp fSub (mCall f_entry_count (mCons (mVar 0) (mNil))) (mC (.py (.int 1)))) (mNil))))))) (sRaise "BadPlace" ["place"] (mVar 1)) (sNil)
def f_need_entry : List D → Wd → Fl := fnM 2 b_need_entry
def b_need_border : S := sIf (mNot (mB (mCall f_is_whole (mCons (mVar 1) (mCons (mC (.py (.int 0))) (mCons (mCall f_entry_count (mCons (mVar 0) (mNil))) (mNil))))))) (sRaise "BadPlace" ["place"] (mVar 1)) (sNil)
def f_need_border : List D → Wd → Fl := fnM 2 b_need_border
def b_need_row_L1 : S := sIf (mNot (mB (mCall f_is_block (mCons (mVar 2) (mNil))))) (sRaise "BadRow" ["place"] (mVar 1)) (sNil)
def b_need_row : S := sSeq (sIf (mNot (mB (mCall f_is_tuple (mCons (mVar 0) (mCons (mC (.py (.int 0))) (mCons (mC (.py (.int (60)))) (mNil))))))) (sRaise "BadRow" ["place"] (mC (.py .none))) (sNil)) (sSeq (sFor (asgT [1, 2]) (mEn (mCons (mVar 0) (mNil))) (b_need_row_L1)) (sRet (mVar 0)))
def f_need_row : List D → Wd → Fl := fnM 3 b_need_row
def b_length_of : S := sSeq (sDrop (mCall f_need_row (mCons (mVar 0) (mNil)))) (sRet (mCall f_entry_count (mCons (mVar 0) (mNil))))
def f_length_of : List D → Wd → Fl := fnM 1 b_length_of
def b_mark_at : S := sSeq (sDrop (mCall f_need_row (mCons (mVar 0) (mNil)))) (sSeq (sDrop (mCall f_need_entry (mCons (mVar 0) (mCons (mVar 1) (mNil))))) (sRet (mCall f_entry_mark (mCons (mVar 0) (mCons (mVar 1) (mNil))))))
def f_mark_at : List D → Wd → Fl := fnM 2 b_mark_at
def b_few_blocks : S := sSeq (sIf (mB (mOp fGt (mFn fLen (mCons (mVar 0) (mNil))) (mC (.py (.int (60)))))) (sRaise "TooGreat" ["most"] (mC (.py (.int (60))))) (sNil)) (sRet (mVar 0))
def f_few_blocks : List D → Wd → Fl := fnM 1 b_few_blocks
def b_cut_out : S := sSeq (sDrop (mCall f_need_row (mCons (mVar 0) (mNil)))) (sSeq (sDrop (mCall f_need_border (mCons (mVar 0) (mCons (mVar 1) (mNil))))) (sSeq (sIf (mNot (mB (mCall f_is_whole (mCons (mVar 2) (mCons (mVar 1) (mCons (mCall f_entry_count (mCons (mVar 0) (mNil))) (mNil))))))) (sRaise "BadPlace" ["place"] (mVar 2)) (sNil)) (sRet (mCall f_few_blocks (mCons (mCall f_part_of (mCons (mVar 0) (mCons (mVar 1) (mCons (mVar 2) (mNil))))) (mNil))))))
def f_cut_out : List D → Wd → Fl := fnM 3 b_cut_out
def b_rows_joined : S := sSeq (sDrop (mCall f_need_row (mCons (mVar 0) (mNil)))) (sSeq (sDrop (mCall f_need_row (mCons (mVar 1) (mNil)))) (sRet (mCall f_few_blocks (mCons (mOp fAdd (mVar 0) (mVar 1)) (mNil)))))
def f_rows_joined : List D → Wd → Fl := fnM 2 b_rows_joined
def b_turned_about : S := sSeq (sDrop (mCall f_need_row (mCons (mVar 0) (mNil)))) (sRet (mCall f_from_the_end (mCons (mVar 0) (mNil))))
def f_turned_about : List D → Wd → Fl := fnM 1 b_turned_about
def b_read_alike : S := sSeq (sDrop (mCall f_need_row (mCons (mVar 0) (mNil)))) (sSeq (sDrop (mCall f_need_row (mCons (mVar 1) (mNil)))) (sRet (mOp fIsN (mCall f_first_parting (mCons (mVar 0) (mCons (mVar 1) (mNil)))) (mC (.py .none)))))
def f_read_alike : List D → Wd → Fl := fnM 2 b_read_alike
def b__law_mixed : S := sSeq (sAsg (asgN 2) (mOp fAdd (mOp fAdd (mOp fMod (mFn fInt (mCons (mOp fMul (mOp fMul (mVar 0) (mOp fAdd (mC (.py (.int 1))) (mOp fMul (mC (.py (.int 2))) (mVar 1)))) (mC (.py (.int 48271)))) (mNil))) (mC (.py (.int 2147483647)))) (mOp fMul (mOp fMul (mC (.py (.int 7919))) (mVar 1)) (mVar 1))) (mOp fMul (mC (.py (.int 104729))) (mVar 1)))) (sRet (mOp fDiv (mOp fMod (mFn fInt (mCons (mOp fMul (mVar 2) (mC (.py (.int 69621)))) (mNil))) (mC (.py (.int 2147483629)))) (mC (.py (.int 7)))))
def f__law_mixed : List D → Wd → Fl := fnM 3 b__law_mixed
def b__law_like : S := sRet (mOp fEq (mFn fRepr (mCons (mVar 0) (mNil))) (mFn fRepr (mCons (mVar 1) (mNil))))
def f__law_like : List D → Wd → Fl := fnM 2 b__law_like
def b__law_of : S := sRet (mOp fIx (mVar 1) (mCall f__law_draw (mCons (mVar 0) (mCons (mFn fLen (mCons (mVar 1) (mNil))) (mNil)))))
def f__law_of : List D → Wd → Fl := fnM 2 b__law_of
def b__law_tens_L1 : S := sAsg (asgN 1) (mOp fMul (mVar 1) (mC (.py (.int 10))))
def b__law_tens : S := sSeq (sAsg (asgN 1) (mC (.py (.int 1)))) (sSeq (sFor (asgN 2) (mRng1 (mCons (mVar 0) (mNil))) (b__law_tens_L1)) (sRet (mVar 1)))
def f__law_tens : List D → Wd → Fl := fnM 3 b__law_tens
def b__law_times_L1 : S := sAsg (asgN 1) (mOp fAdd (mOp fMul (mVar 1) (mC (.py (.int 100000000)))) (mCall f__law_draw (mCons (mVar 0) (mCons (mC (.py (.int 100000000))) (mNil)))))
def b__law_times : S := sSeq (sIf (mB (mOp fEq (mCall f__law_draw (mCons (mVar 0) (mCons (mC (.py (.int 2))) (mNil)))) (mC (.py (.int 0))))) (sRet (mOp fAdd (mC (.py (.int 1))) (mCall f__law_draw (mCons (mVar 0) (mCons (mC (.py (.int 4))) (mNil)))))) (sNil)) (sSeq (sAsg (asgN 1) (mC (.py (.int 0)))) (sSeq (sFor (asgN 2) (mRng1 (mCons (mC (.py (.int 4))) (mNil))) (b__law_times_L1)) (sRet (mOp fAdd (mC (.py (.int 1))) (mOp fMod (mFn fInt (mCons (mVar 1) (mNil))) (mCall f__law_tens (mCons (mOp fAdd (mC (.py (.int 1))) (mCall f__law_draw (mCons (mVar 0) (mCons (mC (.py (.int 30))) (mNil))))) (mNil))))))))
def f__law_times : List D → Wd → Fl := fnM 3 b__law_times
def b__law_wide_row_L1 : S := sSeq (sAsg (asgN 5) (mOp fAdd (mC (.py (.int 1))) (mCall f__law_draw (mCons (mVar 0) (mCons (mIf (mB (mOp fEq (mCall f__law_draw (mCons (mVar 0) (mCons (mC (.py (.int 6))) (mNil)))) (mC (.py (.int 0))))) (mC (.py (.int 40))) (mC (.py (.int 6)))) (mNil)))))) (sApp 3 (mTup (mCons (mFn fTup (mCons (mFz (mLc (asgN 6) (mRng1 (mCons (mVar 5) (mNil))) (mYes) (mCall f__law_draw (mCons (mVar 0) (mCons (mVar 1) (mNil)))) [6])) (mNil))) (mCons (mCall f__law_times (mCons (mVar 0) (mNil))) (mNil)))))
def b__law_wide_row : S := sSeq (sOw 3 (mLst (mNil))) (sSeq (sFor (asgN 4) (mRng1 (mCons (mOp fAdd (mC (.py (.int 1))) (mCall f__law_draw (mCons (mVar 0) (mCons (mVar 2) (mNil))))) (mNil))) (b__law_wide_row_L1)) (sRet (mFn fTup (mCons (mVar 3) (mNil)))))
def f__law_wide_row : List D → Wd → Fl := fnM 7 b__law_wide_row
def b__law_size : S := sRet (mFn fSum (mCons (mFz (mLc (asgT [1, 2]) (mSeq (mVar 0)) (mYes) (mOp fMul (mFn fLen (mCons (mVar 1) (mNil))) (mVar 2)) [1, 2])) (mNil)))
def f__law_size : List D → Wd → Fl := fnM 3 b__law_size
def b__law_mark_L1 : S := sSeq (sIf (mB (mOp fLt (mVar 1) (mOp fMul (mFn fLen (mCons (mVar 2) (mNil))) (mVar 3)))) (sRet (mOp fIx (mVar 2) (mOp fMod (mFn fInt (mCons (mVar 1) (mNil))) (mFn fLen (mCons (mVar 2) (mNil)))))) (sNil)) (sAsg (asgN 1) (mOp fSub (mVar 1) (mOp fMul (mFn fLen (mCons (mVar 2) (mNil))) (mVar 3))))
def b__law_mark : S := sSeq (sFor (asgT [2, 3]) (mSeq (mVar 0)) (b__law_mark_L1)) (sRet (mC (.py .none)))
def f__law_mark : List D → Wd → Fl := fnM 4 b__law_mark
def b__law_piece_L1 : S := sSeq (sAsg (asgN 7) (mFn fLen (mCons (mVar 5) (mNil)))) (sSeq (sPar 8 9 (mOp fSub (mFn fMax2 (mCons (mVar 1) (mCons (mVar 4) (mNil)))) (mVar 4)) (mOp fSub (mFn fMin2 (mCons (mVar 2) (mCons (mOp fAdd (mVar 4) (mOp fMul (mVar 7) (mVar 6))) (mNil)))) (mVar 4))) (sSeq (sAsg (asgN 4) (mOp fAdd (mVar 4) (mOp fMul (mVar 7) (mVar 6)))) (sSeq (sPar 10 11 (mOp fMod (mFn fInt (mCons (mVar 8) (mNil))) (mVar 7)) (mOp fMod (mFn fInt (mCons (mVar 9) (mNil))) (mVar 7))) (sIf (mAnd (mB (mOp fLt (mVar 8) (mVar 9))) (mB (mOp fEq (mOp fDiv (mVar 8) (mVar 7)) (mOp fDiv (mOp fSub (mVar 9) (mC (.py (.int 1)))) (mVar 7))))) (sApp 3 (mTup (mCons (mSl (mVar 5) (mPart (some (mVar 10))) (mPart (some (mOp fSub (mOp fAdd (mVar 10) (mVar 9)) (mVar 8))))) (mCons (mC (.py (.int 1))) (mNil))))) (sIf (mB (mOp fLt (mVar 8) (mVar 9))) (sSeq (sAsg (asgN 12) (mFz (mLst (mCons (mTup (mCons (mSl (mVar 5) (mPart (some (mVar 10))) (mPart none)) (mCons (mFn fInt (mCons (mOp fGt (mVar 10) (mC (.py (.int 0)))) (mNil))) (mNil)))) (mCons (mTup (mCons (mVar 5) (mCons (mOp fSub (mOp fDiv (mVar 9) (mVar 7)) (mOp fDiv (mOp fSub (mOp fAdd (mVar 8) (mVar 7)) (mC (.py (.int 1)))) (mVar 7))) (mNil)))) (mNil)))))) (sOw 3 (mCatL (mVar 3) (mFz (mLc (asgN 13) (mSeq (mOp fAdd (mVar 12) (mFz (mLst (mCons (mTup (mCons (mSl (mVar 5) (mPart none) (mPart (some (mVar 11)))) (mCons (mFn fInt (mCons (mOp fGt (mVar 11) (mC (.py (.int 0)))) (mNil))) (mNil)))) (mNil)))))) (mB (mOp fGt (mOp fIx (mVar 13) (mC (.py (.int 1)))) (mC (.py (.int 0))))) (mVar 13) [13]))))) (sNil))))))
def b__law_piece : S := sSeq (sParO 3 4 (mLst (mNil)) (mC (.py (.int 0)))) (sSeq (sFor (asgT [5, 6]) (mSeq (mVar 0)) (b__law_piece_L1)) (sRet (mFn fTup (mCons (mVar 3) (mNil)))))
def f__law_piece : List D → Wd → Fl := fnM 14 b__law_piece
def b__law_below_L1 : S := sAsg (asgN 2) (mOp fAdd (mOp fMul (mVar 2) (mC (.py (.int 1000000000)))) (mCall f__law_draw (mCons (mVar 0) (mCons (mC (.py (.int 1000000000))) (mNil)))))
def b__law_below : S := sSeq (sAsg (asgN 2) (mC (.py (.int 0)))) (sSeq (sFor (asgN 3) (mRng1 (mCons (mC (.py (.int 5))) (mNil))) (b__law_below_L1)) (sRet (mOp fMod (mFn fInt (mCons (mVar 2) (mNil))) (mVar 1))))
def f__law_below : List D → Wd → Fl := fnM 4 b__law_below
def b__law_borders_L1 : S := sApp 1 (mOp fAdd (mIxO 1 (mUn fNeg (mC (.py (.int 1))))) (mOp fMul (mFn fLen (mCons (mVar 2) (mNil))) (mVar 3)))
def b__law_borders : S := sSeq (sOw 1 (mLst (mCons (mC (.py (.int 0))) (mNil)))) (sSeq (sFor (asgT [2, 3]) (mSeq (mVar 0)) (b__law_borders_L1)) (sRet (mVar 1)))
def f__law_borders : List D → Wd → Fl := fnM 4 b__law_borders
def b__law_spot : S := sSeq (sAsg (asgN 2) (mCall f__law_size (mCons (mVar 1) (mNil)))) (sSeq (sIf (mB (mOp fEq (mCall f__law_draw (mCons (mVar 0) (mCons (mC (.py (.int 3))) (mNil)))) (mC (.py (.int 0))))) (sRet (mCall f__law_below (mCons (mVar 0) (mCons (mVar 2) (mNil))))) (sNil)) (sRet (mFn fMin2 (mCons (mFn fMax2 (mCons (mOp fSub (mOp fAdd (mCall f__law_of (mCons (mVar 0) (mCons (mCall f__law_borders (mCons (mVar 1) (mNil))) (mNil)))) (mCall f__law_draw (mCons (mVar 0) (mCons (mC (.py (.int 15))) (mNil))))) (mC (.py (.int 7)))) (mCons (mC (.py (.int 0))) (mNil)))) (mCons (mOp fSub (mVar 2) (mC (.py (.int 1)))) (mNil))))))
def f__law_spot : List D → Wd → Fl := fnM 3 b__law_spot
def errs__law_refused : List Str := ["BadRow"]
def b__law_refused : S := sSeq (sAsg (asgN 4) (mTup (mNil))) (sSeq (sTryN errs__law_refused 5 4 [("BadPlace", uTup (uCons (uC (.str "place")) (uCons (uRepr (uFld "place")) (uNil)))), ("TooGreat", uTup (uCons (uC (.str "great")) (uCons (uFld "most") (uNil))))] (sIf (mB (mVar 0)) (sDrop (mCall f_cut_out (mCons (mVar 1) (mCons (mVar 2) (mCons (mVar 3) (mNil)))))) (sDrop (mCall f_rows_joined (mCons (mVar 1) (mCons (mVar 2) (mNil))))))) (sRet (mVar 4)))
def f__law_refused : List D → Wd → Fl := fnM 6 b__law_refused
def b__law_limits_right : S := sSeq (sAsg (asgN 3) (mOp fMul (mTup (mCons (mTup (mCons (mTup (mCons (mC (.py (.int 0))) (mCons (mC (.py (.int 1))) (mNil)))) (mCons (mC (.py (.int 2))) (mNil)))) (mNil))) (mC (.py (.int 60))))) (sSeq (sOw 4 (mLst (mCons (mTup (mCons (mC (.py (.bool true))) (mCons (mVar 3) (mCons (mC (.py (.int 0))) (mCons (mC (.py (.int 240))) (mCons (mTup (mNil)) (mNil))))))) (mCons (mTup (mCons (mC (.py (.bool true))) (mCons (mVar 3) (mCons (mC (.py (.int 1))) (mCons (mC (.py (.int 240))) (mCons (mTup (mCons (mC (.py (.str "great"))) (mCons (mC (.py (.int 60))) (mNil)))) (mNil))))))) (mCons (mTup (mCons (mC (.py (.bool true))) (mCons (mVar 3) (mCons (mC (.py (.int 2))) (mCons (mC (.py (.int 240))) (mCons (mTup (mNil)) (mNil))))))) (mCons (mTup (mCons (mC (.py (.bool true))) (mCons (mVar 3) (mCons (mC (.py (.int 3))) (mCons (mC (.py (.int 238))) (mCons (mTup (mNil)) (mNil))))))) (mNil))))))) (sSeq (sApp 4 (mTup (mCons (mC (.py (.bool false))) (mCons (mSl (mVar 3) (mPart none) (mPart (some (mC (.py (.int 30)))))) (mCons (mSl (mVar 3) (mPart none) (mPart (some (mC (.py (.int 30)))))) (mCons (mC (.py .none)) (mCons (mTup (mNil)) (mNil)))))))) (sSeq (sApp 4 (mTup (mCons (mC (.py (.bool false))) (mCons (mSl (mVar 3) (mPart none) (mPart (some (mC (.py (.int 30)))))) (mCons (mSl (mVar 3) (mPart none) (mPart (some (mC (.py (.int 31)))))) (mCons (mC (.py .none)) (mCons (mTup (mCons (mC (.py (.str "great"))) (mCons (mC (.py (.int 60))) (mNil)))) (mNil)))))))) (sSeq (sAsg (asgN 5) (mCall f__law_of (mCons (mVar 0) (mCons (mFz (mLst (mCons (mUn fNeg (mC (.py (.int 1)))) (mCons (mOp fAdd (mVar 2) (mC (.py (.int 1)))) (mCons (mC (.py (.bool true))) (mCons (mC (.py .none)) (mCons (mC (.py (.str "0"))) (mCons (mTup (mCons (mC (.py (.int 0))) (mNil))) (mNil))))))))) (mNil))))) (sSeq (sOw 4 (mCatL (mVar 4) (mFz (mLst (mCons (mTup (mCons (mC (.py (.bool true))) (mCons (mVar 1) (mCons (mVar 5) (mCons (mC (.py (.int 0))) (mCons (mTup (mCons (mC (.py (.str "place"))) (mCons (mFn fRepr (mCons (mVar 5) (mNil))) (mNil)))) (mNil))))))) (mCons (mTup (mCons (mC (.py (.bool true))) (mCons (mVar 1) (mCons (mVar 5) (mCons (mC (.py .none)) (mCons (mTup (mCons (mC (.py (.str "place"))) (mCons (mFn fRepr (mCons (mVar 5) (mNil))) (mNil)))) (mNil))))))) (mNil))))))) (sSeq (sOw 4 (mCatL (mVar 4) (mFz (mLst (mCons (mTup (mCons (mC (.py (.bool true))) (mCons (mVar 1) (mCons (mC (.py (.int 0))) (mCons (mVar 5) (mCons (mTup (mCons (mC (.py (.str "place"))) (mCons (mFn fRepr (mCons (mVar 5) (mNil))) (mNil)))) (mNil))))))) (mCons (mTup (mCons (mC (.py (.bool true))) (mCons (mVar 1) (mCons (mVar 2) (mCons (mOp fSub (mVar 2) (mC (.py (.int 1)))) (mCons (mTup (mCons (mC (.py (.str "place"))) (mCons (mFn fRepr (mCons (mOp fSub (mVar 2) (mC (.py (.int 1)))) (mNil))) (mNil)))) (mNil))))))) (mNil))))))) (sRet (mOp fEq (mFz (mLc (asgT [6, 7, 8, 9, 10]) (mSeq (mVar 4)) (mNot (mB (mCall f__law_like (mCons (mCall f__law_refused (mCons (mVar 6) (mCons (mVar 7) (mCons (mVar 8) (mCons (mVar 9) (mNil)))))) (mCons (mVar 10) (mNil)))))) (mC (.py (.int 1))) [6, 7, 8, 9, 10])) (mFz (mLst (mNil)))))))))))
def f__law_limits_right : List D → Wd → Fl := fnM 11 b__law_limits_right
def b_law_L1 : S := sSeq (sAsg (asgN 11) (mCall f__law_spot (mCons (mVar 1) (mCons (mVar 4) (mNil))))) (sIf (mNot (mB (mCall f__law_like (mCons (mCall f_mark_at (mCons (mVar 4) (mCons (mVar 11) (mNil)))) (mCons (mCall f__law_mark (mCons (mVar 2) (mCons (mOp fAdd (mVar 9) (mVar 11)) (mNil)))) (mNil)))))) (sRet (mC (.py (.bool false)))) (sNil))
def b_law_L2 : S := sSeq (sAsg (asgN 11) (mCall f__law_spot (mCons (mVar 1) (mCons (mVar 2) (mNil))))) (sIf (mNot (mB (mCall f__law_like (mCons (mCall f_mark_at (mCons (mVar 7) (mCons (mOp fSub (mOp fSub (mVar 3) (mC (.py (.int 1)))) (mVar 11)) (mNil)))) (mCons (mCall f__law_mark (mCons (mVar 2) (mCons (mVar 11) (mNil)))) (mNil)))))) (sRet (mC (.py (.bool false)))) (sNil))
def b_law : S := sSeq (sAsg (asgN 2) (mCall f__law_wide_row (mCons (mVar 1) (mCons (mC (.py (.int 4))) (mCons (mC (.py (.int 5))) (mNil)))))) (sSeq (sAsg (asgN 3) (mCall f__law_size (mCons (mVar 2) (mNil)))) (sSeq (sAsg (asgT [9, 10]) (mFz (mFnF fSorted (mCons (mFz (mLst (mCons (mCall f__law_of (mCons (mVar 1) (mCons (mFz (mLst (mCons (mC (.py (.int 0))) (mCons (mVar 3) (mCons (mCall f__law_spot (mCons (mVar 1) (mCons (mVar 2) (mNil)))) (mNil)))))) (mNil)))) (mCons (mCall f__law_of (mCons (mVar 1) (mCons (mFz (mLst (mCons (mVar 3) (mCons (mCall f__law_spot (mCons (mVar 1) (mCons (mVar 2) (mNil)))) (mCons (mCall f__law_spot (mCons (mVar 1) (mCons (mVar 2) (mNil)))) (mNil)))))) (mNil)))) (mNil))))) (mNil))))) (sSeq (sAsg (asgN 4) (mCall f_cut_out (mCons (mVar 2) (mCons (mVar 9) (mCons (mVar 10) (mNil)))))) (sSeq (sIf (mOr (mNot (mB (mCall f__law_like (mCons (mVar 4) (mCons (mCall f__law_piece (mCons (mVar 2) (mCons (mVar 9) (mCons (mVar 10) (mNil))))) (mNil)))))) (mB (mOp fNe (mCall f_length_of (mCons (mVar 4) (mNil))) (mOp fSub (mVar 10) (mVar 9))))) (sRet (mC (.py (.bool false)))) (sNil)) (sSeq (sIf (mB (mOp fLt (mVar 9) (mVar 10))) (sFor (asgN 8) (mRng1 (mCons (mC (.py (.int 3))) (mNil))) (b_law_L1)) (sNil)) (sSeq (sAsg (asgN 5) (mFz (mLst (mCons (mCall f_cut_out (mCons (mVar 2) (mCons (mC (.py (.int 0))) (mCons (mVar 9) (mNil))))) (mCons (mVar 4) (mCons (mCall f_cut_out (mCons (mVar 2) (mCons (mVar 10) (mCons (mVar 3) (mNil))))) (mNil))))))) (sSeq (sAsg (asgN 6) (mCall f_rows_joined (mCons (mCall f_rows_joined (mCons (mOp fIx (mVar 5) (mC (.py (.int 0)))) (mCons (mOp fIx (mVar 5) (mC (.py (.int 1)))) (mNil)))) (mCons (mOp fIx (mVar 5) (mC (.py (.int 2)))) (mNil))))) (sSeq (sIf (mOr (mNot (mB (mCall f__law_like (mCons (mVar 6) (mCons (mOp fAdd (mOp fAdd (mOp fIx (mVar 5) (mC (.py (.int 0)))) (mOp fIx (mVar 5) (mC (.py (.int 1))))) (mOp fIx (mVar 5) (mC (.py (.int 2))))) (mNil)))))) (mB (mOp fNotB (mCall f_read_alike (mCons (mVar 6) (mCons (mVar 2) (mNil)))) (mC (.py (.bool true)))))) (sRet (mC (.py (.bool false)))) (sNil)) (sSeq (sAsg (asgN 7) (mCall f_turned_about (mCons (mVar 2) (mNil)))) (sSeq (sIf (mNot (mB (mCall f__law_like (mCons (mVar 7) (mCons (mFn fTup (mCons (mFz (mLc (asgT [12, 13]) (mSeq (mUn fBack (mVar 2))) (mYes) (mTup (mCons (mUn fBack (mVar 12)) (mCons (mVar 13) (mNil)))) [12, 13])) (mNil))) (mNil)))))) (sRet (mC (.py (.bool false)))) (sNil)) (sSeq (sFor (asgN 8) (mRng1 (mCons (mC (.py (.int 3))) (mNil))) (b_law_L2)) (sSeq (sIf (mNot (mB (mCall f__law_like (mCons (mFz (mLst (mCons (mCall f_turned_about (mCons (mVar 7) (mNil))) (mCons (mCall f_turned_about (mCons (mTup (mNil)) (mNil))) (mCons (mCall f_cut_out (mCons (mVar 2) (mCons (mVar 10) (mCons (mVar 10) (mNil))))) (mNil)))))) (mCons (mFz (mLst (mCons (mVar 2) (mCons (mTup (mNil)) (mCons (mTup (mNil)) (mNil)))))) (mNil)))))) (sRet (mC (.py (.bool false)))) (sNil)) (sRet (mCall f__law_limits_right (mCons (mVar 1) (mCons (mVar 2) (mCons (mVar 3) (mNil))))))))))))))))))
def law_N : List Str := ["script", "m", "row", "size", "told", "parts", "whole", "about", "turn", "begin", "end", "place", "marks", "times"]
section
variable {P : Program} {w : World} {K : PySem.W.Frag} {mg : Str → Option Value} {base : Heap}
theorem mixed_F (c n : Int) (wd : Wd) (hc : -(2 ^ 40) < c ∧ c < 2 ^ 40) (hn : 0 ≤ n ∧ n < 2 ^ 40) : f__law_mixed [.py (.int c), .py (.int n)] wd = .rt (.py (.int (mixW c n))) wd := by
  simp (disch := omega) only [f__law_mixed, fnM, b__law_mixed, sSeq, sAsg, sRet, asgN, mOp, mFn, mCons, mNil, mC, mVar, Re.bind, envOf, List.map, List.length, List.replicate, List.cons_append, List.nil_append, List.getElem?_cons_zero, List.getElem?_cons_succ,
    List.set, fMul, fAdd, fMod, fDiv, fInt, ifC_pos, Nat.reduceSub]
  rfl
theorem use_mixed {wa : WA} {Fr G H : Hp} {wd : Wd} {c n : Int} (x : RepH wa Fr G H wd) (hc : -(2 ^ 40) < c ∧ c < 2 ^ 40) (hn : 0 ≤ n ∧ n < 2 ^ 40) {Q : VK} (q : ∀ H' G', Same G G' → RepH wa Fr G' H' wd → Q (.int (mixW c n)) H') {E : XK} :
    spM K mg 2 f__law_mixed [.int c, .int n] H Q E := by
  refine ⟨rfl, wa, Fr, G, wd, [.py (.int c), .py (.int n)], x, .cons (Dq.int c) (.cons (Dq.int n) .nil), ?_⟩
  rw [mixed_F c n wd hc hn]
  intro v H' G' s' x' h'
  cases h'
  exact q H' G' s' x'
theorem sc__law_draw : FnScope ["m", "limit", "n", "lot", "here", "cell"] ["m", "limit"] (defScope (top 37)) := ⟨rfl, rfl, rfl, by decide +kernel, rfl, by decide +kernel, by decide +kernel⟩
theorem h__law_draw (g : G0 mg) (d : DefAt K mg "_law_draw" (top 37)) (c : Has P w K mg base "_law_mixed" 1 ["cell", "n"] (spM K mg 2 f__law_mixed)) : Has P w K mg base "_law_draw" 2 ["m", "limit"] (spM K mg 2 drawF) := by
  obtain ⟨fa, fd, F, hm⟩ := d
  refine ⟨fa, fd, fng_of F sc__law_draw (fun vs H Q E h => h.1) ?_, hm, F.kp, F.bindsN (fun _ _ _ _ _ _ us hl => match us, hl with | [_, _], _ => rfl)⟩
  intro cdv B outs s0 H vs Q E hr hu h
  have hu1 : (B.deeper (envOfC "_law_draw" (defScope (top 37)) s0.heap.objs.size fa cdv)).units + 1 < cLine := by
    have := hr.units
    omega
  refine ⟨_, pss_cons (ps_set (i := 2) sc__law_draw.nd rfl (Or.inl rfl) (pe_dget hu1 (pv 0) pe_str fun _ _ => rfl))
    (pss_cons (ps_dput hu1 (pv 0) pe_str (pe_op op_add (pv 2) pe_int) rfl)
    (pss_cons (ps_if (pt_cmpR (op_neD hr.units) (pe_dget hu1 (pv 0) pe_str fun _ _ => rfl) (pe_lst pa_nil) (nomark _))
        (pss_cons (ps_set (i := 3) sc__law_draw.nd rfl (Or.inl rfl) (pe_dget hu1 (pv 0) pe_str fun _ _ => rfl))
        (pss_cons (ps_set (i := 4) sc__law_draw.nd rfl (Or.inl rfl) (pe_op op_mod (pe_callTy call_int1 rfl g.int boot_int (pa_cons (pv 2) pa_nil)) (pe_callB call_len_seq rfl g.len boot_len (pa_cons (pv 3) pa_nil))))
        (pss_cons (ps_set (i := 5) sc__law_draw.nd rfl (Or.inl rfl) (pe_ix ix_list (pv 3) (pv 4) fun _ _ => rfl))
        (pss_one (ps_if (pt_cmpR op_gt (pv 5) pe_int (nomark _))
          (pss_cons (ps_asg (pe_op op_fdiv (pv 5) (pv 1)) (pg_sub (pv 3) (pv 4) set_list))
            (pss_one (ps_ret (pe_op op_mod (pe_callTy call_int1 rfl g.int boot_int (pa_cons (pv 5) pa_nil)) (pv 1)))))
          pss_nil)))))
        pss_nil)
    (pss_cons (ps_set (i := 3) sc__law_draw.nd rfl (Or.inl rfl) (pe_dget hu1 (pv 0) pe_str fun _ _ => rfl))
    (pss_one (ps_ret (pe_op op_mod (pe_callTy call_int1 rfl g.int boot_int (pa_cons (pe_H c (hr.mono (by decide)) hu (takes_of rfl rfl rfl rfl)
      (pa_cons (pe_H c (hr.mono (by decide)) hu (takes_of rfl rfl rfl rfl) (pa_cons (pe_op op_add (pe_ix ix_list (pv 3) (pe_op op_mod (pe_callTy call_int1 rfl g.int boot_int (pa_cons (pv 2) pa_nil)) pe_int) fun _ _ => rfl) (pe_op op_mul pe_int (pe_op op_fdiv (pv 2) pe_int))) (pa_cons (pv 2) pa_nil)))
        (pa_cons (pe_op op_add (pv 2) pe_int) pa_nil))) pa_nil)) (pv 1))))))), ?_⟩
  obtain ⟨hl, wa, Fr, G, w0, ds, x, rv, q⟩ := h
  obtain ⟨lim, rfl, l0, l1, ok, q⟩ := drawF_inv q
  obtain ⟨v1, v2, rfl, rv1, rv2⟩ := rv_two rv
  cases (show v1 = _ from rv1)
  cases rv2
  have s0' := ok.s0
  have sk' := ok.sk
  have tail : ∀ (σ : L2.St) (H2 G2 : Hp), Same G G2 → RepH wa Fr G2 H2 { w0 with spot := w0.spot + 1 } → σ[0]? = some (some (.ref wa.m)) → σ[1]? = some (some (.int lim)) → σ[2]? = some (some (.int w0.spot)) → 3 < σ.length →
      drawV w0 lim = (plainV w0 w0.spot lim, { w0 with spot := w0.spot + 1 }) → tSeq (tAsg (tDGet (tVar 0) (tC (.str "cells"))) (gName 3))
        (tRet (tOp (rI (fun _ j => 0 < j) fun i j => .int (i % j)) (tCB (fun xs H Q => (∃ i, xs = [.int i] ∧ Q (.int i) H) ∨ ∃ k, xs = [.bl k] ∧ Q (.int (if k then 1 else 0)) H)
          (tCons (tG (fun cls d _ H => E cls d H) (spM K mg 2 f__law_mixed) (tCons (tG (fun cls d _ H => E cls d H) (spM K mg 2 f__law_mixed) (tCons (tOp (rI0 fun i j => .int (i + j)) (tOp (rIxL K) (tVar 3) (tOp (rI (fun _ j => 0 < j) fun i j => .int (i % j)) (tCB (fun xs H Q => (∃ i, xs = [.int i] ∧ Q (.int i) H) ∨ ∃ k, xs = [.bl k] ∧ Q (.int (if k then 1 else 0)) H) (tCons (tVar 2) tNil)) (tC (.int 64))))
            (tOp (rI CMul fun i j => .int (i * j)) (tC (.int 31)) (tOp (rI CDiv fun i j => .int (i / j)) (tVar 2) (tC (.int 64))))) (tCons (tVar 2) tNil)))
            (tCons (tOp (rI0 fun i j => .int (i + j)) (tVar 2) (tC (.int 7))) tNil))) tNil)) (tVar 1))) { nx := fun _ H' => Q .non H', rt := Q } σ H2 := by
    intro σ H2 G2 sG x2 e0 e1 e2 e3 ev
    rw [ev] at q
    refine ⟨_, e0, wa.m, .ref wa.c, rfl, get_cells x2.wr, ?_⟩
    have f3 : (σ.set 3 (some (.ref wa.c)))[3]? = some (some (.ref wa.c)) := List.getElem?_set_self e3
    have f2 : (σ.set 3 (some (.ref wa.c)))[2]? = some (some (.int w0.spot)) := by rw [List.getElem?_set_ne (by decide)]; exact e2
    have f1 : (σ.set 3 (some (.ref wa.c)))[1]? = some (some (.int lim)) := by rw [List.getElem?_set_ne (by decide)]; exact e1
    have hs0 := Int.emod_nonneg w0.spot (show (64 : Int) ≠ 0 by decide)
    have hs1 := Int.emod_lt_of_pos w0.spot (show (0 : Int) < 64 by decide)
    have hc := ok.lo (w0.cells.getD (w0.spot % 64).toNat 0) (by
      have hl : (w0.spot % 64).toNat < w0.cells.length := by rw [ok.len]; omega
      simp [List.getD, hl])
    refine ⟨_, f3, _, f2, .inl ⟨_, rfl, _, _, rfl, rfl, (show (0 : Int) < 64 by decide), _, _, _, _, rfl, rfl, SqL.of x2.wr.c, atI_ints hs0 (by show _ < (w0.cells.length : Int); rw [ok.len]; exact hs1), ?_⟩⟩
    refine ⟨_, f2, _, _, rfl, rfl, ⟨by decide, by decide⟩, _, _, rfl, rfl, .inl ⟨by decide, by decide⟩, _, _, rfl, rfl, _, f2, ?_⟩
    refine use_mixed (c := w0.cells.getD (w0.spot % 64).toNat 0 + 31 * (w0.spot / 64)) x2 (by omega) (by omega) fun H3 G3 s3 x3 => ?_
    refine ⟨_, f2, _, _, rfl, rfl, ?_⟩
    have ml := mix_lo (w0.cells.getD (w0.spot % 64).toNat 0 + 31 * (w0.spot / 64)) w0.spot
    refine use_mixed (c := mixW (w0.cells.getD (w0.spot % 64).toNat 0 + 31 * (w0.spot / 64)) w0.spot) x3 (by omega) (by omega) fun H4 G4 s4 x4 => ?_
    refine .inl ⟨_, rfl, _, f1, _, _, rfl, rfl, l0, ?_⟩
    exact q _ H4 G4 (sG.trans (s3.trans s4)) x4 (Dq.int _)
  refine ⟨_, rfl, wa.m, .int w0.spot, rfl, get_spot x.wr, ?_⟩
  refine ⟨_, rfl, _, _, rfl, rfl, _, rfl, wa.m, _, rfl, DPut.k (k := .inr "spot") x.wr.m (show 3 < sizeLine by decide), ?_⟩
  have x1 := x.spotPut (w0.spot + 1)
  generalize upd H wa.m (.dK (putK (wdPairs wa w0) (.inr "spot") (.int (w0.spot + 1)))) = H1 at x1 ⊢
  refine ⟨_, rfl, wa.m, .ref wa.g, rfl, get_great x1.wr, by decide, fun p hp => ?_⟩
  have x2 := x1.alloc (o := .lst []) hp
  refine ⟨.list (w0.great.map PyData.int), .list [], dq_dp _ _ (nd_one (SeqAt.canLay_of_shaped (sh_ints _))) (dp_intsL x2.wr.g), dq_dp _ _ (nd_one (by decide)) (.lst upd_same .nil), sh_ints _, by decide, _, rfl, ?_⟩
  have sG : Same G (upd G p (.lst [])) := same_new (x1.gnone hp)
  generalize upd H1 p (.lst []) = H2 at x2 ⊢
  generalize upd G p (.lst []) = G2 at x2 sG
  rw [eqv_nil]
  by_cases em : w0.great = []
  · rw [decide_eq_true em]
    refine tail _ H2 G2 sG x2 rfl rfl rfl (show 3 < 6 by decide) ?_
    unfold drawV
    rw [if_neg (by rw [em]; simp)]
  · rw [decide_eq_false em]
    have pos : 0 < w0.great.length := List.length_pos_iff.mpr em
    have hg0 := Int.emod_nonneg w0.spot (show (w0.great.length : Int) ≠ 0 by omega)
    have hg1 := Int.emod_lt_of_pos w0.spot (show (0 : Int) < (w0.great.length : Int) by omega)
    refine ⟨_, rfl, wa.m, .ref wa.g, rfl, get_great x2.wr, ?_⟩
    refine ⟨_, rfl, .inl ⟨_, rfl, _, rfl, _, _, rfl, .inl (SqL.of x2.wr.g), _, _, rfl, rfl, by rw [List.length_map]; show (0 : Int) < (w0.great.length : Int); omega, ?_⟩⟩
    rw [List.length_map]
    refine ⟨_, rfl, _, rfl, _, _, _, _, rfl, rfl, SqL.of x2.wr.g, atI_ints hg0 hg1, ?_⟩
    refine ⟨_, rfl, _, _, rfl, rfl, _, rfl, ?_⟩
    by_cases gt : 0 < w0.great.getD (w0.spot % (w0.great.length : Int)).toNat 0
    · rw [decide_eq_true gt]
      refine ⟨_, rfl, _, rfl, _, _, rfl, rfl, ⟨l0, l1⟩, _, rfl, _, rfl, _, _, _, _, rfl, rfl, x2.wr.g, by rw [List.length_map]; exact ixN_in hg0 hg1, ?_⟩
      have x3 := x2.greatPut (w0.great.set (w0.spot % (w0.great.length : Int)).toNat (w0.great.getD (w0.spot % (w0.great.length : Int)).toNat 0 / lim))
      rw [List.map_set] at x3
      refine ⟨_, rfl, .inl ⟨_, rfl, _, rfl, _, _, rfl, rfl, l0, ?_⟩⟩
      unfold drawV at q
      rw [if_pos ⟨by omega, gt⟩] at q
      exact q _ _ G2 sG x3 (Dq.int _)
    · rw [decide_eq_false gt]
      refine tail _ H2 G2 sG x2 rfl rfl rfl (show 3 < 6 by decide) ?_
      unfold drawV
      rw [if_neg (fun z => gt z.2)]
end
section
variable {P : Program} {w : World} {K : PySem.W.Frag} {mg : Str → Option Value} {base : Heap}
def spFolded (K : PySem.W.Frag) : Sp := fun vs H Q _ => ∃ (a : Addr) (ns : List Int), vs = [.ref a] ∧ SqL K H a (ns.map V.int) ∧ ∀ (p : Addr) (H' : Hp) (cs : List Int), H p = none → Same H H' → H' p = some (.lst (cs.map V.int)) → cs.length = 64 → (∀ c ∈ cs, 0 ≤ c ∧ c < 2147483647) → Q (.ref p) H'
theorem sc__law_folded : FnScope ["script", "found", "n", "cell"] ["script"] (defScope (top 36)) := ⟨rfl, rfl, rfl, by decide +kernel, rfl, by decide +kernel, by decide +kernel⟩
theorem h__law_folded (g : G0 mg) (d : DefAt K mg "_law_folded" (top 36)) : Has P w K mg base "_law_folded" 1 ["script"] (spFolded K) := by
  obtain ⟨fa, fd, F, hm⟩ := d
  refine ⟨fa, fd, fng_of F sc__law_folded (fun vs H Q E h => by obtain ⟨_, _, rfl, _⟩ := h; rfl) ?_, hm, F.kp, F.bindsN (fun _ _ _ _ _ _ us hl => match us, hl with | [_], _ => rfl)⟩
  intro cdv B outs s0 H vs Q E hr hu h
  refine ⟨_, pss_cons (ps_setLc (i := 1) (own := [("n", 2)]) (g := gName 2) rfl sc__law_folded.nd rfl rfl (sw_true rfl rfl rfl (by decide +kernel)) (pi_range1 rfl g.range (pa_cons pe_int pa_nil)) (blkOk_by (own := [("n", 2)]) (N := ["script", "found", "n", "cell"]) (sc := defScope (top 36)) (by decide +kernel))
      (fun _ _ _ _ _ => pg_name (i := 2) sc__law_folded.nd rfl (Or.inl rfl)) (fun _ _ _ _ _ => pts_nil) (fun _ _ _ _ _ => pe_op op_add pe_int (pv 2)))
    (pss_cons (ps_for (passes_of rfl) rfl (pi_enum rfl g.enumerate (pa_cons (pv 0) pa_nil)) (pg_tup rfl (pgs_cons (pg_name (i := 2) sc__law_folded.nd rfl (Or.inl rfl)) (pgs_cons (pg_name (i := 3) sc__law_folded.nd rfl (Or.inl rfl)) pgs_nil)))
      (pss_one (ps_asg (pe_op op_mod (pe_callTy call_int1 rfl g.int boot_int (pa_cons (pe_op op_add (pe_op op_mul (pe_ix ix_list (pv 1) (pe_op op_mod (pe_callTy call_int1 rfl g.int boot_int (pa_cons (pv 2) pa_nil)) pe_int) fun _ _ => rfl) pe_int) (pv 3)) pa_nil)) pe_int)
        (pg_sub (pv 1) (pe_op op_mod (pe_callTy call_int1 rfl g.int boot_int (pa_cons (pv 2) pa_nil)) pe_int) set_list))))
    (pss_cons (ps_for (passes_of rfl) rfl (pi_range2 rfl g.range (pa_cons pe_int (pa_cons pe_int pa_nil))) (pg_name (i := 2) sc__law_folded.nd rfl (Or.inl rfl))
      (pss_one (ps_asg (pe_op op_mod (pe_callTy call_int1 rfl g.int boot_int (pa_cons (pe_op op_add (pe_ix ix_list (pv 1) (pv 2) fun _ _ => rfl) (pe_op op_mul (pe_ix ix_list (pv 1) (pe_op op_sub (pv 2) pe_int) fun _ _ => rfl) pe_int)) pa_nil)) pe_int)
        (pg_sub (pv 1) (pv 2) set_list))))
    (pss_one (ps_ret (pv 1))))), ?_⟩
  obtain ⟨a, ns, rfl, sq, q⟩ := h
  refine ⟨_, rfl, by decide, by decide, fun p hp => ?_⟩
  refine lc_range (lo := 0) (n := 64) (fun i H1 => Same H H1 ∧ ∃ cs : List Int, H1 p = some (.lst (cs.map V.int)) ∧ cs.length = i ∧ ∀ c ∈ cs, 0 ≤ c ∧ c < 2147483647) ⟨same_new hp, [], upd_same, rfl, fun c h => by cases h⟩ ?_ ?_
  · rintro i H1 hi ⟨sm, cs, at_, len, lo⟩
    refine ⟨rfl, ?_⟩
    simp only [tYes, if_true]
    refine ⟨_, rfl, _, _, rfl, rfl, _, at_, by rw [List.length_map, len]; exact Nat.lt_of_lt_of_le hi (by decide), same_upd sm hp, cs ++ [17 + (0 + (i : Int))], by rw [List.map_append]; exact upd_same, by rw [List.length_append, len]; rfl, fun c hc => ?_⟩
    rcases List.mem_append.mp hc with z | z
    · exact lo c z
    · cases List.mem_singleton.mp z
      omega
  · rintro H1 ⟨sm, cs, at_, len, lo⟩
    have I0 : FoldI a p H ((L2.start ["script", "found", "n", "cell"] [.ref a]).set 1 (some (.ref p))) H1 := ⟨rfl, rfl, rfl, sm, cs, at_, len, lo⟩
    refine ⟨_, rfl, a, ns.map V.int, rfl, same_sqL sm sq, ?_⟩
    refine ⟨fun i m σ H2 => m = ns.length - i ∧ i ≤ ns.length ∧ FoldI a p H σ H2, ⟨_, rfl, Nat.zero_le _, I0⟩, ?_⟩
    rintro i m σ H2 ⟨rfl, hi, J⟩
    have sq2 : SqL K H2 a (ns.map V.int) := same_sqL J.sm sq
    by_cases hlt : i < ns.length
    · refine .inr ⟨⟨_, .int ns[i], sq2, by rw [List.getElem?_map, List.getElem?_eq_getElem hlt]; rfl⟩, FoldI a p H, fun σ' H' J' => ⟨ns.length - (i + 1), by omega, rfl, hlt, J'⟩, ?_⟩
      rintro x H3 ⟨T, y, rfl, hT, rfl, hy⟩
      have ey := hy _ sq2
      rw [List.getElem?_map, List.getElem?_eq_getElem hlt] at ey
      cases ey
      obtain ⟨cs2, at2, ce⟩ := J.cs
      have hpT : p ≠ T := ne_of_none at2 hT
      have at3 : upd H2 T (.tup [.int (i : Nat), .int ns[i]]) p = some (.lst (cs2.map V.int)) := by rw [upd_ne hpT]; exact at2
      refine ⟨T, _, rfl, .inl (.inl upd_same), rfl, _, _, rfl, _, _, rfl, rfl, ?_⟩
      have f1 : ((σ.set 2 (some (.int (i : Nat)))).set 3 (some (.int ns[i])))[1]? = some (some (.ref p)) := by
        rw [List.getElem?_set_ne (by decide), List.getElem?_set_ne (by decide)]
        exact J.s1
      have f0 : ((σ.set 2 (some (.int (i : Nat)))).set 3 (some (.int ns[i])))[0]? = some (some (.ref a)) := by
        rw [List.getElem?_set_ne (by decide), List.getElem?_set_ne (by decide)]
        exact J.s0
      have f2 : ((σ.set 2 (some (.int (i : Nat)))).set 3 (some (.int ns[i])))[2]? = some (some (.int (i : Nat))) := by
        rw [List.getElem?_set_ne (by decide), List.getElem?_set_self (by rw [J.len]; decide)]
      have f3 : ((σ.set 2 (some (.int (i : Nat)))).set 3 (some (.int ns[i])))[3]? = some (some (.int ns[i])) := by
        rw [List.getElem?_set_self (by rw [List.length_set, J.len]; decide)]
      have h0 := Int.emod_nonneg ((i : Nat) : Int) (show (64 : Int) ≠ 0 by decide)
      have h1 := Int.emod_lt_of_pos ((i : Nat) : Int) (show (0 : Int) < 64 by decide)
      have h2 : ((i : Nat) : Int) % 64 < (cs2.length : Int) := by rw [ce.1]; exact h1
      refine ⟨_, f1, _, f2, .inl ⟨_, rfl, _, _, rfl, rfl, (show (0 : Int) < 64 by decide), _, _, _, _, rfl, rfl, SqL.of at3, atI_ints h0 h2, _, _, rfl, rfl, .inr ⟨by decide, by decide⟩, _, f3, _, _, rfl, rfl, .inl ⟨_, rfl, _, _, rfl, rfl, (show (0 : Int) < 2147483647 by decide), ?_⟩⟩⟩
      refine ⟨_, f1, _, f2, .inl ⟨_, rfl, _, _, rfl, rfl, (show (0 : Int) < 64 by decide), _, _, _, _, rfl, rfl, at3, by rw [List.length_map]; exact ixN_in h0 h2, ?_⟩⟩
      refine ⟨by rw [List.length_set, List.length_set, J.len], f0, f1, fun b o e => ?_, _, by rw [upd_same, ← List.map_set], ce.set _ _⟩
      rw [upd_ne (ne_of_none e hp), upd_ne (ne_of_none (J.sm _ _ e) hT)]
      exact J.sm _ _ e
    · have e : i = ns.length := by omega
      subst e
      refine .inl ⟨⟨_, sq2, by rw [List.length_map]; exact Nat.le_refl _⟩, ?_⟩
      refine ⟨1, 64, rfl, ⟨by decide, by decide, by decide, by decide⟩, ?_⟩
      refine for_range (lo := 1) (n := 63) (fun _ => FoldI a p H) J ?_ ?_
      · intro k σ2 H4 hk J2
        obtain ⟨cs2, at2, ce⟩ := J2.cs
        have f1 : (σ2.set 2 (some (.int (1 + (k : Int)))))[1]? = some (some (.ref p)) := by
          rw [List.getElem?_set_ne (by decide)]
          exact J2.s1
        have f0 : (σ2.set 2 (some (.int (1 + (k : Int)))))[0]? = some (some (.ref a)) := by
          rw [List.getElem?_set_ne (by decide)]
          exact J2.s0
        have f2 : (σ2.set 2 (some (.int (1 + (k : Int)))))[2]? = some (some (.int (1 + (k : Int)))) := by
          rw [List.getElem?_set_self (by rw [J2.len]; decide)]
        have c1 := ce.1
        refine ⟨_, f1, _, f2, _, _, _, _, rfl, rfl, SqL.of at2, atI_ints (by omega) (by omega), ?_⟩
        refine ⟨_, f1, _, f2, _, _, rfl, rfl, _, _, _, _, rfl, rfl, SqL.of at2, atI_ints (by omega) (by omega), _, _, rfl, rfl, .inr ⟨by decide, by decide⟩, _, _, rfl, rfl, .inl ⟨_, rfl, _, _, rfl, rfl, (show (0 : Int) < 2147483647 by decide), ?_⟩⟩
        refine ⟨_, f1, _, f2, _, _, _, _, rfl, rfl, at2, by rw [List.length_map]; exact ixN_in (by omega) (by omega), ?_⟩
        exact ⟨by rw [List.length_set, J2.len], f0, f1, same_upd J2.sm hp, _, by rw [upd_same, ← List.map_set], ce.set _ _⟩
      · intro σ2 H4 J2
        obtain ⟨cs2, at2, ce⟩ := J2.cs
        exact ⟨_, J2.s1, q p H4 cs2 hp J2.sm at2 ce.1 ce.2⟩
end
section
variable {P : Program} {w : World} {K : PySem.W.Frag} {mg : Str → Option Value} {base : Heap}
def spBegun (K : PySem.W.Frag) : Sp := fun vs H Q _ => ∃ (a : Addr) (ns : List Int), vs = [.ref a] ∧ ns.length ≤ 63 ∧ SqL K H a (ns.map V.int) ∧ ∀ (wa : WA) (wd : Wd) (H' : Hp), WRep wa wd H' → WOk wd 0 → Q (.ref wa.m) H'
theorem sc__law_begun : FnScope ["script", "m", "cell"] ["script"] (defScope (top 38)) := ⟨rfl, rfl, rfl, by decide +kernel, rfl, by decide +kernel, by decide +kernel⟩
theorem h__law_begun (g : G0 mg) (d : DefAt K mg "_law_begun" (top 38)) (c : Has P w K mg base "_law_folded" 1 ["script"] (spFolded K)) : Has P w K mg base "_law_begun" 2 ["script"] (spBegun K) := by
  obtain ⟨fa, fd, F, hm⟩ := d
  refine ⟨fa, fd, fng_of F sc__law_begun (fun vs H Q E h => by obtain ⟨_, _, rfl, _⟩ := h; rfl) ?_, hm, F.kp, F.bindsN (fun _ _ _ _ _ _ us hl => match us, hl with | [_], _ => rfl)⟩
  intro cdv B outs s0 H vs Q E hr hu h
  have hu1 : (B.deeper (envOfC "_law_begun" (defScope (top 38)) s0.heap.objs.size fa cdv)).units + 1 < cLine := by
    have := hr.units
    omega
  refine ⟨_, pss_cons (ps_set (i := 1) sc__law_begun.nd rfl (Or.inl rfl) (pe_disp (pps_cons pe_str (pe_H c (hr.mono (by decide)) hu (takes_of rfl rfl rfl rfl) (pa_cons (pv 0) pa_nil)) (pps_cons pe_str (pe_lst pa_nil) (pps_cons pe_str pe_int pps_nil))) rfl rfl (fun z => by cases z) (by decide)))
    (pss_cons (ps_dput hu1 (pv 1) pe_str (pe_lc (own := [("cell", 2)]) (g := gName 2) rfl sc__law_begun.nd (pi_list (pv 0)) (blkOk_by (own := [("cell", 2)]) (N := ["script", "m", "cell"]) (sc := defScope (top 38)) (by decide +kernel))
      (fun _ _ _ _ _ => pg_name (i := 2) sc__law_begun.nd rfl (Or.inl rfl)) (fun _ _ _ _ _ => pts_nil) (fun _ _ _ _ _ => pe_ifExp (pt_cmpR op_ge (pv 2) (pe_op op_pow pe_int pe_int) (nomark _)) (pv 2) pe_int)) rfl)
    (pss_one (ps_ret (pv 1)))), ?_⟩
  obtain ⟨a, ns, rfl, l63, sq, q⟩ := h
  intro p hp
  have sqp : SqL K (upd H p (.dK [])) a (ns.map V.int) := same_sqL (same_new hp) sq
  refine ⟨_, rfl, a, ns, rfl, sqp, fun c1 H1 cs hc sm1 at1 cl cb => ?_⟩
  refine ⟨by decide, fun e1 he => ?_⟩
  have n1 : c1 ≠ p := fun z => by
    rw [z, upd_same] at hc
    cases hc
  have n2 : e1 ≠ p := fun z => by
    have := sm1 p _ upd_same
    rw [← z, he] at this
    cases this
  have n3 : e1 ≠ c1 := fun z => by
    rw [z, at1] at he
    cases he
  refine ⟨by rw [upd_ne n2.symm]; exact sm1 p _ upd_same, [(.inr "cells", .ref c1), (.inr "great", .ref e1), (.inr "spot", .int 0)], rfl, show 3 ≤ 15 by decide, ?_⟩
  have em : mergeK [] [((.inr "cells" : Key), V.ref c1), (.inr "great", .ref e1), (.inr "spot", .int 0)] = [(.inr "cells", .ref c1), (.inr "great", .ref e1), (.inr "spot", .int 0)] := rfl
  rw [em]
  have hH : ∀ b o, H b = some o → b ≠ p := fun b o e => ne_of_none e hp
  have sm2 : Same H (upd (upd H1 e1 (.lst [])) p (.dK [((.inr "cells" : Key), V.ref c1), (.inr "great", .ref e1), (.inr "spot", .int 0)])) := fun b o e => by
    have h1 : upd H p (.dK []) b = some o := by rw [upd_ne (hH b o e)]; exact e
    have h2 := sm1 b o h1
    rw [upd_ne (hH b o e), upd_ne (ne_of_none h2 he)]
    exact h2
  have at2 : upd (upd H1 e1 (.lst [])) p (.dK [((.inr "cells" : Key), V.ref c1), (.inr "great", .ref e1), (.inr "spot", .int 0)]) c1 = some (.lst (cs.map V.int)) := by
    rw [upd_ne n1, upd_ne n3.symm]
    exact at1
  have at3 : upd (upd H1 e1 (.lst [])) p (.dK [((.inr "cells" : Key), V.ref c1), (.inr "great", .ref e1), (.inr "spot", .int 0)]) p = some (.dK [((.inr "cells" : Key), V.ref c1), (.inr "great", .ref e1), (.inr "spot", .int 0)]) := upd_same
  generalize upd (upd H1 e1 (.lst [])) p (.dK [((.inr "cells" : Key), V.ref c1), (.inr "great", .ref e1), (.inr "spot", .int 0)]) = H2 at sm2 at2 at3 ⊢
  refine ⟨_, rfl, a, rfl, ⟨_, same_sqL sm2 sq⟩, fun g1 hg => ?_⟩
  refine lc_list (a := a) (xs := ns.map V.int) (fun i H' => Same H2 H' ∧ ∃ gs : List Int, H' g1 = some (.lst (gs.map V.int)) ∧ gs.length = i) ⟨same_new hg, [], upd_same, rfl⟩ (fun i H' _ z => same_sqL z.1 (same_sqL sm2 sq)) ?_ ?_
  · rintro i x H3 hx ⟨sm3, gs, at4, gl⟩
    have hi : i < (ns.map V.int).length := (List.getElem?_eq_some_iff.mp hx).1
    rw [List.length_map] at hi
    rw [List.getElem?_map, List.getElem?_eq_getElem hi] at hx
    cases hx
    refine ⟨rfl, ?_⟩
    simp only [tYes, if_true]
    have fin : ∀ y : Int, ∃ acc, H3 g1 = some (.lst acc) ∧ acc.length < sizeLine ∧ Same H2 (upd H3 g1 (.lst (acc ++ [.int y]))) ∧ ∃ gs : List Int, upd H3 g1 (.lst (acc ++ [.int y])) g1 = some (.lst (gs.map V.int)) ∧ gs.length = i + 1 := fun y =>
      ⟨_, at4, by rw [List.length_map, gl]; exact Nat.lt_of_lt_of_le hi (Nat.le_trans l63 (by decide)), same_upd sm3 hg, gs ++ [y], by rw [List.map_append]; exact upd_same, by rw [List.length_append, gl]; rfl⟩
    refine ⟨_, rfl, _, _, rfl, rfl, ⟨by decide, by decide, by decide⟩, _, _, rfl, rfl, _, rfl, ?_⟩
    cases decide ((10 : Int) ^ (18 : Int).toNat ≤ ns[i]) with
    | true =>
      simp only [if_true]
      exact ⟨_, rfl, fin ns[i]⟩
    | false =>
      simp only [Bool.false_eq_true, if_false]
      exact fin 0
  · rintro H3 ⟨sm3, gs, at4, gl⟩
    refine ⟨_, rfl, p, _, rfl, DPut.k (k := .inr "great") (sm3 _ _ at3) (show 3 < sizeLine by decide), ?_⟩
    have eg : putK [((.inr "cells" : Key), V.ref c1), (.inr "great", .ref e1), (.inr "spot", .int 0)] (.inr "great") (.ref g1) = wdPairs ⟨p, c1, g1⟩ ⟨cs, gs, 0⟩ := rfl
    rw [eg]
    have g1p : g1 ≠ p := fun z => by
      rw [z, at3] at hg
      cases hg
    have g1c : c1 ≠ g1 := fun z => by
      rw [← z, at2] at hg
      cases hg
    refine ⟨_, rfl, q ⟨p, c1, g1⟩ ⟨cs, gs, 0⟩ _ ⟨upd_same, ?_, ?_, g1c⟩ ⟨cl, cb, ?_, Int.le_refl _, Int.le_refl _⟩⟩
    · show upd H3 p _ c1 = _
      rw [upd_ne n1]
      exact sm3 _ _ at2
    · show upd H3 p _ g1 = _
      rw [upd_ne g1p]
      exact at4
    · rw [List.length_map] at gl
      show gs.length ≤ 63
      omega
end
section
variable {P : Program} {w : World} {K : PySem.W.Frag} {mg : Str → Option Value} {base : Heap}
theorem sc_entry_count : FnScope ["blocks", "marks", "times"] ["blocks"] (defScope (top 1)) := ⟨rfl, rfl, rfl, by decide +kernel, rfl, by decide +kernel, by decide +kernel⟩
theorem h_entry_count (g : G0 mg) (d : DefAt K mg "entry_count" (top 1))     : Has P w K mg base "entry_count" 1 ["blocks"] (spM K mg 1 f_entry_count) :=
  has_M (n := 0) d sc_entry_count (fun _ _ _ _ _ _ us hl => match us, hl with | [_], _ => rfl) fun fa cdv B outs s0 H E hr hu po tk =>
    ss_one (s_ret (e_sum rfl g.sum (a_cons (e_fz (f_lc (nms := [("marks", 1), ("times", 2)]) (by rfl) sc_entry_count.nd (pi_seq (e_var 0)) i_seq (blkOk_by (own := [("marks", 1), ("times", 2)]) (N := ["blocks", "marks", "times"]) (sc := defScope (top 1)) (by decide +kernel)) (fun _ _ _ _ _ => pg_tl rfl (pgs_cons (pg_name (i := 1) sc_entry_count.nd rfl (by first | exact Or.inl rfl | exact Or.inr rfl)) (pgs_cons (pg_name (i := 2) sc_entry_count.nd rfl (by first | exact Or.inl rfl | exact Or.inr rfl)) (pgs_nil)))) (g_tup [1, 2]) (by decide) (fun _ _ _ _ _ => pts_nil) (fun _ _ _ h => t_yes h) (fun _ _ _ _ _ => e_mul (e_len g.len (a_cons (e_var 1) (a_nil))) (e_var 2)))) (a_nil))))
theorem sc_entry_mark : FnScope ["blocks", "place", "marks", "times", "size"] ["blocks", "place"] (defScope (top 2)) := ⟨rfl, rfl, rfl, by decide +kernel, rfl, by decide +kernel, by decide +kernel⟩
theorem h_entry_mark (g : G0 mg) (d : DefAt K mg "entry_mark" (top 2))     : Has P w K mg base "entry_mark" 1 ["blocks", "place"] (spM K mg 2 f_entry_mark) :=
  has_M (n := 0) d sc_entry_mark (fun _ _ _ _ _ _ us hl => match us, hl with | [_, _], _ => rfl) fun fa cdv B outs s0 H E hr hu po tk =>
    ss_cons (s_for po rfl (pi_seq (e_var 0)) i_seq (pg_tl rfl (pgs_cons (pg_name (i := 2) sc_entry_mark.nd rfl (by first | exact Or.inl rfl | exact Or.inr rfl)) (pgs_cons (pg_name (i := 3) sc_entry_mark.nd rfl (by first | exact Or.inl rfl | exact Or.inr rfl)) (pgs_nil)))) (g_tup [2, 3]) (ss_cons (s_set 4 sc_entry_mark.nd (e_mul (e_len g.len (a_cons (e_var 2) (a_nil))) (e_var 3))) (ss_cons (s_if (t_lt (e_var 1) (e_var 4)) (ss_one (s_ret (e_ix (e_var 2) (e_mod (e_var 1) (e_len g.len (a_cons (e_var 2) (a_nil))))))) (ss_nil)) (ss_one (s_aug 1 sc_entry_mark.nd (e_var 4) ip_sub))))) (ss_one (s_ret (e_non)))
theorem sc_block_part : FnScope ["marks", "low", "high", "many", "found", "first", "begin", "last", "end"] ["marks", "low", "high"] (defScope (top 3)) := ⟨rfl, rfl, rfl, by decide +kernel, rfl, by decide +kernel, by decide +kernel⟩
theorem h_block_part (g : G0 mg) (d : DefAt K mg "block_part" (top 3))     : Has P w K mg base "block_part" 1 ["marks", "low", "high"] (spM K mg 3 f_block_part) :=
  has_M (n := 0) d sc_block_part (fun _ _ _ _ _ _ us hl => match us, hl with | [_, _, _], _ => rfl) fun fa cdv B outs s0 H E hr hu po tk =>
    ss_cons (s_set 3 sc_block_part.nd (e_len g.len (a_cons (e_var 0) (a_nil)))) (ss_cons (s_asg (e_divmod g.divmod (a_cons (e_var 1) (a_cons (e_var 3) (a_nil)))) (pg_tl rfl (pgs_cons (pg_name (i := 5) sc_block_part.nd rfl (by first | exact Or.inl rfl | exact Or.inr rfl)) (pgs_cons (pg_name (i := 6) sc_block_part.nd rfl (by first | exact Or.inl rfl | exact Or.inr rfl)) (pgs_nil)))) (g_tup [5, 6])) (ss_cons (s_asg (e_divmod g.divmod (a_cons (e_var 2) (a_cons (e_var 3) (a_nil)))) (pg_tl rfl (pgs_cons (pg_name (i := 7) sc_block_part.nd rfl (by first | exact Or.inl rfl | exact Or.inr rfl)) (pgs_cons (pg_name (i := 8) sc_block_part.nd rfl (by first | exact Or.inl rfl | exact Or.inr rfl)) (pgs_nil)))) (g_tup [7, 8])) (ss_cons (s_if (t_eq hr.units (e_var 5) (e_div (e_sub (e_var 2) (e_int)) (e_var 3))) (ss_one (s_ret (e_fz (f_lst (a_cons (e_tup (a_cons (e_slice (e_var 0) (o_some (e_var 6)) (o_some (e_sub (e_add (e_var 6) (e_var 2)) (e_var 1)))) (a_cons (e_int) (a_nil)))) (a_nil)))))) (ss_nil)) (ss_cons (s_own 4 sc_block_part.nd (f_lst (a_nil))) (ss_cons (s_if (t_gt (e_var 6) (e_int)) (ss_cons (s_app 4 (e_tup (a_cons (e_slice (e_var 0) (o_some (e_var 6)) (o_none)) (a_cons (e_int) (a_nil))))) (ss_one (s_aug 5 sc_block_part.nd (e_int) ip_add))) (ss_nil)) (ss_cons (s_if (t_gt (e_var 7) (e_var 5)) (ss_one (s_app 4 (e_tup (a_cons (e_var 0) (a_cons (e_sub (e_var 7) (e_var 5)) (a_nil)))))) (ss_nil)) (ss_cons (s_if (t_gt (e_var 8) (e_int)) (ss_one (s_app 4 (e_tup (a_cons (e_slice (e_var 0) (o_none) (o_some (e_var 8))) (a_cons (e_int) (a_nil)))))) (ss_nil)) (ss_one (s_ret (e_var 4))))))))))
theorem sc_part_of : FnScope ["blocks", "start", "stop", "found", "ahead", "marks", "times", "size", "low", "high"] ["blocks", "start", "stop"] (defScope (top 4)) := ⟨rfl, rfl, rfl, by decide +kernel, rfl, by decide +kernel, by decide +kernel⟩
theorem h_part_of (g : G0 mg) (d : DefAt K mg "part_of" (top 4)) (c_block_part : Has P w K mg base "block_part" 1 ["marks", "low", "high"] (spM K mg 3 f_block_part))    : Has P w K mg base "part_of" 2 ["blocks", "start", "stop"] (spM K mg 3 f_part_of) :=
  has_M (n := 1) d sc_part_of (fun _ _ _ _ _ _ us hl => match us, hl with | [_, _, _], _ => rfl) fun fa cdv B outs s0 H E hr hu po tk =>
    ss_cons (s_own 3 sc_part_of.nd (f_lst (a_nil))) (ss_cons (s_set 4 sc_part_of.nd (e_int)) (ss_cons (s_for po rfl (pi_seq (e_var 0)) i_seq (pg_tl rfl (pgs_cons (pg_name (i := 5) sc_part_of.nd rfl (by first | exact Or.inl rfl | exact Or.inr rfl)) (pgs_cons (pg_name (i := 6) sc_part_of.nd rfl (by first | exact Or.inl rfl | exact Or.inr rfl)) (pgs_nil)))) (g_tup [5, 6]) (ss_cons (s_set 7 sc_part_of.nd (e_mul (e_len g.len (a_cons (e_var 5) (a_nil))) (e_var 6))) (ss_cons (s_set 8 sc_part_of.nd (e_max2 rfl g.max (a_cons (e_sub (e_var 1) (e_var 4)) (a_cons (e_int) (a_nil))))) (ss_cons (s_set 9 sc_part_of.nd (e_min2 rfl g.min (a_cons (e_sub (e_var 2) (e_var 4)) (a_cons (e_var 7) (a_nil))))) (ss_cons (s_if (t_lt (e_var 8) (e_var 9)) (ss_one (s_ext 3 (e_callH c_block_part (hr.mono (by decide)) hu tk (ar_cons (ar_cons (ar_cons (ar_nil)))) (a_cons (e_var 5) (a_cons (e_var 8) (a_cons (e_var 9) (a_nil))))))) (ss_nil)) (ss_one (s_aug 4 sc_part_of.nd (e_var 7) ip_add))))))) (ss_one (s_ret (e_tuple g.tuple (a_cons (e_var 3) (a_nil)))))))
theorem sc_from_the_end : FnScope ["blocks", "marks", "times"] ["blocks"] (defScope (top 5)) := ⟨rfl, rfl, rfl, by decide +kernel, rfl, by decide +kernel, by decide +kernel⟩
theorem h_from_the_end (g : G0 mg) (d : DefAt K mg "from_the_end" (top 5))     : Has P w K mg base "from_the_end" 1 ["blocks"] (spM K mg 1 f_from_the_end) :=
  has_M (n := 0) d sc_from_the_end (fun _ _ _ _ _ _ us hl => match us, hl with | [_], _ => rfl) fun fa cdv B outs s0 H E hr hu po tk =>
    ss_one (s_ret (e_tuple g.tuple (a_cons (e_fz (f_lc (nms := [("marks", 1), ("times", 2)]) (by rfl) sc_from_the_end.nd (pi_seq (e_back (e_var 0))) i_seq (blkOk_by (own := [("marks", 1), ("times", 2)]) (N := ["blocks", "marks", "times"]) (sc := defScope (top 5)) (by decide +kernel)) (fun _ _ _ _ _ => pg_tl rfl (pgs_cons (pg_name (i := 1) sc_from_the_end.nd rfl (by first | exact Or.inl rfl | exact Or.inr rfl)) (pgs_cons (pg_name (i := 2) sc_from_the_end.nd rfl (by first | exact Or.inl rfl | exact Or.inr rfl)) (pgs_nil)))) (g_tup [1, 2]) (by decide) (fun _ _ _ _ _ => pts_nil) (fun _ _ _ h => t_yes h) (fun _ _ _ _ _ => e_tup (a_cons (e_back (e_var 1)) (a_cons (e_var 2) (a_nil)))))) (a_nil))))
theorem sc_unlike_offset : FnScope ["marks", "at", "other", "other_at", "many", "offset"] ["marks", "at", "other", "other_at", "many"] (defScope (top 6)) := ⟨rfl, rfl, rfl, by decide +kernel, rfl, by decide +kernel, by decide +kernel⟩
theorem h_unlike_offset (g : G0 mg) (d : DefAt K mg "unlike_offset" (top 6))     : Has P w K mg base "unlike_offset" 1 ["marks", "at", "other", "other_at", "many"] (spM K mg 5 f_unlike_offset) :=
  has_M (n := 0) d sc_unlike_offset (fun _ _ _ _ _ _ us hl => match us, hl with | [_, _, _, _, _], _ => rfl) fun fa cdv B outs s0 H E hr hu po tk =>
    ss_cons (s_for po rfl (pi_range1 (by rfl) g.range (a_cons (e_min2 rfl g.min (a_cons (e_var 4) (a_cons (e_add (e_len g.len (a_cons (e_var 0) (a_nil))) (e_len g.len (a_cons (e_var 2) (a_nil)))) (a_nil)))) (a_nil))) i_rng1 (pg_name (i := 5) sc_unlike_offset.nd rfl (by first | exact Or.inl rfl | exact Or.inr rfl)) (g_name 5) (ss_one (s_if (t_ne hr.units (e_ix (e_var 0) (e_mod (e_add (e_var 1) (e_var 5)) (e_len g.len (a_cons (e_var 0) (a_nil))))) (e_ix (e_var 2) (e_mod (e_add (e_var 3) (e_var 5)) (e_len g.len (a_cons (e_var 2) (a_nil)))))) (ss_one (s_ret (e_var 5))) (ss_nil)))) (ss_one (s_ret (e_non)))
theorem sc_first_parting : FnScope ["blocks", "other", "place", "one", "two", "done", "other_done", "size", "other_size", "many", "offset", "marks", "times", "other_marks", "other_times"] ["blocks", "other"] (defScope (top 7)) := ⟨rfl, rfl, rfl, by decide +kernel, rfl, by decide +kernel, by decide +kernel⟩
theorem h_first_parting (g : G0 mg) (d : DefAt K mg "first_parting" (top 7)) (c_unlike_offset : Has P w K mg base "unlike_offset" 1 ["marks", "at", "other", "other_at", "many"] (spM K mg 5 f_unlike_offset))    : Has P w K mg base "first_parting" 2 ["blocks", "other"] (spM K mg 2 f_first_parting) :=
  has_M (n := 1) d sc_first_parting (fun _ _ _ _ _ _ us hl => match us, hl with | [_, _], _ => rfl) fun fa cdv B outs s0 H E hr hu po tk =>
    ss_cons (s_set 2 sc_first_parting.nd (e_int)) (ss_cons (s_asg2 (e_int) (pg_name (i := 3) sc_first_parting.nd rfl (by first | exact Or.inl rfl | exact Or.inr rfl)) (pg_name (i := 4) sc_first_parting.nd rfl (by first | exact Or.inl rfl | exact Or.inr rfl)) (g_name 3) (g_name 4)) (ss_cons (s_asg2 (e_int) (pg_name (i := 5) sc_first_parting.nd rfl (by first | exact Or.inl rfl | exact Or.inr rfl)) (pg_name (i := 6) sc_first_parting.nd rfl (by first | exact Or.inl rfl | exact Or.inr rfl)) (g_name 5) (g_name 6)) (ss_cons (s_while 1000000 po ((t_and (t_lt (e_var 3) (e_len g.len (a_cons (e_var 0) (a_nil)))) (t_and1 (t_lt (e_var 4) (e_len g.len (a_cons (e_var 1) (a_nil)))))).pt) (ss_cons (s_asg (e_ix (e_var 0) (e_var 3)) (pg_tl rfl (pgs_cons (pg_name (i := 11) sc_first_parting.nd rfl (by first | exact Or.inl rfl | exact Or.inr rfl)) (pgs_cons (pg_name (i := 12) sc_first_parting.nd rfl (by first | exact Or.inl rfl | exact Or.inr rfl)) (pgs_nil)))) (g_tup [11, 12])) (ss_cons (s_asg (e_ix (e_var 1) (e_var 4)) (pg_tl rfl (pgs_cons (pg_name (i := 13) sc_first_parting.nd rfl (by first | exact Or.inl rfl | exact Or.inr rfl)) (pgs_cons (pg_name (i := 14) sc_first_parting.nd rfl (by first | exact Or.inl rfl | exact Or.inr rfl)) (pgs_nil)))) (g_tup [13, 14])) (ss_cons (s_set 7 sc_first_parting.nd (e_mul (e_len g.len (a_cons (e_var 11) (a_nil))) (e_var 12))) (ss_cons (s_set 8 sc_first_parting.nd (e_mul (e_len g.len (a_cons (e_var 13) (a_nil))) (e_var 14))) (ss_cons (s_set 9 sc_first_parting.nd (e_min2 rfl g.min (a_cons (e_sub (e_var 7) (e_var 5)) (a_cons (e_sub (e_var 8) (e_var 6)) (a_nil))))) (ss_cons (s_set 10 sc_first_parting.nd (e_callH c_unlike_offset (hr.mono (by decide)) hu tk (ar_cons (ar_cons (ar_cons (ar_cons (ar_cons (ar_nil)))))) (a_cons (e_var 11) (a_cons (e_var 5) (a_cons (e_var 13) (a_cons (e_var 6) (a_cons (e_var 9) (a_nil)))))))) (ss_cons (s_if (t_notN (e_var 10) (e_non)) (ss_one (s_ret (e_add (e_var 2) (e_var 10)))) (ss_nil)) (ss_cons (s_aug 2 sc_first_parting.nd (e_var 9) ip_add) (ss_cons (s_aug 5 sc_first_parting.nd (e_var 9) ip_add) (ss_cons (s_aug 6 sc_first_parting.nd (e_var 9) ip_add) (ss_cons (s_if (t_eq hr.units (e_var 5) (e_var 7)) (ss_cons (s_aug 3 sc_first_parting.nd (e_int) ip_add) (ss_one (s_set 5 sc_first_parting.nd (e_int)))) (ss_nil)) (ss_one (s_if (t_eq hr.units (e_var 6) (e_var 8)) (ss_cons (s_aug 4 sc_first_parting.nd (e_int) ip_add) (ss_one (s_set 6 sc_first_parting.nd (e_int)))) (ss_nil))))))))))))))) (ss_cons (s_if ((t_and (t_eq hr.units (e_var 3) (e_len g.len (a_cons (e_var 0) (a_nil)))) (t_and1 (t_eq hr.units (e_var 4) (e_len g.len (a_cons (e_var 1) (a_nil)))))).pt) (ss_one (s_ret (e_non))) (ss_nil)) (ss_one (s_ret (e_var 2)))))))
theorem sc_is_whole : FnScope ["value", "low", "high"] ["value", "low", "high"] (defScope (top 10)) := ⟨rfl, rfl, rfl, by decide +kernel, rfl, by decide +kernel, by decide +kernel⟩
theorem h_is_whole (g : G0 mg) (d : DefAt K mg "is_whole" (top 10))     : Has P w K mg base "is_whole" 1 ["value", "low", "high"] (spM K mg 3 f_is_whole) :=
  has_M (n := 0) d sc_is_whole (fun _ _ _ _ _ _ us hl => match us, hl with | [_, _, _], _ => rfl) fun fa cdv B outs s0 H E hr hu po tk =>
    ss_one (s_ret (e_and (e_tyIs meta_int g.type g.int boot_int (e_var 0)) (e_one (e_le_le (e_var 1) (e_var 0) (e_var 2)))))
theorem sc_is_tuple : FnScope ["value", "least", "most"] ["value", "least", "most"] (defScope (top 11)) := ⟨rfl, rfl, rfl, by decide +kernel, rfl, by decide +kernel, by decide +kernel⟩
theorem h_is_tuple (g : G0 mg) (d : DefAt K mg "is_tuple" (top 11))     : Has P w K mg base "is_tuple" 1 ["value", "least", "most"] (spM K mg 3 f_is_tuple) :=
  has_M (n := 0) d sc_is_tuple (fun _ _ _ _ _ _ us hl => match us, hl with | [_, _, _], _ => rfl) fun fa cdv B outs s0 H E hr hu po tk =>
    ss_one (s_ret (e_and (e_tyIs meta_tuple g.type g.tuple boot_tuple (e_var 0)) (e_one (e_le_le (e_var 1) (e_len g.len (a_cons (e_var 0) (a_nil))) (e_var 2)))))
theorem sc_are_whole : FnScope ["values", "low", "high", "value"] ["values", "low", "high"] (defScope (top 12)) := ⟨rfl, rfl, rfl, by decide +kernel, rfl, by decide +kernel, by decide +kernel⟩
theorem h_are_whole (g : G0 mg) (d : DefAt K mg "are_whole" (top 12))     : Has P w K mg base "are_whole" 1 ["values", "low", "high"] (spM K mg 3 f_are_whole) :=
  has_M (n := 0) d sc_are_whole (fun _ _ _ _ _ _ us hl => match us, hl with | [_, _, _], _ => rfl) fun fa cdv B outs s0 H E hr hu po tk =>
    ss_one (s_ret (e_all rfl g.all (a_cons (e_fz (f_lc (nms := [("value", 3)]) (by rfl) sc_are_whole.nd (pi_seq (e_var 0)) i_seq (blkOk_by (own := [("value", 3)]) (N := ["values", "low", "high", "value"]) (sc := defScope (top 12)) (by decide +kernel)) (fun _ _ _ _ _ => pg_name (i := 3) sc_are_whole.nd rfl (by first | exact Or.inl rfl | exact Or.inr rfl)) (g_name 3) (by decide) (fun _ _ _ _ _ => pts_nil) (fun _ _ _ h => t_yes h) (fun _ _ _ _ _ => e_and (e_tyIs meta_int g.type g.int boot_int (e_var 3)) (e_one (e_le_le (e_var 1) (e_var 3) (e_var 2)))))) (a_nil))))
theorem sc_is_block : FnScope ["value", "marks", "times"] ["value"] (defScope (top 13)) := ⟨rfl, rfl, rfl, by decide +kernel, rfl, by decide +kernel, by decide +kernel⟩
theorem h_is_block (g : G0 mg) (d : DefAt K mg "is_block" (top 13)) (c_is_tuple : Has P w K mg base "is_tuple" 1 ["value", "least", "most"] (spM K mg 3 f_is_tuple)) (c_are_whole : Has P w K mg base "are_whole" 1 ["values", "low", "high"] (spM K mg 3 f_are_whole)) (c_is_whole : Has P w K mg base "is_whole" 1 ["value", "low", "high"] (spM K mg 3 f_is_whole))    : Has P w K mg base "is_block" 2 ["value"] (spM K mg 1 f_is_block) :=
  has_M (n := 1) d sc_is_block (fun _ _ _ _ _ _ us hl => match us, hl with | [_], _ => rfl) fun fa cdv B outs s0 H E hr hu po tk =>
    ss_cons (s_if (t_not (t_val (e_callH c_is_tuple (hr.mono (by decide)) hu tk (ar_cons (ar_cons (ar_cons (ar_nil)))) (a_cons (e_var 0) (a_cons (e_int) (a_cons (e_int) (a_nil))))))) (ss_one (s_ret (e_bl))) (ss_nil)) (ss_cons (s_asg (e_var 0) (pg_tl rfl (pgs_cons (pg_name (i := 1) sc_is_block.nd rfl (by first | exact Or.inl rfl | exact Or.inr rfl)) (pgs_cons (pg_name (i := 2) sc_is_block.nd rfl (by first | exact Or.inl rfl | exact Or.inr rfl)) (pgs_nil)))) (g_tup [1, 2])) (ss_one (s_ret (e_and (e_callH c_is_tuple (hr.mono (by decide)) hu tk (ar_cons (ar_cons (ar_cons (ar_nil)))) (a_cons (e_var 1) (a_cons (e_int) (a_cons (e_int) (a_nil))))) (e_and (e_callH c_are_whole (hr.mono (by decide)) hu tk (ar_cons (ar_cons (ar_cons (ar_nil)))) (a_cons (e_var 1) (a_cons (e_int) (a_cons (e_int) (a_nil))))) (e_one (e_callH c_is_whole (hr.mono (by decide)) hu tk (ar_cons (ar_cons (ar_cons (ar_nil)))) (a_cons (e_var 2) (a_cons (e_int) (a_cons (e_gint g.MOST_TIMES) (a_nil)))))))))))
theorem sc_need_entry : FnScope ["row", "place"] ["row", "place"] (defScope (top 20)) := ⟨rfl, rfl, rfl, by decide +kernel, rfl, by decide +kernel, by decide +kernel⟩
theorem h_need_entry (g : G0 mg) (d : DefAt K mg "need_entry" (top 20)) (c_entry_count : Has P w K mg base "entry_count" 1 ["blocks"] (spM K mg 1 f_entry_count)) (c_is_whole : Has P w K mg base "is_whole" 1 ["value", "low", "high"] (spM K mg 3 f_is_whole))  {C_BadPlace fI_BadPlace : Addr} {fd_BadPlace : FuncData} {ps_BadPlace : List Str} (e_BadPlace : Err1 P w K mg base "BadPlace" "place" C_BadPlace fI_BadPlace fd_BadPlace ps_BadPlace)  : Has P w K mg base "need_entry" 3 ["row", "place"] (spM K mg 2 f_need_entry) :=
  has_M (n := 2) d sc_need_entry (fun _ _ _ _ _ _ us hl => match us, hl with | [_, _], _ => rfl) fun fa cdv B outs s0 H E hr hu po tk =>
    ss_one (s_if (t_not (t_val (e_callH c_is_whole (hr.mono (by decide)) hu tk (ar_cons (ar_cons (ar_cons (ar_nil)))) (a_cons (e_var 1) (a_cons (e_int) (a_cons (e_sub (e_callH c_entry_count (hr.mono (by decide)) hu tk (ar_cons (ar_nil)) (a_cons (e_var 0) (a_nil))) (e_int)) (a_nil))))))) (ss_one (s_raise1 rfl e_BadPlace (hr.mono (by decide)) tk (e_var 1))) (ss_nil))
theorem sc_need_border : FnScope ["row", "place"] ["row", "place"] (defScope (top 21)) := ⟨rfl, rfl, rfl, by decide +kernel, rfl, by decide +kernel, by decide +kernel⟩
theorem h_need_border (g : G0 mg) (d : DefAt K mg "need_border" (top 21)) (c_entry_count : Has P w K mg base "entry_count" 1 ["blocks"] (spM K mg 1 f_entry_count)) (c_is_whole : Has P w K mg base "is_whole" 1 ["value", "low", "high"] (spM K mg 3 f_is_whole))  {C_BadPlace fI_BadPlace : Addr} {fd_BadPlace : FuncData} {ps_BadPlace : List Str} (e_BadPlace : Err1 P w K mg base "BadPlace" "place" C_BadPlace fI_BadPlace fd_BadPlace ps_BadPlace)  : Has P w K mg base "need_border" 3 ["row", "place"] (spM K mg 2 f_need_border) :=
  has_M (n := 2) d sc_need_border (fun _ _ _ _ _ _ us hl => match us, hl with | [_, _], _ => rfl) fun fa cdv B outs s0 H E hr hu po tk =>
    ss_one (s_if (t_not (t_val (e_callH c_is_whole (hr.mono (by decide)) hu tk (ar_cons (ar_cons (ar_cons (ar_nil)))) (a_cons (e_var 1) (a_cons (e_int) (a_cons (e_callH c_entry_count (hr.mono (by decide)) hu tk (ar_cons (ar_nil)) (a_cons (e_var 0) (a_nil))) (a_nil))))))) (ss_one (s_raise1 rfl e_BadPlace (hr.mono (by decide)) tk (e_var 1))) (ss_nil))
theorem sc_need_row : FnScope ["row", "place", "block"] ["row"] (defScope (top 24)) := ⟨rfl, rfl, rfl, by decide +kernel, rfl, by decide +kernel, by decide +kernel⟩
theorem h_need_row (g : G0 mg) (d : DefAt K mg "need_row" (top 24)) (c_is_tuple : Has P w K mg base "is_tuple" 1 ["value", "least", "most"] (spM K mg 3 f_is_tuple)) (c_is_block : Has P w K mg base "is_block" 2 ["value"] (spM K mg 1 f_is_block))  {C_BadRow fI_BadRow : Addr} {fd_BadRow : FuncData} {ps_BadRow : List Str} (e_BadRow : Err1 P w K mg base "BadRow" "place" C_BadRow fI_BadRow fd_BadRow ps_BadRow)  : Has P w K mg base "need_row" 3 ["row"] (spM K mg 1 f_need_row) :=
  has_M (n := 2) d sc_need_row (fun _ _ _ _ _ _ us hl => match us, hl with | [_], _ => rfl) fun fa cdv B outs s0 H E hr hu po tk =>
    ss_cons (s_if (t_not (t_val (e_callH c_is_tuple (hr.mono (by decide)) hu tk (ar_cons (ar_cons (ar_cons (ar_nil)))) (a_cons (e_var 0) (a_cons (e_int) (a_cons (e_gint g.MOST_BLOCKS) (a_nil))))))) (ss_one (s_raise1 rfl e_BadRow (hr.mono (by decide)) tk (e_non))) (ss_nil)) (ss_cons (s_for po rfl (pi_enT (by rfl) g.enumerate (a_cons (e_var 0) (a_nil))) i_enT (pg_tl rfl (pgs_cons (pg_name (i := 1) sc_need_row.nd rfl (by first | exact Or.inl rfl | exact Or.inr rfl)) (pgs_cons (pg_name (i := 2) sc_need_row.nd rfl (by first | exact Or.inl rfl | exact Or.inr rfl)) (pgs_nil)))) (g_tup [1, 2]) (ss_one (s_if (t_not (t_val (e_callH c_is_block (hr.mono (by decide)) hu tk (ar_cons (ar_nil)) (a_cons (e_var 2) (a_nil))))) (ss_one (s_raise1 rfl e_BadRow (hr.mono (by decide)) tk (e_var 1))) (ss_nil)))) (ss_one (s_ret (e_var 0))))
theorem sc_length_of : FnScope ["row"] ["row"] (defScope (top 25)) := ⟨rfl, rfl, rfl, by decide +kernel, rfl, by decide +kernel, by decide +kernel⟩
theorem h_length_of (g : G0 mg) (d : DefAt K mg "length_of" (top 25)) (c_need_row : Has P w K mg base "need_row" 3 ["row"] (spM K mg 1 f_need_row)) (c_entry_count : Has P w K mg base "entry_count" 1 ["blocks"] (spM K mg 1 f_entry_count))    : Has P w K mg base "length_of" 4 ["row"] (spM K mg 1 f_length_of) :=
  has_M (n := 3) d sc_length_of (fun _ _ _ _ _ _ us hl => match us, hl with | [_], _ => rfl) fun fa cdv B outs s0 H E hr hu po tk =>
    ss_cons (s_drop (e_callH c_need_row (hr.mono (by decide)) hu tk (ar_cons (ar_nil)) (a_cons (e_var 0) (a_nil)))) (ss_one (s_ret (e_callH c_entry_count (hr.mono (by decide)) hu tk (ar_cons (ar_nil)) (a_cons (e_var 0) (a_nil)))))
theorem sc_mark_at : FnScope ["row", "place"] ["row", "place"] (defScope (top 26)) := ⟨rfl, rfl, rfl, by decide +kernel, rfl, by decide +kernel, by decide +kernel⟩
theorem h_mark_at (g : G0 mg) (d : DefAt K mg "mark_at" (top 26)) (c_need_row : Has P w K mg base "need_row" 3 ["row"] (spM K mg 1 f_need_row)) (c_need_entry : Has P w K mg base "need_entry" 3 ["row", "place"] (spM K mg 2 f_need_entry)) (c_entry_mark : Has P w K mg base "entry_mark" 1 ["blocks", "place"] (spM K mg 2 f_entry_mark))    : Has P w K mg base "mark_at" 4 ["row", "place"] (spM K mg 2 f_mark_at) :=
  has_M (n := 3) d sc_mark_at (fun _ _ _ _ _ _ us hl => match us, hl with | [_, _], _ => rfl) fun fa cdv B outs s0 H E hr hu po tk =>
    ss_cons (s_drop (e_callH c_need_row (hr.mono (by decide)) hu tk (ar_cons (ar_nil)) (a_cons (e_var 0) (a_nil)))) (ss_cons (s_drop (e_callH c_need_entry (hr.mono (by decide)) hu tk (ar_cons (ar_cons (ar_nil))) (a_cons (e_var 0) (a_cons (e_var 1) (a_nil))))) (ss_one (s_ret (e_callH c_entry_mark (hr.mono (by decide)) hu tk (ar_cons (ar_cons (ar_nil))) (a_cons (e_var 0) (a_cons (e_var 1) (a_nil)))))))
theorem sc_few_blocks : FnScope ["blocks"] ["blocks"] (defScope (top 28)) := ⟨rfl, rfl, rfl, by decide +kernel, rfl, by decide +kernel, by decide +kernel⟩
theorem h_few_blocks (g : G0 mg) (d : DefAt K mg "few_blocks" (top 28))   {C_TooGreat fI_TooGreat : Addr} {fd_TooGreat : FuncData} {ps_TooGreat : List Str} (e_TooGreat : Err1 P w K mg base "TooGreat" "most" C_TooGreat fI_TooGreat fd_TooGreat ps_TooGreat)  : Has P w K mg base "few_blocks" 3 ["blocks"] (spM K mg 1 f_few_blocks) :=
  has_M (n := 2) d sc_few_blocks (fun _ _ _ _ _ _ us hl => match us, hl with | [_], _ => rfl) fun fa cdv B outs s0 H E hr hu po tk =>
    ss_cons (s_if (t_gt (e_len g.len (a_cons (e_var 0) (a_nil))) (e_gint g.MOST_BLOCKS)) (ss_one (s_raise1 rfl e_TooGreat (hr.mono (by decide)) tk (e_gint g.MOST_BLOCKS))) (ss_nil)) (ss_one (s_ret (e_var 0)))
theorem sc_cut_out : FnScope ["row", "start", "stop"] ["row", "start", "stop"] (defScope (top 29)) := ⟨rfl, rfl, rfl, by decide +kernel, rfl, by decide +kernel, by decide +kernel⟩
theorem h_cut_out (g : G0 mg) (d : DefAt K mg "cut_out" (top 29)) (c_need_row : Has P w K mg base "need_row" 3 ["row"] (spM K mg 1 f_need_row)) (c_need_border : Has P w K mg base "need_border" 3 ["row", "place"] (spM K mg 2 f_need_border)) (c_entry_count : Has P w K mg base "entry_count" 1 ["blocks"] (spM K mg 1 f_entry_count)) (c_is_whole : Has P w K mg base "is_whole" 1 ["value", "low", "high"] (spM K mg 3 f_is_whole)) (c_part_of : Has P w K mg base "part_of" 2 ["blocks", "start", "stop"] (spM K mg 3 f_part_of)) (c_few_blocks : Has P w K mg base "few_blocks" 3 ["blocks"] (spM K mg 1 f_few_blocks))  {C_BadPlace fI_BadPlace : Addr} {fd_BadPlace : FuncData} {ps_BadPlace : List Str} (e_BadPlace : Err1 P w K mg base "BadPlace" "place" C_BadPlace fI_BadPlace fd_BadPlace ps_BadPlace)  : Has P w K mg base "cut_out" 4 ["row", "start", "stop"] (spM K mg 3 f_cut_out) :=
  has_M (n := 3) d sc_cut_out (fun _ _ _ _ _ _ us hl => match us, hl with | [_, _, _], _ => rfl) fun fa cdv B outs s0 H E hr hu po tk =>
    ss_cons (s_drop (e_callH c_need_row (hr.mono (by decide)) hu tk (ar_cons (ar_nil)) (a_cons (e_var 0) (a_nil)))) (ss_cons (s_drop (e_callH c_need_border (hr.mono (by decide)) hu tk (ar_cons (ar_cons (ar_nil))) (a_cons (e_var 0) (a_cons (e_var 1) (a_nil))))) (ss_cons (s_if (t_not (t_val (e_callH c_is_whole (hr.mono (by decide)) hu tk (ar_cons (ar_cons (ar_cons (ar_nil)))) (a_cons (e_var 2) (a_cons (e_var 1) (a_cons (e_callH c_entry_count (hr.mono (by decide)) hu tk (ar_cons (ar_nil)) (a_cons (e_var 0) (a_nil))) (a_nil))))))) (ss_one (s_raise1 rfl e_BadPlace (hr.mono (by decide)) tk (e_var 2))) (ss_nil)) (ss_one (s_ret (e_callH c_few_blocks (hr.mono (by decide)) hu tk (ar_cons (ar_nil)) (a_cons (e_callH c_part_of (hr.mono (by decide)) hu tk (ar_cons (ar_cons (ar_cons (ar_nil)))) (a_cons (e_var 0) (a_cons (e_var 1) (a_cons (e_var 2) (a_nil))))) (a_nil)))))))
theorem sc_rows_joined : FnScope ["row", "other_row"] ["row", "other_row"] (defScope (top 30)) := ⟨rfl, rfl, rfl, by decide +kernel, rfl, by decide +kernel, by decide +kernel⟩
theorem h_rows_joined (g : G0 mg) (d : DefAt K mg "rows_joined" (top 30)) (c_need_row : Has P w K mg base "need_row" 3 ["row"] (spM K mg 1 f_need_row)) (c_few_blocks : Has P w K mg base "few_blocks" 3 ["blocks"] (spM K mg 1 f_few_blocks))    : Has P w K mg base "rows_joined" 4 ["row", "other_row"] (spM K mg 2 f_rows_joined) :=
  has_M (n := 3) d sc_rows_joined (fun _ _ _ _ _ _ us hl => match us, hl with | [_, _], _ => rfl) fun fa cdv B outs s0 H E hr hu po tk =>
    ss_cons (s_drop (e_callH c_need_row (hr.mono (by decide)) hu tk (ar_cons (ar_nil)) (a_cons (e_var 0) (a_nil)))) (ss_cons (s_drop (e_callH c_need_row (hr.mono (by decide)) hu tk (ar_cons (ar_nil)) (a_cons (e_var 1) (a_nil)))) (ss_one (s_ret (e_callH c_few_blocks (hr.mono (by decide)) hu tk (ar_cons (ar_nil)) (a_cons (e_add (e_var 0) (e_var 1)) (a_nil))))))
theorem sc_turned_about : FnScope ["row"] ["row"] (defScope (top 31)) := ⟨rfl, rfl, rfl, by decide +kernel, rfl, by decide +kernel, by decide +kernel⟩
theorem h_turned_about (g : G0 mg) (d : DefAt K mg "turned_about" (top 31)) (c_need_row : Has P w K mg base "need_row" 3 ["row"] (spM K mg 1 f_need_row)) (c_from_the_end : Has P w K mg base "from_the_end" 1 ["blocks"] (spM K mg 1 f_from_the_end))    : Has P w K mg base "turned_about" 4 ["row"] (spM K mg 1 f_turned_about) :=
  has_M (n := 3) d sc_turned_about (fun _ _ _ _ _ _ us hl => match us, hl with | [_], _ => rfl) fun fa cdv B outs s0 H E hr hu po tk =>
    ss_cons (s_drop (e_callH c_need_row (hr.mono (by decide)) hu tk (ar_cons (ar_nil)) (a_cons (e_var 0) (a_nil)))) (ss_one (s_ret (e_callH c_from_the_end (hr.mono (by decide)) hu tk (ar_cons (ar_nil)) (a_cons (e_var 0) (a_nil)))))
theorem sc_read_alike : FnScope ["row", "other_row"] ["row", "other_row"] (defScope (top 33)) := ⟨rfl, rfl, rfl, by decide +kernel, rfl, by decide +kernel, by decide +kernel⟩
theorem h_read_alike (g : G0 mg) (d : DefAt K mg "read_alike" (top 33)) (c_need_row : Has P w K mg base "need_row" 3 ["row"] (spM K mg 1 f_need_row)) (c_first_parting : Has P w K mg base "first_parting" 2 ["blocks", "other"] (spM K mg 2 f_first_parting))    : Has P w K mg base "read_alike" 4 ["row", "other_row"] (spM K mg 2 f_read_alike) :=
  has_M (n := 3) d sc_read_alike (fun _ _ _ _ _ _ us hl => match us, hl with | [_, _], _ => rfl) fun fa cdv B outs s0 H E hr hu po tk =>
    ss_cons (s_drop (e_callH c_need_row (hr.mono (by decide)) hu tk (ar_cons (ar_nil)) (a_cons (e_var 0) (a_nil)))) (ss_cons (s_drop (e_callH c_need_row (hr.mono (by decide)) hu tk (ar_cons (ar_nil)) (a_cons (e_var 1) (a_nil)))) (ss_one (s_ret (e_isN (e_callH c_first_parting (hr.mono (by decide)) hu tk (ar_cons (ar_cons (ar_nil))) (a_cons (e_var 0) (a_cons (e_var 1) (a_nil)))) (e_non)))))
theorem sc__law_mixed : FnScope ["cell", "n", "blend"] ["cell", "n"] (defScope (top 35)) := ⟨rfl, rfl, rfl, by decide +kernel, rfl, by decide +kernel, by decide +kernel⟩
theorem h__law_mixed (g : G0 mg) (d : DefAt K mg "_law_mixed" (top 35))     : Has P w K mg base "_law_mixed" 1 ["cell", "n"] (spM K mg 2 f__law_mixed) :=
  has_M (n := 0) d sc__law_mixed (fun _ _ _ _ _ _ us hl => match us, hl with | [_, _], _ => rfl) fun fa cdv B outs s0 H E hr hu po tk =>
    ss_cons (s_set 2 sc__law_mixed.nd (e_add (e_add (e_mod (e_int1 g.int (a_cons (e_mul (e_mul (e_var 0) (e_add (e_int) (e_mul (e_int) (e_var 1)))) (e_int)) (a_nil))) (e_int)) (e_mul (e_mul (e_int) (e_var 1)) (e_var 1))) (e_mul (e_int) (e_var 1)))) (ss_one (s_ret (e_div (e_mod (e_int1 g.int (a_cons (e_mul (e_var 2) (e_int)) (a_nil))) (e_int)) (e_int))))
theorem sc__law_like : FnScope ["got", "due"] ["got", "due"] (defScope (top 39)) := ⟨rfl, rfl, rfl, by decide +kernel, rfl, by decide +kernel, by decide +kernel⟩
theorem h__law_like (g : G0 mg) (d : DefAt K mg "_law_like" (top 39))     : Has P w K mg base "_law_like" 1 ["got", "due"] (spM K mg 2 f__law_like) :=
  has_M (n := 0) d sc__law_like (fun _ _ _ _ _ _ us hl => match us, hl with | [_, _], _ => rfl) fun fa cdv B outs s0 H E hr hu po tk =>
    ss_one (s_ret (e_eq hr.units (e_repr hr.units hu g.repr (a_cons (e_var 0) (a_nil))) (e_repr hr.units hu g.repr (a_cons (e_var 1) (a_nil)))))
theorem sc__law_of : FnScope ["m", "some"] ["m", "some"] (defScope (top 40)) := ⟨rfl, rfl, rfl, by decide +kernel, rfl, by decide +kernel, by decide +kernel⟩
theorem h__law_of (g : G0 mg) (d : DefAt K mg "_law_of" (top 40)) (c__law_draw : Has P w K mg base "_law_draw" 2 ["m", "limit"] (spM K mg 2 f__law_draw))    : Has P w K mg base "_law_of" 3 ["m", "some"] (spM K mg 2 f__law_of) :=
  has_M (n := 2) d sc__law_of (fun _ _ _ _ _ _ us hl => match us, hl with | [_, _], _ => rfl) fun fa cdv B outs s0 H E hr hu po tk =>
    ss_one (s_ret (e_ix (e_var 1) (e_callH c__law_draw (hr.mono (by decide)) hu tk (ar_cons (ar_cons (ar_nil))) (a_cons (e_var 0) (a_cons (e_len g.len (a_cons (e_var 1) (a_nil))) (a_nil))))))
theorem sc__law_tens : FnScope ["times", "found", "turn"] ["times"] (defScope (top 41)) := ⟨rfl, rfl, rfl, by decide +kernel, rfl, by decide +kernel, by decide +kernel⟩
theorem h__law_tens (g : G0 mg) (d : DefAt K mg "_law_tens" (top 41))     : Has P w K mg base "_law_tens" 1 ["times"] (spM K mg 1 f__law_tens) :=
  has_M (n := 0) d sc__law_tens (fun _ _ _ _ _ _ us hl => match us, hl with | [_], _ => rfl) fun fa cdv B outs s0 H E hr hu po tk =>
    ss_cons (s_set 1 sc__law_tens.nd (e_int)) (ss_cons (s_for po rfl (pi_range1 (by rfl) g.range (a_cons (e_var 0) (a_nil))) i_rng1 (pg_name (i := 2) sc__law_tens.nd rfl (by first | exact Or.inl rfl | exact Or.inr rfl)) (g_name 2) (ss_one (s_set 1 sc__law_tens.nd (e_mul (e_var 1) (e_int))))) (ss_one (s_ret (e_var 1))))
theorem sc__law_times : FnScope ["m", "found", "turn"] ["m"] (defScope (top 42)) := ⟨rfl, rfl, rfl, by decide +kernel, rfl, by decide +kernel, by decide +kernel⟩
theorem h__law_times (g : G0 mg) (d : DefAt K mg "_law_times" (top 42)) (c__law_draw : Has P w K mg base "_law_draw" 2 ["m", "limit"] (spM K mg 2 f__law_draw)) (c__law_tens : Has P w K mg base "_law_tens" 1 ["times"] (spM K mg 1 f__law_tens))    : Has P w K mg base "_law_times" 3 ["m"] (spM K mg 1 f__law_times) :=
  has_M (n := 2) d sc__law_times (fun _ _ _ _ _ _ us hl => match us, hl with | [_], _ => rfl) fun fa cdv B outs s0 H E hr hu po tk =>
    ss_cons (s_if (t_eq hr.units (e_callH c__law_draw (hr.mono (by decide)) hu tk (ar_cons (ar_cons (ar_nil))) (a_cons (e_var 0) (a_cons (e_int) (a_nil)))) (e_int)) (ss_one (s_ret (e_add (e_int) (e_callH c__law_draw (hr.mono (by decide)) hu tk (ar_cons (ar_cons (ar_nil))) (a_cons (e_var 0) (a_cons (e_int) (a_nil))))))) (ss_nil)) (ss_cons (s_set 1 sc__law_times.nd (e_int)) (ss_cons (s_for po rfl (pi_range1 (by rfl) g.range (a_cons (e_int) (a_nil))) i_rng1 (pg_name (i := 2) sc__law_times.nd rfl (by first | exact Or.inl rfl | exact Or.inr rfl)) (g_name 2) (ss_one (s_set 1 sc__law_times.nd (e_add (e_mul (e_var 1) (e_int)) (e_callH c__law_draw (hr.mono (by decide)) hu tk (ar_cons (ar_cons (ar_nil))) (a_cons (e_var 0) (a_cons (e_int) (a_nil)))))))) (ss_one (s_ret (e_add (e_int) (e_mod (e_int1 g.int (a_cons (e_var 1) (a_nil))) (e_callH c__law_tens (hr.mono (by decide)) hu tk (ar_cons (ar_nil)) (a_cons (e_add (e_int) (e_callH c__law_draw (hr.mono (by decide)) hu tk (ar_cons (ar_cons (ar_nil))) (a_cons (e_var 0) (a_cons (e_int) (a_nil))))) (a_nil)))))))))
theorem sc__law_wide_row : FnScope ["m", "many", "most", "found", "turn", "size", "spot"] ["m", "many", "most"] (defScope (top 43)) := ⟨rfl, rfl, rfl, by decide +kernel, rfl, by decide +kernel, by decide +kernel⟩
theorem h__law_wide_row (g : G0 mg) (d : DefAt K mg "_law_wide_row" (top 43)) (c__law_draw : Has P w K mg base "_law_draw" 2 ["m", "limit"] (spM K mg 2 f__law_draw)) (c__law_times : Has P w K mg base "_law_times" 3 ["m"] (spM K mg 1 f__law_times))    : Has P w K mg base "_law_wide_row" 4 ["m", "many", "most"] (spM K mg 3 f__law_wide_row) :=
  has_M (n := 3) d sc__law_wide_row (fun _ _ _ _ _ _ us hl => match us, hl with | [_, _, _], _ => rfl) fun fa cdv B outs s0 H E hr hu po tk =>
    ss_cons (s_own 3 sc__law_wide_row.nd (f_lst (a_nil))) (ss_cons (s_for po rfl (pi_range1 (by rfl) g.range (a_cons (e_add (e_int) (e_callH c__law_draw (hr.mono (by decide)) hu tk (ar_cons (ar_cons (ar_nil))) (a_cons (e_var 0) (a_cons (e_var 2) (a_nil))))) (a_nil))) i_rng1 (pg_name (i := 4) sc__law_wide_row.nd rfl (by first | exact Or.inl rfl | exact Or.inr rfl)) (g_name 4) (ss_cons (s_set 5 sc__law_wide_row.nd (e_add (e_int) (e_callH c__law_draw (hr.mono (by decide)) hu tk (ar_cons (ar_cons (ar_nil))) (a_cons (e_var 0) (a_cons (e_if (t_eq hr.units (e_callH c__law_draw (hr.mono (by decide)) hu tk (ar_cons (ar_cons (ar_nil))) (a_cons (e_var 0) (a_cons (e_int) (a_nil)))) (e_int)) (e_int) (e_int)) (a_nil)))))) (ss_one (s_app 3 (e_tup (a_cons (e_tuple g.tuple (a_cons (e_fz (f_lc (nms := [("spot", 6)]) (by rfl) sc__law_wide_row.nd (pi_range1 (by rfl) g.range (a_cons (e_var 5) (a_nil))) i_rng1 (blkOk_by (own := [("spot", 6)]) (N := ["m", "many", "most", "found", "turn", "size", "spot"]) (sc := defScope (top 43)) (by decide +kernel)) (fun _ _ _ _ _ => pg_name (i := 6) sc__law_wide_row.nd rfl (by first | exact Or.inl rfl | exact Or.inr rfl)) (g_name 6) (by decide) (fun _ _ _ _ _ => pts_nil) (fun _ _ _ h => t_yes h) (fun _ _ _ _ _ => e_callH c__law_draw (hr.mono (by decide)) hu takes0 (ar_cons (ar_cons (ar_nil))) (a_cons (e_var 0) (a_cons (e_var 1) (a_nil)))))) (a_nil))) (a_cons (e_callH c__law_times (hr.mono (by decide)) hu tk (ar_cons (ar_nil)) (a_cons (e_var 0) (a_nil))) (a_nil)))))))) (ss_one (s_ret (e_tuple g.tuple (a_cons (e_var 3) (a_nil))))))
theorem sc__law_size : FnScope ["row", "marks", "times"] ["row"] (defScope (top 44)) := ⟨rfl, rfl, rfl, by decide +kernel, rfl, by decide +kernel, by decide +kernel⟩
theorem h__law_size (g : G0 mg) (d : DefAt K mg "_law_size" (top 44))     : Has P w K mg base "_law_size" 1 ["row"] (spM K mg 1 f__law_size) :=
  has_M (n := 0) d sc__law_size (fun _ _ _ _ _ _ us hl => match us, hl with | [_], _ => rfl) fun fa cdv B outs s0 H E hr hu po tk =>
    ss_one (s_ret (e_sum rfl g.sum (a_cons (e_fz (f_lc (nms := [("marks", 1), ("times", 2)]) (by rfl) sc__law_size.nd (pi_seq (e_var 0)) i_seq (blkOk_by (own := [("marks", 1), ("times", 2)]) (N := ["row", "marks", "times"]) (sc := defScope (top 44)) (by decide +kernel)) (fun _ _ _ _ _ => pg_tl rfl (pgs_cons (pg_name (i := 1) sc__law_size.nd rfl (by first | exact Or.inl rfl | exact Or.inr rfl)) (pgs_cons (pg_name (i := 2) sc__law_size.nd rfl (by first | exact Or.inl rfl | exact Or.inr rfl)) (pgs_nil)))) (g_tup [1, 2]) (by decide) (fun _ _ _ _ _ => pts_nil) (fun _ _ _ h => t_yes h) (fun _ _ _ _ _ => e_mul (e_len g.len (a_cons (e_var 1) (a_nil))) (e_var 2)))) (a_nil))))
theorem sc__law_mark : FnScope ["row", "place", "marks", "times"] ["row", "place"] (defScope (top 45)) := ⟨rfl, rfl, rfl, by decide +kernel, rfl, by decide +kernel, by decide +kernel⟩
theorem h__law_mark (g : G0 mg) (d : DefAt K mg "_law_mark" (top 45))     : Has P w K mg base "_law_mark" 1 ["row", "place"] (spM K mg 2 f__law_mark) :=
  has_M (n := 0) d sc__law_mark (fun _ _ _ _ _ _ us hl => match us, hl with | [_, _], _ => rfl) fun fa cdv B outs s0 H E hr hu po tk =>
    ss_cons (s_for po rfl (pi_seq (e_var 0)) i_seq (pg_tl rfl (pgs_cons (pg_name (i := 2) sc__law_mark.nd rfl (by first | exact Or.inl rfl | exact Or.inr rfl)) (pgs_cons (pg_name (i := 3) sc__law_mark.nd rfl (by first | exact Or.inl rfl | exact Or.inr rfl)) (pgs_nil)))) (g_tup [2, 3]) (ss_cons (s_if (t_lt (e_var 1) (e_mul (e_len g.len (a_cons (e_var 2) (a_nil))) (e_var 3))) (ss_one (s_ret (e_ix (e_var 2) (e_mod (e_int1 g.int (a_cons (e_var 1) (a_nil))) (e_len g.len (a_cons (e_var 2) (a_nil))))))) (ss_nil)) (ss_one (s_set 1 sc__law_mark.nd (e_sub (e_var 1) (e_mul (e_len g.len (a_cons (e_var 2) (a_nil))) (e_var 3))))))) (ss_one (s_ret (e_non)))
theorem sc__law_piece : FnScope ["row", "begin", "end", "found", "at", "marks", "times", "size", "low", "high", "skip", "rest", "pieces", "piece"] ["row", "begin", "end"] (defScope (top 46)) := ⟨rfl, rfl, rfl, by decide +kernel, rfl, by decide +kernel, by decide +kernel⟩
theorem h__law_piece (g : G0 mg) (d : DefAt K mg "_law_piece" (top 46))     : Has P w K mg base "_law_piece" 1 ["row", "begin", "end"] (spM K mg 3 f__law_piece) :=
  has_M (n := 0) d sc__law_piece (fun _ _ _ _ _ _ us hl => match us, hl with | [_, _, _], _ => rfl) fun fa cdv B outs s0 H E hr hu po tk =>
    ss_cons (s_parO 3 4 rfl sc__law_piece.nd (by decide) (f_lst (a_nil)) (e_int)) (ss_cons (s_for po rfl (pi_seq (e_var 0)) i_seq (pg_tl rfl (pgs_cons (pg_name (i := 5) sc__law_piece.nd rfl (by first | exact Or.inl rfl | exact Or.inr rfl)) (pgs_cons (pg_name (i := 6) sc__law_piece.nd rfl (by first | exact Or.inl rfl | exact Or.inr rfl)) (pgs_nil)))) (g_tup [5, 6]) (ss_cons (s_set 7 sc__law_piece.nd (e_len g.len (a_cons (e_var 5) (a_nil)))) (ss_cons (s_par 8 9 rfl sc__law_piece.nd (by decide) (e_sub (e_max2 rfl g.max (a_cons (e_var 1) (a_cons (e_var 4) (a_nil)))) (e_var 4)) (e_sub (e_min2 rfl g.min (a_cons (e_var 2) (a_cons (e_add (e_var 4) (e_mul (e_var 7) (e_var 6))) (a_nil)))) (e_var 4))) (ss_cons (s_set 4 sc__law_piece.nd (e_add (e_var 4) (e_mul (e_var 7) (e_var 6)))) (ss_cons (s_par 10 11 rfl sc__law_piece.nd (by decide) (e_mod (e_int1 g.int (a_cons (e_var 8) (a_nil))) (e_var 7)) (e_mod (e_int1 g.int (a_cons (e_var 9) (a_nil))) (e_var 7))) (ss_one (s_if ((t_and (t_lt (e_var 8) (e_var 9)) (t_and1 (t_eq hr.units (e_div (e_var 8) (e_var 7)) (e_div (e_sub (e_var 9) (e_int)) (e_var 7))))).pt) (ss_one (s_app 3 (e_tup (a_cons (e_slice (e_var 5) (o_some (e_var 10)) (o_some (e_sub (e_add (e_var 10) (e_var 9)) (e_var 8)))) (a_cons (e_int) (a_nil)))))) (ss_one (s_if (t_lt (e_var 8) (e_var 9)) (ss_cons (s_set 12 sc__law_piece.nd (e_fz (f_lst (a_cons (e_tup (a_cons (e_slice (e_var 5) (o_some (e_var 10)) (o_none)) (a_cons (e_int1 g.int (a_cons (e_gt (e_var 10) (e_int)) (a_nil))) (a_nil)))) (a_cons (e_tup (a_cons (e_var 5) (a_cons (e_sub (e_div (e_var 9) (e_var 7)) (e_div (e_sub (e_add (e_var 8) (e_var 7)) (e_int)) (e_var 7))) (a_nil)))) (a_nil)))))) (ss_one (s_own 3 sc__law_piece.nd (f_cat (e_var 3) (e_fz (f_lc (nms := [("piece", 13)]) (by rfl) sc__law_piece.nd (pi_seq (e_add (e_var 12) (e_fz (f_lst (a_cons (e_tup (a_cons (e_slice (e_var 5) (o_none) (o_some (e_var 11))) (a_cons (e_int1 g.int (a_cons (e_gt (e_var 11) (e_int)) (a_nil))) (a_nil)))) (a_nil)))))) i_seq (blkOk_by (own := [("piece", 13)]) (N := ["row", "begin", "end", "found", "at", "marks", "times", "size", "low", "high", "skip", "rest", "pieces", "piece"]) (sc := defScope (top 46)) (by decide +kernel)) (fun _ _ _ _ _ => pg_name (i := 13) sc__law_piece.nd rfl (by first | exact Or.inl rfl | exact Or.inr rfl)) (g_name 13) (by decide) (fun _ _ _ _ _ => pts_one (t_gt (e_ix (e_var 13) (e_int)) (e_int))) (fun _ _ _ h => h) (fun _ _ _ _ _ => e_var 13))))))) (ss_nil)))))))))) (ss_one (s_ret (e_tuple g.tuple (a_cons (e_var 3) (a_nil))))))
theorem sc__law_below : FnScope ["m", "limit", "found", "turn"] ["m", "limit"] (defScope (top 47)) := ⟨rfl, rfl, rfl, by decide +kernel, rfl, by decide +kernel, by decide +kernel⟩
theorem h__law_below (g : G0 mg) (d : DefAt K mg "_law_below" (top 47)) (c__law_draw : Has P w K mg base "_law_draw" 2 ["m", "limit"] (spM K mg 2 f__law_draw))    : Has P w K mg base "_law_below" 3 ["m", "limit"] (spM K mg 2 f__law_below) :=
  has_M (n := 2) d sc__law_below (fun _ _ _ _ _ _ us hl => match us, hl with | [_, _], _ => rfl) fun fa cdv B outs s0 H E hr hu po tk =>
    ss_cons (s_set 2 sc__law_below.nd (e_int)) (ss_cons (s_for po rfl (pi_range1 (by rfl) g.range (a_cons (e_int) (a_nil))) i_rng1 (pg_name (i := 3) sc__law_below.nd rfl (by first | exact Or.inl rfl | exact Or.inr rfl)) (g_name 3) (ss_one (s_set 2 sc__law_below.nd (e_add (e_mul (e_var 2) (e_int)) (e_callH c__law_draw (hr.mono (by decide)) hu tk (ar_cons (ar_cons (ar_nil))) (a_cons (e_var 0) (a_cons (e_int) (a_nil)))))))) (ss_one (s_ret (e_mod (e_int1 g.int (a_cons (e_var 2) (a_nil))) (e_var 1)))))
theorem sc__law_borders : FnScope ["row", "found", "marks", "times"] ["row"] (defScope (top 48)) := ⟨rfl, rfl, rfl, by decide +kernel, rfl, by decide +kernel, by decide +kernel⟩
theorem h__law_borders (g : G0 mg) (d : DefAt K mg "_law_borders" (top 48))     : Has P w K mg base "_law_borders" 1 ["row"] (spM K mg 1 f__law_borders) :=
  has_M (n := 0) d sc__law_borders (fun _ _ _ _ _ _ us hl => match us, hl with | [_], _ => rfl) fun fa cdv B outs s0 H E hr hu po tk =>
    ss_cons (s_own 1 sc__law_borders.nd (f_lst (a_cons (e_int) (a_nil)))) (ss_cons (s_for po rfl (pi_seq (e_var 0)) i_seq (pg_tl rfl (pgs_cons (pg_name (i := 2) sc__law_borders.nd rfl (by first | exact Or.inl rfl | exact Or.inr rfl)) (pgs_cons (pg_name (i := 3) sc__law_borders.nd rfl (by first | exact Or.inl rfl | exact Or.inr rfl)) (pgs_nil)))) (g_tup [2, 3]) (ss_one (s_app 1 (e_add (e_ixO 1 (e_neg (e_int))) (e_mul (e_len g.len (a_cons (e_var 2) (a_nil))) (e_var 3)))))) (ss_one (s_ret (e_var 1))))
theorem sc__law_spot : FnScope ["m", "row", "size"] ["m", "row"] (defScope (top 49)) := ⟨rfl, rfl, rfl, by decide +kernel, rfl, by decide +kernel, by decide +kernel⟩
theorem h__law_spot (g : G0 mg) (d : DefAt K mg "_law_spot" (top 49)) (c__law_size : Has P w K mg base "_law_size" 1 ["row"] (spM K mg 1 f__law_size)) (c__law_draw : Has P w K mg base "_law_draw" 2 ["m", "limit"] (spM K mg 2 f__law_draw)) (c__law_below : Has P w K mg base "_law_below" 3 ["m", "limit"] (spM K mg 2 f__law_below)) (c__law_borders : Has P w K mg base "_law_borders" 1 ["row"] (spM K mg 1 f__law_borders)) (c__law_of : Has P w K mg base "_law_of" 3 ["m", "some"] (spM K mg 2 f__law_of))    : Has P w K mg base "_law_spot" 4 ["m", "row"] (spM K mg 2 f__law_spot) :=
  has_M (n := 3) d sc__law_spot (fun _ _ _ _ _ _ us hl => match us, hl with | [_, _], _ => rfl) fun fa cdv B outs s0 H E hr hu po tk =>
    ss_cons (s_set 2 sc__law_spot.nd (e_callH c__law_size (hr.mono (by decide)) hu tk (ar_cons (ar_nil)) (a_cons (e_var 1) (a_nil)))) (ss_cons (s_if (t_eq hr.units (e_callH c__law_draw (hr.mono (by decide)) hu tk (ar_cons (ar_cons (ar_nil))) (a_cons (e_var 0) (a_cons (e_int) (a_nil)))) (e_int)) (ss_one (s_ret (e_callH c__law_below (hr.mono (by decide)) hu tk (ar_cons (ar_cons (ar_nil))) (a_cons (e_var 0) (a_cons (e_var 2) (a_nil)))))) (ss_nil)) (ss_one (s_ret (e_min2 rfl g.min (a_cons (e_max2 rfl g.max (a_cons (e_sub (e_add (e_callH c__law_of (hr.mono (by decide)) hu tk (ar_cons (ar_cons (ar_nil))) (a_cons (e_var 0) (a_cons (e_callH c__law_borders (hr.mono (by decide)) hu tk (ar_cons (ar_nil)) (a_cons (e_var 1) (a_nil))) (a_nil)))) (e_callH c__law_draw (hr.mono (by decide)) hu tk (ar_cons (ar_cons (ar_nil))) (a_cons (e_var 0) (a_cons (e_int) (a_nil))))) (e_int)) (a_cons (e_int) (a_nil)))) (a_cons (e_sub (e_var 2) (e_int)) (a_nil)))))))
theorem sc__law_refused : FnScope ["is_cut", "row", "one", "two", "told", "e"] ["is_cut", "row", "one", "two"] (defScope (top 50)) := ⟨rfl, rfl, rfl, by decide +kernel, rfl, by decide +kernel, by decide +kernel⟩
theorem h__law_refused (g : G0 mg) (d : DefAt K mg "_law_refused" (top 50)) (c_cut_out : Has P w K mg base "cut_out" 4 ["row", "start", "stop"] (spM K mg 3 f_cut_out)) (c_rows_joined : Has P w K mg base "rows_joined" 4 ["row", "other_row"] (spM K mg 2 f_rows_joined))   {CC_BadPlace : Addr} (k_BadPlace : Catch K mg "BadPlace" oth_BadPlace ["place"] CC_BadPlace) {CC_TooGreat : Addr} (k_TooGreat : Catch K mg "TooGreat" oth_TooGreat ["most"] CC_TooGreat) : Has P w K mg base "_law_refused" 5 ["is_cut", "row", "one", "two"] (spM K mg 4 f__law_refused) :=
  has_M (n := 4) d sc__law_refused (fun _ _ _ _ _ _ us hl => match us, hl with | [_, _, _, _], _ => rfl) fun fa cdv B outs s0 H E hr hu po tk =>
    ss_cons (s_set 4 sc__law_refused.nd (e_tup (a_nil))) (ss_cons (s_tryN (i := 5) (j := 4) rfl rfl sc__law_refused.nd rfl rfl tk (fun W' pn xe tk po => ss_one (s_if (t_val (e_var 0)) (ss_one (s_drop (e_callH c_cut_out (hr.mono (by decide)) hu tk (ar_cons (ar_cons (ar_cons (ar_nil)))) (a_cons (e_var 1) (a_cons (e_var 2) (a_cons (e_var 3) (a_nil))))))) (ss_one (s_drop (e_callH c_rows_joined (hr.mono (by decide)) hu tk (ar_cons (ar_cons (ar_nil))) (a_cons (e_var 1) (a_cons (e_var 2) (a_nil)))))))) (.cons k_BadPlace.gC ⟨rfl, by decide, .inl k_BadPlace.gC⟩ (fun c' C' e hx => k_BadPlace.hm c' C' e ((show ∀ x ∈ ((["BadPlace", "TooGreat"] : List Str) ++ errs__law_refused), x = "BadPlace" ∨ x ∈ oth_BadPlace by decide +kernel) c' hx)) (fun a oe cls d pn hz hf => ps_set (i := 4) sc__law_refused.nd rfl (Or.inl rfl) (u_tup (us_cons (u_str) (us_cons (u_repr hr.units hu g.repr (u_fld k_BadPlace.gC k_BadPlace.xf (k_BadPlace.no "place" (by decide +kernel)) hz hf)) (us_nil))))) (.cons k_TooGreat.gC ⟨rfl, by decide, .inl k_TooGreat.gC⟩ (fun c' C' e hx => k_TooGreat.hm c' C' e ((show ∀ x ∈ ((["BadPlace", "TooGreat"] : List Str) ++ errs__law_refused), x = "TooGreat" ∨ x ∈ oth_TooGreat by decide +kernel) c' hx)) (fun a oe cls d pn hz hf => ps_set (i := 4) sc__law_refused.nd rfl (Or.inl rfl) (u_tup (us_cons (u_str) (us_cons (u_fld k_TooGreat.gC k_TooGreat.xf (k_TooGreat.no "most" (by decide +kernel)) hz hf) (us_nil))))) (.nil)))) (ss_one (s_ret (e_var 4))))
theorem sc__law_limits_right : FnScope ["m", "row", "size", "full", "rows", "odd", "is_cut", "one", "two", "three", "due"] ["m", "row", "size"] (defScope (top 51)) := ⟨rfl, rfl, rfl, by decide +kernel, rfl, by decide +kernel, by decide +kernel⟩
theorem h__law_limits_right (g : G0 mg) (d : DefAt K mg "_law_limits_right" (top 51)) (c__law_of : Has P w K mg base "_law_of" 3 ["m", "some"] (spM K mg 2 f__law_of)) (c__law_refused : Has P w K mg base "_law_refused" 5 ["is_cut", "row", "one", "two"] (spM K mg 4 f__law_refused)) (c__law_like : Has P w K mg base "_law_like" 1 ["got", "due"] (spM K mg 2 f__law_like))    : Has P w K mg base "_law_limits_right" 6 ["m", "row", "size"] (spM K mg 3 f__law_limits_right) :=
  has_M (n := 5) d sc__law_limits_right (fun _ _ _ _ _ _ us hl => match us, hl with | [_, _, _], _ => rfl) fun fa cdv B outs s0 H E hr hu po tk =>
    ss_cons (s_set 3 sc__law_limits_right.nd (e_mul (e_tup (a_cons (e_tup (a_cons (e_tup (a_cons (e_int) (a_cons (e_int) (a_nil)))) (a_cons (e_int) (a_nil)))) (a_nil))) (e_int))) (ss_cons (s_own 4 sc__law_limits_right.nd (f_lst (a_cons (e_tup (a_cons (e_bl) (a_cons (e_var 3) (a_cons (e_int) (a_cons (e_int) (a_cons (e_tup (a_nil)) (a_nil))))))) (a_cons (e_tup (a_cons (e_bl) (a_cons (e_var 3) (a_cons (e_int) (a_cons (e_int) (a_cons (e_tup (a_cons (e_str) (a_cons (e_int) (a_nil)))) (a_nil))))))) (a_cons (e_tup (a_cons (e_bl) (a_cons (e_var 3) (a_cons (e_int) (a_cons (e_int) (a_cons (e_tup (a_nil)) (a_nil))))))) (a_cons (e_tup (a_cons (e_bl) (a_cons (e_var 3) (a_cons (e_int) (a_cons (e_int) (a_cons (e_tup (a_nil)) (a_nil))))))) (a_nil))))))) (ss_cons (s_app 4 (e_tup (a_cons (e_bl) (a_cons (e_slice (e_var 3) (o_none) (o_some (e_int))) (a_cons (e_slice (e_var 3) (o_none) (o_some (e_int))) (a_cons (e_non) (a_cons (e_tup (a_nil)) (a_nil)))))))) (ss_cons (s_app 4 (e_tup (a_cons (e_bl) (a_cons (e_slice (e_var 3) (o_none) (o_some (e_int))) (a_cons (e_slice (e_var 3) (o_none) (o_some (e_int))) (a_cons (e_non) (a_cons (e_tup (a_cons (e_str) (a_cons (e_int) (a_nil)))) (a_nil)))))))) (ss_cons (s_set 5 sc__law_limits_right.nd (e_callH c__law_of (hr.mono (by decide)) hu tk (ar_cons (ar_cons (ar_nil))) (a_cons (e_var 0) (a_cons (e_fz (f_lst (a_cons (e_neg (e_int)) (a_cons (e_add (e_var 2) (e_int)) (a_cons (e_bl) (a_cons (e_non) (a_cons (e_str) (a_cons (e_tup (a_cons (e_int) (a_nil))) (a_nil))))))))) (a_nil))))) (ss_cons (s_own 4 sc__law_limits_right.nd (f_cat (e_var 4) (e_fz (f_lst (a_cons (e_tup (a_cons (e_bl) (a_cons (e_var 1) (a_cons (e_var 5) (a_cons (e_int) (a_cons (e_tup (a_cons (e_str) (a_cons (e_repr hr.units hu g.repr (a_cons (e_var 5) (a_nil))) (a_nil)))) (a_nil))))))) (a_cons (e_tup (a_cons (e_bl) (a_cons (e_var 1) (a_cons (e_var 5) (a_cons (e_non) (a_cons (e_tup (a_cons (e_str) (a_cons (e_repr hr.units hu g.repr (a_cons (e_var 5) (a_nil))) (a_nil)))) (a_nil))))))) (a_nil))))))) (ss_cons (s_own 4 sc__law_limits_right.nd (f_cat (e_var 4) (e_fz (f_lst (a_cons (e_tup (a_cons (e_bl) (a_cons (e_var 1) (a_cons (e_int) (a_cons (e_var 5) (a_cons (e_tup (a_cons (e_str) (a_cons (e_repr hr.units hu g.repr (a_cons (e_var 5) (a_nil))) (a_nil)))) (a_nil))))))) (a_cons (e_tup (a_cons (e_bl) (a_cons (e_var 1) (a_cons (e_var 2) (a_cons (e_sub (e_var 2) (e_int)) (a_cons (e_tup (a_cons (e_str) (a_cons (e_repr hr.units hu g.repr (a_cons (e_sub (e_var 2) (e_int)) (a_nil))) (a_nil)))) (a_nil))))))) (a_nil))))))) (ss_one (s_ret (e_eq hr.units (e_fz (f_lc (nms := [("is_cut", 6), ("one", 7), ("two", 8), ("three", 9), ("due", 10)]) (by rfl) sc__law_limits_right.nd (pi_seq (e_var 4)) i_seq (blkOk_by (own := [("is_cut", 6), ("one", 7), ("two", 8), ("three", 9), ("due", 10)]) (N := ["m", "row", "size", "full", "rows", "odd", "is_cut", "one", "two", "three", "due"]) (sc := defScope (top 51)) (by decide +kernel)) (fun _ _ _ _ _ => pg_tl rfl (pgs_cons (pg_name (i := 6) sc__law_limits_right.nd rfl (by first | exact Or.inl rfl | exact Or.inr rfl)) (pgs_cons (pg_name (i := 7) sc__law_limits_right.nd rfl (by first | exact Or.inl rfl | exact Or.inr rfl)) (pgs_cons (pg_name (i := 8) sc__law_limits_right.nd rfl (by first | exact Or.inl rfl | exact Or.inr rfl)) (pgs_cons (pg_name (i := 9) sc__law_limits_right.nd rfl (by first | exact Or.inl rfl | exact Or.inr rfl)) (pgs_cons (pg_name (i := 10) sc__law_limits_right.nd rfl (by first | exact Or.inl rfl | exact Or.inr rfl)) (pgs_nil))))))) (g_tup [6, 7, 8, 9, 10]) (by decide) (fun _ _ _ _ _ => pts_one (t_not (t_val (e_callH c__law_like (hr.mono (by decide)) hu takes0 (ar_cons (ar_cons (ar_nil))) (a_cons (e_callH c__law_refused (hr.mono (by decide)) hu takes0 (ar_cons (ar_cons (ar_cons (ar_cons (ar_nil))))) (a_cons (e_var 6) (a_cons (e_var 7) (a_cons (e_var 8) (a_cons (e_var 9) (a_nil)))))) (a_cons (e_var 10) (a_nil))))))) (fun _ _ _ h => h) (fun _ _ _ _ _ => e_int))) (e_fz (f_lst (a_nil))))))))))))
theorem sc_law : FnScope ["script", "m", "row", "size", "told", "parts", "whole", "about", "turn", "begin", "end", "place", "marks", "times"] ["script"] (defScope (top 52)) := ⟨rfl, rfl, rfl, by decide +kernel, rfl, by decide +kernel, by decide +kernel⟩
theorem law_at {fa : Addr} {fd : FuncData} (F : FunD K "law" "law" (defArgs (top 52)) (defBody (top 52)) (defScope (top 52)) [] [] fa fd) (g : G0 mg) (t : Tells law_N b_law) (c__law_begun : Has P w K mg base "_law_begun" 2 ["script"] (spBegun K)) (c__law_wide_row : Has P w K mg base "_law_wide_row" 4 ["m", "many", "most"] (spM K mg 3 f__law_wide_row)) (c__law_size : Has P w K mg base "_law_size" 1 ["row"] (spM K mg 1 f__law_size)) (c__law_spot : Has P w K mg base "_law_spot" 4 ["m", "row"] (spM K mg 2 f__law_spot)) (c__law_of : Has P w K mg base "_law_of" 3 ["m", "some"] (spM K mg 2 f__law_of)) (c_cut_out : Has P w K mg base "cut_out" 4 ["row", "start", "stop"] (spM K mg 3 f_cut_out)) (c__law_piece : Has P w K mg base "_law_piece" 1 ["row", "begin", "end"] (spM K mg 3 f__law_piece)) (c__law_like : Has P w K mg base "_law_like" 1 ["got", "due"] (spM K mg 2 f__law_like)) (c_length_of : Has P w K mg base "length_of" 4 ["row"] (spM K mg 1 f_length_of)) (c_mark_at : Has P w K mg base "mark_at" 4 ["row", "place"] (spM K mg 2 f_mark_at)) (c__law_mark : Has P w K mg base "_law_mark" 1 ["row", "place"] (spM K mg 2 f__law_mark)) (c_rows_joined : Has P w K mg base "rows_joined" 4 ["row", "other_row"] (spM K mg 2 f_rows_joined)) (c_read_alike : Has P w K mg base "read_alike" 4 ["row", "other_row"] (spM K mg 2 f_read_alike)) (c_turned_about : Has P w K mg base "turned_about" 4 ["row"] (spM K mg 1 f_turned_about)) (c__law_limits_right : Has P w K mg base "_law_limits_right" 6 ["m", "row", "size"] (spM K mg 3 f__law_limits_right))    : FnG P w K mg base 7 fa fd ["script"] (spLaw K) := by
  refine fng_of F sc_law (fun vs H Q E h => by obtain ⟨_, _, rfl, _⟩ := h; rfl) ?_
  intro cdv B outs s0 H vs Q E hr hu h
  have po : PassesOwn (model P w) (cxOf (L2.CX P w) P w K mg base law_N "law" (defScope (top 52)) fa cdv B outs s0 H E).A (cxOf (L2.CX P w) P w K mg base law_N "law" (defScope (top 52)) fa cdv B outs s0 H E).env (cxOf (L2.CX P w) P w K mg base law_N "law" (defScope (top 52)) fa cdv B outs s0 H E).xe := passes_of rfl
  have tk : Takes (cxOf (L2.CX P w) P w K mg base law_N "law" (defScope (top 52)) fa cdv B outs s0 H E) (fun cls d _ H => E cls d H) := takes_of rfl rfl rfl rfl
  refine ⟨_, pss_cons (ps_set (i := 1) sc_law.nd rfl (by first | exact Or.inl rfl | exact Or.inr rfl) (pe_H c__law_begun (hr.mono (by decide)) hu tk (pa_cons (pv 0) pa_nil)))
    (ss_cons (s_set 2 sc_law.nd (e_callH c__law_wide_row (hr.mono (by decide)) hu tk (ar_cons (ar_cons (ar_cons (ar_nil)))) (a_cons (e_var 1) (a_cons (e_int) (a_cons (e_int) (a_nil)))))) (ss_cons (s_set 3 sc_law.nd (e_callH c__law_size (hr.mono (by decide)) hu tk (ar_cons (ar_nil)) (a_cons (e_var 2) (a_nil)))) (ss_cons (s_asg (e_fz (f_sorted g.sorted (a_cons (e_fz (f_lst (a_cons (e_callH c__law_of (hr.mono (by decide)) hu tk (ar_cons (ar_cons (ar_nil))) (a_cons (e_var 1) (a_cons (e_fz (f_lst (a_cons (e_int) (a_cons (e_var 3) (a_cons (e_callH c__law_spot (hr.mono (by decide)) hu tk (ar_cons (ar_cons (ar_nil))) (a_cons (e_var 1) (a_cons (e_var 2) (a_nil)))) (a_nil)))))) (a_nil)))) (a_cons (e_callH c__law_of (hr.mono (by decide)) hu tk (ar_cons (ar_cons (ar_nil))) (a_cons (e_var 1) (a_cons (e_fz (f_lst (a_cons (e_var 3) (a_cons (e_callH c__law_spot (hr.mono (by decide)) hu tk (ar_cons (ar_cons (ar_nil))) (a_cons (e_var 1) (a_cons (e_var 2) (a_nil)))) (a_cons (e_callH c__law_spot (hr.mono (by decide)) hu tk (ar_cons (ar_cons (ar_nil))) (a_cons (e_var 1) (a_cons (e_var 2) (a_nil)))) (a_nil)))))) (a_nil)))) (a_nil))))) (a_nil)))) (pg_tl rfl (pgs_cons (pg_name (i := 9) sc_law.nd rfl (by first | exact Or.inl rfl | exact Or.inr rfl)) (pgs_cons (pg_name (i := 10) sc_law.nd rfl (by first | exact Or.inl rfl | exact Or.inr rfl)) (pgs_nil)))) (g_tup [9, 10])) (ss_cons (s_set 4 sc_law.nd (e_callH c_cut_out (hr.mono (by decide)) hu tk (ar_cons (ar_cons (ar_cons (ar_nil)))) (a_cons (e_var 2) (a_cons (e_var 9) (a_cons (e_var 10) (a_nil)))))) (ss_cons (s_if ((t_or (t_not (t_val (e_callH c__law_like (hr.mono (by decide)) hu tk (ar_cons (ar_cons (ar_nil))) (a_cons (e_var 4) (a_cons (e_callH c__law_piece (hr.mono (by decide)) hu tk (ar_cons (ar_cons (ar_cons (ar_nil)))) (a_cons (e_var 2) (a_cons (e_var 9) (a_cons (e_var 10) (a_nil))))) (a_nil)))))) (t_or1 (t_ne hr.units (e_callH c_length_of (hr.mono (by decide)) hu tk (ar_cons (ar_nil)) (a_cons (e_var 4) (a_nil))) (e_sub (e_var 10) (e_var 9))))).pt) (ss_one (s_ret (e_bl))) (ss_nil)) (ss_cons (s_if (t_lt (e_var 9) (e_var 10)) (ss_one (s_for po rfl (pi_range1 (by rfl) g.range (a_cons (e_int) (a_nil))) i_rng1 (pg_name (i := 8) sc_law.nd rfl (by first | exact Or.inl rfl | exact Or.inr rfl)) (g_name 8) (ss_cons (s_set 11 sc_law.nd (e_callH c__law_spot (hr.mono (by decide)) hu tk (ar_cons (ar_cons (ar_nil))) (a_cons (e_var 1) (a_cons (e_var 4) (a_nil))))) (ss_one (s_if (t_not (t_val (e_callH c__law_like (hr.mono (by decide)) hu tk (ar_cons (ar_cons (ar_nil))) (a_cons (e_callH c_mark_at (hr.mono (by decide)) hu tk (ar_cons (ar_cons (ar_nil))) (a_cons (e_var 4) (a_cons (e_var 11) (a_nil)))) (a_cons (e_callH c__law_mark (hr.mono (by decide)) hu tk (ar_cons (ar_cons (ar_nil))) (a_cons (e_var 2) (a_cons (e_add (e_var 9) (e_var 11)) (a_nil)))) (a_nil)))))) (ss_one (s_ret (e_bl))) (ss_nil)))))) (ss_nil)) (ss_cons (s_set 5 sc_law.nd (e_fz (f_lst (a_cons (e_callH c_cut_out (hr.mono (by decide)) hu tk (ar_cons (ar_cons (ar_cons (ar_nil)))) (a_cons (e_var 2) (a_cons (e_int) (a_cons (e_var 9) (a_nil))))) (a_cons (e_var 4) (a_cons (e_callH c_cut_out (hr.mono (by decide)) hu tk (ar_cons (ar_cons (ar_cons (ar_nil)))) (a_cons (e_var 2) (a_cons (e_var 10) (a_cons (e_var 3) (a_nil))))) (a_nil))))))) (ss_cons (s_set 6 sc_law.nd (e_callH c_rows_joined (hr.mono (by decide)) hu tk (ar_cons (ar_cons (ar_nil))) (a_cons (e_callH c_rows_joined (hr.mono (by decide)) hu tk (ar_cons (ar_cons (ar_nil))) (a_cons (e_ix (e_var 5) (e_int)) (a_cons (e_ix (e_var 5) (e_int)) (a_nil)))) (a_cons (e_ix (e_var 5) (e_int)) (a_nil))))) (ss_cons (s_if ((t_or (t_not (t_val (e_callH c__law_like (hr.mono (by decide)) hu tk (ar_cons (ar_cons (ar_nil))) (a_cons (e_var 6) (a_cons (e_add (e_add (e_ix (e_var 5) (e_int)) (e_ix (e_var 5) (e_int))) (e_ix (e_var 5) (e_int))) (a_nil)))))) (t_or1 (t_notB (e_callH c_read_alike (hr.mono (by decide)) hu tk (ar_cons (ar_cons (ar_nil))) (a_cons (e_var 6) (a_cons (e_var 2) (a_nil)))) (e_bl)))).pt) (ss_one (s_ret (e_bl))) (ss_nil)) (ss_cons (s_set 7 sc_law.nd (e_callH c_turned_about (hr.mono (by decide)) hu tk (ar_cons (ar_nil)) (a_cons (e_var 2) (a_nil)))) (ss_cons (s_if (t_not (t_val (e_callH c__law_like (hr.mono (by decide)) hu tk (ar_cons (ar_cons (ar_nil))) (a_cons (e_var 7) (a_cons (e_tuple g.tuple (a_cons (e_fz (f_lc (nms := [("marks", 12), ("times", 13)]) (by rfl) sc_law.nd (pi_seq (e_back (e_var 2))) i_seq (blkOk_by (own := [("marks", 12), ("times", 13)]) (N := ["script", "m", "row", "size", "told", "parts", "whole", "about", "turn", "begin", "end", "place", "marks", "times"]) (sc := defScope (top 52)) (by decide +kernel)) (fun _ _ _ _ _ => pg_tl rfl (pgs_cons (pg_name (i := 12) sc_law.nd rfl (by first | exact Or.inl rfl | exact Or.inr rfl)) (pgs_cons (pg_name (i := 13) sc_law.nd rfl (by first | exact Or.inl rfl | exact Or.inr rfl)) (pgs_nil)))) (g_tup [12, 13]) (by decide) (fun _ _ _ _ _ => pts_nil) (fun _ _ _ h => t_yes h) (fun _ _ _ _ _ => e_tup (a_cons (e_back (e_var 12)) (a_cons (e_var 13) (a_nil)))))) (a_nil))) (a_nil)))))) (ss_one (s_ret (e_bl))) (ss_nil)) (ss_cons (s_for po rfl (pi_range1 (by rfl) g.range (a_cons (e_int) (a_nil))) i_rng1 (pg_name (i := 8) sc_law.nd rfl (by first | exact Or.inl rfl | exact Or.inr rfl)) (g_name 8) (ss_cons (s_set 11 sc_law.nd (e_callH c__law_spot (hr.mono (by decide)) hu tk (ar_cons (ar_cons (ar_nil))) (a_cons (e_var 1) (a_cons (e_var 2) (a_nil))))) (ss_one (s_if (t_not (t_val (e_callH c__law_like (hr.mono (by decide)) hu tk (ar_cons (ar_cons (ar_nil))) (a_cons (e_callH c_mark_at (hr.mono (by decide)) hu tk (ar_cons (ar_cons (ar_nil))) (a_cons (e_var 7) (a_cons (e_sub (e_sub (e_var 3) (e_int)) (e_var 11)) (a_nil)))) (a_cons (e_callH c__law_mark (hr.mono (by decide)) hu tk (ar_cons (ar_cons (ar_nil))) (a_cons (e_var 2) (a_cons (e_var 11) (a_nil)))) (a_nil)))))) (ss_one (s_ret (e_bl))) (ss_nil))))) (ss_cons (s_if (t_not (t_val (e_callH c__law_like (hr.mono (by decide)) hu tk (ar_cons (ar_cons (ar_nil))) (a_cons (e_fz (f_lst (a_cons (e_callH c_turned_about (hr.mono (by decide)) hu tk (ar_cons (ar_nil)) (a_cons (e_var 7) (a_nil))) (a_cons (e_callH c_turned_about (hr.mono (by decide)) hu tk (ar_cons (ar_nil)) (a_cons (e_tup (a_nil)) (a_nil))) (a_cons (e_callH c_cut_out (hr.mono (by decide)) hu tk (ar_cons (ar_cons (ar_cons (ar_nil)))) (a_cons (e_var 2) (a_cons (e_var 10) (a_cons (e_var 10) (a_nil))))) (a_nil)))))) (a_cons (e_fz (f_lst (a_cons (e_var 2) (a_cons (e_tup (a_nil)) (a_cons (e_tup (a_nil)) (a_nil)))))) (a_nil)))))) (ss_one (s_ret (e_bl))) (ss_nil)) (ss_one (s_ret (e_callH c__law_limits_right (hr.mono (by decide)) hu tk (ar_cons (ar_cons (ar_cons (ar_nil)))) (a_cons (e_var 1) (a_cons (e_var 2) (a_cons (e_var 3) (a_nil)))))))))))))))))))), ?_⟩
  obtain ⟨a, ns, rfl, l63, sq, q⟩ := h
  exact ⟨_, rfl, a, ns, rfl, l63, sq, fun wa wd H' x o => rest_law (N := law_N) t x o (by decide) q⟩
end
end Mi
namespace Mi
open PySem PySem.Spec PyProof.Rows L2
theorem F_entry_count (r : List Bk) (w : Wd) (h : r.length ≤ 60) (hb : ∀ b ∈ r, b.1.length ≤ 60) : f_entry_count [.py (rD r)] w = .rt (.py (.int (sz r))) w := by
  unfold f_entry_count b_entry_count
  simp only [fnM, envOf, sSeq, sAsg, sRet, sIf, sNil, sOw, sApp, sExt, sAsg2, sAug, sDrop, sPar, sParO, sNever, mDf, mRng2, mRng3, seqOf, sRaise, asgN, asgs, asgT, mOp, mFn, mCons, mNil, mC, mVar, mB, mCh, mAndV, mOrV, mNotV, mTyIs, tyOf, mTup, mLst, mFz, mUn, pys, Re.bind, mCall, mNot, mAnd, mIf, mLc, mSeq, mRng1, mEn, mYes, noE, sFor, mIxO, mSl, mPart, fSl, List.map_cons, List.map_nil, Option.map_some, Option.map_none, List.length_cons, List.length_nil, List.length_map, List.replicate, List.cons_append, List.nil_append, List.append_nil, List.getElem?_cons_zero, List.getElem?_cons_succ, List.set_cons_zero, List.set_cons_succ, List.foldl_cons, List.foldl_nil, List.set, List.map_map, fI, fMul, fAdd, fMod, fDiv, fInt, fLen, fSum, fAll, fTup, fDivmod, fMax2, fMin2, fNeg, fBack, fIsB, fNotB, fIx, fCnt, mCnt, Re.cut, fEq, fNe, fIsN, fNotN, isN, Nat.reduceSub, Nat.reduceAdd, if_true, Bool.false_eq_true, if_false, reduceIte, decide_true, decide_false, Bool.not_true, Bool.not_false, Bool.and_true, Bool.true_and, reduceCtorEq, rD]
  rw [lc_over1 (F := D.py ∘ bD) (g := fun b : Bk => PyData.int (b.1.length * b.2)) (xs := r) _ (by simp only [List.length_nil]; omega) ?_]
  · simp only [fnM, envOf, sSeq, sAsg, sRet, sIf, sNil, sOw, sApp, sExt, sAsg2, sAug, sDrop, sPar, sParO, sNever, mDf, mRng2, mRng3, seqOf, sRaise, asgN, asgs, asgT, mOp, mFn, mCons, mNil, mC, mVar, mB, mCh, mAndV, mOrV, mNotV, mTyIs, tyOf, mTup, mLst, mFz, mUn, pys, Re.bind, mCall, mNot, mAnd, mIf, mLc, mSeq, mRng1, mEn, mYes, noE, sFor, mIxO, mSl, mPart, fSl, List.map_cons, List.map_nil, Option.map_some, Option.map_none, List.length_cons, List.length_nil, List.length_map, List.replicate, List.cons_append, List.nil_append, List.append_nil, List.getElem?_cons_zero, List.getElem?_cons_succ, List.set_cons_zero, List.set_cons_succ, List.foldl_cons, List.foldl_nil, List.set, List.map_map, fI, fMul, fAdd, fMod, fDiv, fInt, fLen, fSum, fAll, fTup, fDivmod, fMax2, fMin2, fNeg, fBack, fIsB, fNotB, fIx, fCnt, mCnt, Re.cut, fEq, fNe, fIsN, fNotN, isN, Nat.reduceSub, Nat.reduceAdd, if_true, Bool.false_eq_true, if_false, reduceIte, decide_true, decide_false, Bool.not_true, Bool.not_false, Bool.and_true, Bool.true_and, reduceCtorEq, ints_mapped]
    rfl
  · intro b hbm
    have := hb b hbm
    refine ⟨_, rfl, ?_, rfl⟩
    simp only [fnM, envOf, sSeq, sAsg, sRet, sIf, sNil, sOw, sApp, sExt, sAsg2, sAug, sDrop, sPar, sParO, sNever, mDf, mRng2, mRng3, seqOf, sRaise, asgN, asgs, asgT, mOp, mFn, mCons, mNil, mC, mVar, mB, mCh, mAndV, mOrV, mNotV, mTyIs, tyOf, mTup, mLst, mFz, mUn, pys, Re.bind, mCall, mNot, mAnd, mIf, mLc, mSeq, mRng1, mEn, mYes, noE, sFor, mIxO, mSl, mPart, fSl, List.map_cons, List.map_nil, Option.map_some, Option.map_none, List.length_cons, List.length_nil, List.length_map, List.replicate, List.cons_append, List.nil_append, List.append_nil, List.getElem?_cons_zero, List.getElem?_cons_succ, List.set_cons_zero, List.set_cons_succ, List.foldl_cons, List.foldl_nil, List.set, List.map_map, fI, fMul, fAdd, fMod, fDiv, fInt, fLen, fSum, fAll, fTup, fDivmod, fMax2, fMin2, fNeg, fBack, fIsB, fNotB, fIx, fCnt, mCnt, Re.cut, fEq, fNe, fIsN, fNotN, isN, Nat.reduceSub, Nat.reduceAdd, if_true, Bool.false_eq_true, if_false, reduceIte, decide_true, decide_false, Bool.not_true, Bool.not_false, Bool.and_true, Bool.true_and, reduceCtorEq, tI]
    rw [ifC_pos (.inl (by omega))]
theorem F__law_size (r : List Bk) (w : Wd) (h : r.length ≤ 60) (hb : ∀ b ∈ r, b.1.length ≤ 60) : f__law_size [.py (rD r)] w = .rt (.py (.int (sz r))) w := by
  unfold f__law_size b__law_size
  simp only [fnM, envOf, sSeq, sAsg, sRet, sIf, sNil, sOw, sApp, sExt, sAsg2, sAug, sDrop, sPar, sParO, sNever, mDf, mRng2, mRng3, seqOf, sRaise, asgN, asgs, asgT, mOp, mFn, mCons, mNil, mC, mVar, mB, mCh, mAndV, mOrV, mNotV, mTyIs, tyOf, mTup, mLst, mFz, mUn, pys, Re.bind, mCall, mNot, mAnd, mIf, mLc, mSeq, mRng1, mEn, mYes, noE, sFor, mIxO, mSl, mPart, fSl, List.map_cons, List.map_nil, Option.map_some, Option.map_none, List.length_cons, List.length_nil, List.length_map, List.replicate, List.cons_append, List.nil_append, List.append_nil, List.getElem?_cons_zero, List.getElem?_cons_succ, List.set_cons_zero, List.set_cons_succ, List.foldl_cons, List.foldl_nil, List.set, List.map_map, fI, fMul, fAdd, fMod, fDiv, fInt, fLen, fSum, fAll, fTup, fDivmod, fMax2, fMin2, fNeg, fBack, fIsB, fNotB, fIx, fCnt, mCnt, Re.cut, fEq, fNe, fIsN, fNotN, isN, Nat.reduceSub, Nat.reduceAdd, if_true, Bool.false_eq_true, if_false, reduceIte, decide_true, decide_false, Bool.not_true, Bool.not_false, Bool.and_true, Bool.true_and, reduceCtorEq, rD]
  rw [lc_over1 (F := D.py ∘ bD) (g := fun b : Bk => PyData.int (b.1.length * b.2)) (xs := r) _ (by simp only [List.length_nil]; omega) ?_]
  · simp only [fnM, envOf, sSeq, sAsg, sRet, sIf, sNil, sOw, sApp, sExt, sAsg2, sAug, sDrop, sPar, sParO, sNever, mDf, mRng2, mRng3, seqOf, sRaise, asgN, asgs, asgT, mOp, mFn, mCons, mNil, mC, mVar, mB, mCh, mAndV, mOrV, mNotV, mTyIs, tyOf, mTup, mLst, mFz, mUn, pys, Re.bind, mCall, mNot, mAnd, mIf, mLc, mSeq, mRng1, mEn, mYes, noE, sFor, mIxO, mSl, mPart, fSl, List.map_cons, List.map_nil, Option.map_some, Option.map_none, List.length_cons, List.length_nil, List.length_map, List.replicate, List.cons_append, List.nil_append, List.append_nil, List.getElem?_cons_zero, List.getElem?_cons_succ, List.set_cons_zero, List.set_cons_succ, List.foldl_cons, List.foldl_nil, List.set, List.map_map, fI, fMul, fAdd, fMod, fDiv, fInt, fLen, fSum, fAll, fTup, fDivmod, fMax2, fMin2, fNeg, fBack, fIsB, fNotB, fIx, fCnt, mCnt, Re.cut, fEq, fNe, fIsN, fNotN, isN, Nat.reduceSub, Nat.reduceAdd, if_true, Bool.false_eq_true, if_false, reduceIte, decide_true, decide_false, Bool.not_true, Bool.not_false, Bool.and_true, Bool.true_and, reduceCtorEq, ints_mapped]
    rfl
  · intro b hbm
    have := hb b hbm
    refine ⟨_, rfl, ?_, rfl⟩
    simp only [fnM, envOf, sSeq, sAsg, sRet, sIf, sNil, sOw, sApp, sExt, sAsg2, sAug, sDrop, sPar, sParO, sNever, mDf, mRng2, mRng3, seqOf, sRaise, asgN, asgs, asgT, mOp, mFn, mCons, mNil, mC, mVar, mB, mCh, mAndV, mOrV, mNotV, mTyIs, tyOf, mTup, mLst, mFz, mUn, pys, Re.bind, mCall, mNot, mAnd, mIf, mLc, mSeq, mRng1, mEn, mYes, noE, sFor, mIxO, mSl, mPart, fSl, List.map_cons, List.map_nil, Option.map_some, Option.map_none, List.length_cons, List.length_nil, List.length_map, List.replicate, List.cons_append, List.nil_append, List.append_nil, List.getElem?_cons_zero, List.getElem?_cons_succ, List.set_cons_zero, List.set_cons_succ, List.foldl_cons, List.foldl_nil, List.set, List.map_map, fI, fMul, fAdd, fMod, fDiv, fInt, fLen, fSum, fAll, fTup, fDivmod, fMax2, fMin2, fNeg, fBack, fIsB, fNotB, fIx, fCnt, mCnt, Re.cut, fEq, fNe, fIsN, fNotN, isN, Nat.reduceSub, Nat.reduceAdd, if_true, Bool.false_eq_true, if_false, reduceIte, decide_true, decide_false, Bool.not_true, Bool.not_false, Bool.and_true, Bool.true_and, reduceCtorEq, tI]
    rw [ifC_pos (.inl (by omega))]
theorem F_is_whole (v a b : Int) (w : Wd) : f_is_whole [.py (.int v), .py (.int a), .py (.int b)] w = .rt (.py (.bool (decide (a ≤ v ∧ v ≤ b)))) w := by
  unfold f_is_whole b_is_whole
  simp only [fnM, envOf, sSeq, sAsg, sRet, sIf, sNil, sOw, sApp, sExt, sAsg2, sAug, sDrop, sPar, sParO, sNever, mDf, mRng2, mRng3, seqOf, sRaise, asgN, asgs, asgT, mOp, mFn, mCons, mNil, mC, mVar, mB, mCh, mAndV, mOrV, mNotV, mTyIs, tyOf, mTup, mLst, mFz, mUn, pys, Re.bind, mCall, mNot, mAnd, mIf, mLc, mSeq, mRng1, mEn, mYes, noE, sFor, mIxO, mSl, mPart, fSl, List.map_cons, List.map_nil, Option.map_some, Option.map_none, List.length_cons, List.length_nil, List.length_map, List.replicate, List.cons_append, List.nil_append, List.append_nil, List.getElem?_cons_zero, List.getElem?_cons_succ, List.set_cons_zero, List.set_cons_succ, List.foldl_cons, List.foldl_nil, List.set, List.map_map, fI, fMul, fAdd, fMod, fDiv, fInt, fLen, fSum, fAll, fTup, fDivmod, fMax2, fMin2, fNeg, fBack, fIsB, fNotB, fIx, fCnt, mCnt, Re.cut, fEq, fNe, fIsN, fNotN, isN, Nat.reduceSub, Nat.reduceAdd, if_true, Bool.false_eq_true, if_false, reduceIte, decide_true, decide_false, Bool.not_true, Bool.not_false, Bool.and_true, Bool.true_and, reduceCtorEq]
  by_cases h1 : a ≤ v
  · by_cases h2 : v ≤ b
    · simp [h1, h2]
    · simp [h1, h2]
  · simp [h1]
theorem F_is_tuple (xs : List PyData) (a b : Int) (w : Wd) : f_is_tuple [.py (.tuple xs), .py (.int a), .py (.int b)] w = .rt (.py (.bool (decide (a ≤ xs.length ∧ xs.length ≤ b)))) w := by
  unfold f_is_tuple b_is_tuple
  simp only [fnM, envOf, sSeq, sAsg, sRet, sIf, sNil, sOw, sApp, sExt, sAsg2, sAug, sDrop, sPar, sParO, sNever, mDf, mRng2, mRng3, seqOf, sRaise, asgN, asgs, asgT, mOp, mFn, mCons, mNil, mC, mVar, mB, mCh, mAndV, mOrV, mNotV, mTyIs, tyOf, mTup, mLst, mFz, mUn, pys, Re.bind, mCall, mNot, mAnd, mIf, mLc, mSeq, mRng1, mEn, mYes, noE, sFor, mIxO, mSl, mPart, fSl, List.map_cons, List.map_nil, Option.map_some, Option.map_none, List.length_cons, List.length_nil, List.length_map, List.replicate, List.cons_append, List.nil_append, List.append_nil, List.getElem?_cons_zero, List.getElem?_cons_succ, List.set_cons_zero, List.set_cons_succ, List.foldl_cons, List.foldl_nil, List.set, List.map_map, fI, fMul, fAdd, fMod, fDiv, fInt, fLen, fSum, fAll, fTup, fDivmod, fMax2, fMin2, fNeg, fBack, fIsB, fNotB, fIx, fCnt, mCnt, Re.cut, fEq, fNe, fIsN, fNotN, isN, Nat.reduceSub, Nat.reduceAdd, if_true, Bool.false_eq_true, if_false, reduceIte, decide_true, decide_false, Bool.not_true, Bool.not_false, Bool.and_true, Bool.true_and, reduceCtorEq]
  by_cases h1 : a ≤ (xs.length : Int)
  · by_cases h2 : (xs.length : Int) ≤ b
    · simp [h1, h2]
    · simp [h1, h2]
  · simp [h1]
theorem all_true {α : Type} (xs : List α) (g : α → PyData) (h : ∀ x ∈ xs, g x = .bool true) : boolsOf (xs.map g) = some (xs.map fun _ => true) := by
  have e : xs.map g = (xs.map fun _ => true).map PyData.bool := by
    rw [List.map_map]
    exact List.map_congr_left h
  rw [e, bools_of]
theorem F_are_whole (ms : List Int) (a b : Int) (w : Wd) (hl : ms.length ≤ 60) (h : ∀ c ∈ ms, a ≤ c ∧ c ≤ b) : f_are_whole [.py (tI ms), .py (.int a), .py (.int b)] w = .rt (.py (.bool true)) w := by
  unfold f_are_whole b_are_whole
  simp only [fnM, envOf, sSeq, sAsg, sRet, sIf, sNil, sOw, sApp, sExt, sAsg2, sAug, sDrop, sPar, sParO, sNever, mDf, mRng2, mRng3, seqOf, sRaise, asgN, asgs, asgT, mOp, mFn, mCons, mNil, mC, mVar, mB, mCh, mAndV, mOrV, mNotV, mTyIs, tyOf, mTup, mLst, mFz, mUn, pys, Re.bind, mCall, mNot, mAnd, mIf, mLc, mSeq, mRng1, mEn, mYes, noE, sFor, mIxO, mSl, mPart, fSl, List.map_cons, List.map_nil, Option.map_some, Option.map_none, List.length_cons, List.length_nil, List.length_map, List.replicate, List.cons_append, List.nil_append, List.append_nil, List.getElem?_cons_zero, List.getElem?_cons_succ, List.set_cons_zero, List.set_cons_succ, List.foldl_cons, List.foldl_nil, List.set, List.map_map, fI, fMul, fAdd, fMod, fDiv, fInt, fLen, fSum, fAll, fTup, fDivmod, fMax2, fMin2, fNeg, fBack, fIsB, fNotB, fIx, fCnt, mCnt, Re.cut, fEq, fNe, fIsN, fNotN, isN, Nat.reduceSub, Nat.reduceAdd, if_true, Bool.false_eq_true, if_false, reduceIte, decide_true, decide_false, Bool.not_true, Bool.not_false, Bool.and_true, Bool.true_and, reduceCtorEq, tI]
  rw [lc_over1 (F := D.py ∘ PyData.int) (g := fun _ : Int => PyData.bool true) (xs := ms) _ (by simp only [List.length_nil]; omega) ?_]
  · simp only [fnM, envOf, sSeq, sAsg, sRet, sIf, sNil, sOw, sApp, sExt, sAsg2, sAug, sDrop, sPar, sParO, sNever, mDf, mRng2, mRng3, seqOf, sRaise, asgN, asgs, asgT, mOp, mFn, mCons, mNil, mC, mVar, mB, mCh, mAndV, mOrV, mNotV, mTyIs, tyOf, mTup, mLst, mFz, mUn, pys, Re.bind, mCall, mNot, mAnd, mIf, mLc, mSeq, mRng1, mEn, mYes, noE, sFor, mIxO, mSl, mPart, fSl, List.map_cons, List.map_nil, Option.map_some, Option.map_none, List.length_cons, List.length_nil, List.length_map, List.replicate, List.cons_append, List.nil_append, List.append_nil, List.getElem?_cons_zero, List.getElem?_cons_succ, List.set_cons_zero, List.set_cons_succ, List.foldl_cons, List.foldl_nil, List.set, List.map_map, fI, fMul, fAdd, fMod, fDiv, fInt, fLen, fSum, fAll, fTup, fDivmod, fMax2, fMin2, fNeg, fBack, fIsB, fNotB, fIx, fCnt, mCnt, Re.cut, fEq, fNe, fIsN, fNotN, isN, Nat.reduceSub, Nat.reduceAdd, if_true, Bool.false_eq_true, if_false, reduceIte, decide_true, decide_false, Bool.not_true, Bool.not_false, Bool.and_true, Bool.true_and, reduceCtorEq, all_true ms (fun _ => PyData.bool true) (fun _ _ => rfl)]
    simp
  · intro c hc
    have := h c hc
    refine ⟨_, rfl, ?_, rfl⟩
    simp [fnM, envOf, sSeq, sAsg, sRet, sIf, sNil, sOw, sApp, sExt, sAsg2, sAug, sDrop, sPar, sParO, sNever, mDf, mRng2, mRng3, seqOf, sRaise, asgN, asgs, asgT, mOp, mFn, mCons, mNil, mC, mVar, mB, mCh, mAndV, mOrV, mNotV, mTyIs, tyOf, mTup, mLst, mFz, mUn, pys, Re.bind, mCall, mNot, mAnd, mIf, mLc, mSeq, mRng1, mEn, mYes, noE, sFor, mIxO, mSl, mPart, fSl, List.map_cons, List.map_nil, Option.map_some, Option.map_none, List.length_cons, List.length_nil, List.length_map, List.replicate, List.cons_append, List.nil_append, List.append_nil, List.getElem?_cons_zero, List.getElem?_cons_succ, List.set_cons_zero, List.set_cons_succ, List.foldl_cons, List.foldl_nil, List.set, List.map_map, fI, fMul, fAdd, fMod, fDiv, fInt, fLen, fSum, fAll, fTup, fDivmod, fMax2, fMin2, fNeg, fBack, fIsB, fNotB, fIx, fCnt, mCnt, Re.cut, fEq, fNe, fIsN, fNotN, isN, Nat.reduceSub, Nat.reduceAdd, if_true, Bool.false_eq_true, if_false, reduceIte, decide_true, decide_false, Bool.not_true, Bool.not_false, Bool.and_true, Bool.true_and, reduceCtorEq, this.1, this.2]
theorem F_is_tupleI (ms : List Int) (a b : Int) (w : Wd) : f_is_tuple [.py (tI ms), .py (.int a), .py (.int b)] w = .rt (.py (.bool (decide (a ≤ ms.length ∧ ms.length ≤ b)))) w := by
  unfold tI
  rw [F_is_tuple, List.length_map]
theorem F_is_block {b : Bk} (h : BOk b) (w : Wd) : f_is_block [.py (bD b)] w = .rt (.py (.bool true)) w := by
  unfold f_is_block b_is_block
  have h1 := F_is_tuple [tI b.1, .int b.2] 2 2 w
  have h2 := F_is_tupleI b.1 1 60 w
  have h3 := F_are_whole b.1 0 3 w h.l2 h.mks
  have h4 := F_is_whole b.2 1 1000000000000000000000000000000 w
  rw [decide_eq_true ⟨h.t1, h.t2⟩] at h4
  rw [decide_eq_true (by have := h.l1; have := h.l2; omega)] at h2
  rw [decide_eq_true (by simp)] at h1
  simp only [fnM, envOf, sSeq, sAsg, sRet, sIf, sNil, sOw, sApp, sExt, sAsg2, sAug, sDrop, sPar, sParO, sNever, mDf, mRng2, mRng3, seqOf, sRaise, asgN, asgs, asgT, mOp, mFn, mCons, mNil, mC, mVar, mB, mCh, mAndV, mOrV, mNotV, mTyIs, tyOf, mTup, mLst, mFz, mUn, pys, Re.bind, mCall, mNot, mAnd, mIf, mLc, mSeq, mRng1, mEn, mYes, noE, sFor, mIxO, mSl, mPart, fSl, List.map_cons, List.map_nil, Option.map_some, Option.map_none, List.length_cons, List.length_nil, List.length_map, List.replicate, List.cons_append, List.nil_append, List.append_nil, List.getElem?_cons_zero, List.getElem?_cons_succ, List.set_cons_zero, List.set_cons_succ, List.foldl_cons, List.foldl_nil, List.set, List.map_map, fI, fMul, fAdd, fMod, fDiv, fInt, fLen, fSum, fAll, fTup, fDivmod, fMax2, fMin2, fNeg, fBack, fIsB, fNotB, fIx, fCnt, mCnt, Re.cut, fEq, fNe, fIsN, fNotN, isN, Nat.reduceSub, Nat.reduceAdd, if_true, Bool.false_eq_true, if_false, reduceIte, decide_true, decide_false, Bool.not_true, Bool.not_false, Bool.and_true, Bool.true_and, reduceCtorEq, bD, h1, h2, h3, h4]
theorem numb_get {α : Type} (f : α → PyData) (xs : List α) (i : Nat) (d : D) (h : (numbered 0 (xs.map f))[i]? = some d) : ∃ x, xs[i]? = some x ∧ d = .wt [.int (i : Nat), f x] := by
  rw [numbered_get, List.getElem?_map] at h
  cases e : xs[i]? with
  | none => rw [e] at h; cases h
  | some x =>
    rw [e] at h
    cases h
    exact ⟨x, rfl, by rw [Nat.zero_add]⟩
theorem F_need_row {r : List Bk} (h : ROk r) (w : Wd) : f_need_row [.py (rD r)] w = .rt (.py (rD r)) w := by
  unfold f_need_row b_need_row
  have h1 := F_is_tuple (r.map bD) 0 60 w
  rw [decide_eq_true (by rw [List.length_map]; have := h.1; omega)] at h1
  simp only [fnM, envOf, sSeq, sAsg, sRet, sIf, sNil, sOw, sApp, sExt, sAsg2, sAug, sDrop, sPar, sParO, sNever, mDf, mRng2, mRng3, seqOf, sRaise, asgN, asgs, asgT, mOp, mFn, mCons, mNil, mC, mVar, mB, mCh, mAndV, mOrV, mNotV, mTyIs, tyOf, mTup, mLst, mFz, mUn, pys, Re.bind, mCall, mNot, mAnd, mIf, mLc, mSeq, mRng1, mEn, mYes, noE, sFor, mIxO, mSl, mPart, fSl, List.map_cons, List.map_nil, Option.map_some, Option.map_none, List.length_cons, List.length_nil, List.length_map, List.replicate, List.cons_append, List.nil_append, List.append_nil, List.getElem?_cons_zero, List.getElem?_cons_succ, List.set_cons_zero, List.set_cons_succ, List.foldl_cons, List.foldl_nil, List.set, List.map_map, fI, fMul, fAdd, fMod, fDiv, fInt, fLen, fSum, fAll, fTup, fDivmod, fMax2, fMin2, fNeg, fBack, fIsB, fNotB, fIx, fCnt, mCnt, Re.cut, fEq, fNe, fIsN, fNotN, isN, Nat.reduceSub, Nat.reduceAdd, if_true, Bool.false_eq_true, if_false, reduceIte, decide_true, decide_false, Bool.not_true, Bool.not_false, Bool.and_true, Bool.true_and, reduceCtorEq, rD, h1]
  obtain ⟨r', w', e, s1, s2, rfl, rfl⟩ := forL_inv (asg := asgT [1, 2]) (body := b_need_row_L1) (fun _ e w' => ∃ s1 s2, e = [.im (.py (rD r)), s1, s2] ∧ w' = w) (numbered 0 (r.map bD)) 0 [.im (.py (rD r)), .no, .no] w ⟨_, _, rfl, rfl⟩ (by
    rintro i d e w' hi ⟨s1, s2, rfl, rfl⟩
    obtain ⟨b, hb, rfl⟩ := numb_get _ _ _ _ hi
    have ok := h.2 b (List.mem_of_getElem? hb)
    refine ⟨_, [.im (.py (rD r)), .im (.py (.int (i : Nat))), .im (.py (bD b))], w', rfl, ?_, _, _, rfl, rfl⟩
    unfold b_need_row_L1
    simp only [fnM, envOf, sSeq, sAsg, sRet, sIf, sNil, sOw, sApp, sExt, sAsg2, sAug, sDrop, sPar, sParO, sNever, mDf, mRng2, mRng3, seqOf, sRaise, asgN, asgs, asgT, mOp, mFn, mCons, mNil, mC, mVar, mB, mCh, mAndV, mOrV, mNotV, mTyIs, tyOf, mTup, mLst, mFz, mUn, pys, Re.bind, mCall, mNot, mAnd, mIf, mLc, mSeq, mRng1, mEn, mYes, noE, sFor, mIxO, mSl, mPart, fSl, List.map_cons, List.map_nil, Option.map_some, Option.map_none, List.length_cons, List.length_nil, List.length_map, List.replicate, List.cons_append, List.nil_append, List.append_nil, List.getElem?_cons_zero, List.getElem?_cons_succ, List.set_cons_zero, List.set_cons_succ, List.foldl_cons, List.foldl_nil, List.set, List.map_map, fI, fMul, fAdd, fMod, fDiv, fInt, fLen, fSum, fAll, fTup, fDivmod, fMax2, fMin2, fNeg, fBack, fIsB, fNotB, fIx, fCnt, mCnt, Re.cut, fEq, fNe, fIsN, fNotN, isN, Nat.reduceSub, Nat.reduceAdd, if_true, Bool.false_eq_true, if_false, reduceIte, decide_true, decide_false, Bool.not_true, Bool.not_false, Bool.and_true, Bool.true_and, reduceCtorEq, F_is_block ok])
  unfold rD at e
  simp only [e]
  rfl
theorem F_need_border {r : List Bk} (h : ROk r) (p : Int) (h0 : 0 ≤ p) (h1 : p ≤ sz r) (w : Wd) : f_need_border [.py (rD r), .py (.int p)] w = .rt (.py .none) w := by
  unfold f_need_border b_need_border
  have h1 := F_is_whole p 0 (sz r) w
  rw [decide_eq_true ⟨h0, by assumption⟩] at h1
  simp only [fnM, envOf, sSeq, sAsg, sRet, sIf, sNil, sOw, sApp, sExt, sAsg2, sAug, sDrop, sPar, sParO, sNever, mDf, mRng2, mRng3, seqOf, sRaise, asgN, asgs, asgT, mOp, mFn, mCons, mNil, mC, mVar, mB, mCh, mAndV, mOrV, mNotV, mTyIs, tyOf, mTup, mLst, mFz, mUn, pys, Re.bind, mCall, mNot, mAnd, mIf, mLc, mSeq, mRng1, mEn, mYes, noE, sFor, mIxO, mSl, mPart, fSl, List.map_cons, List.map_nil, Option.map_some, Option.map_none, List.length_cons, List.length_nil, List.length_map, List.replicate, List.cons_append, List.nil_append, List.append_nil, List.getElem?_cons_zero, List.getElem?_cons_succ, List.set_cons_zero, List.set_cons_succ, List.foldl_cons, List.foldl_nil, List.set, List.map_map, fI, fMul, fAdd, fMod, fDiv, fInt, fLen, fSum, fAll, fTup, fDivmod, fMax2, fMin2, fNeg, fBack, fIsB, fNotB, fIx, fCnt, mCnt, Re.cut, fEq, fNe, fIsN, fNotN, isN, Nat.reduceSub, Nat.reduceAdd, if_true, Bool.false_eq_true, if_false, reduceIte, decide_true, decide_false, Bool.not_true, Bool.not_false, Bool.and_true, Bool.true_and, reduceCtorEq, F_entry_count r w h.1 (fun b hb => (h.2 b hb).l2), h1]
theorem map_get {α : Type} (f : α → D) (xs : List α) (i : Nat) (d : D) (h : (xs.map f)[i]? = some d) : ∃ x, xs[i]? = some x ∧ d = f x := by
  rw [List.getElem?_map] at h
  cases e : xs[i]? with
  | none => rw [e] at h; cases h
  | some x => rw [e] at h; cases h; exact ⟨x, rfl, rfl⟩
/-! ### the places of a mark -/
section
variable (p : Nat → Bool)
def pk (n : Nat) : List Nat := (List.range n).filter p
end
theorem mark_loop {r : List Bk} (h : ∀ b ∈ r, BOk b) (R : PyData) (w : Wd) : ∀ (q : Int) (s2 s3 : Slot), 0 ≤ q → q < sz r →
    ∃ c, mk r q = some c ∧ forL (asgT [2, 3]) b__law_mark_L1 (r.map (D.py ∘ bD)) [.im (.py R), .im (.py (.int q)), s2, s3] w = .rt (.py (.int c)) w := by
  induction r with
  | nil => intro q s2 s3 h0 h1; unfold sz at h1; simp at h1; omega
  | cons b r ih =>
    intro q s2 s3 h0 h1
    have ok := h b (List.mem_cons_self ..)
    have hr := fun c hc => h c (List.mem_cons_of_mem (a := c) b hc)
    have l1 := ok.l1
    have l2 := ok.l2
    have r0 := Int.emod_nonneg q (show (b.1.length : Int) ≠ 0 by omega)
    have r1 := Int.emod_lt_of_pos q (show (0 : Int) < (b.1.length : Int) by omega)
    have ea : asgT [2, 3] ((D.py ∘ bD) b) [.im (.py R), .im (.py (.int q)), s2, s3] = some [.im (.py R), .im (.py (.int q)), .im (.py (tI b.1)), .im (.py (.int b.2))] := rfl
    rw [List.map_cons]
    unfold mk
    by_cases c : q < szB b
    · rw [if_pos c]
      have hl : (q % (b.1.length : Int)).toNat < b.1.length := by omega
      have ce : decide (q < (b.1.length : Int) * b.2) = true := decide_eq_true c
      have ai : atI (b.1.map PyData.int) (q % (b.1.length : Int)) = some (.int b.1[(q % (b.1.length : Int)).toNat]) := by
        unfold atI
        rw [List.length_map, ixN_in r0 r1]
        show (b.1.map _)[_]? = _
        rw [List.getElem?_map, List.getElem?_eq_getElem hl]
        rfl
      refine ⟨_, List.getElem?_eq_getElem hl, ?_⟩
      unfold forL
      rw [ea]
      unfold b__law_mark_L1
      simp (disch := omega) only [fnM, envOf, sSeq, sAsg, sRet, sIf, sNil, sOw, sApp, sExt, sAsg2, sAug, sDrop, sPar, sParO, sNever, mDf, mRng2, mRng3, seqOf, sRaise, asgN, asgs, asgT, mOp, mFn, mCons, mNil, mC, mVar, mB, mCh, mAndV, mOrV, mNotV, mTyIs, tyOf, mTup, mLst, mFz, mUn, pys, Re.bind, mCall, mNot, mAnd, mIf, mLc, mSeq, mRng1, mEn, mYes, noE, sFor, mIxO, mSl, mPart, fSl, List.map_cons, List.map_nil, Option.map_some, Option.map_none, List.length_cons, List.length_nil, List.length_map, List.replicate, List.cons_append, List.nil_append, List.append_nil, List.getElem?_cons_zero, List.getElem?_cons_succ, List.set_cons_zero, List.set_cons_succ, List.foldl_cons, List.foldl_nil, List.set, List.map_map, fI, fMul, fAdd, fMod, fDiv, fInt, fLen, fSum, fAll, fTup, fDivmod, fMax2, fMin2, fNeg, fBack, fIsB, fNotB, fIx, fCnt, mCnt, Re.cut, fIsN, fNotN, isN, Nat.reduceSub, Nat.reduceAdd, if_true, Bool.false_eq_true, if_false, reduceIte, decide_true, decide_false, Bool.not_true, Bool.not_false, Bool.and_true, Bool.true_and, reduceCtorEq, ifC_pos, eq_FI, tI, ce, ai]
    · rw [if_neg c]
      have ce : decide (q < (b.1.length : Int) * b.2) = false := decide_eq_false c
      obtain ⟨x, e1, e2⟩ := ih hr (q - szB b) (.im (.py (tI b.1))) (.im (.py (.int b.2))) (by omega) (by rw [sz_cons] at h1; omega)
      refine ⟨x, e1, ?_⟩
      unfold forL
      rw [ea]
      have eb : b__law_mark_L1 [.im (.py R), .im (.py (.int q)), .im (.py (tI b.1)), .im (.py (.int b.2))] w = .nx [.im (.py R), .im (.py (.int (q - szB b))), .im (.py (tI b.1)), .im (.py (.int b.2))] w := by
        unfold b__law_mark_L1
        simp (disch := omega) only [fnM, envOf, sSeq, sAsg, sRet, sIf, sNil, sOw, sApp, sExt, sAsg2, sAug, sDrop, sPar, sParO, sNever, mDf, mRng2, mRng3, seqOf, sRaise, asgN, asgs, asgT, mOp, mFn, mCons, mNil, mC, mVar, mB, mCh, mAndV, mOrV, mNotV, mTyIs, tyOf, mTup, mLst, mFz, mUn, pys, Re.bind, mCall, mNot, mAnd, mIf, mLc, mSeq, mRng1, mEn, mYes, noE, sFor, mIxO, mSl, mPart, fSl, List.map_cons, List.map_nil, Option.map_some, Option.map_none, List.length_cons, List.length_nil, List.length_map, List.replicate, List.cons_append, List.nil_append, List.append_nil, List.getElem?_cons_zero, List.getElem?_cons_succ, List.set_cons_zero, List.set_cons_succ, List.foldl_cons, List.foldl_nil, List.set, List.map_map, fI, fMul, fAdd, fMod, fDiv, fInt, fLen, fSum, fAll, fTup, fDivmod, fMax2, fMin2, fNeg, fBack, fIsB, fNotB, fIx, fCnt, mCnt, Re.cut, fIsN, fNotN, isN, Nat.reduceSub, Nat.reduceAdd, if_true, Bool.false_eq_true, if_false, reduceIte, decide_true, decide_false, Bool.not_true, Bool.not_false, Bool.and_true, Bool.true_and, reduceCtorEq, ifC_pos, eq_FI, tI, ce]
        rfl
      simp only [eb]
      exact e2
theorem F__law_mark {r : List Bk} (h : ROk r) (q : Int) (h0 : 0 ≤ q) (h1 : q < sz r) (w : Wd) : ∃ c, mk r q = some c ∧ f__law_mark [.py (rD r), .py (.int q)] w = .rt (.py (.int c)) w := by
  unfold f__law_mark b__law_mark
  obtain ⟨c, e1, e2⟩ := mark_loop h.2 (rD r) w q .no .no h0 h1
  refine ⟨c, e1, ?_⟩
  unfold rD at e2 ⊢
  simp (disch := omega) only [fnM, envOf, sSeq, sAsg, sRet, sIf, sNil, sOw, sApp, sExt, sAsg2, sAug, sDrop, sPar, sParO, sNever, mDf, mRng2, mRng3, seqOf, sRaise, asgN, asgs, asgT, mOp, mFn, mCons, mNil, mC, mVar, mB, mCh, mAndV, mOrV, mNotV, mTyIs, tyOf, mTup, mLst, mFz, mUn, pys, Re.bind, mCall, mNot, mAnd, mIf, mLc, mSeq, mRng1, mEn, mYes, noE, sFor, mIxO, mSl, mPart, fSl, List.map_cons, List.map_nil, Option.map_some, Option.map_none, List.length_cons, List.length_nil, List.length_map, List.replicate, List.cons_append, List.nil_append, List.append_nil, List.getElem?_cons_zero, List.getElem?_cons_succ, List.set_cons_zero, List.set_cons_succ, List.foldl_cons, List.foldl_nil, List.set, List.map_map, fI, fMul, fAdd, fMod, fDiv, fInt, fLen, fSum, fAll, fTup, fDivmod, fMax2, fMin2, fNeg, fBack, fIsB, fNotB, fIx, fCnt, mCnt, Re.cut, fIsN, fNotN, isN, Nat.reduceSub, Nat.reduceAdd, if_true, Bool.false_eq_true, if_false, reduceIte, decide_true, decide_false, Bool.not_true, Bool.not_false, Bool.and_true, Bool.true_and, reduceCtorEq, ifC_pos, eq_FI, e2]
theorem F__law_like {k : Nat} (h0 : 0 < k) (hk : k ≤ 500) {d : PyData} (h : good k d) (hd : d.depth ≤ 60) (hc : cost k d ≤ 1000000) (w : Wd) : f__law_like [.py d, .py d] w = .rt (.py (.bool true)) w := by
  unfold f__law_like b__law_like
  simp only [fnM, envOf, sSeq, sAsg, sRet, sIf, sNil, sOw, sApp, sExt, sAsg2, sAug, sDrop, sPar, sParO, sNever, mDf, mRng2, mRng3, seqOf, sRaise, asgN, asgs, asgT, mOp, mFn, mCons, mNil, mC, mVar, mB, mCh, mAndV, mOrV, mNotV, mTyIs, tyOf, mTup, mLst, mFz, mUn, pys, Re.bind, mCall, mNot, mAnd, mIf, mLc, mSeq, mRng1, mEn, mYes, noE, sFor, mIxO, mSl, mPart, fSl, List.map_cons, List.map_nil, Option.map_some, Option.map_none, List.length_cons, List.length_nil, List.length_map, List.replicate, List.cons_append, List.nil_append, List.append_nil, List.getElem?_cons_zero, List.getElem?_cons_succ, List.set_cons_zero, List.set_cons_succ, List.foldl_cons, List.foldl_nil, List.set, List.map_map, fI, fMul, fAdd, fMod, fDiv, fInt, fLen, fSum, fAll, fTup, fDivmod, fMax2, fMin2, fNeg, fBack, fIsB, fNotB, fIx, fCnt, mCnt, Re.cut, fIsN, fNotN, isN, Nat.reduceSub, Nat.reduceAdd, if_true, Bool.false_eq_true, if_false, reduceIte, decide_true, decide_false, Bool.not_true, Bool.not_false, Bool.and_true, Bool.true_and, reduceCtorEq, eq_FI, repr_F h0 hk h hd hc, eq_FS (shown_ok h0 d h)]
theorem p10_le {a b : Nat} (h : a ≤ b) : (10 : Int) ^ a ≤ 10 ^ b := by
  obtain ⟨c, rfl⟩ := Nat.le.dest h
  have h1 : (0 : Int) < 10 ^ c := Int.pow_pos (by decide)
  have h2 : (0 : Int) < 10 ^ a := Int.pow_pos (by decide)
  have h3 := Int.mul_le_mul_of_nonneg_left (show (1 : Int) ≤ 10 ^ c by omega) (show (0 : Int) ≤ 10 ^ a by omega)
  rw [Int.mul_one] at h3
  rw [Int.pow_add]
  exact h3
theorem WOk.mono {w : Wd} {k k' : Int} (h : WOk w k) (l : k ≤ k') : WOk w k' := ⟨h.len, h.lo, h.gl, h.s0, Int.le_trans h.sk l⟩
theorem F__law_tens (n : Int) (h0 : 0 ≤ n) (h1 : n ≤ 1000) (w : Wd) : f__law_tens [.py (.int n)] w = .rt (.py (.int (10 ^ n.toNat))) w := by
  unfold f__law_tens b__law_tens
  obtain ⟨r', w', e, s2, rfl, rfl⟩ := forL_inv (asg := asgN 2) (body := b__law_tens_L1) (fun i e w' => ∃ s2 : Slot, e = [.im (.py (.int n)), .im (.py (.int (10 ^ i))), s2] ∧ w' = w) (upto 0 n.toNat) 0 [.im (.py (.int n)), .im (.py (.int 1)), .no] w ⟨_, rfl, rfl⟩ (by
    rintro i d e w' hi ⟨s2, rfl, rfl⟩
    rw [Nat.zero_add]
    refine ⟨_, [.im (.py (.int n)), .im (.py (.int (10 ^ (i + 1)))), .im d], w', rfl, ?_, _, rfl, rfl⟩
    unfold b__law_tens_L1
    have e10 : (10 : Int) ^ i * 10 = 10 ^ (i + 1) := (Int.pow_succ ..).symm
    simp (disch := omega) only [fnM, envOf, sSeq, sAsg, sRet, sIf, sNil, sOw, sApp, sExt, sAsg2, sAug, sDrop, sPar, sParO, sNever, mDf, mRng2, mRng3, seqOf, sRaise, asgN, asgs, asgT, mOp, mFn, mCons, mNil, mC, mVar, mB, mCh, mAndV, mOrV, mNotV, mTyIs, tyOf, mTup, mLst, mFz, mUn, pys, Re.bind, mCall, mNot, mAnd, mIf, mLc, mSeq, mRng1, mEn, mYes, noE, sFor, mIxO, mSl, mPart, fSl, List.map_cons, List.map_nil, Option.map_some, Option.map_none, List.length_cons, List.length_nil, List.length_map, List.replicate, List.cons_append, List.nil_append, List.append_nil, List.getElem?_cons_zero, List.getElem?_cons_succ, List.set_cons_zero, List.set_cons_succ, List.foldl_cons, List.foldl_nil, List.set, List.map_map, fI, fMul, fAdd, fMod, fDiv, fInt, fLen, fSum, fAll, fTup, fDivmod, fMax2, fMin2, fNeg, fBack, fIsB, fNotB, fIx, fCnt, mCnt, Re.cut, fIsN, fNotN, isN, Nat.reduceSub, Nat.reduceAdd, if_true, Bool.false_eq_true, if_false, reduceIte, decide_true, decide_false, Bool.not_true, Bool.not_false, Bool.and_true, Bool.true_and, reduceCtorEq, ifC_pos, eq_FI, e10])
  have el : (upto 0 n.toNat).length = n.toNat := by unfold upto; rw [List.length_map, List.length_range]
  rw [el, Nat.zero_add] at e
  simp (disch := omega) only [fnM, envOf, sSeq, sAsg, sRet, sIf, sNil, sOw, sApp, sExt, sAsg2, sAug, sDrop, sPar, sParO, sNever, mDf, mRng2, mRng3, seqOf, sRaise, asgN, asgs, asgT, mOp, mFn, mCons, mNil, mC, mVar, mB, mCh, mAndV, mOrV, mNotV, mTyIs, tyOf, mTup, mLst, mFz, mUn, pys, Re.bind, mCall, mNot, mAnd, mIf, mLc, mSeq, mRng1, mEn, mYes, noE, sFor, mIxO, mSl, mPart, fSl, List.map_cons, List.map_nil, Option.map_some, Option.map_none, List.length_cons, List.length_nil, List.length_map, List.replicate, List.cons_append, List.nil_append, List.append_nil, List.getElem?_cons_zero, List.getElem?_cons_succ, List.set_cons_zero, List.set_cons_succ, List.foldl_cons, List.foldl_nil, List.set, List.map_map, fI, fMul, fAdd, fMod, fDiv, fInt, fLen, fSum, fAll, fTup, fDivmod, fMax2, fMin2, fNeg, fBack, fIsB, fNotB, fIx, fCnt, mCnt, Re.cut, fIsN, fNotN, isN, Nat.reduceSub, Nat.reduceAdd, if_true, Bool.false_eq_true, if_false, reduceIte, decide_true, decide_false, Bool.not_true, Bool.not_false, Bool.and_true, Bool.true_and, reduceCtorEq, ifC_pos, eq_FI, e]
section
variable {w : Wd} {k : Int}
theorem R_draw (lim : Int) (h : WOk w k) (hk : k ≤ 900000) (h0 : 0 < lim) (h1 : lim < 1073741824) : ∃ v w', drawF [.mm, .py (.int lim)] w = .rt (.py (.int v)) w' ∧ 0 ≤ v ∧ v < lim ∧ WOk w' (k + 1) := draw_F h0 h1 h (by omega)
theorem R_sum5 {asg : D → En → Option En} {B : S} {env : Int → Slot → En} (m : Int) (h : WOk w k) (n : Nat) (hk : k + n ≤ 900000) (xs : List D) (hx : xs.length = n) (P : Int → Prop) (h0 : P 0)
    (st : ∀ (a : Int) (s : Slot) (d : D) (w : Wd) (k : Int), P a → WOk w k → k ≤ 900000 → ∃ a' w', asg d (env a s) = some (env a (.im d)) ∧ B (env a (.im d)) w = .nx (env a' (.im d)) w' ∧ P a' ∧ WOk w' (k + 1)) (s : Slot) :
    ∃ a s' w', forL asg B xs (env 0 s) w = .nx (env a s') w' ∧ P a ∧ WOk w' (k + n) := by
  obtain ⟨r', w', e, a, s', rfl, pa, ok⟩ := forL_inv (asg := asg) (body := B) (fun i e w' => ∃ (a : Int) (s : Slot), e = env a s ∧ P a ∧ i ≤ n ∧ WOk w' (k + i)) xs 0 (env 0 s) w ⟨0, s, rfl, h0, Nat.zero_le _, h.mono (by omega)⟩ (by
    rintro i d e w' hi ⟨a, s, rfl, pa, hin, ok⟩
    have il := (List.getElem?_eq_some_iff.mp hi).1
    obtain ⟨a', w2, e1, e2, e3, e4⟩ := st a s d w' _ pa ok (by omega)
    exact ⟨_, _, _, e1, e2, a', _, rfl, e3, by omega, e4.mono (by omega)⟩)
  rw [Nat.zero_add, hx] at ok
  exact ⟨a, s', w', e, pa, ok.2⟩
theorem R_times (h : WOk w k) (hk : k ≤ 800000) : ∃ t w', f__law_times [.mm] w = .rt (.py (.int t)) w' ∧ 1 ≤ t ∧ t ≤ 1000000000000000000000000000000 ∧ WOk w' (k + 6) := by
  obtain ⟨v1, w1, e1, l1, u1, o1⟩ := R_draw 2 h (by omega) (by decide) (by decide)
  by_cases c : v1 = 0
  · obtain ⟨v2, w2, e2, l2, u2, o2⟩ := R_draw 4 o1 (by omega) (by decide) (by decide)
    refine ⟨1 + v2, w2, ?_, by omega, by omega, o2.mono (by omega)⟩
    unfold f__law_times b__law_times
    have cd : decide (v1 = 0) = true := decide_eq_true c
    simp (disch := omega) only [fnM, envOf, sSeq, sAsg, sRet, sIf, sNil, sOw, sApp, sExt, sAsg2, sAug, sDrop, sPar, sParO, sNever, mDf, mRng2, mRng3, seqOf, sRaise, asgN, asgs, asgT, mOp, mFn, mCons, mNil, mC, mVar, mB, mCh, mAndV, mOrV, mNotV, mTyIs, tyOf, mTup, mLst, mFz, mUn, pys, Re.bind, mCall, mNot, mAnd, mIf, mLc, mSeq, mRng1, mEn, mYes, noE, sFor, mIxO, mSl, mPart, fSl, List.map_cons, List.map_nil, Option.map_some, Option.map_none, List.length_cons, List.length_nil, List.length_map, List.replicate, List.cons_append, List.nil_append, List.append_nil, List.getElem?_cons_zero, List.getElem?_cons_succ, List.set_cons_zero, List.set_cons_succ, List.foldl_cons, List.foldl_nil, List.set, List.map_map, fI, fMul, fAdd, fMod, fDiv, fInt, fLen, fSum, fAll, fTup, fDivmod, fMax2, fMin2, fNeg, fBack, fIsB, fNotB, fIx, fCnt, mCnt, Re.cut, fIsN, fNotN, isN, Nat.reduceSub, Nat.reduceAdd, if_true, Bool.false_eq_true, if_false, reduceIte, decide_true, decide_false, Bool.not_true, Bool.not_false, Bool.and_true, Bool.true_and, reduceCtorEq, ifC_pos, eq_FI, f__law_draw, e1, e2, cd]
  · have cd : decide (v1 = 0) = false := decide_eq_false c
    obtain ⟨a, s', w2, e2, pa, o2⟩ := R_sum5 (asg := asgN 2) (B := b__law_times_L1) (env := fun a s => [.im .mm, .im (.py (.int a)), s]) 0 o1 4 (by omega) (upto 0 4) rfl (fun a => 0 ≤ a) (Int.le_refl 0) (by
      intro a s d w k pa ok hk
      obtain ⟨v, w', e, l, u, o⟩ := R_draw 100000000 ok hk (by decide) (by decide)
      refine ⟨a * 100000000 + v, w', rfl, ?_, by omega, o⟩
      unfold b__law_times_L1
      simp (disch := omega) only [fnM, envOf, sSeq, sAsg, sRet, sIf, sNil, sOw, sApp, sExt, sAsg2, sAug, sDrop, sPar, sParO, sNever, mDf, mRng2, mRng3, seqOf, sRaise, asgN, asgs, asgT, mOp, mFn, mCons, mNil, mC, mVar, mB, mCh, mAndV, mOrV, mNotV, mTyIs, tyOf, mTup, mLst, mFz, mUn, pys, Re.bind, mCall, mNot, mAnd, mIf, mLc, mSeq, mRng1, mEn, mYes, noE, sFor, mIxO, mSl, mPart, fSl, List.map_cons, List.map_nil, Option.map_some, Option.map_none, List.length_cons, List.length_nil, List.length_map, List.replicate, List.cons_append, List.nil_append, List.append_nil, List.getElem?_cons_zero, List.getElem?_cons_succ, List.set_cons_zero, List.set_cons_succ, List.foldl_cons, List.foldl_nil, List.set, List.map_map, fI, fMul, fAdd, fMod, fDiv, fInt, fLen, fSum, fAll, fTup, fDivmod, fMax2, fMin2, fNeg, fBack, fIsB, fNotB, fIx, fCnt, mCnt, Re.cut, fIsN, fNotN, isN, Nat.reduceSub, Nat.reduceAdd, if_true, Bool.false_eq_true, if_false, reduceIte, decide_true, decide_false, Bool.not_true, Bool.not_false, Bool.and_true, Bool.true_and, reduceCtorEq, ifC_pos, eq_FI, f__law_draw, e]) .no
    obtain ⟨v3, w3, e3, l3, u3, o3⟩ := R_draw 30 o2 (by omega) (by decide) (by decide)
    have et := F__law_tens (1 + v3) (by omega) (by omega) w3
    have p0 : (0 : Int) < 10 ^ (1 + v3).toNat := Int.pow_pos (by decide)
    have p1 : (10 : Int) ^ (1 + v3).toNat ≤ 10 ^ 30 := p10_le (by omega)
    have m0 := Int.emod_nonneg a (Int.ne_of_gt p0)
    have m1 := Int.emod_lt_of_pos a p0
    have p2 : (10 : Int) ^ 30 = 1000000000000000000000000000000 := by decide
    rw [p2] at p1
    refine ⟨1 + a % 10 ^ (1 + v3).toNat, w3, ?_, by omega, by omega, o3.mono (by omega)⟩
    unfold f__law_times b__law_times
    have u4 : upto 0 (4 : Int).toNat = upto 0 4 := rfl
    simp (disch := omega) only [fnM, envOf, sSeq, sAsg, sRet, sIf, sNil, sOw, sApp, sExt, sAsg2, sAug, sDrop, sPar, sParO, sNever, mDf, mRng2, mRng3, seqOf, sRaise, asgN, asgs, asgT, mOp, mFn, mCons, mNil, mC, mVar, mB, mCh, mAndV, mOrV, mNotV, mTyIs, tyOf, mTup, mLst, mFz, mUn, pys, Re.bind, mCall, mNot, mAnd, mIf, mLc, mSeq, mRng1, mEn, mYes, noE, sFor, mIxO, mSl, mPart, fSl, List.map_cons, List.map_nil, Option.map_some, Option.map_none, List.length_cons, List.length_nil, List.length_map, List.replicate, List.cons_append, List.nil_append, List.append_nil, List.getElem?_cons_zero, List.getElem?_cons_succ, List.set_cons_zero, List.set_cons_succ, List.foldl_cons, List.foldl_nil, List.set, List.map_map, fI, fMul, fAdd, fMod, fDiv, fInt, fLen, fSum, fAll, fTup, fDivmod, fMax2, fMin2, fNeg, fBack, fIsB, fNotB, fIx, fCnt, mCnt, Re.cut, fIsN, fNotN, isN, Nat.reduceSub, Nat.reduceAdd, if_true, Bool.false_eq_true, if_false, reduceIte, decide_true, decide_false, Bool.not_true, Bool.not_false, Bool.and_true, Bool.true_and, reduceCtorEq, ifC_pos, eq_FI, f__law_draw, e1, e2, cd, u4, e3, et]
theorem R_below (lim : Int) (h : WOk w k) (hk : k ≤ 800000) (h0 : 0 < lim) : ∃ v w', f__law_below [.mm, .py (.int lim)] w = .rt (.py (.int v)) w' ∧ 0 ≤ v ∧ v < lim ∧ WOk w' (k + 5) := by
  obtain ⟨a, s', w2, e2, pa, o2⟩ := R_sum5 (asg := asgN 3) (B := b__law_below_L1) (env := fun a s => [.im .mm, .im (.py (.int lim)), .im (.py (.int a)), s]) 0 h 5 (by omega) (upto 0 5) rfl (fun _ => True) trivial (by
    intro a s d w k pa ok hk
    obtain ⟨v, w', e, l, u, o⟩ := R_draw 1000000000 ok hk (by decide) (by decide)
    refine ⟨a * 1000000000 + v, w', rfl, ?_, trivial, o⟩
    unfold b__law_below_L1
    simp (disch := omega) only [fnM, envOf, sSeq, sAsg, sRet, sIf, sNil, sOw, sApp, sExt, sAsg2, sAug, sDrop, sPar, sParO, sNever, mDf, mRng2, mRng3, seqOf, sRaise, asgN, asgs, asgT, mOp, mFn, mCons, mNil, mC, mVar, mB, mCh, mAndV, mOrV, mNotV, mTyIs, tyOf, mTup, mLst, mFz, mUn, pys, Re.bind, mCall, mNot, mAnd, mIf, mLc, mSeq, mRng1, mEn, mYes, noE, sFor, mIxO, mSl, mPart, fSl, List.map_cons, List.map_nil, Option.map_some, Option.map_none, List.length_cons, List.length_nil, List.length_map, List.replicate, List.cons_append, List.nil_append, List.append_nil, List.getElem?_cons_zero, List.getElem?_cons_succ, List.set_cons_zero, List.set_cons_succ, List.foldl_cons, List.foldl_nil, List.set, List.map_map, fI, fMul, fAdd, fMod, fDiv, fInt, fLen, fSum, fAll, fTup, fDivmod, fMax2, fMin2, fNeg, fBack, fIsB, fNotB, fIx, fCnt, mCnt, Re.cut, fIsN, fNotN, isN, Nat.reduceSub, Nat.reduceAdd, if_true, Bool.false_eq_true, if_false, reduceIte, decide_true, decide_false, Bool.not_true, Bool.not_false, Bool.and_true, Bool.true_and, reduceCtorEq, ifC_pos, eq_FI, f__law_draw, e]) .no
  refine ⟨a % lim, w2, ?_, Int.emod_nonneg _ (by omega), Int.emod_lt_of_pos _ h0, o2⟩
  unfold f__law_below b__law_below
  have u5 : upto 0 (5 : Int).toNat = upto 0 5 := rfl
  simp (disch := omega) only [fnM, envOf, sSeq, sAsg, sRet, sIf, sNil, sOw, sApp, sExt, sAsg2, sAug, sDrop, sPar, sParO, sNever, mDf, mRng2, mRng3, seqOf, sRaise, asgN, asgs, asgT, mOp, mFn, mCons, mNil, mC, mVar, mB, mCh, mAndV, mOrV, mNotV, mTyIs, tyOf, mTup, mLst, mFz, mUn, pys, Re.bind, mCall, mNot, mAnd, mIf, mLc, mSeq, mRng1, mEn, mYes, noE, sFor, mIxO, mSl, mPart, fSl, List.map_cons, List.map_nil, Option.map_some, Option.map_none, List.length_cons, List.length_nil, List.length_map, List.replicate, List.cons_append, List.nil_append, List.append_nil, List.getElem?_cons_zero, List.getElem?_cons_succ, List.set_cons_zero, List.set_cons_succ, List.foldl_cons, List.foldl_nil, List.set, List.map_map, fI, fMul, fAdd, fMod, fDiv, fInt, fLen, fSum, fAll, fTup, fDivmod, fMax2, fMin2, fNeg, fBack, fIsB, fNotB, fIx, fCnt, mCnt, Re.cut, fIsN, fNotN, isN, Nat.reduceSub, Nat.reduceAdd, if_true, Bool.false_eq_true, if_false, reduceIte, decide_true, decide_false, Bool.not_true, Bool.not_false, Bool.and_true, Bool.true_and, reduceCtorEq, ifC_pos, eq_FI, u5, e2]
theorem R_of (xs : List Int) (h : WOk w k) (hk : k ≤ 800000) (h0 : 0 < xs.length) (h1 : xs.length ≤ 1000) : ∃ v w', f__law_of [.mm, .py (.list (xs.map PyData.int))] w = .rt (.py (.int v)) w' ∧ v ∈ xs ∧ WOk w' (k + 1) := by
  obtain ⟨v, w', e, l, u, o⟩ := R_draw (xs.length : Int) h (by omega) (by omega) (by omega)
  have hl : v.toNat < xs.length := by omega
  have ai : atI (xs.map PyData.int) v = some (.int xs[v.toNat]) := by
    unfold atI
    rw [List.length_map, ixN_in l u]
    show (xs.map _)[_]? = _
    rw [List.getElem?_map, List.getElem?_eq_getElem hl]
    rfl
  refine ⟨xs[v.toNat], w', ?_, List.getElem_mem hl, o⟩
  unfold f__law_of b__law_of
  simp (disch := omega) only [fnM, envOf, sSeq, sAsg, sRet, sIf, sNil, sOw, sApp, sExt, sAsg2, sAug, sDrop, sPar, sParO, sNever, mDf, mRng2, mRng3, seqOf, sRaise, asgN, asgs, asgT, mOp, mFn, mCons, mNil, mC, mVar, mB, mCh, mAndV, mOrV, mNotV, mTyIs, tyOf, mTup, mLst, mFz, mUn, pys, Re.bind, mCall, mNot, mAnd, mIf, mLc, mSeq, mRng1, mEn, mYes, noE, sFor, mIxO, mSl, mPart, fSl, List.map_cons, List.map_nil, Option.map_some, Option.map_none, List.length_cons, List.length_nil, List.length_map, List.replicate, List.cons_append, List.nil_append, List.append_nil, List.getElem?_cons_zero, List.getElem?_cons_succ, List.set_cons_zero, List.set_cons_succ, List.foldl_cons, List.foldl_nil, List.set, List.map_map, fI, fMul, fAdd, fMod, fDiv, fInt, fLen, fSum, fAll, fTup, fDivmod, fMax2, fMin2, fNeg, fBack, fIsB, fNotB, fIx, fCnt, mCnt, Re.cut, fIsN, fNotN, isN, Nat.reduceSub, Nat.reduceAdd, if_true, Bool.false_eq_true, if_false, reduceIte, decide_true, decide_false, Bool.not_true, Bool.not_false, Bool.and_true, Bool.true_and, reduceCtorEq, ifC_pos, eq_FI, f__law_draw, e, ai]
end
theorem ints_all {lo hi : Int} : ∀ (ys : List PyData), (∀ y ∈ ys, ∃ c : Int, y = .int c ∧ lo ≤ c ∧ c < hi) → ∃ cs : List Int, ys = cs.map PyData.int ∧ ∀ c ∈ cs, lo ≤ c ∧ c < hi
  | [], _ => ⟨[], rfl, fun c h => (by cases h)⟩
  | y :: ys, h => by
    obtain ⟨c, rfl, h1⟩ := h y (List.mem_cons_self ..)
    obtain ⟨cs, rfl, h2⟩ := ints_all ys fun z hz => h z (List.mem_cons_of_mem _ hz)
    refine ⟨c :: cs, rfl, fun x hx => ?_⟩
    rcases List.mem_cons.mp hx with z | z
    · rw [z]; exact h1
    · exact h2 x z
section
variable {w : Wd} {k : Int}
theorem R_marks (many n : Int) (x2 x3 x4 x6 : Slot) (h : WOk w k) (hk : k ≤ 800000) (m0 : 0 < many) (m1 : many ≤ 4) (n0 : 0 ≤ n) (n1 : n ≤ 60) : ∃ (cs : List Int) (w' : Wd),
    mLc (asgN 6) (mRng1 (mCons (mVar 5) mNil)) mYes (mCall f__law_draw (mCons (mVar 0) (mCons (mVar 1) mNil))) [6] [.im .mm, .im (.py (.int many)), x2, x3, x4, .im (.py (.int n)), x6] w
      = .ok (cs.map PyData.int) [.im .mm, .im (.py (.int many)), x2, x3, x4, .im (.py (.int n)), .no] w' ∧ (cs.length : Int) = n ∧ (∀ c ∈ cs, 0 ≤ c ∧ c < many) ∧ WOk w' (k + n) := by
  obtain ⟨ys, w', e1, e2, e3, e4⟩ := lc_some (asg := asgN 6) (me := mCall f__law_draw (mCons (mVar 0) (mCons (mVar 1) mNil))) (own := [6]) (r := [.im .mm, .im (.py (.int many)), x2, x3, x4, .im (.py (.int n)), .no])
    (F := fun i : Nat => D.py (.int (0 + (i : Int)))) (P := fun y => ∃ c : Int, y = .int c ∧ 0 ≤ c ∧ c < many) (c := 1) (K := 850000) (by decide) (List.range n.toNat) [] k w (by rw [List.length_range]; simp only [List.length_nil]; omega) h (by rw [List.length_range]; omega) (by
      intro x _ k w ok hk
      obtain ⟨v, w', e, l, u, o⟩ := R_draw many ok (by omega) m0 (by omega)
      refine ⟨_, [.im .mm, .im (.py (.int many)), x2, x3, x4, .im (.py (.int n)), .im (.py (.int (0 + (x : Int))))], .int v, w', rfl, ?_, rfl, ⟨v, rfl, l, u⟩, o⟩
      simp (disch := omega) only [fnM, envOf, sSeq, sAsg, sRet, sIf, sNil, sOw, sApp, sExt, sAsg2, sAug, sDrop, sPar, sParO, sNever, mDf, mRng2, mRng3, seqOf, sRaise, asgN, asgs, asgT, mOp, mFn, mCons, mNil, mC, mVar, mB, mCh, mAndV, mOrV, mNotV, mTyIs, tyOf, mTup, mLst, mFz, mUn, pys, Re.bind, mCall, mNot, mAnd, mIf, mLc, mSeq, mRng1, mEn, mYes, noE, sFor, mIxO, mSl, mPart, fSl, List.map_cons, List.map_nil, Option.map_some, Option.map_none, List.length_cons, List.length_nil, List.length_map, List.replicate, List.cons_append, List.nil_append, List.append_nil, List.getElem?_cons_zero, List.getElem?_cons_succ, List.set_cons_zero, List.set_cons_succ, List.foldl_cons, List.foldl_nil, List.set, List.map_map, fI, fMul, fAdd, fMod, fDiv, fInt, fLen, fSum, fAll, fTup, fDivmod, fMax2, fMin2, fNeg, fBack, fIsB, fNotB, fIx, fCnt, mCnt, Re.cut, fIsN, fNotN, isN, Nat.reduceSub, Nat.reduceAdd, if_true, Bool.false_eq_true, if_false, reduceIte, decide_true, decide_false, Bool.not_true, Bool.not_false, Bool.and_true, Bool.true_and, reduceCtorEq, ifC_pos, eq_FI, f__law_draw, e])
  obtain ⟨cs, rfl, hc⟩ := ints_all ys e3
  rw [List.length_map, List.length_range] at e2
  rw [List.length_range] at e4
  refine ⟨cs, w', ?_, by omega, hc, e4.mono (by omega)⟩
  have eu : upto 0 n.toNat = (List.range n.toNat).map fun i : Nat => D.py (.int (0 + (i : Int))) := rfl
  rw [List.nil_append] at e1
  simp (disch := omega) only [mLc, mRng1, mCons, mVar, mNil, Re.bind, List.getElem?_cons_zero, List.getElem?_cons_succ, ifC_pos, eu, noE, List.foldl_cons, List.foldl_nil, List.set]
  exact e1
theorem R_wide_row2 (many most : Int) (h : WOk w k) (hk : k ≤ 700000) (m0 : 0 < many) (m1 : many ≤ 4) (o0 : 0 < most) (o1 : most ≤ 50) :
    ∃ r w', f__law_wide_row [.mm, .py (.int many), .py (.int most)] w = .rt (.py (rD r)) w' ∧ ROk r ∧ (1 ≤ r.length ∧ (r.length : Int) ≤ most) ∧ WOk w' (k + 3000) := by
  obtain ⟨v0, w0, d0, l0, u0, ok0⟩ := R_draw most h (by omega) o0 (by omega)
  obtain ⟨r', w', e, bs, s4, s5, s6, rfl, bl, bk, okk⟩ := forL_inv (asg := asgN 4) (body := b__law_wide_row_L1) (fun i e w' => ∃ (bs : List Bk) (s4 s5 s6 : Slot), e = [.im .mm, .im (.py (.int many)), .im (.py (.int most)), .ow (bs.map bD), s4, s5, s6] ∧ bs.length = i ∧ (∀ b ∈ bs, BOk b) ∧ (i ≤ 50 → WOk w' (k + 1 + 50 * i)))
    (upto 0 (1 + v0).toNat) 0 [.im .mm, .im (.py (.int many)), .im (.py (.int most)), .ow [], .no, .no, .no] w0 ⟨[], _, _, _, rfl, rfl, fun b hb => (by cases hb), fun _ => ok0.mono (by omega)⟩ (by
    rintro i d e w1 hi ⟨bs, s4, s5, s6, rfl, bl, bk, okk⟩
    simp only [Nat.zero_add] at bl okk ⊢
    have il := (List.getElem?_eq_some_iff.mp hi).1
    have el : (upto 0 (1 + v0).toNat).length = (1 + v0).toNat := by unfold upto; rw [List.length_map, List.length_range]
    rw [el] at il
    have ok1 := okk (by omega)
    obtain ⟨v1, w2, d1, l1, u1, ok2⟩ := R_draw 6 ok1 (by omega) (by decide) (by decide)
    obtain ⟨lim, hlim⟩ : ∃ lim : Int, lim = if v1 = 0 then 40 else 6 := ⟨_, rfl⟩
    have lim0 : 0 < lim ∧ lim ≤ 40 := by rw [hlim]; split <;> omega
    obtain ⟨v2, w3, d2, l2, u2, ok3⟩ := R_draw lim ok2 (by omega) lim0.1 (by omega)
    obtain ⟨cs, w4, d3, cl, ck, ok4⟩ := R_marks many (1 + v2) (.im (.py (.int most))) (.ow (bs.map bD)) (.im d) s6 ok3 (by omega) m0 m1 (by omega) (by omega)
    obtain ⟨t, w5, d4, t0, t1, ok5⟩ := R_times ok4 (by omega)
    refine ⟨_, [.im .mm, .im (.py (.int many)), .im (.py (.int most)), .ow ((bs ++ [(cs, t)]).map bD), .im d, .im (.py (.int (1 + v2))), .no], w5, rfl, ?_, bs ++ [(cs, t)], _, _, _, rfl, by rw [List.length_append, bl]; rfl, ?_, fun _ => ok5.mono (by push_cast; omega)⟩
    · unfold b__law_wide_row_L1
      by_cases c : v1 = 0
      · have cd : decide (v1 = 0) = true := decide_eq_true c
        rw [if_pos c] at hlim
        subst hlim
        simp (disch := omega) only [fnM, envOf, sSeq, sAsg, sRet, sIf, sNil, sOw, sApp, sExt, sAsg2, sAug, sDrop, sPar, sParO, sNever, mDf, mRng2, mRng3, seqOf, sRaise, asgN, asgs, asgT, mOp, mFn, mCons, mNil, mC, mVar, mB, mCh, mAndV, mOrV, mNotV, mTyIs, tyOf, mTup, mLst, mFz, mUn, pys, Re.bind, mCall, mNot, mAnd, mIf, mSeq, mRng1, mEn, mYes, noE, sFor, mIxO, mSl, mPart, fSl, List.map_cons, List.map_nil, Option.map_some, Option.map_none, List.length_cons, List.length_nil, List.length_map, List.replicate, List.cons_append, List.nil_append, List.append_nil, List.getElem?_cons_zero, List.getElem?_cons_succ, List.set_cons_zero, List.set_cons_succ, List.foldl_cons, List.foldl_nil, List.set, List.map_map, fI, fMul, fAdd, fMod, fDiv, fInt, fLen, fSum, fAll, fTup, fDivmod, fMax2, fMin2, fNeg, fBack, fIsB, fNotB, fIx, fCnt, mCnt, Re.cut, fIsN, fNotN, isN, Nat.reduceSub, Nat.reduceAdd, if_true, Bool.false_eq_true, if_false, reduceIte, decide_true, decide_false, Bool.not_true, Bool.not_false, Bool.and_true, Bool.true_and, reduceCtorEq, ifC_pos, eq_FI, f__law_draw, d1, cd, d2, d3, d4, List.map_append, bD, tI]
      · have cd : decide (v1 = 0) = false := decide_eq_false c
        rw [if_neg c] at hlim
        subst hlim
        simp (disch := omega) only [fnM, envOf, sSeq, sAsg, sRet, sIf, sNil, sOw, sApp, sExt, sAsg2, sAug, sDrop, sPar, sParO, sNever, mDf, mRng2, mRng3, seqOf, sRaise, asgN, asgs, asgT, mOp, mFn, mCons, mNil, mC, mVar, mB, mCh, mAndV, mOrV, mNotV, mTyIs, tyOf, mTup, mLst, mFz, mUn, pys, Re.bind, mCall, mNot, mAnd, mIf, mSeq, mRng1, mEn, mYes, noE, sFor, mIxO, mSl, mPart, fSl, List.map_cons, List.map_nil, Option.map_some, Option.map_none, List.length_cons, List.length_nil, List.length_map, List.replicate, List.cons_append, List.nil_append, List.append_nil, List.getElem?_cons_zero, List.getElem?_cons_succ, List.set_cons_zero, List.set_cons_succ, List.foldl_cons, List.foldl_nil, List.set, List.map_map, fI, fMul, fAdd, fMod, fDiv, fInt, fLen, fSum, fAll, fTup, fDivmod, fMax2, fMin2, fNeg, fBack, fIsB, fNotB, fIx, fCnt, mCnt, Re.cut, fIsN, fNotN, isN, Nat.reduceSub, Nat.reduceAdd, if_true, Bool.false_eq_true, if_false, reduceIte, decide_true, decide_false, Bool.not_true, Bool.not_false, Bool.and_true, Bool.true_and, reduceCtorEq, ifC_pos, eq_FI, f__law_draw, d1, cd, d2, d3, d4, List.map_append, bD, tI]
    · intro b hb
      rcases List.mem_append.mp hb with z | z
      · exact bk b z
      · cases List.mem_singleton.mp z
        exact ⟨by show 1 ≤ cs.length; omega, by show cs.length ≤ 60; omega, fun c hc => by have := ck c hc; omega, t0, t1⟩)
  have el : (upto 0 (1 + v0).toNat).length = (1 + v0).toNat := by unfold upto; rw [List.length_map, List.length_range]
  simp only [Nat.zero_add, el] at bl okk
  have okf := okk (by omega)
  refine ⟨bs, w', ?_, ⟨by omega, bk⟩, ⟨by omega, by omega⟩, okf.mono (by omega)⟩
  unfold f__law_wide_row b__law_wide_row rD
  simp (disch := omega) only [fnM, envOf, sSeq, sAsg, sRet, sIf, sNil, sOw, sApp, sExt, sAsg2, sAug, sDrop, sPar, sParO, sNever, mDf, mRng2, mRng3, seqOf, sRaise, asgN, asgs, asgT, mOp, mFn, mCons, mNil, mC, mVar, mB, mCh, mAndV, mOrV, mNotV, mTyIs, tyOf, mTup, mLst, mFz, mUn, pys, Re.bind, mCall, mNot, mAnd, mIf, mLc, mSeq, mRng1, mEn, mYes, noE, sFor, mIxO, mSl, mPart, fSl, List.map_cons, List.map_nil, Option.map_some, Option.map_none, List.length_cons, List.length_nil, List.length_map, List.replicate, List.cons_append, List.nil_append, List.append_nil, List.getElem?_cons_zero, List.getElem?_cons_succ, List.set_cons_zero, List.set_cons_succ, List.foldl_cons, List.foldl_nil, List.set, List.map_map, fI, fMul, fAdd, fMod, fDiv, fInt, fLen, fSum, fAll, fTup, fDivmod, fMax2, fMin2, fNeg, fBack, fIsB, fNotB, fIx, fCnt, mCnt, Re.cut, fIsN, fNotN, isN, Nat.reduceSub, Nat.reduceAdd, if_true, Bool.false_eq_true, if_false, reduceIte, decide_true, decide_false, Bool.not_true, Bool.not_false, Bool.and_true, Bool.true_and, reduceCtorEq, ifC_pos, eq_FI, f__law_draw, d0, e]
end
theorem at_last (xs : List Int) (h : 0 < xs.length) : ∃ v : Int, atI (xs.map PyData.int) (-1) = some (.int v) := by
  refine ⟨xs[xs.length - 1], ?_⟩
  unfold atI ixN
  rw [if_neg (by decide), if_pos (by rw [List.length_map]; omega), List.length_map]
  have e : (-1 + (xs.length : Int)).toNat = xs.length - 1 := by omega
  rw [e]
  show (xs.map _)[_]? = _
  rw [List.getElem?_map, List.getElem?_eq_getElem (by omega)]
  rfl
theorem F__law_borders {r : List Bk} (h : ROk r) (w : Wd) : ∃ xs : List Int, f__law_borders [.py (rD r)] w = .rt (.py (.list (xs.map PyData.int))) w ∧ 0 < xs.length ∧ xs.length ≤ 61 := by
  have rl := h.1
  obtain ⟨r', w', e, xs, s2, s3, rfl, rfl, xl⟩ := forL_inv (asg := asgT [2, 3]) (body := b__law_borders_L1) (fun i e w' => ∃ (xs : List Int) (s2 s3 : Slot), e = [.im (.py (rD r)), .ow (xs.map PyData.int), s2, s3] ∧ w' = w ∧ xs.length = i + 1) (r.map (D.py ∘ bD)) 0 [.im (.py (rD r)), .ow [.int 0], .no, .no] w ⟨[0], _, _, rfl, rfl, rfl⟩ (by
    rintro i d e w' hi ⟨xs, s2, s3, rfl, rfl, xl⟩
    simp only [Nat.zero_add] at xl ⊢
    obtain ⟨b, hb, rfl⟩ := map_get _ _ _ _ hi
    have ok := h.2 b (List.mem_of_getElem? hb)
    have l2 := ok.l2
    have il : i < r.length := (List.getElem?_eq_some_iff.mp hb).1
    obtain ⟨v, av⟩ := at_last xs (by omega)
    refine ⟨_, [.im (.py (rD r)), .ow ((xs ++ [v + b.1.length * b.2]).map PyData.int), .im (.py (tI b.1)), .im (.py (.int b.2))], w', rfl, ?_, _, _, _, rfl, rfl, by rw [List.length_append, xl]; rfl⟩
    unfold b__law_borders_L1
    simp (disch := omega) only [fnM, envOf, sSeq, sAsg, sRet, sIf, sNil, sOw, sApp, sExt, sAsg2, sAug, sDrop, sPar, sParO, sNever, mDf, mRng2, mRng3, seqOf, sRaise, asgN, asgs, asgT, mOp, mFn, mCons, mNil, mC, mVar, mB, mCh, mAndV, mOrV, mNotV, mTyIs, tyOf, mTup, mLst, mFz, mUn, pys, Re.bind, mCall, mNot, mAnd, mIf, mLc, mSeq, mRng1, mEn, mYes, noE, sFor, mIxO, mSl, mPart, fSl, List.map_cons, List.map_nil, Option.map_some, Option.map_none, List.length_cons, List.length_nil, List.length_map, List.replicate, List.cons_append, List.nil_append, List.append_nil, List.getElem?_cons_zero, List.getElem?_cons_succ, List.set_cons_zero, List.set_cons_succ, List.foldl_cons, List.foldl_nil, List.set, List.map_map, fI, fMul, fAdd, fMod, fDiv, fInt, fLen, fSum, fAll, fTup, fDivmod, fMax2, fMin2, fNeg, fBack, fIsB, fNotB, fIx, fCnt, mCnt, Re.cut, fIsN, fNotN, isN, Nat.reduceSub, Nat.reduceAdd, if_true, Bool.false_eq_true, if_false, reduceIte, decide_true, decide_false, Bool.not_true, Bool.not_false, Bool.and_true, Bool.true_and, reduceCtorEq, ifC_pos, eq_FI, av, tI, List.map_append])
  simp only [Nat.zero_add, List.length_map] at xl
  refine ⟨xs, ?_, by omega, by omega⟩
  unfold f__law_borders b__law_borders
  unfold rD at e ⊢
  simp (disch := omega) only [fnM, envOf, sSeq, sAsg, sRet, sIf, sNil, sOw, sApp, sExt, sAsg2, sAug, sDrop, sPar, sParO, sNever, mDf, mRng2, mRng3, seqOf, sRaise, asgN, asgs, asgT, mOp, mFn, mCons, mNil, mC, mVar, mB, mCh, mAndV, mOrV, mNotV, mTyIs, tyOf, mTup, mLst, mFz, mUn, pys, Re.bind, mCall, mNot, mAnd, mIf, mLc, mSeq, mRng1, mEn, mYes, noE, sFor, mIxO, mSl, mPart, fSl, List.map_cons, List.map_nil, Option.map_some, Option.map_none, List.length_cons, List.length_nil, List.length_map, List.replicate, List.cons_append, List.nil_append, List.append_nil, List.getElem?_cons_zero, List.getElem?_cons_succ, List.set_cons_zero, List.set_cons_succ, List.foldl_cons, List.foldl_nil, List.set, List.map_map, fI, fMul, fAdd, fMod, fDiv, fInt, fLen, fSum, fAll, fTup, fDivmod, fMax2, fMin2, fNeg, fBack, fIsB, fNotB, fIx, fCnt, mCnt, Re.cut, fIsN, fNotN, isN, Nat.reduceSub, Nat.reduceAdd, if_true, Bool.false_eq_true, if_false, reduceIte, decide_true, decide_false, Bool.not_true, Bool.not_false, Bool.and_true, Bool.true_and, reduceCtorEq, ifC_pos, eq_FI, e]
theorem R_spot {w : Wd} {k : Int} {r : List Bk} (hr : ROk r) (r1 : 1 ≤ sz r) (h : WOk w k) (hk : k ≤ 700000) : ∃ v w', f__law_spot [.mm, .py (rD r)] w = .rt (.py (.int v)) w' ∧ 0 ≤ v ∧ v < sz r ∧ WOk w' (k + 6) := by
  have es := fun w => F__law_size r w hr.1 (fun b hb => (hr.2 b hb).l2)
  obtain ⟨v1, w1, e1, l1, u1, o1⟩ := R_draw 3 h (by omega) (by decide) (by decide)
  by_cases c : v1 = 0
  · have cd : decide (v1 = 0) = true := decide_eq_true c
    obtain ⟨v2, w2, e2, l2, u2, o2⟩ := R_below (sz r) o1 (by omega) (by omega)
    refine ⟨v2, w2, ?_, l2, u2, o2.mono (by omega)⟩
    unfold f__law_spot b__law_spot
    simp (disch := omega) only [fnM, envOf, sSeq, sAsg, sRet, sIf, sNil, sOw, sApp, sExt, sAsg2, sAug, sDrop, sPar, sParO, sNever, mDf, mRng2, mRng3, seqOf, sRaise, asgN, asgs, asgT, mOp, mFn, mCons, mNil, mC, mVar, mB, mCh, mAndV, mOrV, mNotV, mTyIs, tyOf, mTup, mLst, mFz, mUn, pys, Re.bind, mCall, mNot, mAnd, mIf, mLc, mSeq, mRng1, mEn, mYes, noE, sFor, mIxO, mSl, mPart, fSl, List.map_cons, List.map_nil, Option.map_some, Option.map_none, List.length_cons, List.length_nil, List.length_map, List.replicate, List.cons_append, List.nil_append, List.append_nil, List.getElem?_cons_zero, List.getElem?_cons_succ, List.set_cons_zero, List.set_cons_succ, List.foldl_cons, List.foldl_nil, List.set, List.map_map, fI, fMul, fAdd, fMod, fDiv, fInt, fLen, fSum, fAll, fTup, fDivmod, fMax2, fMin2, fNeg, fBack, fIsB, fNotB, fIx, fCnt, mCnt, Re.cut, fIsN, fNotN, isN, Nat.reduceSub, Nat.reduceAdd, if_true, Bool.false_eq_true, if_false, reduceIte, decide_true, decide_false, Bool.not_true, Bool.not_false, Bool.and_true, Bool.true_and, reduceCtorEq, ifC_pos, eq_FI, es, f__law_draw, e1, cd, e2]
  · have cd : decide (v1 = 0) = false := decide_eq_false c
    obtain ⟨xs, eb, x0, x1⟩ := F__law_borders hr w1
    obtain ⟨v2, w2, e2, _, o2⟩ := R_of xs o1 (by omega) x0 (by omega)
    obtain ⟨v3, w3, e3, l3, u3, o3⟩ := R_draw 15 o2 (by omega) (by decide) (by decide)
    obtain ⟨a, ha⟩ : ∃ a : Int, (if (0 : Int) > v2 + v3 - 7 then (0 : Int) else v2 + v3 - 7) = a := ⟨_, rfl⟩
    have a0 : 0 ≤ a := by rw [← ha]; split <;> omega
    obtain ⟨b, hb⟩ : ∃ b : Int, (if sz r - 1 < a then sz r - 1 else a) = b := ⟨_, rfl⟩
    have b0 : 0 ≤ b ∧ b < sz r := by rw [← hb]; split <;> omega
    refine ⟨b, w3, ?_, b0.1, b0.2, o3.mono (by omega)⟩
    unfold f__law_spot b__law_spot
    simp (disch := omega) only [fnM, envOf, sSeq, sAsg, sRet, sIf, sNil, sOw, sApp, sExt, sAsg2, sAug, sDrop, sPar, sParO, sNever, mDf, mRng2, mRng3, seqOf, sRaise, asgN, asgs, asgT, mOp, mFn, mCons, mNil, mC, mVar, mB, mCh, mAndV, mOrV, mNotV, mTyIs, tyOf, mTup, mLst, mFz, mUn, pys, Re.bind, mCall, mNot, mAnd, mIf, mLc, mSeq, mRng1, mEn, mYes, noE, sFor, mIxO, mSl, mPart, fSl, List.map_cons, List.map_nil, Option.map_some, Option.map_none, List.length_cons, List.length_nil, List.length_map, List.replicate, List.cons_append, List.nil_append, List.append_nil, List.getElem?_cons_zero, List.getElem?_cons_succ, List.set_cons_zero, List.set_cons_succ, List.foldl_cons, List.foldl_nil, List.set, List.map_map, fI, fMul, fAdd, fMod, fDiv, fInt, fLen, fSum, fAll, fTup, fDivmod, fMax2, fMin2, fNeg, fBack, fIsB, fNotB, fIx, fCnt, mCnt, Re.cut, fIsN, fNotN, isN, Nat.reduceSub, Nat.reduceAdd, if_true, Bool.false_eq_true, if_false, reduceIte, decide_true, decide_false, Bool.not_true, Bool.not_false, Bool.and_true, Bool.true_and, reduceCtorEq, ifC_pos, eq_FI, es, f__law_draw, e1, cd, eb, e2, e3, ha, hb]
theorem ne_FI (i j : Int) : fNe (.py (.int i)) (.py (.int j)) = some (.py (.bool (!decide (i = j)))) := by
  have h : ∀ k : Int, SeqAt.shaped (.int k) = true := fun k => by
    simp only [SeqAt.shaped, PyData.canLay0, PyData.depth, Bool.true_and]
    rfl
  unfold fNe
  simp only [ifC_pos (And.intro (h i) (h j)), PyData.eqv]
  rfl
theorem sz_bd {r : List Bk} (h : ∀ b ∈ r, BOk b) : sz r ≤ r.length * 60000000000000000000000000000000 := by
  induction r with
  | nil => exact Int.le_refl 0
  | cons b r ih =>
    have ok := h b (List.mem_cons_self ..)
    have h2 := ih (fun c hc => h c (List.mem_cons_of_mem _ hc))
    have l2 := ok.l2
    have t1 := ok.t1
    have t2 := ok.t2
    have h1 : szB b ≤ 60000000000000000000000000000000 := by
      unfold szB
      have a := Int.mul_le_mul_of_nonneg_right (show (b.1.length : Int) ≤ 60 by omega) (show 0 ≤ b.2 by omega)
      omega
    rw [sz_cons, List.length_cons]
    push_cast
    omega
theorem mk_in {r : List Bk} (h : ∀ b ∈ r, BOk b) {q c : Int} (e : mk r q = some c) : 0 ≤ c ∧ c ≤ 3 := by
  induction r generalizing q with
  | nil => cases e
  | cons b r ih =>
    unfold mk at e
    split at e
    · exact (h b (List.mem_cons_self ..)).mks c (List.mem_of_getElem? e)
    · exact ih (fun c hc => h c (List.mem_cons_of_mem _ hc)) e
/-! ### rows as a program reads them -/
theorem cut_ab {ms : List Int} {a b : Int} (h0 : 0 ≤ a) (h1 : 0 ≤ b) : cutD (ms.map PyData.int) (some a) (some b) = (sg ms a b).map PyData.int := by
  unfold cutD sg
  rw [sIx_int _ _ h0, sIx_int _ _ h1, List.length_map, List.map_drop, List.map_take, List.drop_take]
  apply List.ext_getElem?
  intro i
  rw [List.getElem?_take, List.getElem?_take, List.getElem?_drop, List.getElem?_drop]
  by_cases c : a.toNat + i < ms.length
  · have e : min a.toNat ms.length = a.toNat := by omega
    rw [e]
    by_cases d : i < b.toNat - a.toNat
    · rw [if_pos d, if_pos (by omega)]
    · rw [if_neg d, if_neg (by omega)]
  · rw [List.getElem?_eq_none (by rw [List.length_map]; omega)]
    by_cases d : i < min b.toNat ms.length - min a.toNat ms.length
    · rw [if_pos d, List.getElem?_eq_none (by rw [List.length_map]; omega)]
      split <;> rfl
    · rw [if_neg d]
      split
      · rw [List.getElem?_eq_none (by rw [List.length_map]; omega)]
      · rfl
theorem cut_a {ms : List Int} {a : Int} (h0 : 0 ≤ a) : cutD (ms.map PyData.int) (some a) none = (ms.drop a.toNat).map PyData.int := by
  unfold cutD
  rw [sIx_int _ _ h0, HT.sIx_none, List.length_map, List.map_drop]
  apply List.ext_getElem?
  intro i
  rw [List.getElem?_take, List.getElem?_drop, List.getElem?_drop]
  by_cases c : a.toNat + i < ms.length
  · have e : min a.toNat ms.length = a.toNat := by omega
    rw [e, if_pos (by omega)]
  · rw [List.getElem?_eq_none (l := ms.map _) (i := a.toNat + i) (by rw [List.length_map]; omega)]
    by_cases d : i < ms.length - min a.toNat ms.length
    · rw [if_pos d, List.getElem?_eq_none (by rw [List.length_map]; omega)]
    · rw [if_neg d]
theorem F_block_part2 (ms : List Int) (low high : Int) (l1 : 1 ≤ ms.length) (l2 : ms.length ≤ 60) (h0 : 0 ≤ low) (h1 : low < high) (w : Wd) : f_block_part [.py (tI ms), .py (.int low), .py (.int high)] w = .rt (.py (.list ((bp ms low high).map bD))) w := by
  have a2 := Int.emod_nonneg low (show (ms.length : Int) ≠ 0 by omega)
  have b2 := Int.emod_nonneg high (show (ms.length : Int) ≠ 0 by omega)
  unfold f_block_part b_block_part bp
  by_cases g : low / (ms.length : Int) = (high - 1) / (ms.length : Int)
  · have g1 : decide (low / (ms.length : Int) = (high - 1) / (ms.length : Int)) = true := decide_eq_true g
    rw [if_pos g]
    simp (disch := omega) only [fnM, envOf, sSeq, sAsg, sRet, sIf, sNil, sOw, sApp, sExt, sAsg2, sAug, sDrop, sPar, sParO, sNever, mDf, mRng2, mRng3, seqOf, sRaise, asgN, asgs, asgT, mOp, mFn, mCons, mNil, mC, mVar, mB, mCh, mAndV, mOrV, mNotV, mTyIs, tyOf, mTup, mLst, mFz, mUn, pys, Re.bind, mCall, mNot, mAnd, mIf, mLc, mSeq, mRng1, mEn, mYes, noE, sFor, mIxO, mSl, mPart, fSl, List.map_cons, List.map_nil, Option.map_some, Option.map_none, List.length_cons, List.length_nil, List.length_map, List.replicate, List.cons_append, List.nil_append, List.append_nil, List.getElem?_cons_zero, List.getElem?_cons_succ, List.set_cons_zero, List.set_cons_succ, List.foldl_cons, List.foldl_nil, List.set, List.map_map, fI, fMul, fAdd, fMod, fDiv, fInt, fLen, fSum, fAll, fTup, fDivmod, fMax2, fMin2, fNeg, fBack, fIsB, fNotB, fIx, fCnt, mCnt, Re.cut, fIsN, fNotN, isN, Nat.reduceSub, Nat.reduceAdd, if_true, Bool.false_eq_true, if_false, reduceIte, decide_true, decide_false, Bool.not_true, Bool.not_false, Bool.and_true, Bool.true_and, reduceCtorEq, ifC_pos, eq_FI, tI, g1, cut_ab, bD]
  · have g1 : decide (low / (ms.length : Int) = (high - 1) / (ms.length : Int)) = false := decide_eq_false g
    rw [if_neg g]
    by_cases z : 0 < low % (ms.length : Int)
    · have z1 : decide (0 < low % (ms.length : Int)) = true := decide_eq_true z
      simp only [if_pos z]
      by_cases y : low / (ms.length : Int) + 1 < high / (ms.length : Int)
      · have y1 : decide (low / (ms.length : Int) + 1 < high / (ms.length : Int)) = true := decide_eq_true y
        rw [if_pos y]
        by_cases x : 0 < high % (ms.length : Int)
        · have x1 : decide (0 < high % (ms.length : Int)) = true := decide_eq_true x
          rw [if_pos x]
          simp (disch := omega) only [fnM, envOf, sSeq, sAsg, sRet, sIf, sNil, sOw, sApp, sExt, sAsg2, sAug, sDrop, sPar, sParO, sNever, mDf, mRng2, mRng3, seqOf, sRaise, asgN, asgs, asgT, mOp, mFn, mCons, mNil, mC, mVar, mB, mCh, mAndV, mOrV, mNotV, mTyIs, tyOf, mTup, mLst, mFz, mUn, pys, Re.bind, mCall, mNot, mAnd, mIf, mLc, mSeq, mRng1, mEn, mYes, noE, sFor, mIxO, mSl, mPart, fSl, List.map_cons, List.map_nil, Option.map_some, Option.map_none, List.length_cons, List.length_nil, List.length_map, List.replicate, List.cons_append, List.nil_append, List.append_nil, List.getElem?_cons_zero, List.getElem?_cons_succ, List.set_cons_zero, List.set_cons_succ, List.foldl_cons, List.foldl_nil, List.set, List.map_map, fI, fMul, fAdd, fMod, fDiv, fInt, fLen, fSum, fAll, fTup, fDivmod, fMax2, fMin2, fNeg, fBack, fIsB, fNotB, fIx, fCnt, mCnt, Re.cut, fIsN, fNotN, isN, Nat.reduceSub, Nat.reduceAdd, if_true, Bool.false_eq_true, if_false, reduceIte, decide_true, decide_false, Bool.not_true, Bool.not_false, Bool.and_true, Bool.true_and, reduceCtorEq, ifC_pos, eq_FI, tI, g1, z1, y1, x1, cut_a, cut_n, bD]
        · have x1 : decide (0 < high % (ms.length : Int)) = false := decide_eq_false x
          rw [if_neg x]
          simp (disch := omega) only [fnM, envOf, sSeq, sAsg, sRet, sIf, sNil, sOw, sApp, sExt, sAsg2, sAug, sDrop, sPar, sParO, sNever, mDf, mRng2, mRng3, seqOf, sRaise, asgN, asgs, asgT, mOp, mFn, mCons, mNil, mC, mVar, mB, mCh, mAndV, mOrV, mNotV, mTyIs, tyOf, mTup, mLst, mFz, mUn, pys, Re.bind, mCall, mNot, mAnd, mIf, mLc, mSeq, mRng1, mEn, mYes, noE, sFor, mIxO, mSl, mPart, fSl, List.map_cons, List.map_nil, Option.map_some, Option.map_none, List.length_cons, List.length_nil, List.length_map, List.replicate, List.cons_append, List.nil_append, List.append_nil, List.getElem?_cons_zero, List.getElem?_cons_succ, List.set_cons_zero, List.set_cons_succ, List.foldl_cons, List.foldl_nil, List.set, List.map_map, fI, fMul, fAdd, fMod, fDiv, fInt, fLen, fSum, fAll, fTup, fDivmod, fMax2, fMin2, fNeg, fBack, fIsB, fNotB, fIx, fCnt, mCnt, Re.cut, fIsN, fNotN, isN, Nat.reduceSub, Nat.reduceAdd, if_true, Bool.false_eq_true, if_false, reduceIte, decide_true, decide_false, Bool.not_true, Bool.not_false, Bool.and_true, Bool.true_and, reduceCtorEq, ifC_pos, eq_FI, tI, g1, z1, y1, x1, cut_a, cut_n, bD]
      · have y1 : decide (low / (ms.length : Int) + 1 < high / (ms.length : Int)) = false := decide_eq_false y
        rw [if_neg y]
        by_cases x : 0 < high % (ms.length : Int)
        · have x1 : decide (0 < high % (ms.length : Int)) = true := decide_eq_true x
          rw [if_pos x]
          simp (disch := omega) only [fnM, envOf, sSeq, sAsg, sRet, sIf, sNil, sOw, sApp, sExt, sAsg2, sAug, sDrop, sPar, sParO, sNever, mDf, mRng2, mRng3, seqOf, sRaise, asgN, asgs, asgT, mOp, mFn, mCons, mNil, mC, mVar, mB, mCh, mAndV, mOrV, mNotV, mTyIs, tyOf, mTup, mLst, mFz, mUn, pys, Re.bind, mCall, mNot, mAnd, mIf, mLc, mSeq, mRng1, mEn, mYes, noE, sFor, mIxO, mSl, mPart, fSl, List.map_cons, List.map_nil, Option.map_some, Option.map_none, List.length_cons, List.length_nil, List.length_map, List.replicate, List.cons_append, List.nil_append, List.append_nil, List.getElem?_cons_zero, List.getElem?_cons_succ, List.set_cons_zero, List.set_cons_succ, List.foldl_cons, List.foldl_nil, List.set, List.map_map, fI, fMul, fAdd, fMod, fDiv, fInt, fLen, fSum, fAll, fTup, fDivmod, fMax2, fMin2, fNeg, fBack, fIsB, fNotB, fIx, fCnt, mCnt, Re.cut, fIsN, fNotN, isN, Nat.reduceSub, Nat.reduceAdd, if_true, Bool.false_eq_true, if_false, reduceIte, decide_true, decide_false, Bool.not_true, Bool.not_false, Bool.and_true, Bool.true_and, reduceCtorEq, ifC_pos, eq_FI, tI, g1, z1, y1, x1, cut_a, cut_n, bD]
        · have x1 : decide (0 < high % (ms.length : Int)) = false := decide_eq_false x
          rw [if_neg x]
          simp (disch := omega) only [fnM, envOf, sSeq, sAsg, sRet, sIf, sNil, sOw, sApp, sExt, sAsg2, sAug, sDrop, sPar, sParO, sNever, mDf, mRng2, mRng3, seqOf, sRaise, asgN, asgs, asgT, mOp, mFn, mCons, mNil, mC, mVar, mB, mCh, mAndV, mOrV, mNotV, mTyIs, tyOf, mTup, mLst, mFz, mUn, pys, Re.bind, mCall, mNot, mAnd, mIf, mLc, mSeq, mRng1, mEn, mYes, noE, sFor, mIxO, mSl, mPart, fSl, List.map_cons, List.map_nil, Option.map_some, Option.map_none, List.length_cons, List.length_nil, List.length_map, List.replicate, List.cons_append, List.nil_append, List.append_nil, List.getElem?_cons_zero, List.getElem?_cons_succ, List.set_cons_zero, List.set_cons_succ, List.foldl_cons, List.foldl_nil, List.set, List.map_map, fI, fMul, fAdd, fMod, fDiv, fInt, fLen, fSum, fAll, fTup, fDivmod, fMax2, fMin2, fNeg, fBack, fIsB, fNotB, fIx, fCnt, mCnt, Re.cut, fIsN, fNotN, isN, Nat.reduceSub, Nat.reduceAdd, if_true, Bool.false_eq_true, if_false, reduceIte, decide_true, decide_false, Bool.not_true, Bool.not_false, Bool.and_true, Bool.true_and, reduceCtorEq, ifC_pos, eq_FI, tI, g1, z1, y1, x1, cut_a, cut_n, bD]
    · have z1 : decide (0 < low % (ms.length : Int)) = false := decide_eq_false z
      simp only [if_neg z]
      by_cases y : low / (ms.length : Int) < high / (ms.length : Int)
      · have y1 : decide (low / (ms.length : Int) < high / (ms.length : Int)) = true := decide_eq_true y
        rw [if_pos y]
        by_cases x : 0 < high % (ms.length : Int)
        · have x1 : decide (0 < high % (ms.length : Int)) = true := decide_eq_true x
          rw [if_pos x]
          simp (disch := omega) only [fnM, envOf, sSeq, sAsg, sRet, sIf, sNil, sOw, sApp, sExt, sAsg2, sAug, sDrop, sPar, sParO, sNever, mDf, mRng2, mRng3, seqOf, sRaise, asgN, asgs, asgT, mOp, mFn, mCons, mNil, mC, mVar, mB, mCh, mAndV, mOrV, mNotV, mTyIs, tyOf, mTup, mLst, mFz, mUn, pys, Re.bind, mCall, mNot, mAnd, mIf, mLc, mSeq, mRng1, mEn, mYes, noE, sFor, mIxO, mSl, mPart, fSl, List.map_cons, List.map_nil, Option.map_some, Option.map_none, List.length_cons, List.length_nil, List.length_map, List.replicate, List.cons_append, List.nil_append, List.append_nil, List.getElem?_cons_zero, List.getElem?_cons_succ, List.set_cons_zero, List.set_cons_succ, List.foldl_cons, List.foldl_nil, List.set, List.map_map, fI, fMul, fAdd, fMod, fDiv, fInt, fLen, fSum, fAll, fTup, fDivmod, fMax2, fMin2, fNeg, fBack, fIsB, fNotB, fIx, fCnt, mCnt, Re.cut, fIsN, fNotN, isN, Nat.reduceSub, Nat.reduceAdd, if_true, Bool.false_eq_true, if_false, reduceIte, decide_true, decide_false, Bool.not_true, Bool.not_false, Bool.and_true, Bool.true_and, reduceCtorEq, ifC_pos, eq_FI, tI, g1, z1, y1, x1, cut_a, cut_n, bD]
        · have x1 : decide (0 < high % (ms.length : Int)) = false := decide_eq_false x
          rw [if_neg x]
          simp (disch := omega) only [fnM, envOf, sSeq, sAsg, sRet, sIf, sNil, sOw, sApp, sExt, sAsg2, sAug, sDrop, sPar, sParO, sNever, mDf, mRng2, mRng3, seqOf, sRaise, asgN, asgs, asgT, mOp, mFn, mCons, mNil, mC, mVar, mB, mCh, mAndV, mOrV, mNotV, mTyIs, tyOf, mTup, mLst, mFz, mUn, pys, Re.bind, mCall, mNot, mAnd, mIf, mLc, mSeq, mRng1, mEn, mYes, noE, sFor, mIxO, mSl, mPart, fSl, List.map_cons, List.map_nil, Option.map_some, Option.map_none, List.length_cons, List.length_nil, List.length_map, List.replicate, List.cons_append, List.nil_append, List.append_nil, List.getElem?_cons_zero, List.getElem?_cons_succ, List.set_cons_zero, List.set_cons_succ, List.foldl_cons, List.foldl_nil, List.set, List.map_map, fI, fMul, fAdd, fMod, fDiv, fInt, fLen, fSum, fAll, fTup, fDivmod, fMax2, fMin2, fNeg, fBack, fIsB, fNotB, fIx, fCnt, mCnt, Re.cut, fIsN, fNotN, isN, Nat.reduceSub, Nat.reduceAdd, if_true, Bool.false_eq_true, if_false, reduceIte, decide_true, decide_false, Bool.not_true, Bool.not_false, Bool.and_true, Bool.true_and, reduceCtorEq, ifC_pos, eq_FI, tI, g1, z1, y1, x1, cut_a, cut_n, bD]
      · have y1 : decide (low / (ms.length : Int) < high / (ms.length : Int)) = false := decide_eq_false y
        rw [if_neg y]
        by_cases x : 0 < high % (ms.length : Int)
        · have x1 : decide (0 < high % (ms.length : Int)) = true := decide_eq_true x
          rw [if_pos x]
          simp (disch := omega) only [fnM, envOf, sSeq, sAsg, sRet, sIf, sNil, sOw, sApp, sExt, sAsg2, sAug, sDrop, sPar, sParO, sNever, mDf, mRng2, mRng3, seqOf, sRaise, asgN, asgs, asgT, mOp, mFn, mCons, mNil, mC, mVar, mB, mCh, mAndV, mOrV, mNotV, mTyIs, tyOf, mTup, mLst, mFz, mUn, pys, Re.bind, mCall, mNot, mAnd, mIf, mLc, mSeq, mRng1, mEn, mYes, noE, sFor, mIxO, mSl, mPart, fSl, List.map_cons, List.map_nil, Option.map_some, Option.map_none, List.length_cons, List.length_nil, List.length_map, List.replicate, List.cons_append, List.nil_append, List.append_nil, List.getElem?_cons_zero, List.getElem?_cons_succ, List.set_cons_zero, List.set_cons_succ, List.foldl_cons, List.foldl_nil, List.set, List.map_map, fI, fMul, fAdd, fMod, fDiv, fInt, fLen, fSum, fAll, fTup, fDivmod, fMax2, fMin2, fNeg, fBack, fIsB, fNotB, fIx, fCnt, mCnt, Re.cut, fIsN, fNotN, isN, Nat.reduceSub, Nat.reduceAdd, if_true, Bool.false_eq_true, if_false, reduceIte, decide_true, decide_false, Bool.not_true, Bool.not_false, Bool.and_true, Bool.true_and, reduceCtorEq, ifC_pos, eq_FI, tI, g1, z1, y1, x1, cut_a, cut_n, bD]
        · have x1 : decide (0 < high % (ms.length : Int)) = false := decide_eq_false x
          rw [if_neg x]
          simp (disch := omega) only [fnM, envOf, sSeq, sAsg, sRet, sIf, sNil, sOw, sApp, sExt, sAsg2, sAug, sDrop, sPar, sParO, sNever, mDf, mRng2, mRng3, seqOf, sRaise, asgN, asgs, asgT, mOp, mFn, mCons, mNil, mC, mVar, mB, mCh, mAndV, mOrV, mNotV, mTyIs, tyOf, mTup, mLst, mFz, mUn, pys, Re.bind, mCall, mNot, mAnd, mIf, mLc, mSeq, mRng1, mEn, mYes, noE, sFor, mIxO, mSl, mPart, fSl, List.map_cons, List.map_nil, Option.map_some, Option.map_none, List.length_cons, List.length_nil, List.length_map, List.replicate, List.cons_append, List.nil_append, List.append_nil, List.getElem?_cons_zero, List.getElem?_cons_succ, List.set_cons_zero, List.set_cons_succ, List.foldl_cons, List.foldl_nil, List.set, List.map_map, fI, fMul, fAdd, fMod, fDiv, fInt, fLen, fSum, fAll, fTup, fDivmod, fMax2, fMin2, fNeg, fBack, fIsB, fNotB, fIx, fCnt, mCnt, Re.cut, fIsN, fNotN, isN, Nat.reduceSub, Nat.reduceAdd, if_true, Bool.false_eq_true, if_false, reduceIte, decide_true, decide_false, Bool.not_true, Bool.not_false, Bool.and_true, Bool.true_and, reduceCtorEq, ifC_pos, eq_FI, tI, g1, z1, y1, x1, cut_a, cut_n, bD]
/-- the blocks of a part -/
def pof : List Bk → Int → Int → List Bk
  | [], _, _ => []
  | b :: r, s, e => (if (if (0 : Int) > s then (0 : Int) else s) < (if szB b < e then szB b else e) then bp b.1 (if (0 : Int) > s then (0 : Int) else s) (if szB b < e then szB b else e) else []) ++ pof r (s - szB b) (e - szB b)
theorem pof_cons (b : Bk) (r : List Bk) (s e : Int) : pof (b :: r) s e = (if (if (0 : Int) > s then (0 : Int) else s) < (if szB b < e then szB b else e) then bp b.1 (if (0 : Int) > s then (0 : Int) else s) (if szB b < e then szB b else e) else []) ++ pof r (s - szB b) (e - szB b) := rfl
theorem pof_ok {r : List Bk} (h : ∀ b ∈ r, BOk b) (s e : Int) : (pof r s e).length ≤ 3 * r.length ∧ ∀ c ∈ pof r s e, 1 ≤ c.1.length ∧ c.1.length ≤ 60 ∧ 1 ≤ c.2 ∧ ∀ m ∈ c.1, 0 ≤ m ∧ m ≤ 3 := by
  induction r generalizing s e with
  | nil => exact ⟨Nat.le_refl _, fun c hc => by cases hc⟩
  | cons b r ih =>
    have ok := h b (List.mem_cons_self ..)
    obtain ⟨i1, i2⟩ := ih (fun c hc => h c (List.mem_cons_of_mem _ hc)) (s - szB b) (e - szB b)
    unfold pof
    by_cases c : (if (0 : Int) > s then (0 : Int) else s) < (if szB b < e then szB b else e)
    · rw [if_pos c]
      obtain ⟨j1, j2⟩ := bp_ok b.1 _ _ ok.l1 ok.l2 (show 0 ≤ (if (0 : Int) > s then (0 : Int) else s) by split <;> omega) c
      refine ⟨by rw [List.length_append, List.length_cons]; omega, fun x hx => ?_⟩
      rcases List.mem_append.mp hx with z | z
      · obtain ⟨k1, k2, k3, k4⟩ := j2 x z
        exact ⟨k1, k2, k3, fun m hm => ok.mks m (k4 m hm)⟩
      · exact i2 x z
    · rw [if_neg c, List.nil_append]
      exact ⟨by rw [List.length_cons]; omega, i2⟩
theorem pof_fl {r : List Bk} (h : ∀ b ∈ r, BOk b) (s e : Int) : fl (pof r s e) = sg (fl r) s e := by
  induction r generalizing s e with
  | nil => rw [fl_nil, sg_nil]; rfl
  | cons b r ih =>
    have ok := h b (List.mem_cons_self ..)
    have t1 := ok.t1
    have l := fB_len (b := b) (by omega)
    unfold pof
    rw [fl_app, ih (fun c hc => h c (List.mem_cons_of_mem _ hc)), fl_cons, sg_app, l]
    congr 1
    rw [sg_clip (fB b) (a := s) (b := e) rfl rfl, l]
    by_cases c : (if (0 : Int) > s then (0 : Int) else s) < (if szB b < e then szB b else e)
    · rw [if_pos c]
      exact bp_fl b.1 b.2 _ _ ok.l1 (by omega) (by split <;> omega) c (by show _ ≤ szB b; split <;> omega)
    · rw [if_neg c, sg_none _ (by omega)]
      rfl
theorem part_loop {r : List Bk} (R : PyData) (s e : Int) (w : Wd) (h : ∀ b ∈ r, BOk b) : ∀ (bs : List Bk) (a : Int) (s5 s6 s7 s8 s9 : Slot), bs.length + 3 * r.length ≤ 100000 → ∃ (a' : Int) (t5 t6 t7 t8 t9 : Slot),
    forL (asgT [5, 6]) b_part_of_L1 (r.map (D.py ∘ bD)) [.im (.py R), .im (.py (.int s)), .im (.py (.int e)), .ow (bs.map bD), .im (.py (.int a)), s5, s6, s7, s8, s9] w
      = .nx [.im (.py R), .im (.py (.int s)), .im (.py (.int e)), .ow ((bs ++ pof r (s - a) (e - a)).map bD), .im (.py (.int a')), t5, t6, t7, t8, t9] w := by
  induction r with
  | nil =>
    intro bs a s5 s6 s7 s8 s9 _
    refine ⟨a, s5, s6, s7, s8, s9, ?_⟩
    unfold pof
    rw [List.append_nil]
    rfl
  | cons b r ih =>
    intro bs a s5 s6 s7 s8 s9 bl
    rw [List.length_cons] at bl
    have ok := h b (List.mem_cons_self ..)
    have l2 := ok.l2
    have hr := fun c hc => h c (List.mem_cons_of_mem (a := c) b hc)
    obtain ⟨lo, e1⟩ : ∃ x, (if (0 : Int) > s - a then (0 : Int) else s - a) = x := ⟨_, rfl⟩
    obtain ⟨hi, e2⟩ : ∃ x, (if szB b < e - a then szB b else e - a) = x := ⟨_, rfl⟩
    have e2' := e2
    unfold szB at e2'
    have lo0 : 0 ≤ lo := by rw [← e1]; split <;> omega
    have z1 : s - a - szB b = s - (a + szB b) := by omega
    have z2 : e - a - szB b = e - (a + szB b) := by omega
    obtain ⟨bs2, hb2, hl2, eb⟩ : ∃ bs2 : List Bk, bs2 = (if lo < hi then bp b.1 lo hi else []) ∧ bs2.length ≤ 3 ∧ b_part_of_L1 [.im (.py R), .im (.py (.int s)), .im (.py (.int e)), .ow (bs.map bD), .im (.py (.int a)), .im (.py (tI b.1)), .im (.py (.int b.2)), s7, s8, s9] w
        = .nx [.im (.py R), .im (.py (.int s)), .im (.py (.int e)), .ow ((bs ++ bs2).map bD), .im (.py (.int (a + szB b))), .im (.py (tI b.1)), .im (.py (.int b.2)), .im (.py (.int (szB b))), .im (.py (.int lo)), .im (.py (.int hi))] w := by
      by_cases c : lo < hi
      · obtain ⟨j1, _⟩ := bp_ok b.1 lo hi ok.l1 l2 lo0 c
        have f1 := F_block_part2 b.1 lo hi ok.l1 l2 lo0 c w
        have e3 : decide (lo < hi) = true := decide_eq_true c
        refine ⟨bp b.1 lo hi, by rw [if_pos c], j1, ?_⟩
        unfold b_part_of_L1
        unfold tI at f1
        simp (disch := omega) only [fnM, envOf, sSeq, sAsg, sRet, sIf, sNil, sOw, sApp, sExt, sAsg2, sAug, sDrop, sPar, sParO, sNever, mDf, mRng2, mRng3, seqOf, sRaise, asgN, asgs, asgT, mOp, mFn, mCons, mNil, mC, mVar, mB, mCh, mAndV, mOrV, mNotV, mTyIs, tyOf, mTup, mLst, mFz, mUn, pys, Re.bind, mCall, mNot, mAnd, mIf, mLc, mSeq, mRng1, mEn, mYes, noE, sFor, mIxO, mSl, mPart, fSl, List.map_cons, List.map_nil, Option.map_some, Option.map_none, List.length_cons, List.length_nil, List.length_map, List.replicate, List.cons_append, List.nil_append, List.append_nil, List.getElem?_cons_zero, List.getElem?_cons_succ, List.set_cons_zero, List.set_cons_succ, List.foldl_cons, List.foldl_nil, List.set, List.map_map, fI, fMul, fAdd, fMod, fDiv, fInt, fLen, fSum, fAll, fTup, fDivmod, fMax2, fMin2, fNeg, fBack, fIsB, fNotB, fIx, fCnt, mCnt, Re.cut, fIsN, fNotN, isN, Nat.reduceSub, Nat.reduceAdd, if_true, Bool.false_eq_true, if_false, reduceIte, decide_true, decide_false, Bool.not_true, Bool.not_false, Bool.and_true, Bool.true_and, reduceCtorEq, ifC_pos, eq_FI, tI, e1, e2', e3, f1, List.map_append]
        rfl
      · have e3 : decide (lo < hi) = false := decide_eq_false c
        refine ⟨[], by rw [if_neg c], Nat.zero_le _, ?_⟩
        unfold b_part_of_L1
        simp (disch := omega) only [fnM, envOf, sSeq, sAsg, sRet, sIf, sNil, sOw, sApp, sExt, sAsg2, sAug, sDrop, sPar, sParO, sNever, mDf, mRng2, mRng3, seqOf, sRaise, asgN, asgs, asgT, mOp, mFn, mCons, mNil, mC, mVar, mB, mCh, mAndV, mOrV, mNotV, mTyIs, tyOf, mTup, mLst, mFz, mUn, pys, Re.bind, mCall, mNot, mAnd, mIf, mLc, mSeq, mRng1, mEn, mYes, noE, sFor, mIxO, mSl, mPart, fSl, List.map_cons, List.map_nil, Option.map_some, Option.map_none, List.length_cons, List.length_nil, List.length_map, List.replicate, List.cons_append, List.nil_append, List.append_nil, List.getElem?_cons_zero, List.getElem?_cons_succ, List.set_cons_zero, List.set_cons_succ, List.foldl_cons, List.foldl_nil, List.set, List.map_map, fI, fMul, fAdd, fMod, fDiv, fInt, fLen, fSum, fAll, fTup, fDivmod, fMax2, fMin2, fNeg, fBack, fIsB, fNotB, fIx, fCnt, mCnt, Re.cut, fIsN, fNotN, isN, Nat.reduceSub, Nat.reduceAdd, if_true, Bool.false_eq_true, if_false, reduceIte, decide_true, decide_false, Bool.not_true, Bool.not_false, Bool.and_true, Bool.true_and, reduceCtorEq, ifC_pos, eq_FI, tI, e1, e2', e3, List.map_append]
        rfl
    obtain ⟨a', t5, t6, t7, t8, t9, e4⟩ := ih hr (bs ++ bs2) (a + szB b) (.im (.py (tI b.1))) (.im (.py (.int b.2))) (.im (.py (.int (szB b)))) (.im (.py (.int lo))) (.im (.py (.int hi))) (by rw [List.length_append]; omega)
    refine ⟨a', t5, t6, t7, t8, t9, ?_⟩
    rw [List.map_cons]
    unfold forL
    have ea : asgT [5, 6] ((D.py ∘ bD) b) [.im (.py R), .im (.py (.int s)), .im (.py (.int e)), .ow (bs.map bD), .im (.py (.int a)), s5, s6, s7, s8, s9] = some [.im (.py R), .im (.py (.int s)), .im (.py (.int e)), .ow (bs.map bD), .im (.py (.int a)), .im (.py (tI b.1)), .im (.py (.int b.2)), s7, s8, s9] := rfl
    rw [ea]
    simp only [eb]
    rw [e4, pof_cons, e1, e2, ← hb2, z1, z2, List.append_assoc]
theorem F_part_of2 {r : List Bk} (h : ROk r) (s e : Int) (w : Wd) : f_part_of [.py (rD r), .py (.int s), .py (.int e)] w = .rt (.py (rD (pof r s e))) w := by
  have rl := h.1
  obtain ⟨a', t5, t6, t7, t8, t9, e1⟩ := part_loop (rD r) s e w h.2 [] 0 .no .no .no .no .no (by simp only [List.length_nil]; omega)
  unfold f_part_of b_part_of
  simp only [List.map_nil, List.nil_append, Int.sub_zero] at e1
  unfold rD at e1 ⊢
  simp (disch := omega) only [fnM, envOf, sSeq, sAsg, sRet, sIf, sNil, sOw, sApp, sExt, sAsg2, sAug, sDrop, sPar, sParO, sNever, mDf, mRng2, mRng3, seqOf, sRaise, asgN, asgs, asgT, mOp, mFn, mCons, mNil, mC, mVar, mB, mCh, mAndV, mOrV, mNotV, mTyIs, tyOf, mTup, mLst, mFz, mUn, pys, Re.bind, mCall, mNot, mAnd, mIf, mLc, mSeq, mRng1, mEn, mYes, noE, sFor, mIxO, mSl, mPart, fSl, List.map_cons, List.map_nil, Option.map_some, Option.map_none, List.length_cons, List.length_nil, List.length_map, List.replicate, List.cons_append, List.nil_append, List.append_nil, List.getElem?_cons_zero, List.getElem?_cons_succ, List.set_cons_zero, List.set_cons_succ, List.foldl_cons, List.foldl_nil, List.set, List.map_map, fI, fMul, fAdd, fMod, fDiv, fInt, fLen, fSum, fAll, fTup, fDivmod, fMax2, fMin2, fNeg, fBack, fIsB, fNotB, fIx, fCnt, mCnt, Re.cut, fIsN, fNotN, isN, Nat.reduceSub, Nat.reduceAdd, if_true, Bool.false_eq_true, if_false, reduceIte, decide_true, decide_false, Bool.not_true, Bool.not_false, Bool.and_true, Bool.true_and, reduceCtorEq, ifC_pos, eq_FI, e1]
/-! ### plain data that is compared -/
theorem eq_nil_F (xs : List Int) : fEq (.py (.list (xs.map PyData.int))) (.py (.list [])) = some (.py (.bool (decide (xs = [])))) := by
  have h1 : SeqAt.shaped (.list (xs.map PyData.int)) = true := by
    simp only [SeqAt.shaped, PyData.canLay0, PyData.depth, lay_ints, dep_ints, Bool.true_and]
    rfl
  have h2 : SeqAt.shaped (.list []) = true := by
    simp only [SeqAt.shaped, PyData.canLay0, PyData.depth, PyData.canLayAll0, PyData.depthAll, Bool.true_and]
    rfl
  unfold fEq
  simp only [ifC_pos (And.intro h1 h2), PyData.eqv]
  cases xs with
  | nil => simp [PyData.eqvAll]
  | cons x xs => simp [PyData.eqvAll]
/-! ### an error that is caught -/
theorem u_pair (a y : PyData) (n : Str) : uTup (uCons (uC a) (uCons (uFld n) uNil)) [n] [y] = some (.py (.tuple [a, y])) := by
  have h : (["x"].zip [y]).lookup "x" = some y := rfl
  simp only [uTup, uCons, uC, uFld, uNil, List.zip_cons_cons, List.zip_nil_right, List.lookup_cons, beq_self_eq_true, Option.map_some, pys, Option.map_none]
  rw [ifC_pos (by simp)]
/-! ### rows -/
theorem F_need_entry {r : List Bk} (h : ROk r) (p : Int) (h0 : 0 ≤ p) (h1 : p < sz r) (w : Wd) : f_need_entry [.py (rD r), .py (.int p)] w = .rt (.py .none) w := by
  unfold f_need_entry b_need_entry
  have h1 := F_is_whole p 0 (sz r - 1) w
  rw [decide_eq_true ⟨h0, by omega⟩] at h1
  simp only [fnM, envOf, sSeq, sAsg, sRet, sIf, sNil, sOw, sApp, sExt, sAsg2, sAug, sDrop, sPar, sParO, sNever, mDf, mRng2, mRng3, seqOf, sRaise, asgN, asgs, asgT, mOp, mFn, mCons, mNil, mC, mVar, mB, mCh, mAndV, mOrV, mNotV, mTyIs, tyOf, mTup, mLst, mFz, mUn, pys, Re.bind, mCall, mNot, mAnd, mIf, mLc, mSeq, mRng1, mEn, mYes, noE, sFor, mIxO, mSl, mPart, fSl, List.map_cons, List.map_nil, Option.map_some, Option.map_none, List.length_cons, List.length_nil, List.length_map, List.replicate, List.cons_append, List.nil_append, List.append_nil, List.getElem?_cons_zero, List.getElem?_cons_succ, List.set_cons_zero, List.set_cons_succ, List.foldl_cons, List.foldl_nil, List.set, List.map_map, fI, fMul, fAdd, fMod, fDiv, fInt, fLen, fSum, fAll, fTup, fDivmod, fMax2, fMin2, fNeg, fBack, fIsB, fNotB, fIx, fCnt, mCnt, Re.cut, fEq, fNe, fIsN, fNotN, isN, Nat.reduceSub, Nat.reduceAdd, if_true, Bool.false_eq_true, if_false, reduceIte, decide_true, decide_false, Bool.not_true, Bool.not_false, Bool.and_true, Bool.true_and, reduceCtorEq, F_entry_count r w h.1 (fun b hb => (h.2 b hb).l2), h1]
theorem entry_loop {r : List Bk} (h : ∀ b ∈ r, BOk b) (R : PyData) (w : Wd) : ∀ (q : Int) (s2 s3 s4 : Slot), 0 ≤ q → q < sz r →
    ∃ c, mk r q = some c ∧ forL (asgT [2, 3]) b_entry_mark_L1 (r.map (D.py ∘ bD)) [.im (.py R), .im (.py (.int q)), s2, s3, s4] w = .rt (.py (.int c)) w := by
  induction r with
  | nil => intro q s2 s3 s4 h0 h1; unfold sz at h1; simp at h1; omega
  | cons b r ih =>
    intro q s2 s3 s4 h0 h1
    have ok := h b (List.mem_cons_self ..)
    have hr := fun c hc => h c (List.mem_cons_of_mem (a := c) b hc)
    have l1 := ok.l1
    have l2 := ok.l2
    have r0 := Int.emod_nonneg q (show (b.1.length : Int) ≠ 0 by omega)
    have r1 := Int.emod_lt_of_pos q (show (0 : Int) < (b.1.length : Int) by omega)
    have ea : asgT [2, 3] ((D.py ∘ bD) b) [.im (.py R), .im (.py (.int q)), s2, s3, s4] = some [.im (.py R), .im (.py (.int q)), .im (.py (tI b.1)), .im (.py (.int b.2)), s4] := rfl
    rw [List.map_cons]
    unfold mk
    by_cases c : q < szB b
    · rw [if_pos c]
      have hl : (q % (b.1.length : Int)).toNat < b.1.length := by omega
      have ce : decide (q < (b.1.length : Int) * b.2) = true := decide_eq_true c
      have ai : atI (b.1.map PyData.int) (q % (b.1.length : Int)) = some (.int b.1[(q % (b.1.length : Int)).toNat]) := by
        unfold atI
        rw [List.length_map, ixN_in r0 r1]
        show (b.1.map _)[_]? = _
        rw [List.getElem?_map, List.getElem?_eq_getElem hl]
        rfl
      refine ⟨_, List.getElem?_eq_getElem hl, ?_⟩
      unfold forL
      rw [ea]
      unfold b_entry_mark_L1
      simp (disch := omega) only [fnM, envOf, sSeq, sAsg, sRet, sIf, sNil, sOw, sApp, sExt, sAsg2, sAug, sDrop, sPar, sParO, sNever, mDf, mRng2, mRng3, seqOf, sRaise, asgN, asgs, asgT, mOp, mFn, mCons, mNil, mC, mVar, mB, mCh, mAndV, mOrV, mNotV, mTyIs, tyOf, mTup, mLst, mFz, mUn, pys, Re.bind, mCall, mNot, mAnd, mIf, mLc, mSeq, mRng1, mEn, mYes, noE, sFor, mIxO, mSl, mPart, fSl, List.map_cons, List.map_nil, Option.map_some, Option.map_none, List.length_cons, List.length_nil, List.length_map, List.replicate, List.cons_append, List.nil_append, List.append_nil, List.getElem?_cons_zero, List.getElem?_cons_succ, List.set_cons_zero, List.set_cons_succ, List.foldl_cons, List.foldl_nil, List.set, List.map_map, fI, fMul, fAdd, fMod, fDiv, fInt, fLen, fSum, fAll, fTup, fDivmod, fMax2, fMin2, fNeg, fBack, fIsB, fNotB, fIx, fCnt, mCnt, Re.cut, fIsN, fNotN, isN, Nat.reduceSub, Nat.reduceAdd, if_true, Bool.false_eq_true, if_false, reduceIte, decide_true, decide_false, Bool.not_true, Bool.not_false, Bool.and_true, Bool.true_and, reduceCtorEq, ifC_pos, eq_FI, tI, ce, ai]
    · rw [if_neg c]
      have ce : decide (q < (b.1.length : Int) * b.2) = false := decide_eq_false c
      obtain ⟨x, e1, e2⟩ := ih hr (q - szB b) (.im (.py (tI b.1))) (.im (.py (.int b.2))) (.im (.py (.int (szB b)))) (by omega) (by rw [sz_cons] at h1; omega)
      refine ⟨x, e1, ?_⟩
      unfold forL
      rw [ea]
      have eb : b_entry_mark_L1 [.im (.py R), .im (.py (.int q)), .im (.py (tI b.1)), .im (.py (.int b.2)), s4] w = .nx [.im (.py R), .im (.py (.int (q - szB b))), .im (.py (tI b.1)), .im (.py (.int b.2)), .im (.py (.int (szB b)))] w := by
        unfold b_entry_mark_L1
        simp (disch := omega) only [fnM, envOf, sSeq, sAsg, sRet, sIf, sNil, sOw, sApp, sExt, sAsg2, sAug, sDrop, sPar, sParO, sNever, mDf, mRng2, mRng3, seqOf, sRaise, asgN, asgs, asgT, mOp, mFn, mCons, mNil, mC, mVar, mB, mCh, mAndV, mOrV, mNotV, mTyIs, tyOf, mTup, mLst, mFz, mUn, pys, Re.bind, mCall, mNot, mAnd, mIf, mLc, mSeq, mRng1, mEn, mYes, noE, sFor, mIxO, mSl, mPart, fSl, List.map_cons, List.map_nil, Option.map_some, Option.map_none, List.length_cons, List.length_nil, List.length_map, List.replicate, List.cons_append, List.nil_append, List.append_nil, List.getElem?_cons_zero, List.getElem?_cons_succ, List.set_cons_zero, List.set_cons_succ, List.foldl_cons, List.foldl_nil, List.set, List.map_map, fI, fMul, fAdd, fMod, fDiv, fInt, fLen, fSum, fAll, fTup, fDivmod, fMax2, fMin2, fNeg, fBack, fIsB, fNotB, fIx, fCnt, mCnt, Re.cut, fIsN, fNotN, isN, Nat.reduceSub, Nat.reduceAdd, if_true, Bool.false_eq_true, if_false, reduceIte, decide_true, decide_false, Bool.not_true, Bool.not_false, Bool.and_true, Bool.true_and, reduceCtorEq, ifC_pos, eq_FI, tI, ce]
        rfl
      simp only [eb]
      exact e2
theorem F_entry_mark {r : List Bk} (h : ROk r) (q : Int) (h0 : 0 ≤ q) (h1 : q < sz r) (w : Wd) : ∃ c, mk r q = some c ∧ f_entry_mark [.py (rD r), .py (.int q)] w = .rt (.py (.int c)) w := by
  unfold f_entry_mark b_entry_mark
  obtain ⟨c, e1, e2⟩ := entry_loop h.2 (rD r) w q .no .no .no h0 h1
  refine ⟨c, e1, ?_⟩
  unfold rD at e2 ⊢
  simp (disch := omega) only [fnM, envOf, sSeq, sAsg, sRet, sIf, sNil, sOw, sApp, sExt, sAsg2, sAug, sDrop, sPar, sParO, sNever, mDf, mRng2, mRng3, seqOf, sRaise, asgN, asgs, asgT, mOp, mFn, mCons, mNil, mC, mVar, mB, mCh, mAndV, mOrV, mNotV, mTyIs, tyOf, mTup, mLst, mFz, mUn, pys, Re.bind, mCall, mNot, mAnd, mIf, mLc, mSeq, mRng1, mEn, mYes, noE, sFor, mIxO, mSl, mPart, fSl, List.map_cons, List.map_nil, Option.map_some, Option.map_none, List.length_cons, List.length_nil, List.length_map, List.replicate, List.cons_append, List.nil_append, List.append_nil, List.getElem?_cons_zero, List.getElem?_cons_succ, List.set_cons_zero, List.set_cons_succ, List.foldl_cons, List.foldl_nil, List.set, List.map_map, fI, fMul, fAdd, fMod, fDiv, fInt, fLen, fSum, fAll, fTup, fDivmod, fMax2, fMin2, fNeg, fBack, fIsB, fNotB, fIx, fCnt, mCnt, Re.cut, fIsN, fNotN, isN, Nat.reduceSub, Nat.reduceAdd, if_true, Bool.false_eq_true, if_false, reduceIte, decide_true, decide_false, Bool.not_true, Bool.not_false, Bool.and_true, Bool.true_and, reduceCtorEq, ifC_pos, eq_FI, e2]
theorem F_mark_at {r : List Bk} (h : ROk r) (q : Int) (h0 : 0 ≤ q) (h1 : q < sz r) (w : Wd) : ∃ c, mk r q = some c ∧ f_mark_at [.py (rD r), .py (.int q)] w = .rt (.py (.int c)) w := by
  obtain ⟨c, e1, e2⟩ := F_entry_mark h q h0 h1 w
  refine ⟨c, e1, ?_⟩
  unfold f_mark_at b_mark_at
  simp (disch := omega) only [fnM, envOf, sSeq, sAsg, sRet, sIf, sNil, sOw, sApp, sExt, sAsg2, sAug, sDrop, sPar, sParO, sNever, mDf, mRng2, mRng3, seqOf, sRaise, asgN, asgs, asgT, mOp, mFn, mCons, mNil, mC, mVar, mB, mCh, mAndV, mOrV, mNotV, mTyIs, tyOf, mTup, mLst, mFz, mUn, pys, Re.bind, mCall, mNot, mAnd, mIf, mLc, mSeq, mRng1, mEn, mYes, noE, sFor, mIxO, mSl, mPart, fSl, List.map_cons, List.map_nil, Option.map_some, Option.map_none, List.length_cons, List.length_nil, List.length_map, List.replicate, List.cons_append, List.nil_append, List.append_nil, List.getElem?_cons_zero, List.getElem?_cons_succ, List.set_cons_zero, List.set_cons_succ, List.foldl_cons, List.foldl_nil, List.set, List.map_map, fI, fMul, fAdd, fMod, fDiv, fInt, fLen, fSum, fAll, fTup, fDivmod, fMax2, fMin2, fNeg, fBack, fIsB, fNotB, fIx, fCnt, mCnt, Re.cut, fIsN, fNotN, isN, Nat.reduceSub, Nat.reduceAdd, if_true, Bool.false_eq_true, if_false, reduceIte, decide_true, decide_false, Bool.not_true, Bool.not_false, Bool.and_true, Bool.true_and, reduceCtorEq, ifC_pos, eq_FI, F_need_row h, F_need_entry h q h0 h1, e2]
theorem F_length_of {r : List Bk} (h : ROk r) (w : Wd) : f_length_of [.py (rD r)] w = .rt (.py (.int (sz r))) w := by
  have ec := F_entry_count r w h.1 (fun b hb => (h.2 b hb).l2)
  unfold f_length_of b_length_of
  simp (disch := omega) only [fnM, envOf, sSeq, sAsg, sRet, sIf, sNil, sOw, sApp, sExt, sAsg2, sAug, sDrop, sPar, sParO, sNever, mDf, mRng2, mRng3, seqOf, sRaise, asgN, asgs, asgT, mOp, mFn, mCons, mNil, mC, mVar, mB, mCh, mAndV, mOrV, mNotV, mTyIs, tyOf, mTup, mLst, mFz, mUn, pys, Re.bind, mCall, mNot, mAnd, mIf, mLc, mSeq, mRng1, mEn, mYes, noE, sFor, mIxO, mSl, mPart, fSl, List.map_cons, List.map_nil, Option.map_some, Option.map_none, List.length_cons, List.length_nil, List.length_map, List.replicate, List.cons_append, List.nil_append, List.append_nil, List.getElem?_cons_zero, List.getElem?_cons_succ, List.set_cons_zero, List.set_cons_succ, List.foldl_cons, List.foldl_nil, List.set, List.map_map, fI, fMul, fAdd, fMod, fDiv, fInt, fLen, fSum, fAll, fTup, fDivmod, fMax2, fMin2, fNeg, fBack, fIsB, fNotB, fIx, fCnt, mCnt, Re.cut, fIsN, fNotN, isN, Nat.reduceSub, Nat.reduceAdd, if_true, Bool.false_eq_true, if_false, reduceIte, decide_true, decide_false, Bool.not_true, Bool.not_false, Bool.and_true, Bool.true_and, reduceCtorEq, ifC_pos, eq_FI, F_need_row h, ec]
/-! ### words -/
/-! ### what is shown is short -/
theorem good_i3 {c : Int} (h : 0 ≤ c ∧ c ≤ 3) : good 40 (.int c) := by
  unfold good
  have e : (10 : Nat) ^ 40 = 10000000000000000000000000000000000000000 := by decide
  rw [e]
  omega
theorem goodAll_of {k : Nat} : ∀ {xs : List PyData}, (∀ x ∈ xs, good k x) → goodAll k xs
  | [], _ => by unfold goodAll; trivial
  | x :: xs, h => by unfold goodAll; exact ⟨h x (List.mem_cons_self ..), goodAll_of fun y hy => h y (List.mem_cons_of_mem _ hy)⟩
theorem good_tI {cs : List Int} (h : ∀ c ∈ cs, 0 ≤ c ∧ c ≤ 3) : good 40 (tI cs) := by
  unfold tI good
  refine goodAll_of fun x hx => ?_
  obtain ⟨c, hc, rfl⟩ := List.mem_map.mp hx
  exact good_i3 (h c hc)
theorem costAll_le {k B : Nat} : ∀ {xs : List PyData}, (∀ x ∈ xs, cost k x ≤ B) → costAll k xs ≤ xs.length * (B + 2)
  | [], _ => by unfold costAll; exact Nat.zero_le _
  | x :: xs, h => by
    have z1 := costAll_le (xs := xs) fun y hy => h y (List.mem_cons_of_mem _ hy)
    have z2 := h x (List.mem_cons_self ..)
    unfold costAll
    rw [List.length_cons, Nat.succ_mul]
    omega
theorem cost_tI (cs : List Int) : cost 40 (tI cs) ≤ cs.length * 43 + 3 := by
  unfold tI cost
  have z := costAll_le (k := 40) (B := 41) (xs := cs.map PyData.int) fun x hx => by
    obtain ⟨c, _, rfl⟩ := List.mem_map.mp hx
    unfold cost
    exact Nat.le_refl _
  rw [List.length_map] at z
  omega
theorem depthAll_le {B : Nat} : ∀ {xs : List PyData}, (∀ x ∈ xs, x.depth ≤ B) → PyData.depthAll xs ≤ B
  | [], _ => by unfold PyData.depthAll; exact Nat.zero_le _
  | x :: xs, h => by
    unfold PyData.depthAll
    exact Nat.max_le.mpr ⟨h x (List.mem_cons_self ..), depthAll_le fun y hy => h y (List.mem_cons_of_mem _ hy)⟩
theorem depth_tI (cs : List Int) : (tI cs).depth = 1 := by
  unfold tI PyData.depth
  rw [dep_ints]
theorem good_bD {b : Bk} (h : BOk b) : good 40 (bD b) := by
  have t1 := h.t1
  have t2 := h.t2
  have e : (10 : Nat) ^ 40 = 10000000000000000000000000000000000000000 := by decide
  unfold bD good
  refine goodAll_of fun x hx => ?_
  rcases List.mem_cons.mp hx with z | z
  · rw [z]; exact good_tI h.mks
  · cases List.mem_singleton.mp z
    unfold good
    rw [e]
    omega
theorem cost_bD {b : Bk} (h : BOk b) : cost 40 (bD b) ≤ 2631 := by
  have l2 := h.l2
  have z := cost_tI b.1
  unfold bD cost costAll costAll costAll
  have e : cost 40 (.int b.2) = 41 := by unfold cost; rfl
  rw [e]
  omega
theorem depth_bD (b : Bk) : (bD b).depth ≤ 2 := by
  unfold bD PyData.depth
  have := depthAll_le (B := 1) (xs := [tI b.1, .int b.2]) fun x hx => by
    rcases List.mem_cons.mp hx with z | z
    · rw [z, depth_tI]; exact Nat.le_refl _
    · cases List.mem_singleton.mp z
      unfold PyData.depth
      exact Nat.zero_le _
  omega
theorem good_rD {r : List Bk} (h : ∀ b ∈ r, BOk b) : good 40 (rD r) := by
  unfold rD good
  refine goodAll_of fun x hx => ?_
  obtain ⟨b, hb, rfl⟩ := List.mem_map.mp hx
  exact good_bD (h b hb)
theorem cost_rD {r : List Bk} (h : ∀ b ∈ r, BOk b) : cost 40 (rD r) ≤ r.length * 2633 + 3 := by
  unfold rD cost
  have z := costAll_le (k := 40) (B := 2631) (xs := r.map bD) fun x hx => by
    obtain ⟨b, hb, rfl⟩ := List.mem_map.mp hx
    exact cost_bD (h b hb)
  rw [List.length_map] at z
  omega
theorem depth_rD (r : List Bk) : (rD r).depth ≤ 3 := by
  unfold rD PyData.depth
  have := depthAll_le (B := 2) (xs := r.map bD) fun x hx => by
    obtain ⟨b, hb, rfl⟩ := List.mem_map.mp hx
    exact depth_bD b
  omega
/-- two things that are the same, of parts that are short -/
theorem like_L {xs : List PyData} (h : ∀ x ∈ xs, good 40 x ∧ x.depth ≤ 50 ∧ cost 40 x ≤ 200000) (hl : xs.length ≤ 4) (w : Wd) : f__law_like [.py (.list xs), .py (.list xs)] w = .rt (.py (.bool true)) w := by
  refine F__law_like (k := 40) (by decide) (by decide) ?_ ?_ ?_ w
  · unfold good
    exact goodAll_of fun x hx => (h x hx).1
  · unfold PyData.depth
    have := depthAll_le (B := 50) fun x hx => (h x hx).2.1
    omega
  · unfold cost
    have z := costAll_le (k := 40) (B := 200000) fun x hx => (h x hx).2.2
    have : xs.length * (200000 + 2) ≤ 4 * (200000 + 2) := Nat.mul_le_mul_right _ hl
    omega
theorem like_1 {x : PyData} (h : good 40 x ∧ x.depth ≤ 50 ∧ cost 40 x ≤ 200000) (w : Wd) : f__law_like [.py x, .py x] w = .rt (.py (.bool true)) w :=
  F__law_like (k := 40) (by decide) (by decide) h.1 (by omega) (by omega) w
theorem sh_tI {cs : List Int} (h : ∀ c ∈ cs, 0 ≤ c ∧ c ≤ 3) (hl : cs.length ≤ 4000) : good 40 (tI cs) ∧ (tI cs).depth ≤ 50 ∧ cost 40 (tI cs) ≤ 200000 :=
  ⟨good_tI h, by rw [depth_tI]; decide, by have := cost_tI cs; omega⟩
theorem sh_rD {r : List Bk} (h : ROk r) : good 40 (rD r) ∧ (rD r).depth ≤ 50 ∧ cost 40 (rD r) ≤ 200000 :=
  ⟨good_rD h.2, by have := depth_rD r; omega, by have := cost_rD h.2; have := h.1; omega⟩
theorem sh_int {i : Int} (h : i.natAbs < 10000000000000000000000000000000000000000) : good 40 (.int i) ∧ (PyData.int i).depth ≤ 50 ∧ cost 40 (.int i) ≤ 200000 := by
  have e : (10 : Nat) ^ 40 = 10000000000000000000000000000000000000000 := by decide
  exact ⟨by unfold good; rw [e]; exact h, by unfold PyData.depth; decide, by unfold cost; decide⟩
/-! ### where two rows part -/
theorem ix_mod (ms : List Int) (d o : Nat) (hl : 0 < ms.length) : atI (ms.map PyData.int) (((d : Int) + (o : Int)) % (ms.length : Int)) = some (.int (ax ms d o)) := by
  have e : ((d : Int) + (o : Int)) % (ms.length : Int) = (((d + o) % ms.length : Nat) : Int) := by push_cast; rfl
  have lt := Nat.mod_lt (d + o) hl
  rw [e]
  unfold atI
  rw [List.length_map, ixN_in (by omega) (by omega)]
  show (ms.map _)[((d + o) % ms.length)]? = _
  rw [List.getElem?_map, List.getElem?_eq_getElem lt]
  unfold ax
  rw [List.getD, List.getElem?_eq_getElem lt]
  rfl
theorem unl_loop (ms ns : List Int) (d e : Nat) (m : D) (h1 : 1 ≤ ms.length) (h2 : 1 ≤ ns.length) (w : Wd) : ∀ (n s : Nat) (s5 : Slot), ∃ t5, forL (asgN 5) b_unlike_offset_L1 ((List.range' s n).map fun i : Nat => D.py (.int (0 + (i : Int)))) [.im (.py (tI ms)), .im (.py (.int d)), .im (.py (tI ns)), .im (.py (.int e)), .im m, s5] w
    = match fo (ax ms d) (ax ns e) s n with
      | some o => .rt (.py (.int (o : Int))) w
      | none => .nx [.im (.py (tI ms)), .im (.py (.int d)), .im (.py (tI ns)), .im (.py (.int e)), .im m, t5] w
  | 0, s, s5 => ⟨s5, rfl⟩
  | n + 1, s, s5 => by
    have a1 := ix_mod ms d s (by omega)
    have a2 := ix_mod ns e s (by omega)
    obtain ⟨t5, ih⟩ := unl_loop ms ns d e m h1 h2 w n (s + 1) (.im (.py (.int (0 + (s : Int)))))
    refine ⟨t5, ?_⟩
    rw [List.range'_succ, List.map_cons]
    unfold forL fo
    have ea : asgN 5 (D.py (.int (0 + (s : Int)))) [.im (.py (tI ms)), .im (.py (.int d)), .im (.py (tI ns)), .im (.py (.int e)), .im m, s5] = some [.im (.py (tI ms)), .im (.py (.int d)), .im (.py (tI ns)), .im (.py (.int e)), .im m, .im (.py (.int (0 + (s : Int))))] := rfl
    rw [ea]
    by_cases c : ax ms d s = ax ns e s
    · have cd : decide (ax ms d s = ax ns e s) = true := decide_eq_true c
      rw [if_pos c]
      have eb : b_unlike_offset_L1 [.im (.py (tI ms)), .im (.py (.int d)), .im (.py (tI ns)), .im (.py (.int e)), .im m, .im (.py (.int (0 + (s : Int))))] w = .nx [.im (.py (tI ms)), .im (.py (.int d)), .im (.py (tI ns)), .im (.py (.int e)), .im m, .im (.py (.int (0 + (s : Int))))] w := by
        unfold b_unlike_offset_L1
        simp (disch := omega) only [fnM, envOf, sSeq, sAsg, sRet, sIf, sNil, sOw, sApp, sExt, sAsg2, sAug, sDrop, sPar, sParO, sNever, mDf, mRng2, mRng3, seqOf, sRaise, asgN, asgs, asgT, mOp, mFn, mCons, mNil, mC, mVar, mB, mCh, mAndV, mOrV, mNotV, mTyIs, tyOf, mTup, mLst, mFz, mUn, pys, Re.bind, mCall, mNot, mAnd, mIf, mLc, mSeq, mRng1, mEn, mYes, noE, sFor, mIxO, mSl, mPart, fSl, List.map_cons, List.map_nil, Option.map_some, Option.map_none, List.length_cons, List.length_nil, List.length_map, List.replicate, List.cons_append, List.nil_append, List.append_nil, List.getElem?_cons_zero, List.getElem?_cons_succ, List.set_cons_zero, List.set_cons_succ, List.foldl_cons, List.foldl_nil, List.set, List.map_map, fI, fMul, fAdd, fMod, fDiv, fInt, fLen, fSum, fAll, fTup, fDivmod, fMax2, fMin2, fNeg, fBack, fIsB, fNotB, fIx, fCnt, mCnt, Re.cut, fIsN, fNotN, isN, Nat.reduceSub, Nat.reduceAdd, if_true, Bool.false_eq_true, if_false, reduceIte, decide_true, decide_false, Bool.not_true, Bool.not_false, Bool.and_true, Bool.true_and, reduceCtorEq, ifC_pos, eq_FI, tI, Int.zero_add, a1, a2, ne_FI, cd]
      simp only [eb]
      exact ih
    · have cd : decide (ax ms d s = ax ns e s) = false := decide_eq_false c
      rw [if_neg c]
      unfold b_unlike_offset_L1
      simp (disch := omega) only [fnM, envOf, sSeq, sAsg, sRet, sIf, sNil, sOw, sApp, sExt, sAsg2, sAug, sDrop, sPar, sParO, sNever, mDf, mRng2, mRng3, seqOf, sRaise, asgN, asgs, asgT, mOp, mFn, mCons, mNil, mC, mVar, mB, mCh, mAndV, mOrV, mNotV, mTyIs, tyOf, mTup, mLst, mFz, mUn, pys, Re.bind, mCall, mNot, mAnd, mIf, mLc, mSeq, mRng1, mEn, mYes, noE, sFor, mIxO, mSl, mPart, fSl, List.map_cons, List.map_nil, Option.map_some, Option.map_none, List.length_cons, List.length_nil, List.length_map, List.replicate, List.cons_append, List.nil_append, List.append_nil, List.getElem?_cons_zero, List.getElem?_cons_succ, List.set_cons_zero, List.set_cons_succ, List.foldl_cons, List.foldl_nil, List.set, List.map_map, fI, fMul, fAdd, fMod, fDiv, fInt, fLen, fSum, fAll, fTup, fDivmod, fMax2, fMin2, fNeg, fBack, fIsB, fNotB, fIx, fCnt, mCnt, Re.cut, fIsN, fNotN, isN, Nat.reduceSub, Nat.reduceAdd, if_true, Bool.false_eq_true, if_false, reduceIte, decide_true, decide_false, Bool.not_true, Bool.not_false, Bool.and_true, Bool.true_and, reduceCtorEq, ifC_pos, eq_FI, tI, Int.zero_add, a1, a2, ne_FI, cd]
theorem F_unlike (ms ns : List Int) (d e : Nat) (many : Int) (m0 : 0 ≤ many) (h1 : 1 ≤ ms.length) (h2 : 1 ≤ ns.length) (l1 : ms.length ≤ 60) (l2 : ns.length ≤ 60) (w : Wd) : f_unlike_offset [.py (tI ms), .py (.int d), .py (tI ns), .py (.int e), .py (.int many)] w
    = .rt (.py (match fo (ax ms d) (ax ns e) 0 (min many.toNat (ms.length + ns.length)) with | some o => .int (o : Int) | none => .none)) w := by
  unfold f_unlike_offset b_unlike_offset
  obtain ⟨x, hx⟩ : ∃ x : Int, (if (ms.length : Int) + (ns.length : Int) < many then (ms.length : Int) + (ns.length : Int) else many) = x := ⟨_, rfl⟩
  have xn : x.toNat = min many.toNat (ms.length + ns.length) := by rw [← hx]; split <;> omega
  have xb : 0 ≤ x ∧ x ≤ 120 := by rw [← hx]; split <;> omega
  obtain ⟨t5, e1⟩ := unl_loop ms ns d e (.py (.int many)) h1 h2 w (min many.toNat (ms.length + ns.length)) 0 .no
  have eu : upto 0 x.toNat = (List.range' 0 (min many.toNat (ms.length + ns.length))).map fun i : Nat => D.py (.int (0 + (i : Int))) := by
    unfold upto
    rw [xn, List.range_eq_range']
  unfold tI at e1 ⊢
  cases q : fo (ax ms d) (ax ns e) 0 (min many.toNat (ms.length + ns.length)) with
  | some o =>
    rw [q] at e1
    simp (disch := omega) only [fnM, envOf, sSeq, sAsg, sRet, sIf, sNil, sOw, sApp, sExt, sAsg2, sAug, sDrop, sPar, sParO, sNever, mDf, mRng2, mRng3, seqOf, sRaise, asgN, asgs, asgT, mOp, mFn, mCons, mNil, mC, mVar, mB, mCh, mAndV, mOrV, mNotV, mTyIs, tyOf, mTup, mLst, mFz, mUn, pys, Re.bind, mCall, mNot, mAnd, mIf, mLc, mSeq, mRng1, mEn, mYes, noE, sFor, mIxO, mSl, mPart, fSl, List.map_cons, List.map_nil, Option.map_some, Option.map_none, List.length_cons, List.length_nil, List.length_map, List.replicate, List.cons_append, List.nil_append, List.append_nil, List.getElem?_cons_zero, List.getElem?_cons_succ, List.set_cons_zero, List.set_cons_succ, List.foldl_cons, List.foldl_nil, List.set, List.map_map, fI, fMul, fAdd, fMod, fDiv, fInt, fLen, fSum, fAll, fTup, fDivmod, fMax2, fMin2, fNeg, fBack, fIsB, fNotB, fIx, fCnt, mCnt, Re.cut, fIsN, fNotN, isN, Nat.reduceSub, Nat.reduceAdd, if_true, Bool.false_eq_true, if_false, reduceIte, decide_true, decide_false, Bool.not_true, Bool.not_false, Bool.and_true, Bool.true_and, reduceCtorEq, ifC_pos, eq_FI, hx, eu, e1]
  | none =>
    rw [q] at e1
    simp (disch := omega) only [fnM, envOf, sSeq, sAsg, sRet, sIf, sNil, sOw, sApp, sExt, sAsg2, sAug, sDrop, sPar, sParO, sNever, mDf, mRng2, mRng3, seqOf, sRaise, asgN, asgs, asgT, mOp, mFn, mCons, mNil, mC, mVar, mB, mCh, mAndV, mOrV, mNotV, mTyIs, tyOf, mTup, mLst, mFz, mUn, pys, Re.bind, mCall, mNot, mAnd, mIf, mLc, mSeq, mRng1, mEn, mYes, noE, sFor, mIxO, mSl, mPart, fSl, List.map_cons, List.map_nil, Option.map_some, Option.map_none, List.length_cons, List.length_nil, List.length_map, List.replicate, List.cons_append, List.nil_append, List.append_nil, List.getElem?_cons_zero, List.getElem?_cons_succ, List.set_cons_zero, List.set_cons_succ, List.foldl_cons, List.foldl_nil, List.set, List.map_map, fI, fMul, fAdd, fMod, fDiv, fInt, fLen, fSum, fAll, fTup, fDivmod, fMax2, fMin2, fNeg, fBack, fIsB, fNotB, fIx, fCnt, mCnt, Re.cut, fIsN, fNotN, isN, Nat.reduceSub, Nat.reduceAdd, if_true, Bool.false_eq_true, if_false, reduceIte, decide_true, decide_false, Bool.not_true, Bool.not_false, Bool.and_true, Bool.true_and, reduceCtorEq, ifC_pos, eq_FI, hx, eu, e1]
def wcond : M Bool := mAnd (mB (mOp fLt (mVar 3) (mFn fLen (mCons (mVar 0) mNil)))) (mB (mOp fLt (mVar 4) (mFn fLen (mCons (mVar 1) mNil))))
/-- blocks that can be read -/
def Rd1 (r : List Bk) : Prop := r.length ≤ 1000 ∧ ∀ b ∈ r, 1 ≤ b.1.length ∧ b.1.length ≤ 60 ∧ 1 ≤ b.2
theorem fl_ne {b : Bk} {r : List Bk} (h : 1 ≤ b.1.length ∧ b.1.length ≤ 60 ∧ 1 ≤ b.2) (d : Nat) (hd : (d : Int) < szB b) : (fl (b :: r)).drop d ≠ [] := by
  intro z
  have := congrArg List.length z
  rw [List.length_drop, fl_cons, List.length_append, List.length_nil] at this
  have := fB_len (b := b) (by omega)
  omega
theorem szB_pos1 {b : Bk} (h : 1 ≤ b.1.length ∧ b.1.length ≤ 60 ∧ 1 ≤ b.2) : 0 < szB b := by
  unfold szB
  exact Int.mul_pos (by omega) (by omega)
/-- a place within the blocks -/
def At (a : List Bk) (i d : Nat) : Prop := i ≤ a.length ∧ (i = a.length → d = 0) ∧ ∀ b, a[i]? = some b → (d : Int) < szB b
theorem drop_at {a : List Bk} {i : Nat} {b : Bk} (h : a[i]? = some b) : a.drop i = b :: a.drop (i + 1) := by
  obtain ⟨hl, e⟩ := List.getElem?_eq_some_iff.mp h
  rw [List.drop_eq_getElem_cons hl, e]
theorem atB {a : List Bk} {i : Nat} {b : Bk} (h : a[i]? = some b) : atI (a.map bD) (i : Int) = some (bD b) := by
  have hl := (List.getElem?_eq_some_iff.mp h).1
  unfold atI
  rw [List.length_map, ixN_in (by omega) (by omega)]
  show (a.map bD)[i]? = _
  rw [List.getElem?_map, h]
  rfl
theorem at_next {a : List Bk} {i d many : Nat} {b : Bk} (h : At a i d) (e : a[i]? = some b) (ok : ∀ b ∈ a, 1 ≤ b.1.length ∧ b.1.length ≤ 60 ∧ 1 ≤ b.2) (hm : ((d + many : Nat) : Int) ≤ szB b) :
    At a (if ((d + many : Nat) : Int) = szB b then i + 1 else i) (if ((d + many : Nat) : Int) = szB b then 0 else d + many) ∧
    (fl (a.drop (if ((d + many : Nat) : Int) = szB b then i + 1 else i))).drop (if ((d + many : Nat) : Int) = szB b then 0 else d + many) = (fl (a.drop i)).drop (d + many) := by
  have hl := (List.getElem?_eq_some_iff.mp e).1
  by_cases c : ((d + many : Nat) : Int) = szB b
  · rw [if_pos c, if_pos c]
    refine ⟨⟨by omega, fun _ => rfl, fun b' h' => szB_pos1 (ok b' (List.mem_of_getElem? h'))⟩, ?_⟩
    rw [List.drop_zero, drop_at e]
    have t := (ok b (List.mem_of_getElem? e)).2.2
    have : d + many = (szB b).toNat := by omega
    rw [this, fl_drop (by omega)]
  · rw [if_neg c, if_neg c]
    refine ⟨⟨by omega, fun z => by omega, fun b' h' => ?_⟩, rfl⟩
    rw [e] at h'
    cases h'
    omega
theorem part_while {a b : List Bk} (ha : Rd1 a) (hb : Rd1 b) (w : Wd) : ∀ (n fuel i j d e p : Nat) (s7 s8 s9 s10 s11 s12 s13 s14 : Slot), (a.length - i) + (b.length - j) ≤ n → n < fuel → At a i d → At b j e →
    (∃ k, fpt ((fl (a.drop i)).drop d) ((fl (b.drop j)).drop e) = some k ∧ whL wcond b_first_parting_L1 fuel [.im (.py (rD a)), .im (.py (rD b)), .im (.py (.int p)), .im (.py (.int i)), .im (.py (.int j)), .im (.py (.int d)), .im (.py (.int e)), s7, s8, s9, s10, s11, s12, s13, s14] w = .rt (.py (.int ((p + k : Nat) : Int))) w) ∨
    ∃ (p' i' j' : Nat) (t5 t6 t7 t8 t9 t10 t11 t12 t13 t14 : Slot), whL wcond b_first_parting_L1 fuel [.im (.py (rD a)), .im (.py (rD b)), .im (.py (.int p)), .im (.py (.int i)), .im (.py (.int j)), .im (.py (.int d)), .im (.py (.int e)), s7, s8, s9, s10, s11, s12, s13, s14] w
        = .nx [.im (.py (rD a)), .im (.py (rD b)), .im (.py (.int p')), .im (.py (.int i')), .im (.py (.int j')), t5, t6, t7, t8, t9, t10, t11, t12, t13, t14] w ∧
      ((i' = a.length ∧ j' = b.length ∧ fpt ((fl (a.drop i)).drop d) ((fl (b.drop j)).drop e) = none) ∨ (¬ (i' = a.length ∧ j' = b.length) ∧ ∃ k, p' = p + k ∧ fpt ((fl (a.drop i)).drop d) ((fl (b.drop j)).drop e) = some k)) := by
  intro n
  induction n with
  | zero =>
    intro fuel i j d e p s7 s8 s9 s10 s11 s12 s13 s14 hn hf Aa Ab
    have ia : i = a.length := by have := Aa.1; omega
    have jb : j = b.length := by have := Ab.1; omega
    have d0 := Aa.2.1 ia
    have e0 := Ab.2.1 jb
    obtain ⟨f, rfl⟩ : ∃ f, fuel = f + 1 := ⟨fuel - 1, by omega⟩
    refine .inr ⟨p, i, j, .im (.py (.int d)), .im (.py (.int e)), s7, s8, s9, s10, s11, s12, s13, s14, ?_, .inl ⟨ia, jb, ?_⟩⟩
    · unfold whL wcond rD
      have c1 : decide ((i : Int) < (a.length : Int)) = false := decide_eq_false (by omega)
      simp (disch := omega) only [fnM, envOf, sSeq, sAsg, sRet, sIf, sNil, sOw, sApp, sExt, sAsg2, sAug, sDrop, sPar, sParO, sNever, mDf, mRng2, mRng3, seqOf, sRaise, asgN, asgs, asgT, mOp, mFn, mCons, mNil, mC, mVar, mB, mCh, mAndV, mOrV, mNotV, mTyIs, tyOf, mTup, mLst, mFz, mUn, pys, Re.bind, mCall, mNot, mAnd, mIf, mLc, mSeq, mRng1, mEn, mYes, noE, sFor, mIxO, mSl, mPart, fSl, List.map_cons, List.map_nil, Option.map_some, Option.map_none, List.length_cons, List.length_nil, List.length_map, List.replicate, List.cons_append, List.nil_append, List.append_nil, List.getElem?_cons_zero, List.getElem?_cons_succ, List.set_cons_zero, List.set_cons_succ, List.foldl_cons, List.foldl_nil, List.set, List.map_map, fI, fMul, fAdd, fMod, fDiv, fInt, fLen, fSum, fAll, fTup, fDivmod, fMax2, fMin2, fNeg, fBack, fIsB, fNotB, fIx, fCnt, mCnt, Re.cut, fIsN, fNotN, isN, Nat.reduceSub, Nat.reduceAdd, if_true, Bool.false_eq_true, if_false, reduceIte, decide_true, decide_false, Bool.not_true, Bool.not_false, Bool.and_true, Bool.true_and, reduceCtorEq, ifC_pos, eq_FI, c1]
    · rw [d0, e0, ia, jb, List.drop_length, List.drop_length]
      rfl
  | succ n ih =>
    intro fuel i j d e p s7 s8 s9 s10 s11 s12 s13 s14 hn hf Aa Ab
    obtain ⟨f, rfl⟩ : ∃ f, fuel = f + 1 := ⟨fuel - 1, by omega⟩
    by_cases ia : i < a.length
    · by_cases jb : j < b.length
      · obtain ⟨x, ex⟩ : ∃ x, a[i]? = some x := ⟨_, List.getElem?_eq_getElem ia⟩
        obtain ⟨y, ey⟩ : ∃ y, b[j]? = some y := ⟨_, List.getElem?_eq_getElem jb⟩
        have kx := ha.2 x (List.mem_of_getElem? ex)
        have ky := hb.2 y (List.mem_of_getElem? ey)
        have dx := Aa.2.2 x ex
        have dy := Ab.2.2 y ey
        obtain ⟨many, hm⟩ : ∃ many : Nat, (many : Int) = if szB y - e < szB x - d then szB y - e else szB x - d := by
          refine ⟨(if szB y - (e : Int) < szB x - d then szB y - e else szB x - d).toNat, Int.toNat_of_nonneg ?_⟩
          split <;> omega
        have m1 : ((d + many : Nat) : Int) ≤ szB x := by push_cast; rw [hm]; split <;> omega
        have m2 : ((e + many : Nat) : Int) ≤ szB y := by push_cast; rw [hm]; split <;> omega
        have m3 : ((d + many : Nat) : Int) = szB x ∨ ((e + many : Nat) : Int) = szB y := by push_cast; rw [hm]; split <;> omega
        have st := step_at (r := a.drop (i + 1)) (s := b.drop (j + 1)) kx.1 ky.1 (by omega) (by omega) d e many m1 m2
        rw [← drop_at ex, ← drop_at ey] at st
        have fu := F_unlike x.1 y.1 d e (many : Int) (by omega) kx.1 ky.1 kx.2.1 ky.2.1 w
        rw [Int.toNat_natCast] at fu
        have a1 := atB ex
        have a2 := atB ey
        have c1 : decide ((i : Int) < (a.length : Int)) = true := decide_eq_true (by omega)
        have c2 : decide ((j : Int) < (b.length : Int)) = true := decide_eq_true (by omega)
        have mm : (if (y.1.length : Int) * y.2 - e < (x.1.length : Int) * x.2 - d then (y.1.length : Int) * y.2 - e else (x.1.length : Int) * x.2 - d) = (many : Int) := hm.symm
        have z1 : szB x = (x.1.length : Int) * x.2 := rfl
        have z2 : szB y = (y.1.length : Int) * y.2 := rfl
        cases q : fo (ax x.1 d) (ax y.1 e) 0 (min many (x.1.length + y.1.length)) with
        | some o =>
          rw [q] at st fu
          refine .inl ⟨o, st.2, ?_⟩
          unfold whL wcond b_first_parting_L1
          unfold rD at *
          unfold tI at fu
          simp (disch := omega) only [fnM, envOf, sSeq, sAsg, sRet, sIf, sNil, sOw, sApp, sExt, sAsg2, sAug, sDrop, sPar, sParO, sNever, mDf, mRng2, mRng3, seqOf, sRaise, asgN, asgs, asgT, mOp, mFn, mCons, mNil, mC, mVar, mB, mCh, mAndV, mOrV, mNotV, mTyIs, tyOf, mTup, mLst, mFz, mUn, pys, Re.bind, mCall, mNot, mAnd, mIf, mLc, mSeq, mRng1, mEn, mYes, noE, sFor, mIxO, mSl, mPart, fSl, List.map_cons, List.map_nil, Option.map_some, Option.map_none, List.length_cons, List.length_nil, List.length_map, List.replicate, List.cons_append, List.nil_append, List.append_nil, List.getElem?_cons_zero, List.getElem?_cons_succ, List.set_cons_zero, List.set_cons_succ, List.foldl_cons, List.foldl_nil, List.set, List.map_map, fI, fMul, fAdd, fMod, fDiv, fInt, fLen, fSum, fAll, fTup, fDivmod, fMax2, fMin2, fNeg, fBack, fIsB, fNotB, fIx, fCnt, mCnt, Re.cut, fIsN, fNotN, isN, Nat.reduceSub, Nat.reduceAdd, if_true, Bool.false_eq_true, if_false, reduceIte, decide_true, decide_false, Bool.not_true, Bool.not_false, Bool.and_true, Bool.true_and, reduceCtorEq, ifC_pos, eq_FI, c1, c2, a1, a2, bD, tI, mm, fu]
          rfl
        | none =>
          rw [q] at st fu
          simp only at st
          obtain ⟨N1, R1⟩ := at_next Aa ex ha.2 m1
          obtain ⟨N2, R2⟩ := at_next Ab ey hb.2 m2
          obtain ⟨i', hi'⟩ : ∃ i', i' = if ((d + many : Nat) : Int) = szB x then i + 1 else i := ⟨_, rfl⟩
          obtain ⟨d', hd'⟩ : ∃ d', d' = if ((d + many : Nat) : Int) = szB x then 0 else d + many := ⟨_, rfl⟩
          obtain ⟨j', hj'⟩ : ∃ j', j' = if ((e + many : Nat) : Int) = szB y then j + 1 else j := ⟨_, rfl⟩
          obtain ⟨e', he'⟩ : ∃ e', e' = if ((e + many : Nat) : Int) = szB y then 0 else e + many := ⟨_, rfl⟩
          rw [← hi', ← hd'] at N1 R1
          rw [← hj', ← he'] at N2 R2
          rw [← R1, ← R2] at st
          have go : whL wcond b_first_parting_L1 (f + 1) [.im (.py (rD a)), .im (.py (rD b)), .im (.py (.int p)), .im (.py (.int i)), .im (.py (.int j)), .im (.py (.int d)), .im (.py (.int e)), s7, s8, s9, s10, s11, s12, s13, s14] w
              = whL wcond b_first_parting_L1 f [.im (.py (rD a)), .im (.py (rD b)), .im (.py (.int ((p + many : Nat) : Int))), .im (.py (.int i')), .im (.py (.int j')), .im (.py (.int d')), .im (.py (.int e')), .im (.py (.int (szB x))), .im (.py (.int (szB y))), .im (.py (.int many)), .im (.py .none), .im (.py (tI x.1)), .im (.py (.int x.2)), .im (.py (tI y.1)), .im (.py (.int y.2))] w := by
            conv => lhs; unfold whL
            have ec : wcond [.im (.py (rD a)), .im (.py (rD b)), .im (.py (.int p)), .im (.py (.int i)), .im (.py (.int j)), .im (.py (.int d)), .im (.py (.int e)), s7, s8, s9, s10, s11, s12, s13, s14] w = .ok true [.im (.py (rD a)), .im (.py (rD b)), .im (.py (.int p)), .im (.py (.int i)), .im (.py (.int j)), .im (.py (.int d)), .im (.py (.int e)), s7, s8, s9, s10, s11, s12, s13, s14] w := by
              unfold wcond rD
              simp (disch := omega) only [fnM, envOf, sSeq, sAsg, sRet, sIf, sNil, sOw, sApp, sExt, sAsg2, sAug, sDrop, sPar, sParO, sNever, mDf, mRng2, mRng3, seqOf, sRaise, asgN, asgs, asgT, mOp, mFn, mCons, mNil, mC, mVar, mB, mCh, mAndV, mOrV, mNotV, mTyIs, tyOf, mTup, mLst, mFz, mUn, pys, Re.bind, mCall, mNot, mAnd, mIf, mLc, mSeq, mRng1, mEn, mYes, noE, sFor, mIxO, mSl, mPart, fSl, List.map_cons, List.map_nil, Option.map_some, Option.map_none, List.length_cons, List.length_nil, List.length_map, List.replicate, List.cons_append, List.nil_append, List.append_nil, List.getElem?_cons_zero, List.getElem?_cons_succ, List.set_cons_zero, List.set_cons_succ, List.foldl_cons, List.foldl_nil, List.set, List.map_map, fI, fMul, fAdd, fMod, fDiv, fInt, fLen, fSum, fAll, fTup, fDivmod, fMax2, fMin2, fNeg, fBack, fIsB, fNotB, fIx, fCnt, mCnt, Re.cut, fIsN, fNotN, isN, Nat.reduceSub, Nat.reduceAdd, if_true, Bool.false_eq_true, if_false, reduceIte, decide_true, decide_false, Bool.not_true, Bool.not_false, Bool.and_true, Bool.true_and, reduceCtorEq, ifC_pos, eq_FI, c1, c2]
            have eb : b_first_parting_L1 [.im (.py (rD a)), .im (.py (rD b)), .im (.py (.int p)), .im (.py (.int i)), .im (.py (.int j)), .im (.py (.int d)), .im (.py (.int e)), s7, s8, s9, s10, s11, s12, s13, s14] w = .nx [.im (.py (rD a)), .im (.py (rD b)), .im (.py (.int ((p + many : Nat) : Int))), .im (.py (.int i')), .im (.py (.int j')), .im (.py (.int d')), .im (.py (.int e')), .im (.py (.int (szB x))), .im (.py (.int (szB y))), .im (.py (.int many)), .im (.py .none), .im (.py (tI x.1)), .im (.py (.int x.2)), .im (.py (tI y.1)), .im (.py (.int y.2))] w := by
              unfold b_first_parting_L1 rD
              unfold tI at fu
              by_cases k1 : ((d + many : Nat) : Int) = szB x
              · have k1d : decide ((d : Int) + (many : Int) = (x.1.length : Int) * x.2) = true := decide_eq_true (by rw [← z1]; push_cast at k1; exact k1)
                rw [if_pos k1] at hi' hd'
                subst hi' hd'
                by_cases k2 : ((e + many : Nat) : Int) = szB y
                · have k2d : decide ((e : Int) + (many : Int) = (y.1.length : Int) * y.2) = true := decide_eq_true (by rw [← z2]; push_cast at k2; exact k2)
                  rw [if_pos k2] at hj' he'
                  subst hj' he'
                  simp (disch := omega) only [fnM, envOf, sSeq, sAsg, sRet, sIf, sNil, sOw, sApp, sExt, sAsg2, sAug, sDrop, sPar, sParO, sNever, mDf, mRng2, mRng3, seqOf, sRaise, asgN, asgs, asgT, mOp, mFn, mCons, mNil, mC, mVar, mB, mCh, mAndV, mOrV, mNotV, mTyIs, tyOf, mTup, mLst, mFz, mUn, pys, Re.bind, mCall, mNot, mAnd, mIf, mLc, mSeq, mRng1, mEn, mYes, noE, sFor, mIxO, mSl, mPart, fSl, List.map_cons, List.map_nil, Option.map_some, Option.map_none, List.length_cons, List.length_nil, List.length_map, List.replicate, List.cons_append, List.nil_append, List.append_nil, List.getElem?_cons_zero, List.getElem?_cons_succ, List.set_cons_zero, List.set_cons_succ, List.foldl_cons, List.foldl_nil, List.set, List.map_map, fI, fMul, fAdd, fMod, fDiv, fInt, fLen, fSum, fAll, fTup, fDivmod, fMax2, fMin2, fNeg, fBack, fIsB, fNotB, fIx, fCnt, mCnt, Re.cut, fIsN, fNotN, isN, Nat.reduceSub, Nat.reduceAdd, if_true, Bool.false_eq_true, if_false, reduceIte, decide_true, decide_false, Bool.not_true, Bool.not_false, Bool.and_true, Bool.true_and, reduceCtorEq, ifC_pos, eq_FI, a1, a2, bD, tI, mm, fu, k1d, k2d]
                  rfl
                · have k2d : decide ((e : Int) + (many : Int) = (y.1.length : Int) * y.2) = false := decide_eq_false (by rw [← z2]; push_cast at k2; exact k2)
                  rw [if_neg k2] at hj' he'
                  subst hj' he'
                  simp (disch := omega) only [fnM, envOf, sSeq, sAsg, sRet, sIf, sNil, sOw, sApp, sExt, sAsg2, sAug, sDrop, sPar, sParO, sNever, mDf, mRng2, mRng3, seqOf, sRaise, asgN, asgs, asgT, mOp, mFn, mCons, mNil, mC, mVar, mB, mCh, mAndV, mOrV, mNotV, mTyIs, tyOf, mTup, mLst, mFz, mUn, pys, Re.bind, mCall, mNot, mAnd, mIf, mLc, mSeq, mRng1, mEn, mYes, noE, sFor, mIxO, mSl, mPart, fSl, List.map_cons, List.map_nil, Option.map_some, Option.map_none, List.length_cons, List.length_nil, List.length_map, List.replicate, List.cons_append, List.nil_append, List.append_nil, List.getElem?_cons_zero, List.getElem?_cons_succ, List.set_cons_zero, List.set_cons_succ, List.foldl_cons, List.foldl_nil, List.set, List.map_map, fI, fMul, fAdd, fMod, fDiv, fInt, fLen, fSum, fAll, fTup, fDivmod, fMax2, fMin2, fNeg, fBack, fIsB, fNotB, fIx, fCnt, mCnt, Re.cut, fIsN, fNotN, isN, Nat.reduceSub, Nat.reduceAdd, if_true, Bool.false_eq_true, if_false, reduceIte, decide_true, decide_false, Bool.not_true, Bool.not_false, Bool.and_true, Bool.true_and, reduceCtorEq, ifC_pos, eq_FI, a1, a2, bD, tI, mm, fu, k1d, k2d]
                  rfl
              · have k1d : decide ((d : Int) + (many : Int) = (x.1.length : Int) * x.2) = false := decide_eq_false (by rw [← z1]; push_cast at k1; exact k1)
                rw [if_neg k1] at hi' hd'
                subst hi' hd'
                have k2 := m3.resolve_left k1
                have k2d : decide ((e : Int) + (many : Int) = (y.1.length : Int) * y.2) = true := decide_eq_true (by rw [← z2]; push_cast at k2; exact k2)
                rw [if_pos k2] at hj' he'
                subst hj' he'
                simp (disch := omega) only [fnM, envOf, sSeq, sAsg, sRet, sIf, sNil, sOw, sApp, sExt, sAsg2, sAug, sDrop, sPar, sParO, sNever, mDf, mRng2, mRng3, seqOf, sRaise, asgN, asgs, asgT, mOp, mFn, mCons, mNil, mC, mVar, mB, mCh, mAndV, mOrV, mNotV, mTyIs, tyOf, mTup, mLst, mFz, mUn, pys, Re.bind, mCall, mNot, mAnd, mIf, mLc, mSeq, mRng1, mEn, mYes, noE, sFor, mIxO, mSl, mPart, fSl, List.map_cons, List.map_nil, Option.map_some, Option.map_none, List.length_cons, List.length_nil, List.length_map, List.replicate, List.cons_append, List.nil_append, List.append_nil, List.getElem?_cons_zero, List.getElem?_cons_succ, List.set_cons_zero, List.set_cons_succ, List.foldl_cons, List.foldl_nil, List.set, List.map_map, fI, fMul, fAdd, fMod, fDiv, fInt, fLen, fSum, fAll, fTup, fDivmod, fMax2, fMin2, fNeg, fBack, fIsB, fNotB, fIx, fCnt, mCnt, Re.cut, fIsN, fNotN, isN, Nat.reduceSub, Nat.reduceAdd, if_true, Bool.false_eq_true, if_false, reduceIte, decide_true, decide_false, Bool.not_true, Bool.not_false, Bool.and_true, Bool.true_and, reduceCtorEq, ifC_pos, eq_FI, a1, a2, bD, tI, mm, fu, k1d, k2d]
                rfl
            simp only [ec, eb]
          have less : (a.length - i') + (b.length - j') ≤ n := by
            rcases m3 with k1 | k2
            · rw [if_pos k1] at hi'
              have : j ≤ j' := by rw [hj']; split <;> omega
              omega
            · rw [if_pos k2] at hj'
              have : i ≤ i' := by rw [hi']; split <;> omega
              omega
          rw [go, st]
          rcases ih f i' j' d' e' (p + many) (.im (.py (.int (szB x)))) (.im (.py (.int (szB y)))) (.im (.py (.int many))) (.im (.py .none)) (.im (.py (tI x.1))) (.im (.py (.int x.2))) (.im (.py (tI y.1))) (.im (.py (.int y.2))) less (by omega) N1 N2 with ⟨k, h1, h2⟩ | ⟨p', i2, j2, t5, t6, t7, t8, t9, t10, t11, t12, t13, t14, h1, h2⟩
          · refine .inl ⟨k + many, by rw [h1]; rfl, ?_⟩
            rw [h2, show p + (k + many) = p + many + k by omega]
          · refine .inr ⟨p', i2, j2, t5, t6, t7, t8, t9, t10, t11, t12, t13, t14, h1, ?_⟩
            rcases h2 with ⟨g1, g2, g3⟩ | ⟨g1, k, g2, g3⟩
            · exact .inl ⟨g1, g2, by rw [g3]; rfl⟩
            · exact .inr ⟨g1, k + many, by omega, by rw [g3]; rfl⟩
      · have c1 : decide ((i : Int) < (a.length : Int)) = true := decide_eq_true (by omega)
        have c2 : decide ((j : Int) < (b.length : Int)) = false := decide_eq_false (by omega)
        have jb' : j = b.length := by have := Ab.1; omega
        have e0 := Ab.2.1 jb'
        refine .inr ⟨p, i, j, .im (.py (.int d)), .im (.py (.int e)), s7, s8, s9, s10, s11, s12, s13, s14, ?_, .inr ⟨by omega, 0, rfl, ?_⟩⟩
        · unfold whL wcond rD
          simp (disch := omega) only [fnM, envOf, sSeq, sAsg, sRet, sIf, sNil, sOw, sApp, sExt, sAsg2, sAug, sDrop, sPar, sParO, sNever, mDf, mRng2, mRng3, seqOf, sRaise, asgN, asgs, asgT, mOp, mFn, mCons, mNil, mC, mVar, mB, mCh, mAndV, mOrV, mNotV, mTyIs, tyOf, mTup, mLst, mFz, mUn, pys, Re.bind, mCall, mNot, mAnd, mIf, mLc, mSeq, mRng1, mEn, mYes, noE, sFor, mIxO, mSl, mPart, fSl, List.map_cons, List.map_nil, Option.map_some, Option.map_none, List.length_cons, List.length_nil, List.length_map, List.replicate, List.cons_append, List.nil_append, List.append_nil, List.getElem?_cons_zero, List.getElem?_cons_succ, List.set_cons_zero, List.set_cons_succ, List.foldl_cons, List.foldl_nil, List.set, List.map_map, fI, fMul, fAdd, fMod, fDiv, fInt, fLen, fSum, fAll, fTup, fDivmod, fMax2, fMin2, fNeg, fBack, fIsB, fNotB, fIx, fCnt, mCnt, Re.cut, fIsN, fNotN, isN, Nat.reduceSub, Nat.reduceAdd, if_true, Bool.false_eq_true, if_false, reduceIte, decide_true, decide_false, Bool.not_true, Bool.not_false, Bool.and_true, Bool.true_and, reduceCtorEq, ifC_pos, eq_FI, c1, c2]
        · obtain ⟨x, ex⟩ : ∃ x, a[i]? = some x := ⟨_, List.getElem?_eq_getElem ia⟩
          rw [jb', List.drop_length, fl_nil, List.drop_nil, drop_at ex]
          exact fpt_nil_r (fl_ne (ha.2 x (List.mem_of_getElem? ex)) d (Aa.2.2 x ex))
    · have c1 : decide ((i : Int) < (a.length : Int)) = false := decide_eq_false (by omega)
      have ia' : i = a.length := by have := Aa.1; omega
      have d0 := Aa.2.1 ia'
      by_cases jb : j < b.length
      · refine .inr ⟨p, i, j, .im (.py (.int d)), .im (.py (.int e)), s7, s8, s9, s10, s11, s12, s13, s14, ?_, .inr ⟨by omega, 0, rfl, ?_⟩⟩
        · unfold whL wcond rD
          simp (disch := omega) only [fnM, envOf, sSeq, sAsg, sRet, sIf, sNil, sOw, sApp, sExt, sAsg2, sAug, sDrop, sPar, sParO, sNever, mDf, mRng2, mRng3, seqOf, sRaise, asgN, asgs, asgT, mOp, mFn, mCons, mNil, mC, mVar, mB, mCh, mAndV, mOrV, mNotV, mTyIs, tyOf, mTup, mLst, mFz, mUn, pys, Re.bind, mCall, mNot, mAnd, mIf, mLc, mSeq, mRng1, mEn, mYes, noE, sFor, mIxO, mSl, mPart, fSl, List.map_cons, List.map_nil, Option.map_some, Option.map_none, List.length_cons, List.length_nil, List.length_map, List.replicate, List.cons_append, List.nil_append, List.append_nil, List.getElem?_cons_zero, List.getElem?_cons_succ, List.set_cons_zero, List.set_cons_succ, List.foldl_cons, List.foldl_nil, List.set, List.map_map, fI, fMul, fAdd, fMod, fDiv, fInt, fLen, fSum, fAll, fTup, fDivmod, fMax2, fMin2, fNeg, fBack, fIsB, fNotB, fIx, fCnt, mCnt, Re.cut, fIsN, fNotN, isN, Nat.reduceSub, Nat.reduceAdd, if_true, Bool.false_eq_true, if_false, reduceIte, decide_true, decide_false, Bool.not_true, Bool.not_false, Bool.and_true, Bool.true_and, reduceCtorEq, ifC_pos, eq_FI, c1]
        · obtain ⟨y, ey⟩ : ∃ y, b[j]? = some y := ⟨_, List.getElem?_eq_getElem jb⟩
          rw [ia', List.drop_length, fl_nil, List.drop_nil, drop_at ey]
          exact fpt_nil_l (fl_ne (hb.2 y (List.mem_of_getElem? ey)) e (Ab.2.2 y ey))
      · have jb' : j = b.length := by have := Ab.1; omega
        have e0 := Ab.2.1 jb'
        refine .inr ⟨p, i, j, .im (.py (.int d)), .im (.py (.int e)), s7, s8, s9, s10, s11, s12, s13, s14, ?_, .inl ⟨ia', jb', ?_⟩⟩
        · unfold whL wcond rD
          simp (disch := omega) only [fnM, envOf, sSeq, sAsg, sRet, sIf, sNil, sOw, sApp, sExt, sAsg2, sAug, sDrop, sPar, sParO, sNever, mDf, mRng2, mRng3, seqOf, sRaise, asgN, asgs, asgT, mOp, mFn, mCons, mNil, mC, mVar, mB, mCh, mAndV, mOrV, mNotV, mTyIs, tyOf, mTup, mLst, mFz, mUn, pys, Re.bind, mCall, mNot, mAnd, mIf, mLc, mSeq, mRng1, mEn, mYes, noE, sFor, mIxO, mSl, mPart, fSl, List.map_cons, List.map_nil, Option.map_some, Option.map_none, List.length_cons, List.length_nil, List.length_map, List.replicate, List.cons_append, List.nil_append, List.append_nil, List.getElem?_cons_zero, List.getElem?_cons_succ, List.set_cons_zero, List.set_cons_succ, List.foldl_cons, List.foldl_nil, List.set, List.map_map, fI, fMul, fAdd, fMod, fDiv, fInt, fLen, fSum, fAll, fTup, fDivmod, fMax2, fMin2, fNeg, fBack, fIsB, fNotB, fIx, fCnt, mCnt, Re.cut, fIsN, fNotN, isN, Nat.reduceSub, Nat.reduceAdd, if_true, Bool.false_eq_true, if_false, reduceIte, decide_true, decide_false, Bool.not_true, Bool.not_false, Bool.and_true, Bool.true_and, reduceCtorEq, ifC_pos, eq_FI, c1]
        · rw [d0, e0, ia', jb', List.drop_length, List.drop_length]
          rfl
theorem F_first_parting {a b : List Bk} (ha : Rd1 a) (hb : Rd1 b) (w : Wd) : f_first_parting [.py (rD a), .py (rD b)] w = .rt (.py (match fpt (fl a) (fl b) with | none => .none | some k => .int (k : Int))) w := by
  have st : ∀ {c : List Bk}, Rd1 c → At c 0 0 := fun {c} hc => ⟨Nat.zero_le _, fun _ => rfl, fun x hx => szB_pos1 (hc.2 x (List.mem_of_getElem? hx))⟩
  have l1 := ha.1
  have l2 := hb.1
  unfold f_first_parting b_first_parting
  rcases part_while ha hb w (a.length + b.length) 1000000 0 0 0 0 0 .no .no .no .no .no .no .no .no (by omega) (by omega) (st ha) (st hb) with ⟨k, h1, h2⟩ | ⟨p', i', j', t5, t6, t7, t8, t9, t10, t11, t12, t13, t14, h1, h2⟩
  · simp only [List.drop_zero, Nat.zero_add] at h1 h2
    rw [h1]
    have z0 : ((0 : Nat) : Int) = 0 := rfl
    rw [z0] at h2
    unfold wcond at h2
    unfold rD at h2 ⊢
    simp (disch := omega) only [fnM, envOf, sSeq, sAsg, sRet, sIf, sNil, sOw, sApp, sExt, sAsg2, sAug, sDrop, sPar, sParO, sNever, mDf, mRng2, mRng3, seqOf, sRaise, asgN, asgs, asgT, mOp, mFn, mCons, mNil, mC, mVar, mB, mCh, mAndV, mOrV, mNotV, mTyIs, tyOf, mTup, mLst, mFz, mUn, pys, Re.bind, mCall, mNot, mAnd, mIf, mLc, mSeq, mRng1, mEn, mYes, noE, sFor, mIxO, mSl, mPart, fSl, List.map_cons, List.map_nil, Option.map_some, Option.map_none, List.length_cons, List.length_nil, List.length_map, List.replicate, List.cons_append, List.nil_append, List.append_nil, List.getElem?_cons_zero, List.getElem?_cons_succ, List.set_cons_zero, List.set_cons_succ, List.foldl_cons, List.foldl_nil, List.set, List.map_map, fI, fMul, fAdd, fMod, fDiv, fInt, fLen, fSum, fAll, fTup, fDivmod, fMax2, fMin2, fNeg, fBack, fIsB, fNotB, fIx, fCnt, mCnt, Re.cut, fIsN, fNotN, isN, Nat.reduceSub, Nat.reduceAdd, if_true, Bool.false_eq_true, if_false, reduceIte, decide_true, decide_false, Bool.not_true, Bool.not_false, Bool.and_true, Bool.true_and, reduceCtorEq, ifC_pos, eq_FI, h2]
  · simp only [List.drop_zero, Nat.zero_add] at h1 h2
    have z0 : ((0 : Nat) : Int) = 0 := rfl
    rw [z0] at h1
    unfold wcond at h1
    unfold rD at h1 ⊢
    rcases h2 with ⟨g1, g2, g3⟩ | ⟨g1, k, g2, g3⟩
    · rw [g3]
      have c1 : decide ((i' : Int) = (a.length : Int)) = true := decide_eq_true (by omega)
      have c2 : decide ((j' : Int) = (b.length : Int)) = true := decide_eq_true (by omega)
      simp (disch := omega) only [fnM, envOf, sSeq, sAsg, sRet, sIf, sNil, sOw, sApp, sExt, sAsg2, sAug, sDrop, sPar, sParO, sNever, mDf, mRng2, mRng3, seqOf, sRaise, asgN, asgs, asgT, mOp, mFn, mCons, mNil, mC, mVar, mB, mCh, mAndV, mOrV, mNotV, mTyIs, tyOf, mTup, mLst, mFz, mUn, pys, Re.bind, mCall, mNot, mAnd, mIf, mLc, mSeq, mRng1, mEn, mYes, noE, sFor, mIxO, mSl, mPart, fSl, List.map_cons, List.map_nil, Option.map_some, Option.map_none, List.length_cons, List.length_nil, List.length_map, List.replicate, List.cons_append, List.nil_append, List.append_nil, List.getElem?_cons_zero, List.getElem?_cons_succ, List.set_cons_zero, List.set_cons_succ, List.foldl_cons, List.foldl_nil, List.set, List.map_map, fI, fMul, fAdd, fMod, fDiv, fInt, fLen, fSum, fAll, fTup, fDivmod, fMax2, fMin2, fNeg, fBack, fIsB, fNotB, fIx, fCnt, mCnt, Re.cut, fIsN, fNotN, isN, Nat.reduceSub, Nat.reduceAdd, if_true, Bool.false_eq_true, if_false, reduceIte, decide_true, decide_false, Bool.not_true, Bool.not_false, Bool.and_true, Bool.true_and, reduceCtorEq, ifC_pos, eq_FI, h1, c1, c2]
    · rw [g3, ← g2]
      by_cases q1 : i' = a.length
      · have c1 : decide ((i' : Int) = (a.length : Int)) = true := decide_eq_true (by omega)
        have c2 : decide ((j' : Int) = (b.length : Int)) = false := decide_eq_false (by omega)
        simp (disch := omega) only [fnM, envOf, sSeq, sAsg, sRet, sIf, sNil, sOw, sApp, sExt, sAsg2, sAug, sDrop, sPar, sParO, sNever, mDf, mRng2, mRng3, seqOf, sRaise, asgN, asgs, asgT, mOp, mFn, mCons, mNil, mC, mVar, mB, mCh, mAndV, mOrV, mNotV, mTyIs, tyOf, mTup, mLst, mFz, mUn, pys, Re.bind, mCall, mNot, mAnd, mIf, mLc, mSeq, mRng1, mEn, mYes, noE, sFor, mIxO, mSl, mPart, fSl, List.map_cons, List.map_nil, Option.map_some, Option.map_none, List.length_cons, List.length_nil, List.length_map, List.replicate, List.cons_append, List.nil_append, List.append_nil, List.getElem?_cons_zero, List.getElem?_cons_succ, List.set_cons_zero, List.set_cons_succ, List.foldl_cons, List.foldl_nil, List.set, List.map_map, fI, fMul, fAdd, fMod, fDiv, fInt, fLen, fSum, fAll, fTup, fDivmod, fMax2, fMin2, fNeg, fBack, fIsB, fNotB, fIx, fCnt, mCnt, Re.cut, fIsN, fNotN, isN, Nat.reduceSub, Nat.reduceAdd, if_true, Bool.false_eq_true, if_false, reduceIte, decide_true, decide_false, Bool.not_true, Bool.not_false, Bool.and_true, Bool.true_and, reduceCtorEq, ifC_pos, eq_FI, h1, c1, c2]
      · have c1 : decide ((i' : Int) = (a.length : Int)) = false := decide_eq_false (by omega)
        simp (disch := omega) only [fnM, envOf, sSeq, sAsg, sRet, sIf, sNil, sOw, sApp, sExt, sAsg2, sAug, sDrop, sPar, sParO, sNever, mDf, mRng2, mRng3, seqOf, sRaise, asgN, asgs, asgT, mOp, mFn, mCons, mNil, mC, mVar, mB, mCh, mAndV, mOrV, mNotV, mTyIs, tyOf, mTup, mLst, mFz, mUn, pys, Re.bind, mCall, mNot, mAnd, mIf, mLc, mSeq, mRng1, mEn, mYes, noE, sFor, mIxO, mSl, mPart, fSl, List.map_cons, List.map_nil, Option.map_some, Option.map_none, List.length_cons, List.length_nil, List.length_map, List.replicate, List.cons_append, List.nil_append, List.append_nil, List.getElem?_cons_zero, List.getElem?_cons_succ, List.set_cons_zero, List.set_cons_succ, List.foldl_cons, List.foldl_nil, List.set, List.map_map, fI, fMul, fAdd, fMod, fDiv, fInt, fLen, fSum, fAll, fTup, fDivmod, fMax2, fMin2, fNeg, fBack, fIsB, fNotB, fIx, fCnt, mCnt, Re.cut, fIsN, fNotN, isN, Nat.reduceSub, Nat.reduceAdd, if_true, Bool.false_eq_true, if_false, reduceIte, decide_true, decide_false, Bool.not_true, Bool.not_false, Bool.and_true, Bool.true_and, reduceCtorEq, ifC_pos, eq_FI, h1, c1]
/-! ### parts, written as the law writes them -/
theorem bp_t (ms : List Int) (t low high : Int) (l1 : 1 ≤ ms.length) (t1 : 1 ≤ t) (h0 : 0 ≤ low) (h2 : high ≤ ms.length * t) : ∀ c ∈ bp ms low high, c.2 ≤ t := by
  intro c hc
  have q1 : high / (ms.length : Int) ≤ t := Int.ediv_le_of_le_mul (by omega) (by rw [Int.mul_comm]; exact h2)
  have q0 : 0 ≤ low / (ms.length : Int) := Int.ediv_nonneg h0 (by omega)
  unfold bp at hc
  by_cases g : low / (ms.length : Int) = (high - 1) / (ms.length : Int)
  · rw [if_pos g] at hc
    cases List.mem_singleton.mp hc
    exact t1
  · rw [if_neg g] at hc
    rcases List.mem_append.mp hc with z | z
    · split at z
      · cases List.mem_singleton.mp z
        exact t1
      · cases z
    · rcases List.mem_append.mp z with z | z
      · by_cases q : (if 0 < low % (ms.length : Int) then low / (ms.length : Int) + 1 else low / (ms.length : Int)) < high / (ms.length : Int)
        · rw [if_pos q] at z
          cases List.mem_singleton.mp z
          show high / (ms.length : Int) - _ ≤ t
          split <;> omega
        · rw [if_neg q] at z
          cases z
      · split at z
        · cases List.mem_singleton.mp z
          exact t1
        · cases z
theorem pof_t {r : List Bk} (h : ∀ b ∈ r, BOk b) (s e : Int) : ∀ c ∈ pof r s e, c.2 ≤ 1000000000000000000000000000000 := by
  induction r generalizing s e with
  | nil => intro c hc; cases hc
  | cons b r ih =>
    have ok := h b (List.mem_cons_self ..)
    intro c hc
    rw [pof_cons] at hc
    rcases List.mem_append.mp hc with z | z
    · by_cases q : (if (0 : Int) > s then (0 : Int) else s) < (if szB b < e then szB b else e)
      · rw [if_pos q] at z
        have := bp_t b.1 b.2 (if (0 : Int) > s then (0 : Int) else s) (if szB b < e then szB b else e) ok.l1 ok.t1 (by split <;> omega) (by show _ ≤ szB b; split <;> omega) c z
        have := ok.t2
        omega
      · rw [if_neg q] at z
        cases z
    · exact ih (fun c hc => h c (List.mem_cons_of_mem _ hc)) _ _ c z
theorem pof_B {r : List Bk} (h : ∀ b ∈ r, BOk b) (s e : Int) : ∀ c ∈ pof r s e, BOk c := fun c hc => by
  obtain ⟨h1, h2, h3, h4⟩ := (pof_ok h s e).2 c hc
  exact ⟨h1, h2, h4, h3, pof_t h s e c hc⟩
theorem ceil_eq (n low : Int) (hn : 0 < n) (h0 : 0 ≤ low) : (low + n - 1) / n = if 0 < low % n then low / n + 1 else low / n := by
  have a1 := Int.mul_ediv_add_emod low n
  have a2 := Int.emod_nonneg low (show n ≠ 0 by omega)
  have a3 := Int.emod_lt_of_pos low hn
  by_cases c : 0 < low % n
  · rw [if_pos c]
    refine ((Int.ediv_emod_unique (r := low % n - 1) hn).mpr ⟨?_, by omega, by omega⟩).1
    rw [Int.mul_add]
    omega
  · rw [if_neg c]
    refine ((Int.ediv_emod_unique (r := n - 1) hn).mpr ⟨?_, by omega, by omega⟩).1
    omega
theorem at_one (x y : PyData) : atI [x, y] 1 = some y := rfl
theorem piece_loop {r : List Bk} (R : PyData) (s e : Int) (w : Wd) (h : ∀ b ∈ r, BOk b) : ∀ (bs : List Bk) (a : Int) (s5 s6 s7 s8 s9 s10 s11 s12 s13 : Slot), bs.length + 3 * r.length ≤ 90000 → ∃ (a' : Int) (t5 t6 t7 t8 t9 t10 t11 t12 t13 : Slot),
    forL (asgT [5, 6]) b__law_piece_L1 (r.map (D.py ∘ bD)) [.im (.py R), .im (.py (.int s)), .im (.py (.int e)), .ow (bs.map bD), .im (.py (.int a)), s5, s6, s7, s8, s9, s10, s11, s12, s13] w
      = .nx [.im (.py R), .im (.py (.int s)), .im (.py (.int e)), .ow ((bs ++ pof r (s - a) (e - a)).map bD), .im (.py (.int a')), t5, t6, t7, t8, t9, t10, t11, t12, t13] w := by
  induction r with
  | nil =>
    intro bs a s5 s6 s7 s8 s9 s10 s11 s12 s13 _
    refine ⟨a, s5, s6, s7, s8, s9, s10, s11, s12, s13, ?_⟩
    unfold pof
    rw [List.append_nil]
    rfl
  | cons b r ih =>
    intro bs a s5 s6 s7 s8 s9 s10 s11 s12 s13 bl
    rw [List.length_cons] at bl
    have ok := h b (List.mem_cons_self ..)
    have l1 := ok.l1
    have l2 := ok.l2
    have hr := fun c hc => h c (List.mem_cons_of_mem (a := c) b hc)
    obtain ⟨lo, e1⟩ : ∃ x, (if (0 : Int) > s - a then (0 : Int) else s - a) = x := ⟨_, rfl⟩
    obtain ⟨hi, e2⟩ : ∃ x, (if szB b < e - a then szB b else e - a) = x := ⟨_, rfl⟩
    have z0 : szB b = (b.1.length : Int) * b.2 := rfl
    have e1' : (if a > s then a else s) - a = lo := by rw [← e1]; split <;> split <;> omega
    have e2' : (if a + (b.1.length : Int) * b.2 < e then a + (b.1.length : Int) * b.2 else e) - a = hi := by rw [← e2, z0]; split <;> split <;> omega
    have lo0 : 0 ≤ lo := by rw [← e1]; split <;> omega
    have m0 := Int.emod_nonneg lo (show (b.1.length : Int) ≠ 0 by omega)
    have m1 := Int.emod_nonneg hi (show (b.1.length : Int) ≠ 0 by omega)
    have z1 : s - a - szB b = s - (a + szB b) := by omega
    have z2 : e - a - szB b = e - (a + szB b) := by omega
    have ce := ceil_eq (b.1.length : Int) lo (by omega) lo0
    obtain ⟨bs2, t12, t13, hb2, hl2, eb⟩ : ∃ (bs2 : List Bk) (t12 t13 : Slot), bs2 = (if lo < hi then bp b.1 lo hi else []) ∧ bs2.length ≤ 3 ∧ b__law_piece_L1 [.im (.py R), .im (.py (.int s)), .im (.py (.int e)), .ow (bs.map bD), .im (.py (.int a)), .im (.py (tI b.1)), .im (.py (.int b.2)), s7, s8, s9, s10, s11, s12, s13] w
        = .nx [.im (.py R), .im (.py (.int s)), .im (.py (.int e)), .ow ((bs ++ bs2).map bD), .im (.py (.int (a + szB b))), .im (.py (tI b.1)), .im (.py (.int b.2)), .im (.py (.int b.1.length)), .im (.py (.int lo)), .im (.py (.int hi)), .im (.py (.int (lo % b.1.length))), .im (.py (.int (hi % b.1.length))), t12, t13] w := by
      by_cases c : lo < hi
      · have e3 : decide (lo < hi) = true := decide_eq_true c
        have lb := (bp_ok b.1 lo hi l1 l2 lo0 c).1
        by_cases g : lo / (b.1.length : Int) = (hi - 1) / (b.1.length : Int)
        · have g1 : decide (lo / (b.1.length : Int) = (hi - 1) / (b.1.length : Int)) = true := decide_eq_true g
          refine ⟨_, s12, s13, rfl, by rw [if_pos c]; exact lb, ?_⟩
          rw [if_pos c]
          unfold bp
          rw [if_pos g]
          unfold b__law_piece_L1
          simp (disch := omega) only [fnM, envOf, sSeq, sAsg, sRet, sIf, sNil, sOw, sApp, sExt, sAsg2, sAug, sDrop, sPar, sParO, sNever, mDf, mRng2, mRng3, seqOf, sRaise, asgN, asgs, asgT, mOp, mFn, mCons, mNil, mC, mVar, mB, mCh, mAndV, mOrV, mNotV, mTyIs, tyOf, mTup, mLst, mFz, mUn, pys, Re.bind, mCall, mNot, mAnd, mIf, mLc, mSeq, mRng1, mEn, mYes, noE, sFor, mIxO, mSl, mPart, fSl, List.map_cons, List.map_nil, Option.map_some, Option.map_none, List.length_cons, List.length_nil, List.length_map, List.replicate, List.cons_append, List.nil_append, List.append_nil, List.getElem?_cons_zero, List.getElem?_cons_succ, List.set_cons_zero, List.set_cons_succ, List.foldl_cons, List.foldl_nil, List.set, List.map_map, fI, fMul, fAdd, fMod, fDiv, fInt, fLen, fSum, fAll, fTup, fDivmod, fMax2, fMin2, fNeg, fBack, fIsB, fNotB, fIx, fCnt, mCnt, Re.cut, fIsN, fNotN, isN, Nat.reduceSub, Nat.reduceAdd, if_true, Bool.false_eq_true, if_false, reduceIte, decide_true, decide_false, Bool.not_true, Bool.not_false, Bool.and_true, Bool.true_and, reduceCtorEq, ifC_pos, eq_FI, tI, e1', e2', e3, g1, cut_ab, List.map_append, bD]
          rfl
        · have g1 : decide (lo / (b.1.length : Int) = (hi - 1) / (b.1.length : Int)) = false := decide_eq_false g
          refine ⟨_, .im (.py (.list [.tuple [tI (b.1.drop (lo % (b.1.length : Int)).toNat), .int (if 0 < lo % (b.1.length : Int) then 1 else 0)], .tuple [tI b.1, .int (hi / (b.1.length : Int) - (if 0 < lo % (b.1.length : Int) then lo / (b.1.length : Int) + 1 else lo / (b.1.length : Int)))]])), .no, rfl, by rw [if_pos c]; exact lb, ?_⟩
          rw [if_pos c]
          unfold bp
          rw [if_neg g]
          have one : decide ((0 : Int) < 1) = true := rfl
          have zer : decide ((0 : Int) < 0) = false := rfl
          by_cases z : 0 < lo % (b.1.length : Int)
          · have zd : decide (0 < lo % (b.1.length : Int)) = true := decide_eq_true z
            rw [if_pos z] at ce
            simp only [if_pos z]
            by_cases y : lo / (b.1.length : Int) + 1 < hi / (b.1.length : Int)
            · have yd : decide (0 < hi / (b.1.length : Int) - (lo / (b.1.length : Int) + 1)) = true := decide_eq_true (by omega)
              simp only [if_pos y]
              by_cases x : 0 < hi % (b.1.length : Int)
              · have xd : decide (0 < hi % (b.1.length : Int)) = true := decide_eq_true x
                simp only [if_pos x]
                unfold b__law_piece_L1
                simp (disch := omega) only [fnM, envOf, sSeq, sAsg, sRet, sIf, sNil, sOw, sApp, sExt, sAsg2, sAug, sDrop, sPar, sParO, sNever, mDf, mRng2, mRng3, seqOf, sRaise, asgN, asgs, asgT, mOp, mFn, mCons, mNil, mC, mVar, mB, mCh, mAndV, mOrV, mNotV, mTyIs, tyOf, mTup, mLst, mFz, mUn, pys, Re.bind, mCall, mNot, mAnd, mIf, mLc, mSeq, mRng1, mEn, mYes, noE, sFor, mIxO, mSl, mPart, fSl, List.map_cons, List.map_nil, Option.map_some, Option.map_none, List.length_cons, List.length_nil, List.length_map, List.replicate, List.cons_append, List.nil_append, List.append_nil, List.getElem?_cons_zero, List.getElem?_cons_succ, List.set_cons_zero, List.set_cons_succ, List.foldl_cons, List.foldl_nil, List.set, List.map_map, fI, fMul, fAdd, fMod, fDiv, fInt, fLen, fSum, fAll, fTup, fDivmod, fMax2, fMin2, fNeg, fBack, fIsB, fNotB, fIx, fCnt, mCnt, Re.cut, fIsN, fNotN, isN, Nat.reduceSub, Nat.reduceAdd, if_true, Bool.false_eq_true, if_false, reduceIte, decide_true, decide_false, Bool.not_true, Bool.not_false, Bool.and_true, Bool.true_and, reduceCtorEq, ifC_pos, eq_FI, tI, e1', e2', e3, g1, zd, yd, xd, ce, one, zer, cut_a, cut_n, List.map_append, bD, mCatL, fCatL, lcL, at_one]
                rfl
              · have xd : decide (0 < hi % (b.1.length : Int)) = false := decide_eq_false x
                simp only [if_neg x]
                unfold b__law_piece_L1
                simp (disch := omega) only [fnM, envOf, sSeq, sAsg, sRet, sIf, sNil, sOw, sApp, sExt, sAsg2, sAug, sDrop, sPar, sParO, sNever, mDf, mRng2, mRng3, seqOf, sRaise, asgN, asgs, asgT, mOp, mFn, mCons, mNil, mC, mVar, mB, mCh, mAndV, mOrV, mNotV, mTyIs, tyOf, mTup, mLst, mFz, mUn, pys, Re.bind, mCall, mNot, mAnd, mIf, mLc, mSeq, mRng1, mEn, mYes, noE, sFor, mIxO, mSl, mPart, fSl, List.map_cons, List.map_nil, Option.map_some, Option.map_none, List.length_cons, List.length_nil, List.length_map, List.replicate, List.cons_append, List.nil_append, List.append_nil, List.getElem?_cons_zero, List.getElem?_cons_succ, List.set_cons_zero, List.set_cons_succ, List.foldl_cons, List.foldl_nil, List.set, List.map_map, fI, fMul, fAdd, fMod, fDiv, fInt, fLen, fSum, fAll, fTup, fDivmod, fMax2, fMin2, fNeg, fBack, fIsB, fNotB, fIx, fCnt, mCnt, Re.cut, fIsN, fNotN, isN, Nat.reduceSub, Nat.reduceAdd, if_true, Bool.false_eq_true, if_false, reduceIte, decide_true, decide_false, Bool.not_true, Bool.not_false, Bool.and_true, Bool.true_and, reduceCtorEq, ifC_pos, eq_FI, tI, e1', e2', e3, g1, zd, yd, xd, ce, one, zer, cut_a, cut_n, List.map_append, bD, mCatL, fCatL, lcL, at_one]
                rfl
            · have yd : decide (0 < hi / (b.1.length : Int) - (lo / (b.1.length : Int) + 1)) = false := decide_eq_false (by omega)
              simp only [if_neg y]
              by_cases x : 0 < hi % (b.1.length : Int)
              · have xd : decide (0 < hi % (b.1.length : Int)) = true := decide_eq_true x
                simp only [if_pos x]
                unfold b__law_piece_L1
                simp (disch := omega) only [fnM, envOf, sSeq, sAsg, sRet, sIf, sNil, sOw, sApp, sExt, sAsg2, sAug, sDrop, sPar, sParO, sNever, mDf, mRng2, mRng3, seqOf, sRaise, asgN, asgs, asgT, mOp, mFn, mCons, mNil, mC, mVar, mB, mCh, mAndV, mOrV, mNotV, mTyIs, tyOf, mTup, mLst, mFz, mUn, pys, Re.bind, mCall, mNot, mAnd, mIf, mLc, mSeq, mRng1, mEn, mYes, noE, sFor, mIxO, mSl, mPart, fSl, List.map_cons, List.map_nil, Option.map_some, Option.map_none, List.length_cons, List.length_nil, List.length_map, List.replicate, List.cons_append, List.nil_append, List.append_nil, List.getElem?_cons_zero, List.getElem?_cons_succ, List.set_cons_zero, List.set_cons_succ, List.foldl_cons, List.foldl_nil, List.set, List.map_map, fI, fMul, fAdd, fMod, fDiv, fInt, fLen, fSum, fAll, fTup, fDivmod, fMax2, fMin2, fNeg, fBack, fIsB, fNotB, fIx, fCnt, mCnt, Re.cut, fIsN, fNotN, isN, Nat.reduceSub, Nat.reduceAdd, if_true, Bool.false_eq_true, if_false, reduceIte, decide_true, decide_false, Bool.not_true, Bool.not_false, Bool.and_true, Bool.true_and, reduceCtorEq, ifC_pos, eq_FI, tI, e1', e2', e3, g1, zd, yd, xd, ce, one, zer, cut_a, cut_n, List.map_append, bD, mCatL, fCatL, lcL, at_one]
                rfl
              · have xd : decide (0 < hi % (b.1.length : Int)) = false := decide_eq_false x
                simp only [if_neg x]
                unfold b__law_piece_L1
                simp (disch := omega) only [fnM, envOf, sSeq, sAsg, sRet, sIf, sNil, sOw, sApp, sExt, sAsg2, sAug, sDrop, sPar, sParO, sNever, mDf, mRng2, mRng3, seqOf, sRaise, asgN, asgs, asgT, mOp, mFn, mCons, mNil, mC, mVar, mB, mCh, mAndV, mOrV, mNotV, mTyIs, tyOf, mTup, mLst, mFz, mUn, pys, Re.bind, mCall, mNot, mAnd, mIf, mLc, mSeq, mRng1, mEn, mYes, noE, sFor, mIxO, mSl, mPart, fSl, List.map_cons, List.map_nil, Option.map_some, Option.map_none, List.length_cons, List.length_nil, List.length_map, List.replicate, List.cons_append, List.nil_append, List.append_nil, List.getElem?_cons_zero, List.getElem?_cons_succ, List.set_cons_zero, List.set_cons_succ, List.foldl_cons, List.foldl_nil, List.set, List.map_map, fI, fMul, fAdd, fMod, fDiv, fInt, fLen, fSum, fAll, fTup, fDivmod, fMax2, fMin2, fNeg, fBack, fIsB, fNotB, fIx, fCnt, mCnt, Re.cut, fIsN, fNotN, isN, Nat.reduceSub, Nat.reduceAdd, if_true, Bool.false_eq_true, if_false, reduceIte, decide_true, decide_false, Bool.not_true, Bool.not_false, Bool.and_true, Bool.true_and, reduceCtorEq, ifC_pos, eq_FI, tI, e1', e2', e3, g1, zd, yd, xd, ce, one, zer, cut_a, cut_n, List.map_append, bD, mCatL, fCatL, lcL, at_one]
                rfl
          · have zd : decide (0 < lo % (b.1.length : Int)) = false := decide_eq_false z
            rw [if_neg z] at ce
            simp only [if_neg z]
            by_cases y : lo / (b.1.length : Int) < hi / (b.1.length : Int)
            · have yd : decide (0 < hi / (b.1.length : Int) - lo / (b.1.length : Int)) = true := decide_eq_true (by omega)
              simp only [if_pos y]
              by_cases x : 0 < hi % (b.1.length : Int)
              · have xd : decide (0 < hi % (b.1.length : Int)) = true := decide_eq_true x
                simp only [if_pos x]
                unfold b__law_piece_L1
                simp (disch := omega) only [fnM, envOf, sSeq, sAsg, sRet, sIf, sNil, sOw, sApp, sExt, sAsg2, sAug, sDrop, sPar, sParO, sNever, mDf, mRng2, mRng3, seqOf, sRaise, asgN, asgs, asgT, mOp, mFn, mCons, mNil, mC, mVar, mB, mCh, mAndV, mOrV, mNotV, mTyIs, tyOf, mTup, mLst, mFz, mUn, pys, Re.bind, mCall, mNot, mAnd, mIf, mLc, mSeq, mRng1, mEn, mYes, noE, sFor, mIxO, mSl, mPart, fSl, List.map_cons, List.map_nil, Option.map_some, Option.map_none, List.length_cons, List.length_nil, List.length_map, List.replicate, List.cons_append, List.nil_append, List.append_nil, List.getElem?_cons_zero, List.getElem?_cons_succ, List.set_cons_zero, List.set_cons_succ, List.foldl_cons, List.foldl_nil, List.set, List.map_map, fI, fMul, fAdd, fMod, fDiv, fInt, fLen, fSum, fAll, fTup, fDivmod, fMax2, fMin2, fNeg, fBack, fIsB, fNotB, fIx, fCnt, mCnt, Re.cut, fIsN, fNotN, isN, Nat.reduceSub, Nat.reduceAdd, if_true, Bool.false_eq_true, if_false, reduceIte, decide_true, decide_false, Bool.not_true, Bool.not_false, Bool.and_true, Bool.true_and, reduceCtorEq, ifC_pos, eq_FI, tI, e1', e2', e3, g1, zd, yd, xd, ce, one, zer, cut_a, cut_n, List.map_append, bD, mCatL, fCatL, lcL, at_one]
                rfl
              · have xd : decide (0 < hi % (b.1.length : Int)) = false := decide_eq_false x
                simp only [if_neg x]
                unfold b__law_piece_L1
                simp (disch := omega) only [fnM, envOf, sSeq, sAsg, sRet, sIf, sNil, sOw, sApp, sExt, sAsg2, sAug, sDrop, sPar, sParO, sNever, mDf, mRng2, mRng3, seqOf, sRaise, asgN, asgs, asgT, mOp, mFn, mCons, mNil, mC, mVar, mB, mCh, mAndV, mOrV, mNotV, mTyIs, tyOf, mTup, mLst, mFz, mUn, pys, Re.bind, mCall, mNot, mAnd, mIf, mLc, mSeq, mRng1, mEn, mYes, noE, sFor, mIxO, mSl, mPart, fSl, List.map_cons, List.map_nil, Option.map_some, Option.map_none, List.length_cons, List.length_nil, List.length_map, List.replicate, List.cons_append, List.nil_append, List.append_nil, List.getElem?_cons_zero, List.getElem?_cons_succ, List.set_cons_zero, List.set_cons_succ, List.foldl_cons, List.foldl_nil, List.set, List.map_map, fI, fMul, fAdd, fMod, fDiv, fInt, fLen, fSum, fAll, fTup, fDivmod, fMax2, fMin2, fNeg, fBack, fIsB, fNotB, fIx, fCnt, mCnt, Re.cut, fIsN, fNotN, isN, Nat.reduceSub, Nat.reduceAdd, if_true, Bool.false_eq_true, if_false, reduceIte, decide_true, decide_false, Bool.not_true, Bool.not_false, Bool.and_true, Bool.true_and, reduceCtorEq, ifC_pos, eq_FI, tI, e1', e2', e3, g1, zd, yd, xd, ce, one, zer, cut_a, cut_n, List.map_append, bD, mCatL, fCatL, lcL, at_one]
                rfl
            · have yd : decide (0 < hi / (b.1.length : Int) - lo / (b.1.length : Int)) = false := decide_eq_false (by omega)
              simp only [if_neg y]
              by_cases x : 0 < hi % (b.1.length : Int)
              · have xd : decide (0 < hi % (b.1.length : Int)) = true := decide_eq_true x
                simp only [if_pos x]
                unfold b__law_piece_L1
                simp (disch := omega) only [fnM, envOf, sSeq, sAsg, sRet, sIf, sNil, sOw, sApp, sExt, sAsg2, sAug, sDrop, sPar, sParO, sNever, mDf, mRng2, mRng3, seqOf, sRaise, asgN, asgs, asgT, mOp, mFn, mCons, mNil, mC, mVar, mB, mCh, mAndV, mOrV, mNotV, mTyIs, tyOf, mTup, mLst, mFz, mUn, pys, Re.bind, mCall, mNot, mAnd, mIf, mLc, mSeq, mRng1, mEn, mYes, noE, sFor, mIxO, mSl, mPart, fSl, List.map_cons, List.map_nil, Option.map_some, Option.map_none, List.length_cons, List.length_nil, List.length_map, List.replicate, List.cons_append, List.nil_append, List.append_nil, List.getElem?_cons_zero, List.getElem?_cons_succ, List.set_cons_zero, List.set_cons_succ, List.foldl_cons, List.foldl_nil, List.set, List.map_map, fI, fMul, fAdd, fMod, fDiv, fInt, fLen, fSum, fAll, fTup, fDivmod, fMax2, fMin2, fNeg, fBack, fIsB, fNotB, fIx, fCnt, mCnt, Re.cut, fIsN, fNotN, isN, Nat.reduceSub, Nat.reduceAdd, if_true, Bool.false_eq_true, if_false, reduceIte, decide_true, decide_false, Bool.not_true, Bool.not_false, Bool.and_true, Bool.true_and, reduceCtorEq, ifC_pos, eq_FI, tI, e1', e2', e3, g1, zd, yd, xd, ce, one, zer, cut_a, cut_n, List.map_append, bD, mCatL, fCatL, lcL, at_one]
                rfl
              · have xd : decide (0 < hi % (b.1.length : Int)) = false := decide_eq_false x
                simp only [if_neg x]
                unfold b__law_piece_L1
                simp (disch := omega) only [fnM, envOf, sSeq, sAsg, sRet, sIf, sNil, sOw, sApp, sExt, sAsg2, sAug, sDrop, sPar, sParO, sNever, mDf, mRng2, mRng3, seqOf, sRaise, asgN, asgs, asgT, mOp, mFn, mCons, mNil, mC, mVar, mB, mCh, mAndV, mOrV, mNotV, mTyIs, tyOf, mTup, mLst, mFz, mUn, pys, Re.bind, mCall, mNot, mAnd, mIf, mLc, mSeq, mRng1, mEn, mYes, noE, sFor, mIxO, mSl, mPart, fSl, List.map_cons, List.map_nil, Option.map_some, Option.map_none, List.length_cons, List.length_nil, List.length_map, List.replicate, List.cons_append, List.nil_append, List.append_nil, List.getElem?_cons_zero, List.getElem?_cons_succ, List.set_cons_zero, List.set_cons_succ, List.foldl_cons, List.foldl_nil, List.set, List.map_map, fI, fMul, fAdd, fMod, fDiv, fInt, fLen, fSum, fAll, fTup, fDivmod, fMax2, fMin2, fNeg, fBack, fIsB, fNotB, fIx, fCnt, mCnt, Re.cut, fIsN, fNotN, isN, Nat.reduceSub, Nat.reduceAdd, if_true, Bool.false_eq_true, if_false, reduceIte, decide_true, decide_false, Bool.not_true, Bool.not_false, Bool.and_true, Bool.true_and, reduceCtorEq, ifC_pos, eq_FI, tI, e1', e2', e3, g1, zd, yd, xd, ce, one, zer, cut_a, cut_n, List.map_append, bD, mCatL, fCatL, lcL, at_one]
                rfl
      · have e3 : decide (lo < hi) = false := decide_eq_false c
        refine ⟨[], s12, s13, by rw [if_neg c], Nat.zero_le _, ?_⟩
        unfold b__law_piece_L1
        simp (disch := omega) only [fnM, envOf, sSeq, sAsg, sRet, sIf, sNil, sOw, sApp, sExt, sAsg2, sAug, sDrop, sPar, sParO, sNever, mDf, mRng2, mRng3, seqOf, sRaise, asgN, asgs, asgT, mOp, mFn, mCons, mNil, mC, mVar, mB, mCh, mAndV, mOrV, mNotV, mTyIs, tyOf, mTup, mLst, mFz, mUn, pys, Re.bind, mCall, mNot, mAnd, mIf, mLc, mSeq, mRng1, mEn, mYes, noE, sFor, mIxO, mSl, mPart, fSl, List.map_cons, List.map_nil, Option.map_some, Option.map_none, List.length_cons, List.length_nil, List.length_map, List.replicate, List.cons_append, List.nil_append, List.append_nil, List.getElem?_cons_zero, List.getElem?_cons_succ, List.set_cons_zero, List.set_cons_succ, List.foldl_cons, List.foldl_nil, List.set, List.map_map, fI, fMul, fAdd, fMod, fDiv, fInt, fLen, fSum, fAll, fTup, fDivmod, fMax2, fMin2, fNeg, fBack, fIsB, fNotB, fIx, fCnt, mCnt, Re.cut, fIsN, fNotN, isN, Nat.reduceSub, Nat.reduceAdd, if_true, Bool.false_eq_true, if_false, reduceIte, decide_true, decide_false, Bool.not_true, Bool.not_false, Bool.and_true, Bool.true_and, reduceCtorEq, ifC_pos, eq_FI, tI, e1', e2', e3, List.map_append]
        rfl
    obtain ⟨a', t5, t6, t7, t8, t9, t10, t11, t12', t13', e4⟩ := ih hr (bs ++ bs2) (a + szB b) (.im (.py (tI b.1))) (.im (.py (.int b.2))) (.im (.py (.int b.1.length))) (.im (.py (.int lo))) (.im (.py (.int hi))) (.im (.py (.int (lo % b.1.length)))) (.im (.py (.int (hi % b.1.length)))) t12 t13 (by rw [List.length_append]; omega)
    refine ⟨a', t5, t6, t7, t8, t9, t10, t11, t12', t13', ?_⟩
    rw [List.map_cons]
    unfold forL
    have ea : asgT [5, 6] ((D.py ∘ bD) b) [.im (.py R), .im (.py (.int s)), .im (.py (.int e)), .ow (bs.map bD), .im (.py (.int a)), s5, s6, s7, s8, s9, s10, s11, s12, s13] = some [.im (.py R), .im (.py (.int s)), .im (.py (.int e)), .ow (bs.map bD), .im (.py (.int a)), .im (.py (tI b.1)), .im (.py (.int b.2)), s7, s8, s9, s10, s11, s12, s13] := rfl
    rw [ea]
    simp only [eb]
    rw [e4, pof_cons, e1, e2, ← hb2, z1, z2, List.append_assoc]
theorem F__law_piece2 {r : List Bk} (h : ROk r) (s e : Int) (w : Wd) : f__law_piece [.py (rD r), .py (.int s), .py (.int e)] w = .rt (.py (rD (pof r s e))) w := by
  have rl := h.1
  obtain ⟨a', t5, t6, t7, t8, t9, t10, t11, t12, t13, e1⟩ := piece_loop (rD r) s e w h.2 [] 0 .no .no .no .no .no .no .no .no .no (by simp only [List.length_nil]; omega)
  unfold f__law_piece b__law_piece
  simp only [List.map_nil, List.nil_append, Int.sub_zero] at e1
  unfold rD at e1 ⊢
  simp (disch := omega) only [fnM, envOf, sSeq, sAsg, sRet, sIf, sNil, sOw, sApp, sExt, sAsg2, sAug, sDrop, sPar, sParO, sNever, mDf, mRng2, mRng3, seqOf, sRaise, asgN, asgs, asgT, mOp, mFn, mCons, mNil, mC, mVar, mB, mCh, mAndV, mOrV, mNotV, mTyIs, tyOf, mTup, mLst, mFz, mUn, pys, Re.bind, mCall, mNot, mAnd, mIf, mLc, mSeq, mRng1, mEn, mYes, noE, sFor, mIxO, mSl, mPart, fSl, List.map_cons, List.map_nil, Option.map_some, Option.map_none, List.length_cons, List.length_nil, List.length_map, List.replicate, List.cons_append, List.nil_append, List.append_nil, List.getElem?_cons_zero, List.getElem?_cons_succ, List.set_cons_zero, List.set_cons_succ, List.foldl_cons, List.foldl_nil, List.set, List.map_map, fI, fMul, fAdd, fMod, fDiv, fInt, fLen, fSum, fAll, fTup, fDivmod, fMax2, fMin2, fNeg, fBack, fIsB, fNotB, fIx, fCnt, mCnt, Re.cut, fIsN, fNotN, isN, Nat.reduceSub, Nat.reduceAdd, if_true, Bool.false_eq_true, if_false, reduceIte, decide_true, decide_false, Bool.not_true, Bool.not_false, Bool.and_true, Bool.true_and, reduceCtorEq, ifC_pos, eq_FI, e1]
/-! ### parts cut out, rows joined, rows from the end -/
theorem F_few_ok {r : List Bk} (h : r.length ≤ 60) (w : Wd) : f_few_blocks [.py (rD r)] w = .rt (.py (rD r)) w := by
  have cd : decide ((60 : Int) < (r.length : Int)) = false := decide_eq_false (by omega)
  unfold f_few_blocks b_few_blocks rD
  simp (disch := omega) only [fnM, envOf, sSeq, sAsg, sRet, sIf, sNil, sOw, sApp, sExt, sAsg2, sAug, sDrop, sPar, sParO, sNever, mDf, mRng2, mRng3, seqOf, sRaise, asgN, asgs, asgT, mOp, mFn, mCons, mNil, mC, mVar, mB, mCh, mAndV, mOrV, mNotV, mTyIs, tyOf, mTup, mLst, mFz, mUn, pys, Re.bind, mCall, mNot, mAnd, mIf, mLc, mSeq, mRng1, mEn, mYes, noE, sFor, mIxO, mSl, mPart, fSl, List.map_cons, List.map_nil, Option.map_some, Option.map_none, List.length_cons, List.length_nil, List.length_map, List.replicate, List.cons_append, List.nil_append, List.append_nil, List.getElem?_cons_zero, List.getElem?_cons_succ, List.set_cons_zero, List.set_cons_succ, List.foldl_cons, List.foldl_nil, List.set, List.map_map, fI, fMul, fAdd, fMod, fDiv, fInt, fLen, fSum, fAll, fTup, fDivmod, fMax2, fMin2, fNeg, fBack, fIsB, fNotB, fIx, fCnt, mCnt, Re.cut, fIsN, fNotN, isN, Nat.reduceSub, Nat.reduceAdd, if_true, Bool.false_eq_true, if_false, reduceIte, decide_true, decide_false, Bool.not_true, Bool.not_false, Bool.and_true, Bool.true_and, reduceCtorEq, ifC_pos, eq_FI, cd]
theorem F_few_no {r : List Bk} (h : 60 < r.length) (w : Wd) : f_few_blocks [.py (rD r)] w = .ex "TooGreat" ["most"] [.int 60] [] w := by
  have cd : decide ((60 : Int) < (r.length : Int)) = true := decide_eq_true (by omega)
  unfold f_few_blocks b_few_blocks rD
  simp (disch := omega) only [fnM, envOf, sSeq, sAsg, sRet, sIf, sNil, sOw, sApp, sExt, sAsg2, sAug, sDrop, sPar, sParO, sNever, mDf, mRng2, mRng3, seqOf, sRaise, asgN, asgs, asgT, mOp, mFn, mCons, mNil, mC, mVar, mB, mCh, mAndV, mOrV, mNotV, mTyIs, tyOf, mTup, mLst, mFz, mUn, pys, Re.bind, mCall, mNot, mAnd, mIf, mLc, mSeq, mRng1, mEn, mYes, noE, sFor, mIxO, mSl, mPart, fSl, List.map_cons, List.map_nil, Option.map_some, Option.map_none, List.length_cons, List.length_nil, List.length_map, List.replicate, List.cons_append, List.nil_append, List.append_nil, List.getElem?_cons_zero, List.getElem?_cons_succ, List.set_cons_zero, List.set_cons_succ, List.foldl_cons, List.foldl_nil, List.set, List.map_map, fI, fMul, fAdd, fMod, fDiv, fInt, fLen, fSum, fAll, fTup, fDivmod, fMax2, fMin2, fNeg, fBack, fIsB, fNotB, fIx, fCnt, mCnt, Re.cut, fIsN, fNotN, isN, Nat.reduceSub, Nat.reduceAdd, if_true, Bool.false_eq_true, if_false, reduceIte, decide_true, decide_false, Bool.not_true, Bool.not_false, Bool.and_true, Bool.true_and, reduceCtorEq, ifC_pos, eq_FI, cd]
theorem F_cut {r : List Bk} (h : ROk r) (s e : Int) (s0 : 0 ≤ s) (se : s ≤ e) (e1 : e ≤ sz r) (w : Wd) : f_cut_out [.py (rD r), .py (.int s), .py (.int e)] w = if (pof r s e).length ≤ 60 then .rt (.py (rD (pof r s e))) w else .ex "TooGreat" ["most"] [.int 60] [] w := by
  have iw := F_is_whole e s (sz r) w
  rw [decide_eq_true ⟨se, e1⟩] at iw
  have ec := F_entry_count r w h.1 (fun b hb => (h.2 b hb).l2)
  unfold f_cut_out b_cut_out
  by_cases c : (pof r s e).length ≤ 60
  · rw [if_pos c]
    simp (disch := omega) only [fnM, envOf, sSeq, sAsg, sRet, sIf, sNil, sOw, sApp, sExt, sAsg2, sAug, sDrop, sPar, sParO, sNever, mDf, mRng2, mRng3, seqOf, sRaise, asgN, asgs, asgT, mOp, mFn, mCons, mNil, mC, mVar, mB, mCh, mAndV, mOrV, mNotV, mTyIs, tyOf, mTup, mLst, mFz, mUn, pys, Re.bind, mCall, mNot, mAnd, mIf, mLc, mSeq, mRng1, mEn, mYes, noE, sFor, mIxO, mSl, mPart, fSl, List.map_cons, List.map_nil, Option.map_some, Option.map_none, List.length_cons, List.length_nil, List.length_map, List.replicate, List.cons_append, List.nil_append, List.append_nil, List.getElem?_cons_zero, List.getElem?_cons_succ, List.set_cons_zero, List.set_cons_succ, List.foldl_cons, List.foldl_nil, List.set, List.map_map, fI, fMul, fAdd, fMod, fDiv, fInt, fLen, fSum, fAll, fTup, fDivmod, fMax2, fMin2, fNeg, fBack, fIsB, fNotB, fIx, fCnt, mCnt, Re.cut, fIsN, fNotN, isN, Nat.reduceSub, Nat.reduceAdd, if_true, Bool.false_eq_true, if_false, reduceIte, decide_true, decide_false, Bool.not_true, Bool.not_false, Bool.and_true, Bool.true_and, reduceCtorEq, ifC_pos, eq_FI, F_need_row h, F_need_border h s s0 (show s ≤ sz r by omega), ec, iw, F_part_of2 h s e, F_few_ok c]
  · rw [if_neg c]
    simp (disch := omega) only [fnM, envOf, sSeq, sAsg, sRet, sIf, sNil, sOw, sApp, sExt, sAsg2, sAug, sDrop, sPar, sParO, sNever, mDf, mRng2, mRng3, seqOf, sRaise, asgN, asgs, asgT, mOp, mFn, mCons, mNil, mC, mVar, mB, mCh, mAndV, mOrV, mNotV, mTyIs, tyOf, mTup, mLst, mFz, mUn, pys, Re.bind, mCall, mNot, mAnd, mIf, mLc, mSeq, mRng1, mEn, mYes, noE, sFor, mIxO, mSl, mPart, fSl, List.map_cons, List.map_nil, Option.map_some, Option.map_none, List.length_cons, List.length_nil, List.length_map, List.replicate, List.cons_append, List.nil_append, List.append_nil, List.getElem?_cons_zero, List.getElem?_cons_succ, List.set_cons_zero, List.set_cons_succ, List.foldl_cons, List.foldl_nil, List.set, List.map_map, fI, fMul, fAdd, fMod, fDiv, fInt, fLen, fSum, fAll, fTup, fDivmod, fMax2, fMin2, fNeg, fBack, fIsB, fNotB, fIx, fCnt, mCnt, Re.cut, fIsN, fNotN, isN, Nat.reduceSub, Nat.reduceAdd, if_true, Bool.false_eq_true, if_false, reduceIte, decide_true, decide_false, Bool.not_true, Bool.not_false, Bool.and_true, Bool.true_and, reduceCtorEq, ifC_pos, eq_FI, F_need_row h, F_need_border h s s0 (show s ≤ sz r by omega), ec, iw, F_part_of2 h s e, F_few_no (show 60 < (pof r s e).length by omega)]
/-- what is no place -/
def Odd (y : PyData) (lo hi : Int) : Prop := ∀ w, f_is_whole [.py y, .py (.int lo), .py (.int hi)] w = .rt (.py (.bool false)) w
theorem F_cut_odd1 {r : List Bk} (h : ROk r) (y : PyData) (ho : Odd y 0 (sz r)) (z : D) (w : Wd) : f_cut_out [.py (rD r), .py y, z] w = .ex "BadPlace" ["place"] [y] [] w := by
  have ec := F_entry_count r w h.1 (fun b hb => (h.2 b hb).l2)
  have iw := ho w
  have bd : f_need_border [.py (rD r), .py y] w = .ex "BadPlace" ["place"] [y] [] w := by
    unfold f_need_border b_need_border
    simp (disch := omega) only [fnM, envOf, sSeq, sAsg, sRet, sIf, sNil, sOw, sApp, sExt, sAsg2, sAug, sDrop, sPar, sParO, sNever, mDf, mRng2, mRng3, seqOf, sRaise, asgN, asgs, asgT, mOp, mFn, mCons, mNil, mC, mVar, mB, mCh, mAndV, mOrV, mNotV, mTyIs, tyOf, mTup, mLst, mFz, mUn, pys, Re.bind, mCall, mNot, mAnd, mIf, mLc, mSeq, mRng1, mEn, mYes, noE, sFor, mIxO, mSl, mPart, fSl, List.map_cons, List.map_nil, Option.map_some, Option.map_none, List.length_cons, List.length_nil, List.length_map, List.replicate, List.cons_append, List.nil_append, List.append_nil, List.getElem?_cons_zero, List.getElem?_cons_succ, List.set_cons_zero, List.set_cons_succ, List.foldl_cons, List.foldl_nil, List.set, List.map_map, fI, fMul, fAdd, fMod, fDiv, fInt, fLen, fSum, fAll, fTup, fDivmod, fMax2, fMin2, fNeg, fBack, fIsB, fNotB, fIx, fCnt, mCnt, Re.cut, fIsN, fNotN, isN, Nat.reduceSub, Nat.reduceAdd, if_true, Bool.false_eq_true, if_false, reduceIte, decide_true, decide_false, Bool.not_true, Bool.not_false, Bool.and_true, Bool.true_and, reduceCtorEq, ifC_pos, eq_FI, ec, iw]
  unfold f_cut_out b_cut_out
  simp (disch := omega) only [fnM, envOf, sSeq, sAsg, sRet, sIf, sNil, sOw, sApp, sExt, sAsg2, sAug, sDrop, sPar, sParO, sNever, mDf, mRng2, mRng3, seqOf, sRaise, asgN, asgs, asgT, mOp, mFn, mCons, mNil, mC, mVar, mB, mCh, mAndV, mOrV, mNotV, mTyIs, tyOf, mTup, mLst, mFz, mUn, pys, Re.bind, mCall, mNot, mAnd, mIf, mLc, mSeq, mRng1, mEn, mYes, noE, sFor, mIxO, mSl, mPart, fSl, List.map_cons, List.map_nil, Option.map_some, Option.map_none, List.length_cons, List.length_nil, List.length_map, List.replicate, List.cons_append, List.nil_append, List.append_nil, List.getElem?_cons_zero, List.getElem?_cons_succ, List.set_cons_zero, List.set_cons_succ, List.foldl_cons, List.foldl_nil, List.set, List.map_map, fI, fMul, fAdd, fMod, fDiv, fInt, fLen, fSum, fAll, fTup, fDivmod, fMax2, fMin2, fNeg, fBack, fIsB, fNotB, fIx, fCnt, mCnt, Re.cut, fIsN, fNotN, isN, Nat.reduceSub, Nat.reduceAdd, if_true, Bool.false_eq_true, if_false, reduceIte, decide_true, decide_false, Bool.not_true, Bool.not_false, Bool.and_true, Bool.true_and, reduceCtorEq, ifC_pos, eq_FI, F_need_row h, bd]
theorem F_cut_odd2 {r : List Bk} (h : ROk r) (s : Int) (s0 : 0 ≤ s) (s1 : s ≤ sz r) (y : PyData) (ho : Odd y s (sz r)) (w : Wd) : f_cut_out [.py (rD r), .py (.int s), .py y] w = .ex "BadPlace" ["place"] [y] [] w := by
  have ec := F_entry_count r w h.1 (fun b hb => (h.2 b hb).l2)
  have iw := ho w
  unfold f_cut_out b_cut_out
  simp (disch := omega) only [fnM, envOf, sSeq, sAsg, sRet, sIf, sNil, sOw, sApp, sExt, sAsg2, sAug, sDrop, sPar, sParO, sNever, mDf, mRng2, mRng3, seqOf, sRaise, asgN, asgs, asgT, mOp, mFn, mCons, mNil, mC, mVar, mB, mCh, mAndV, mOrV, mNotV, mTyIs, tyOf, mTup, mLst, mFz, mUn, pys, Re.bind, mCall, mNot, mAnd, mIf, mLc, mSeq, mRng1, mEn, mYes, noE, sFor, mIxO, mSl, mPart, fSl, List.map_cons, List.map_nil, Option.map_some, Option.map_none, List.length_cons, List.length_nil, List.length_map, List.replicate, List.cons_append, List.nil_append, List.append_nil, List.getElem?_cons_zero, List.getElem?_cons_succ, List.set_cons_zero, List.set_cons_succ, List.foldl_cons, List.foldl_nil, List.set, List.map_map, fI, fMul, fAdd, fMod, fDiv, fInt, fLen, fSum, fAll, fTup, fDivmod, fMax2, fMin2, fNeg, fBack, fIsB, fNotB, fIx, fCnt, mCnt, Re.cut, fIsN, fNotN, isN, Nat.reduceSub, Nat.reduceAdd, if_true, Bool.false_eq_true, if_false, reduceIte, decide_true, decide_false, Bool.not_true, Bool.not_false, Bool.and_true, Bool.true_and, reduceCtorEq, ifC_pos, eq_FI, F_need_row h, F_need_border h s s0 s1, ec, iw]
theorem F_joined {r s : List Bk} (h1 : ROk r) (h2 : ROk s) (w : Wd) : f_rows_joined [.py (rD r), .py (rD s)] w = if (r ++ s).length ≤ 60 then .rt (.py (rD (r ++ s))) w else .ex "TooGreat" ["most"] [.int 60] [] w := by
  have l1 := h1.1
  have l2 := h2.1
  have g1 := F_need_row h1 w
  have g2 := F_need_row h2 w
  have ea : PyData.tuple (r.map bD ++ s.map bD) = rD (r ++ s) := by unfold rD; rw [List.map_append]
  unfold f_rows_joined b_rows_joined
  unfold rD at g1 g2
  by_cases c : (r ++ s).length ≤ 60
  · rw [if_pos c]
    have f1 := F_few_ok c w
    conv => lhs; unfold rD
    simp (disch := omega) only [fnM, envOf, sSeq, sAsg, sRet, sIf, sNil, sOw, sApp, sExt, sAsg2, sAug, sDrop, sPar, sParO, sNever, mDf, mRng2, mRng3, seqOf, sRaise, asgN, asgs, asgT, mOp, mFn, mCons, mNil, mC, mVar, mB, mCh, mAndV, mOrV, mNotV, mTyIs, tyOf, mTup, mLst, mFz, mUn, pys, Re.bind, mCall, mNot, mAnd, mIf, mLc, mSeq, mRng1, mEn, mYes, noE, sFor, mIxO, mSl, mPart, fSl, List.map_cons, List.map_nil, Option.map_some, Option.map_none, List.length_cons, List.length_nil, List.length_map, List.replicate, List.cons_append, List.nil_append, List.append_nil, List.getElem?_cons_zero, List.getElem?_cons_succ, List.set_cons_zero, List.set_cons_succ, List.foldl_cons, List.foldl_nil, List.set, List.map_map, fI, fMul, fAdd, fMod, fDiv, fInt, fLen, fSum, fAll, fTup, fDivmod, fMax2, fMin2, fNeg, fBack, fIsB, fNotB, fIx, fCnt, mCnt, Re.cut, fIsN, fNotN, isN, Nat.reduceSub, Nat.reduceAdd, if_true, Bool.false_eq_true, if_false, reduceIte, decide_true, decide_false, Bool.not_true, Bool.not_false, Bool.and_true, Bool.true_and, reduceCtorEq, ifC_pos, eq_FI, g1, g2, ea, f1]
  · rw [if_neg c]
    have f1 := F_few_no (r := r ++ s) (by omega) w
    conv => lhs; unfold rD
    simp (disch := omega) only [fnM, envOf, sSeq, sAsg, sRet, sIf, sNil, sOw, sApp, sExt, sAsg2, sAug, sDrop, sPar, sParO, sNever, mDf, mRng2, mRng3, seqOf, sRaise, asgN, asgs, asgT, mOp, mFn, mCons, mNil, mC, mVar, mB, mCh, mAndV, mOrV, mNotV, mTyIs, tyOf, mTup, mLst, mFz, mUn, pys, Re.bind, mCall, mNot, mAnd, mIf, mLc, mSeq, mRng1, mEn, mYes, noE, sFor, mIxO, mSl, mPart, fSl, List.map_cons, List.map_nil, Option.map_some, Option.map_none, List.length_cons, List.length_nil, List.length_map, List.replicate, List.cons_append, List.nil_append, List.append_nil, List.getElem?_cons_zero, List.getElem?_cons_succ, List.set_cons_zero, List.set_cons_succ, List.foldl_cons, List.foldl_nil, List.set, List.map_map, fI, fMul, fAdd, fMod, fDiv, fInt, fLen, fSum, fAll, fTup, fDivmod, fMax2, fMin2, fNeg, fBack, fIsB, fNotB, fIx, fCnt, mCnt, Re.cut, fIsN, fNotN, isN, Nat.reduceSub, Nat.reduceAdd, if_true, Bool.false_eq_true, if_false, reduceIte, decide_true, decide_false, Bool.not_true, Bool.not_false, Bool.and_true, Bool.true_and, reduceCtorEq, ifC_pos, eq_FI, g1, g2, ea, f1]
def rev (r : List Bk) : List Bk := r.reverse.map fun b => (b.1.reverse, b.2)
theorem rp_rev (n : Nat) (xs : List Int) : rp n xs.reverse = (rp n xs).reverse := by
  induction n with
  | zero => rfl
  | succ n ih =>
    have e : rp (n + 1) xs = rp n xs ++ xs := by rw [rp_add n 1, rp_one]
    rw [e, List.reverse_append, rp_succ, ih]
theorem fl_rev (r : List Bk) : fl (rev r) = (fl r).reverse := by
  induction r with
  | nil => rfl
  | cons b r ih =>
    unfold rev at ih ⊢
    rw [List.reverse_cons, List.map_append, fl_app, ih, fl_cons, List.reverse_append, List.map_cons, List.map_nil, fl_one]
    congr 1
    unfold fB
    exact rp_rev _ _
theorem rev_ok {r : List Bk} (h : ROk r) : ROk (rev r) := by
  refine ⟨by unfold rev; rw [List.length_map, List.length_reverse]; exact h.1, fun b hb => ?_⟩
  unfold rev at hb
  obtain ⟨c, hc, rfl⟩ := List.mem_map.mp hb
  have ok := h.2 c (List.mem_reverse.mp hc)
  exact ⟨by rw [List.length_reverse]; exact ok.l1, by rw [List.length_reverse]; exact ok.l2, fun m hm => ok.mks m (List.mem_reverse.mp hm), ok.t1, ok.t2⟩
theorem rev_rev (r : List Bk) : rev (rev r) = r := by
  unfold rev
  rw [← List.map_reverse, List.reverse_reverse, List.map_map]
  conv => rhs; rw [← List.map_id r]
  apply List.map_congr_left
  intro b _
  show ((b.1.reverse).reverse, b.2) = b
  rw [List.reverse_reverse]
theorem rev_sz (r : List Bk) (h : ∀ b ∈ r, 0 ≤ b.2) : sz (rev r) = sz r := by
  rw [← fl_len h, ← fl_len (r := rev r) (fun b hb => ?_), fl_rev, List.length_reverse]
  unfold rev at hb
  obtain ⟨c, hc, rfl⟩ := List.mem_map.mp hb
  exact h c (List.mem_reverse.mp hc)
theorem tI_rev (ms : List Int) : (ms.map PyData.int).reverse = ms.reverse.map PyData.int := List.map_reverse.symm
theorem F_from_end2 {r : List Bk} (h : r.length ≤ 1000) (w : Wd) : f_from_the_end [.py (rD r)] w = .rt (.py (rD (rev r))) w := by
  unfold f_from_the_end b_from_the_end rD
  have er : (r.map bD).reverse = r.reverse.map bD := List.map_reverse.symm
  simp (disch := omega) only [fnM, envOf, sSeq, sAsg, sRet, sIf, sNil, sOw, sApp, sExt, sAsg2, sAug, sDrop, sPar, sParO, sNever, mDf, mRng2, mRng3, seqOf, sRaise, asgN, asgs, asgT, mOp, mFn, mCons, mNil, mC, mVar, mB, mCh, mAndV, mOrV, mNotV, mTyIs, tyOf, mTup, mLst, mFz, mUn, pys, Re.bind, mCall, mNot, mAnd, mIf, mLc, mSeq, mRng1, mEn, mYes, noE, sFor, mIxO, mSl, mPart, fSl, List.map_cons, List.map_nil, Option.map_some, Option.map_none, List.length_cons, List.length_nil, List.length_map, List.replicate, List.cons_append, List.nil_append, List.append_nil, List.getElem?_cons_zero, List.getElem?_cons_succ, List.set_cons_zero, List.set_cons_succ, List.foldl_cons, List.foldl_nil, List.set, List.map_map, fI, fMul, fAdd, fMod, fDiv, fInt, fLen, fSum, fAll, fTup, fDivmod, fMax2, fMin2, fNeg, fBack, fIsB, fNotB, fIx, fCnt, mCnt, Re.cut, fIsN, fNotN, isN, Nat.reduceSub, Nat.reduceAdd, if_true, Bool.false_eq_true, if_false, reduceIte, decide_true, decide_false, Bool.not_true, Bool.not_false, Bool.and_true, Bool.true_and, reduceCtorEq, ifC_pos, eq_FI, er]
  rw [lc_over1 (F := D.py ∘ bD) (g := fun b : Bk => bD (b.1.reverse, b.2)) (xs := r.reverse) _ (by rw [List.length_reverse]; simp only [List.length_nil]; omega) ?_]
  · simp (disch := omega) only [fnM, envOf, sSeq, sAsg, sRet, sIf, sNil, sOw, sApp, sExt, sAsg2, sAug, sDrop, sPar, sParO, sNever, mDf, mRng2, mRng3, seqOf, sRaise, asgN, asgs, asgT, mOp, mFn, mCons, mNil, mC, mVar, mB, mCh, mAndV, mOrV, mNotV, mTyIs, tyOf, mTup, mLst, mFz, mUn, pys, Re.bind, mCall, mNot, mAnd, mIf, mLc, mSeq, mRng1, mEn, mYes, noE, sFor, mIxO, mSl, mPart, fSl, List.map_cons, List.map_nil, Option.map_some, Option.map_none, List.length_cons, List.length_nil, List.length_map, List.replicate, List.cons_append, List.nil_append, List.append_nil, List.getElem?_cons_zero, List.getElem?_cons_succ, List.set_cons_zero, List.set_cons_succ, List.foldl_cons, List.foldl_nil, List.set, List.map_map, fI, fMul, fAdd, fMod, fDiv, fInt, fLen, fSum, fAll, fTup, fDivmod, fMax2, fMin2, fNeg, fBack, fIsB, fNotB, fIx, fCnt, mCnt, Re.cut, fIsN, fNotN, isN, Nat.reduceSub, Nat.reduceAdd, if_true, Bool.false_eq_true, if_false, reduceIte, decide_true, decide_false, Bool.not_true, Bool.not_false, Bool.and_true, Bool.true_and, reduceCtorEq, ifC_pos, eq_FI]
    unfold rev
    rw [List.map_map]
    rfl
  · intro b hb
    refine ⟨_, rfl, ?_, rfl⟩
    simp (disch := omega) only [fnM, envOf, sSeq, sAsg, sRet, sIf, sNil, sOw, sApp, sExt, sAsg2, sAug, sDrop, sPar, sParO, sNever, mDf, mRng2, mRng3, seqOf, sRaise, asgN, asgs, asgT, mOp, mFn, mCons, mNil, mC, mVar, mB, mCh, mAndV, mOrV, mNotV, mTyIs, tyOf, mTup, mLst, mFz, mUn, pys, Re.bind, mCall, mNot, mAnd, mIf, mLc, mSeq, mRng1, mEn, mYes, noE, sFor, mIxO, mSl, mPart, fSl, List.map_cons, List.map_nil, Option.map_some, Option.map_none, List.length_cons, List.length_nil, List.length_map, List.replicate, List.cons_append, List.nil_append, List.append_nil, List.getElem?_cons_zero, List.getElem?_cons_succ, List.set_cons_zero, List.set_cons_succ, List.foldl_cons, List.foldl_nil, List.set, List.map_map, fI, fMul, fAdd, fMod, fDiv, fInt, fLen, fSum, fAll, fTup, fDivmod, fMax2, fMin2, fNeg, fBack, fIsB, fNotB, fIx, fCnt, mCnt, Re.cut, fIsN, fNotN, isN, Nat.reduceSub, Nat.reduceAdd, if_true, Bool.false_eq_true, if_false, reduceIte, decide_true, decide_false, Bool.not_true, Bool.not_false, Bool.and_true, Bool.true_and, reduceCtorEq, ifC_pos, eq_FI, tI, tI_rev, bD]
theorem F_turned {r : List Bk} (h : ROk r) (w : Wd) : f_turned_about [.py (rD r)] w = .rt (.py (rD (rev r))) w := by
  have l := h.1
  unfold f_turned_about b_turned_about
  simp (disch := omega) only [fnM, envOf, sSeq, sAsg, sRet, sIf, sNil, sOw, sApp, sExt, sAsg2, sAug, sDrop, sPar, sParO, sNever, mDf, mRng2, mRng3, seqOf, sRaise, asgN, asgs, asgT, mOp, mFn, mCons, mNil, mC, mVar, mB, mCh, mAndV, mOrV, mNotV, mTyIs, tyOf, mTup, mLst, mFz, mUn, pys, Re.bind, mCall, mNot, mAnd, mIf, mLc, mSeq, mRng1, mEn, mYes, noE, sFor, mIxO, mSl, mPart, fSl, List.map_cons, List.map_nil, Option.map_some, Option.map_none, List.length_cons, List.length_nil, List.length_map, List.replicate, List.cons_append, List.nil_append, List.append_nil, List.getElem?_cons_zero, List.getElem?_cons_succ, List.set_cons_zero, List.set_cons_succ, List.foldl_cons, List.foldl_nil, List.set, List.map_map, fI, fMul, fAdd, fMod, fDiv, fInt, fLen, fSum, fAll, fTup, fDivmod, fMax2, fMin2, fNeg, fBack, fIsB, fNotB, fIx, fCnt, mCnt, Re.cut, fIsN, fNotN, isN, Nat.reduceSub, Nat.reduceAdd, if_true, Bool.false_eq_true, if_false, reduceIte, decide_true, decide_false, Bool.not_true, Bool.not_false, Bool.and_true, Bool.true_and, reduceCtorEq, ifC_pos, eq_FI, F_need_row h, F_from_end2 (show r.length ≤ 1000 by omega)]
theorem rd_of {r : List Bk} (h : ROk r) : Rd1 r := ⟨by have := h.1; omega, fun b hb => ⟨(h.2 b hb).l1, (h.2 b hb).l2, (h.2 b hb).t1⟩⟩
theorem F_read_alike {r s : List Bk} (h1 : ROk r) (h2 : ROk s) (w : Wd) : f_read_alike [.py (rD r), .py (rD s)] w = .rt (.py (.bool (fpt (fl r) (fl s)).isNone)) w := by
  unfold f_read_alike b_read_alike
  have f1 := F_first_parting (rd_of h1) (rd_of h2) w
  cases q : fpt (fl r) (fl s) with
  | none =>
    rw [q] at f1
    simp (disch := omega) only [fnM, envOf, sSeq, sAsg, sRet, sIf, sNil, sOw, sApp, sExt, sAsg2, sAug, sDrop, sPar, sParO, sNever, mDf, mRng2, mRng3, seqOf, sRaise, asgN, asgs, asgT, mOp, mFn, mCons, mNil, mC, mVar, mB, mCh, mAndV, mOrV, mNotV, mTyIs, tyOf, mTup, mLst, mFz, mUn, pys, Re.bind, mCall, mNot, mAnd, mIf, mLc, mSeq, mRng1, mEn, mYes, noE, sFor, mIxO, mSl, mPart, fSl, List.map_cons, List.map_nil, Option.map_some, Option.map_none, List.length_cons, List.length_nil, List.length_map, List.replicate, List.cons_append, List.nil_append, List.append_nil, List.getElem?_cons_zero, List.getElem?_cons_succ, List.set_cons_zero, List.set_cons_succ, List.foldl_cons, List.foldl_nil, List.set, List.map_map, fI, fMul, fAdd, fMod, fDiv, fInt, fLen, fSum, fAll, fTup, fDivmod, fMax2, fMin2, fNeg, fBack, fIsB, fNotB, fIx, fCnt, mCnt, Re.cut, fIsN, fNotN, isN, Nat.reduceSub, Nat.reduceAdd, if_true, Bool.false_eq_true, if_false, reduceIte, decide_true, decide_false, Bool.not_true, Bool.not_false, Bool.and_true, Bool.true_and, reduceCtorEq, ifC_pos, eq_FI, F_need_row h1, F_need_row h2, f1]
    rfl
  | some k =>
    rw [q] at f1
    simp (disch := omega) only [fnM, envOf, sSeq, sAsg, sRet, sIf, sNil, sOw, sApp, sExt, sAsg2, sAug, sDrop, sPar, sParO, sNever, mDf, mRng2, mRng3, seqOf, sRaise, asgN, asgs, asgT, mOp, mFn, mCons, mNil, mC, mVar, mB, mCh, mAndV, mOrV, mNotV, mTyIs, tyOf, mTup, mLst, mFz, mUn, pys, Re.bind, mCall, mNot, mAnd, mIf, mLc, mSeq, mRng1, mEn, mYes, noE, sFor, mIxO, mSl, mPart, fSl, List.map_cons, List.map_nil, Option.map_some, Option.map_none, List.length_cons, List.length_nil, List.length_map, List.replicate, List.cons_append, List.nil_append, List.append_nil, List.getElem?_cons_zero, List.getElem?_cons_succ, List.set_cons_zero, List.set_cons_succ, List.foldl_cons, List.foldl_nil, List.set, List.map_map, fI, fMul, fAdd, fMod, fDiv, fInt, fLen, fSum, fAll, fTup, fDivmod, fMax2, fMin2, fNeg, fBack, fIsB, fNotB, fIx, fCnt, mCnt, Re.cut, fIsN, fNotN, isN, Nat.reduceSub, Nat.reduceAdd, if_true, Bool.false_eq_true, if_false, reduceIte, decide_true, decide_false, Bool.not_true, Bool.not_false, Bool.and_true, Bool.true_and, reduceCtorEq, ifC_pos, eq_FI, F_need_row h1, F_need_row h2, f1]
    rfl
theorem pof_nil (r : List Bk) (s : Int) : pof r s s = [] := by
  induction r generalizing s with
  | nil => rfl
  | cons b r ih =>
    rw [pof_cons, ih, List.append_nil, if_neg]
    split <;> split <;> omega
theorem sg_cut (xs : List Int) (a b : Int) (h0 : 0 ≤ a) (h1 : a ≤ b) (h2 : b ≤ xs.length) : sg xs 0 a ++ sg xs a b ++ sg xs b xs.length = xs := by
  unfold sg
  have e1 : (0 : Int).toNat = 0 := rfl
  have e2 : ((xs.length : Nat) : Int).toNat = xs.length := Int.toNat_natCast _
  rw [e1, e2, List.drop_zero, List.take_of_length_le (Nat.le_refl xs.length)]
  have e3 : xs.take a.toNat = (xs.take b.toNat).take a.toNat := by rw [List.take_take, Nat.min_eq_left (by omega)]
  rw [e3, List.take_append_drop, List.take_append_drop]
theorem mk_rev {r : List Bk} (h : ROk r) (q : Int) (h0 : 0 ≤ q) (h1 : q < sz r) : mk (rev r) (sz r - 1 - q) = mk r q := by
  have sl := fl_len fun b hb => (by have := (h.2 b hb).t1; omega : 0 ≤ b.2)
  rw [mk_fl (rev_ok h).2 (by omega), mk_fl h.2 h0, fl_rev, List.getElem?_reverse (by omega)]
  congr 1
  omega
theorem mk_pof {r : List Bk} (h : ROk r) (s e q : Int) (s0 : 0 ≤ s) (e1 : e ≤ sz r) (q0 : 0 ≤ q) (q1 : q < e - s) : mk (pof r s e) q = mk r (s + q) := by
  have sl := fl_len fun b hb => (by have := (h.2 b hb).t1; omega : 0 ≤ b.2)
  rw [mk_fl (pof_B h.2 s e) q0, mk_fl h.2 (by omega), pof_fl h.2, sg_get (fl r) s0 (by omega) q.toNat (by omega)]
  congr 1
  omega
theorem pof_sz {r : List Bk} (h : ROk r) (s e : Int) (s0 : 0 ≤ s) (se : s ≤ e) (e1 : e ≤ sz r) : sz (pof r s e) = e - s := by
  have sl := fl_len fun b hb => (by have := (h.2 b hb).t1; omega : 0 ≤ b.2)
  rw [← fl_len fun b hb => (by have := (pof_B h.2 s e b hb).t1; omega : 0 ≤ b.2), pof_fl h.2, sg_len (fl r) s0 se (by omega)]
/-! ### what is refused -/
theorem tryN_nx {errs : List Str} {i j : Nat} {hs : List (Str × U)} {body : S} {r r1 : En} {w w1 : Wd} (h : body r w = .nx r1 w1) : sTryN errs i j hs body r w = .nx r1 w1 := by
  unfold sTryN
  rw [h]
theorem tryN_hit {errs : List Str} {c : Str} {f : List Str} {y : List PyData} {i j : Nat} {hs : List (Str × U)} {body : S} {u : U} {r r1 : En} {w w1 : Wd} {z : D} (h : body r w = .ex c f y r1 w1) (hl : hs.lookup c = some u) (hu : u f y = some z) (hi : i < r1.length) : sTryN errs i j hs body r w = .nx (((r1.set i .no).set j (.im z)).set i .no) w1 := by
  unfold sTryN
  rw [h]
  simp only [hl, hu, List.getElem?_eq_getElem hi]
theorem u_pairR (a y : PyData) (n : Str) (x : PyData) (h : fRepr [.py y] = some (.py x)) : uTup (uCons (uC a) (uCons (uRepr (uFld n)) uNil)) [n] [y] = some (.py (.tuple [a, x])) := by
  simp only [uTup, uCons, uC, uFld, uRepr, uNil, List.zip_cons_cons, List.zip_nil_right, List.lookup_cons, beq_self_eq_true, Option.map_some, h, pys, Option.map_none]
  rw [ifC_pos (by simp)]
theorem R_ofD {w : Wd} {k : Int} (xs : List PyData) (h : WOk w k) (hk : k ≤ 800000) (h0 : 0 < xs.length) (h1 : xs.length ≤ 1000) : ∃ v w', f__law_of [.mm, .py (.list xs)] w = .rt (.py v) w' ∧ v ∈ xs ∧ WOk w' (k + 1) := by
  obtain ⟨v, w', e, l, u, o⟩ := R_draw (xs.length : Int) h (by omega) (by omega) (by omega)
  have hl : v.toNat < xs.length := by omega
  have ai : atI xs v = some xs[v.toNat] := by
    unfold atI
    rw [ixN_in l u]
    show xs[_]? = _
    rw [List.getElem?_eq_getElem hl]
  refine ⟨xs[v.toNat], w', ?_, List.getElem_mem hl, o⟩
  unfold f__law_of b__law_of
  simp (disch := omega) only [fnM, envOf, sSeq, sAsg, sRet, sIf, sNil, sOw, sApp, sExt, sAsg2, sAug, sDrop, sPar, sParO, sNever, mDf, mRng2, mRng3, seqOf, sRaise, asgN, asgs, asgT, mOp, mFn, mCons, mNil, mC, mVar, mB, mCh, mAndV, mOrV, mNotV, mTyIs, tyOf, mTup, mLst, mFz, mUn, pys, Re.bind, mCall, mNot, mAnd, mIf, mLc, mSeq, mRng1, mEn, mYes, noE, sFor, mIxO, mSl, mPart, fSl, List.map_cons, List.map_nil, Option.map_some, Option.map_none, List.length_cons, List.length_nil, List.length_map, List.replicate, List.cons_append, List.nil_append, List.append_nil, List.getElem?_cons_zero, List.getElem?_cons_succ, List.set_cons_zero, List.set_cons_succ, List.foldl_cons, List.foldl_nil, List.set, List.map_map, fI, fMul, fAdd, fMod, fDiv, fInt, fLen, fSum, fAll, fTup, fDivmod, fMax2, fMin2, fNeg, fBack, fIsB, fNotB, fIx, fCnt, mCnt, Re.cut, fIsN, fNotN, isN, Nat.reduceSub, Nat.reduceAdd, if_true, Bool.false_eq_true, if_false, reduceIte, decide_true, decide_false, Bool.not_true, Bool.not_false, Bool.and_true, Bool.true_and, reduceCtorEq, ifC_pos, eq_FI, f__law_draw, e, ai]
theorem sh_str {n : Nat} {s : Str} (h : TxOk n s) (hn : n ≤ 190) : good 40 (.str s) ∧ (PyData.str s).depth ≤ 50 ∧ cost 40 (.str s) ≤ 200000 :=
  ⟨by unfold good; exact (repr_tx h).le (by omega), by unfold PyData.depth; decide, by unfold cost; decide⟩
theorem sh_tup {xs : List PyData} (h : ∀ x ∈ xs, good 40 x ∧ x.depth ≤ 40 ∧ cost 40 x ≤ 40000) (hl : xs.length ≤ 4) : good 40 (.tuple xs) ∧ (PyData.tuple xs).depth ≤ 50 ∧ cost 40 (.tuple xs) ≤ 200000 := by
  refine ⟨?_, ?_, ?_⟩
  · unfold good
    exact goodAll_of fun x hx => (h x hx).1
  · unfold PyData.depth
    have := depthAll_le (B := 40) fun x hx => (h x hx).2.1
    omega
  · unfold cost
    have z := costAll_le (k := 40) (B := 40000) fun x hx => (h x hx).2.2
    have : xs.length * (40000 + 2) ≤ 4 * (40000 + 2) := Nat.mul_le_mul_right _ hl
    omega
/-! ### one statement after the other -/
theorem seq_nx {a b : S} {r r1 : En} {w w1 : Wd} (h : a r w = .nx r1 w1) : sSeq a b r w = b r1 w1 := by
  unfold sSeq
  rw [h]
theorem fnM_rt {n : Nat} {b : S} {ds : List D} {w w1 : Wd} {d : D} (h : b (envOf n ds) w = .rt d w1) : fnM n b ds w = .rt d w1 := by
  unfold fnM
  rw [h]
def great60 : PyData := .tuple [.str "great", .int 60]
theorem sh_g60 : good 40 great60 ∧ great60.depth ≤ 50 ∧ cost 40 great60 ≤ 200000 := by
  have t : TxOk 2000 (reprText "great") := ⟨by decide +kernel, by decide +kernel⟩
  have e : (10 : Nat) ^ 40 = 10000000000000000000000000000000000000000 := by decide
  refine ⟨?_, ?_, ?_⟩
  · simp only [great60, good, goodAll, e]
    exact ⟨t, by decide, trivial⟩
  · simp only [great60, PyData.depth, PyData.depthAll]
    decide
  · simp only [great60, cost, costAll]
    decide
theorem sh_nil : good 40 (.tuple []) ∧ (PyData.tuple []).depth ≤ 50 ∧ cost 40 (.tuple []) ≤ 200000 := sh_tI (cs := []) (fun c hc => by cases hc) (Nat.zero_le _)
def placeD (s : Str) : PyData := .tuple [.str "place", .str s]
theorem sh_place {n : Nat} {s : Str} (h : TxOk n s) (hn : n ≤ 190) : good 40 (placeD s) ∧ (placeD s).depth ≤ 50 ∧ cost 40 (placeD s) ≤ 200000 := by
  have t : TxOk 5 ("place" : Str) := ⟨by decide +kernel, by decide +kernel⟩
  refine sh_tup (fun x hx => ?_) (show 2 ≤ 4 by decide)
  have c : ∀ u : Str, (PyData.str u).depth ≤ 40 ∧ cost 40 (.str u) ≤ 40000 := fun u => ⟨by unfold PyData.depth; decide, by unfold cost; decide⟩
  rcases List.mem_cons.mp hx with z | z
  · rw [z]; exact ⟨(sh_str t (by decide)).1, (c _).1, (c _).2⟩
  · cases List.mem_singleton.mp z
    exact ⟨(sh_str h hn).1, (c _).1, (c _).2⟩
/-! ### what is refused, and how -/
def wantN : List (Str × U) := [("BadPlace", uTup (uCons (uC (.str "place")) (uCons (uRepr (uFld "place")) (uNil)))), ("TooGreat", uTup (uCons (uC (.str "great")) (uCons (uFld "most") (uNil))))]
def bodyN : S := sIf (mB (mVar 0)) (sDrop (mCall f_cut_out (mCons (mVar 1) (mCons (mVar 2) (mCons (mVar 3) mNil))))) (sDrop (mCall f_rows_joined (mCons (mVar 1) (mCons (mVar 2) mNil))))
theorem want1 : wantN.lookup ("BadPlace" : Str) = some (uTup (uCons (uC (.str "place")) (uCons (uRepr (uFld "place")) (uNil)))) := by
  unfold wantN
  rw [List.lookup_cons, beq_self_eq_true]
theorem want2 : wantN.lookup ("TooGreat" : Str) = some (uTup (uCons (uC (.str "great")) (uCons (uFld "most") (uNil)))) := by
  have h : (("TooGreat" : Str) == ("BadPlace" : Str)) = false := by decide +kernel
  unfold wantN
  rw [List.lookup_cons, h, List.lookup_cons, beq_self_eq_true]
theorem LR_nx {c : Bool} {a b d : D} {w : Wd} (h : bodyN [.im (.py (.bool c)), .im a, .im b, .im d, .im (.py (.tuple [])), .no] w = .nx [.im (.py (.bool c)), .im a, .im b, .im d, .im (.py (.tuple [])), .no] w) : f__law_refused [.py (.bool c), a, b, d] w = .rt (.py (.tuple [])) w := by
  have t := tryN_nx (errs := errs__law_refused) (i := 5) (j := 4) (hs := wantN) h
  unfold bodyN wantN at t
  unfold f__law_refused b__law_refused
  simp (disch := omega) only [fnM, envOf, sSeq, sAsg, sRet, sIf, sNil, sOw, sApp, sExt, sAsg2, sAug, sDrop, sPar, sParO, sNever, mDf, mRng2, mRng3, seqOf, sRaise, asgN, asgs, asgT, mOp, mFn, mCons, mNil, mC, mVar, mB, mCh, mAndV, mOrV, mNotV, mTyIs, tyOf, mTup, mLst, mFz, mUn, pys, Re.bind, mCall, mNot, mAnd, mIf, mLc, mSeq, mRng1, mEn, mYes, noE, sFor, mIxO, mSl, mPart, fSl, List.map_cons, List.map_nil, Option.map_some, Option.map_none, List.length_cons, List.length_nil, List.length_map, List.replicate, List.cons_append, List.nil_append, List.append_nil, List.getElem?_cons_zero, List.getElem?_cons_succ, List.set_cons_zero, List.set_cons_succ, List.foldl_cons, List.foldl_nil, List.set, List.map_map, fI, fMul, fAdd, fMod, fDiv, fInt, fLen, fSum, fAll, fTup, fDivmod, fMax2, fMin2, fNeg, fBack, fIsB, fNotB, fIx, fCnt, mCnt, Re.cut, fIsN, fNotN, isN, Nat.reduceSub, Nat.reduceAdd, if_true, Bool.false_eq_true, if_false, reduceIte, decide_true, decide_false, Bool.not_true, Bool.not_false, Bool.and_true, Bool.true_and, reduceCtorEq, ifC_pos, eq_FI, t]
theorem LR_great {c : Bool} {a b d : D} {w : Wd} (h : bodyN [.im (.py (.bool c)), .im a, .im b, .im d, .im (.py (.tuple [])), .no] w = .ex "TooGreat" ["most"] [.int 60] [.im (.py (.bool c)), .im a, .im b, .im d, .im (.py (.tuple [])), .no] w) : f__law_refused [.py (.bool c), a, b, d] w = .rt (.py great60) w := by
  have t := tryN_hit (errs := errs__law_refused) (i := 5) (j := 4) (hs := wantN) h want2 (u_pair (.str "great") (.int 60) "most") (show 5 < 6 by decide)
  unfold bodyN wantN at t
  unfold f__law_refused b__law_refused
  simp (disch := omega) only [fnM, envOf, sSeq, sAsg, sRet, sIf, sNil, sOw, sApp, sExt, sAsg2, sAug, sDrop, sPar, sParO, sNever, mDf, mRng2, mRng3, seqOf, sRaise, asgN, asgs, asgT, mOp, mFn, mCons, mNil, mC, mVar, mB, mCh, mAndV, mOrV, mNotV, mTyIs, tyOf, mTup, mLst, mFz, mUn, pys, Re.bind, mCall, mNot, mAnd, mIf, mLc, mSeq, mRng1, mEn, mYes, noE, sFor, mIxO, mSl, mPart, fSl, List.map_cons, List.map_nil, Option.map_some, Option.map_none, List.length_cons, List.length_nil, List.length_map, List.replicate, List.cons_append, List.nil_append, List.append_nil, List.getElem?_cons_zero, List.getElem?_cons_succ, List.set_cons_zero, List.set_cons_succ, List.foldl_cons, List.foldl_nil, List.set, List.map_map, fI, fMul, fAdd, fMod, fDiv, fInt, fLen, fSum, fAll, fTup, fDivmod, fMax2, fMin2, fNeg, fBack, fIsB, fNotB, fIx, fCnt, mCnt, Re.cut, fIsN, fNotN, isN, Nat.reduceSub, Nat.reduceAdd, if_true, Bool.false_eq_true, if_false, reduceIte, decide_true, decide_false, Bool.not_true, Bool.not_false, Bool.and_true, Bool.true_and, reduceCtorEq, ifC_pos, eq_FI, t]
  rfl
theorem LR_place {c : Bool} {a b d : D} {w : Wd} {y : PyData} (hy : fRepr [.py y] = some (.py (.str y.shown))) (h : bodyN [.im (.py (.bool c)), .im a, .im b, .im d, .im (.py (.tuple [])), .no] w = .ex "BadPlace" ["place"] [y] [.im (.py (.bool c)), .im a, .im b, .im d, .im (.py (.tuple [])), .no] w) : f__law_refused [.py (.bool c), a, b, d] w = .rt (.py (placeD y.shown)) w := by
  have t := tryN_hit (errs := errs__law_refused) (i := 5) (j := 4) (hs := wantN) h want1 (u_pairR (.str "place") y "place" _ hy) (show 5 < 6 by decide)
  unfold bodyN wantN at t
  unfold f__law_refused b__law_refused
  simp (disch := omega) only [fnM, envOf, sSeq, sAsg, sRet, sIf, sNil, sOw, sApp, sExt, sAsg2, sAug, sDrop, sPar, sParO, sNever, mDf, mRng2, mRng3, seqOf, sRaise, asgN, asgs, asgT, mOp, mFn, mCons, mNil, mC, mVar, mB, mCh, mAndV, mOrV, mNotV, mTyIs, tyOf, mTup, mLst, mFz, mUn, pys, Re.bind, mCall, mNot, mAnd, mIf, mLc, mSeq, mRng1, mEn, mYes, noE, sFor, mIxO, mSl, mPart, fSl, List.map_cons, List.map_nil, Option.map_some, Option.map_none, List.length_cons, List.length_nil, List.length_map, List.replicate, List.cons_append, List.nil_append, List.append_nil, List.getElem?_cons_zero, List.getElem?_cons_succ, List.set_cons_zero, List.set_cons_succ, List.foldl_cons, List.foldl_nil, List.set, List.map_map, fI, fMul, fAdd, fMod, fDiv, fInt, fLen, fSum, fAll, fTup, fDivmod, fMax2, fMin2, fNeg, fBack, fIsB, fNotB, fIx, fCnt, mCnt, Re.cut, fIsN, fNotN, isN, Nat.reduceSub, Nat.reduceAdd, if_true, Bool.false_eq_true, if_false, reduceIte, decide_true, decide_false, Bool.not_true, Bool.not_false, Bool.and_true, Bool.true_and, reduceCtorEq, ifC_pos, eq_FI, t]
  rfl
theorem LR_cut {r : List Bk} (h : ROk r) (s e : Int) (s0 : 0 ≤ s) (se : s ≤ e) (e1 : e ≤ sz r) (w : Wd) : f__law_refused [.py (.bool true), .py (rD r), .py (.int s), .py (.int e)] w = .rt (.py (if (pof r s e).length ≤ 60 then .tuple [] else great60)) w := by
  have f1 := F_cut h s e s0 se e1 w
  by_cases c : (pof r s e).length ≤ 60
  · rw [if_pos c] at f1 ⊢
    refine LR_nx ?_
    unfold bodyN
    simp (disch := omega) only [fnM, envOf, sSeq, sAsg, sRet, sIf, sNil, sOw, sApp, sExt, sAsg2, sAug, sDrop, sPar, sParO, sNever, mDf, mRng2, mRng3, seqOf, sRaise, asgN, asgs, asgT, mOp, mFn, mCons, mNil, mC, mVar, mB, mCh, mAndV, mOrV, mNotV, mTyIs, tyOf, mTup, mLst, mFz, mUn, pys, Re.bind, mCall, mNot, mAnd, mIf, mLc, mSeq, mRng1, mEn, mYes, noE, sFor, mIxO, mSl, mPart, fSl, List.map_cons, List.map_nil, Option.map_some, Option.map_none, List.length_cons, List.length_nil, List.length_map, List.replicate, List.cons_append, List.nil_append, List.append_nil, List.getElem?_cons_zero, List.getElem?_cons_succ, List.set_cons_zero, List.set_cons_succ, List.foldl_cons, List.foldl_nil, List.set, List.map_map, fI, fMul, fAdd, fMod, fDiv, fInt, fLen, fSum, fAll, fTup, fDivmod, fMax2, fMin2, fNeg, fBack, fIsB, fNotB, fIx, fCnt, mCnt, Re.cut, fIsN, fNotN, isN, Nat.reduceSub, Nat.reduceAdd, if_true, Bool.false_eq_true, if_false, reduceIte, decide_true, decide_false, Bool.not_true, Bool.not_false, Bool.and_true, Bool.true_and, reduceCtorEq, ifC_pos, eq_FI, f1]
  · rw [if_neg c] at f1 ⊢
    refine LR_great ?_
    unfold bodyN
    simp (disch := omega) only [fnM, envOf, sSeq, sAsg, sRet, sIf, sNil, sOw, sApp, sExt, sAsg2, sAug, sDrop, sPar, sParO, sNever, mDf, mRng2, mRng3, seqOf, sRaise, asgN, asgs, asgT, mOp, mFn, mCons, mNil, mC, mVar, mB, mCh, mAndV, mOrV, mNotV, mTyIs, tyOf, mTup, mLst, mFz, mUn, pys, Re.bind, mCall, mNot, mAnd, mIf, mLc, mSeq, mRng1, mEn, mYes, noE, sFor, mIxO, mSl, mPart, fSl, List.map_cons, List.map_nil, Option.map_some, Option.map_none, List.length_cons, List.length_nil, List.length_map, List.replicate, List.cons_append, List.nil_append, List.append_nil, List.getElem?_cons_zero, List.getElem?_cons_succ, List.set_cons_zero, List.set_cons_succ, List.foldl_cons, List.foldl_nil, List.set, List.map_map, fI, fMul, fAdd, fMod, fDiv, fInt, fLen, fSum, fAll, fTup, fDivmod, fMax2, fMin2, fNeg, fBack, fIsB, fNotB, fIx, fCnt, mCnt, Re.cut, fIsN, fNotN, isN, Nat.reduceSub, Nat.reduceAdd, if_true, Bool.false_eq_true, if_false, reduceIte, decide_true, decide_false, Bool.not_true, Bool.not_false, Bool.and_true, Bool.true_and, reduceCtorEq, ifC_pos, eq_FI, f1]
theorem LR_join {r s : List Bk} (h : ROk r) (h2 : ROk s) (d : D) (w : Wd) : f__law_refused [.py (.bool false), .py (rD r), .py (rD s), d] w = .rt (.py (if (r ++ s).length ≤ 60 then .tuple [] else great60)) w := by
  have f1 := F_joined h h2 w
  by_cases c : (r ++ s).length ≤ 60
  · rw [if_pos c] at f1 ⊢
    refine LR_nx ?_
    unfold bodyN
    simp (disch := omega) only [fnM, envOf, sSeq, sAsg, sRet, sIf, sNil, sOw, sApp, sExt, sAsg2, sAug, sDrop, sPar, sParO, sNever, mDf, mRng2, mRng3, seqOf, sRaise, asgN, asgs, asgT, mOp, mFn, mCons, mNil, mC, mVar, mB, mCh, mAndV, mOrV, mNotV, mTyIs, tyOf, mTup, mLst, mFz, mUn, pys, Re.bind, mCall, mNot, mAnd, mIf, mLc, mSeq, mRng1, mEn, mYes, noE, sFor, mIxO, mSl, mPart, fSl, List.map_cons, List.map_nil, Option.map_some, Option.map_none, List.length_cons, List.length_nil, List.length_map, List.replicate, List.cons_append, List.nil_append, List.append_nil, List.getElem?_cons_zero, List.getElem?_cons_succ, List.set_cons_zero, List.set_cons_succ, List.foldl_cons, List.foldl_nil, List.set, List.map_map, fI, fMul, fAdd, fMod, fDiv, fInt, fLen, fSum, fAll, fTup, fDivmod, fMax2, fMin2, fNeg, fBack, fIsB, fNotB, fIx, fCnt, mCnt, Re.cut, fIsN, fNotN, isN, Nat.reduceSub, Nat.reduceAdd, if_true, Bool.false_eq_true, if_false, reduceIte, decide_true, decide_false, Bool.not_true, Bool.not_false, Bool.and_true, Bool.true_and, reduceCtorEq, ifC_pos, eq_FI, f1]
  · rw [if_neg c] at f1 ⊢
    refine LR_great ?_
    unfold bodyN
    simp (disch := omega) only [fnM, envOf, sSeq, sAsg, sRet, sIf, sNil, sOw, sApp, sExt, sAsg2, sAug, sDrop, sPar, sParO, sNever, mDf, mRng2, mRng3, seqOf, sRaise, asgN, asgs, asgT, mOp, mFn, mCons, mNil, mC, mVar, mB, mCh, mAndV, mOrV, mNotV, mTyIs, tyOf, mTup, mLst, mFz, mUn, pys, Re.bind, mCall, mNot, mAnd, mIf, mLc, mSeq, mRng1, mEn, mYes, noE, sFor, mIxO, mSl, mPart, fSl, List.map_cons, List.map_nil, Option.map_some, Option.map_none, List.length_cons, List.length_nil, List.length_map, List.replicate, List.cons_append, List.nil_append, List.append_nil, List.getElem?_cons_zero, List.getElem?_cons_succ, List.set_cons_zero, List.set_cons_succ, List.foldl_cons, List.foldl_nil, List.set, List.map_map, fI, fMul, fAdd, fMod, fDiv, fInt, fLen, fSum, fAll, fTup, fDivmod, fMax2, fMin2, fNeg, fBack, fIsB, fNotB, fIx, fCnt, mCnt, Re.cut, fIsN, fNotN, isN, Nat.reduceSub, Nat.reduceAdd, if_true, Bool.false_eq_true, if_false, reduceIte, decide_true, decide_false, Bool.not_true, Bool.not_false, Bool.and_true, Bool.true_and, reduceCtorEq, ifC_pos, eq_FI, f1]
theorem LR_odd1 {r : List Bk} (h : ROk r) (y : PyData) (ho : Odd y 0 (sz r)) (hy : fRepr [.py y] = some (.py (.str y.shown))) (z : D) (w : Wd) : f__law_refused [.py (.bool true), .py (rD r), .py y, z] w = .rt (.py (placeD y.shown)) w := by
  have f1 := F_cut_odd1 h y ho z w
  refine LR_place hy ?_
  unfold bodyN
  simp (disch := omega) only [fnM, envOf, sSeq, sAsg, sRet, sIf, sNil, sOw, sApp, sExt, sAsg2, sAug, sDrop, sPar, sParO, sNever, mDf, mRng2, mRng3, seqOf, sRaise, asgN, asgs, asgT, mOp, mFn, mCons, mNil, mC, mVar, mB, mCh, mAndV, mOrV, mNotV, mTyIs, tyOf, mTup, mLst, mFz, mUn, pys, Re.bind, mCall, mNot, mAnd, mIf, mLc, mSeq, mRng1, mEn, mYes, noE, sFor, mIxO, mSl, mPart, fSl, List.map_cons, List.map_nil, Option.map_some, Option.map_none, List.length_cons, List.length_nil, List.length_map, List.replicate, List.cons_append, List.nil_append, List.append_nil, List.getElem?_cons_zero, List.getElem?_cons_succ, List.set_cons_zero, List.set_cons_succ, List.foldl_cons, List.foldl_nil, List.set, List.map_map, fI, fMul, fAdd, fMod, fDiv, fInt, fLen, fSum, fAll, fTup, fDivmod, fMax2, fMin2, fNeg, fBack, fIsB, fNotB, fIx, fCnt, mCnt, Re.cut, fIsN, fNotN, isN, Nat.reduceSub, Nat.reduceAdd, if_true, Bool.false_eq_true, if_false, reduceIte, decide_true, decide_false, Bool.not_true, Bool.not_false, Bool.and_true, Bool.true_and, reduceCtorEq, ifC_pos, eq_FI, f1]
theorem LR_odd2 {r : List Bk} (h : ROk r) (s : Int) (s0 : 0 ≤ s) (s1 : s ≤ sz r) (y : PyData) (ho : Odd y s (sz r)) (hy : fRepr [.py y] = some (.py (.str y.shown))) (w : Wd) : f__law_refused [.py (.bool true), .py (rD r), .py (.int s), .py y] w = .rt (.py (placeD y.shown)) w := by
  have f1 := F_cut_odd2 h s s0 s1 y ho w
  refine LR_place hy ?_
  unfold bodyN
  simp (disch := omega) only [fnM, envOf, sSeq, sAsg, sRet, sIf, sNil, sOw, sApp, sExt, sAsg2, sAug, sDrop, sPar, sParO, sNever, mDf, mRng2, mRng3, seqOf, sRaise, asgN, asgs, asgT, mOp, mFn, mCons, mNil, mC, mVar, mB, mCh, mAndV, mOrV, mNotV, mTyIs, tyOf, mTup, mLst, mFz, mUn, pys, Re.bind, mCall, mNot, mAnd, mIf, mLc, mSeq, mRng1, mEn, mYes, noE, sFor, mIxO, mSl, mPart, fSl, List.map_cons, List.map_nil, Option.map_some, Option.map_none, List.length_cons, List.length_nil, List.length_map, List.replicate, List.cons_append, List.nil_append, List.append_nil, List.getElem?_cons_zero, List.getElem?_cons_succ, List.set_cons_zero, List.set_cons_succ, List.foldl_cons, List.foldl_nil, List.set, List.map_map, fI, fMul, fAdd, fMod, fDiv, fInt, fLen, fSum, fAll, fTup, fDivmod, fMax2, fMin2, fNeg, fBack, fIsB, fNotB, fIx, fCnt, mCnt, Re.cut, fIsN, fNotN, isN, Nat.reduceSub, Nat.reduceAdd, if_true, Bool.false_eq_true, if_false, reduceIte, decide_true, decide_false, Bool.not_true, Bool.not_false, Bool.and_true, Bool.true_and, reduceCtorEq, ifC_pos, eq_FI, f1]
/-! ### the limits -/
def full : List Bk := List.replicate 60 ([0, 1], 2)
theorem full_ok : ROk full := ⟨by decide, fun b hb => by
  rw [List.eq_of_mem_replicate hb]
  exact ⟨by decide, by decide, by decide, by decide, by decide⟩⟩
theorem full_sz : sz full = 240 := by decide +kernel
theorem full_cut (n : Nat) : ROk (full.take n) := ⟨by rw [List.length_take]; have := full_ok.1; omega, fun b hb => full_ok.2 b (List.mem_of_mem_take hb)⟩
structure OddOk (y : PyData) : Prop where
  rp : fRepr [.py y] = some (.py (.str y.shown))
  tx : ∃ n, TxOk n y.shown ∧ n ≤ 190
theorem odd_of {y : PyData} (h : good 40 y) (hd : y.depth ≤ 60) (hc : cost 40 y ≤ 190) : OddOk y := ⟨repr_F (by decide) (by decide) h hd (by omega), _, shown_ok (by decide) y h, hc⟩
theorem odd_str : OddOk (.str "0") := by
  have t : TxOk 3 (reprText "0") := ⟨by decide +kernel, by decide +kernel⟩
  refine ⟨repr_F (k := 40) (by decide) (by decide) (by unfold good; exact t.le (by decide)) (by unfold PyData.depth; decide) (by unfold cost; decide), 3, ?_, by decide⟩
  unfold PyData.shown
  exact t
theorem odd_int (i : Int) (h : i.natAbs < 10000000000000000000000000000000000000000) : OddOk (.int i) := odd_of (sh_int h).1 (by unfold PyData.depth; decide) (by unfold cost; decide)
theorem notype {y : PyData} (h : tyOf (.py y) ≠ "int") (lo hi : Int) : Odd y lo hi := fun w => by
  have d : decide (tyOf (.py y) = "int") = false := decide_eq_false h
  unfold f_is_whole b_is_whole
  simp only [fnM, envOf, sRet, mAndV, mTyIs, mVar, Re.bind, List.map_cons, List.map_nil, List.length_cons, List.length_nil, List.cons_append, List.nil_append, List.getElem?_cons_zero, d]
theorem odd_all {r : List Bk} (h : ROk r) (y : PyData) (hy : y ∈ [PyData.int (-1), .int (sz r + 1), .bool true, .none, .str "0", .tuple [.int 0]]) : OddOk y ∧ Odd y 0 (sz r) := by
  have sb := sz_bd h.2
  have l := h.1
  have s0 := sz_nn h.2
  have wh : ∀ i : Int, ¬ (0 ≤ i ∧ i ≤ sz r) → Odd (.int i) 0 (sz r) := fun i hi w => by rw [F_is_whole, decide_eq_false hi]
  simp only [List.mem_cons, List.not_mem_nil, or_false] at hy
  rcases hy with e | e | e | e | e | e <;> rw [e]
  · exact ⟨odd_int _ (by decide), wh _ (by omega)⟩
  · exact ⟨odd_int _ (by omega), wh _ (by omega)⟩
  · exact ⟨odd_of (by unfold good; trivial) (by unfold PyData.depth; decide) (by unfold cost; decide), notype (by decide) _ _⟩
  · exact ⟨odd_of (by unfold good; trivial) (by unfold PyData.depth; decide) (by unfold cost; decide), notype (by decide) _ _⟩
  · exact ⟨odd_str, notype (by decide) _ _⟩
  · exact ⟨odd_of (sh_tI (cs := [0]) (by decide) (by decide)).1 (by simp only [PyData.depth, PyData.depthAll]; decide) (by simp only [cost, costAll]; decide), notype (by decide) _ _⟩
/-- a row of the table: what is tried, and what it comes to -/
def Row5 (x : PyData) : Prop := ∃ c a b d due, x = .tuple [.bool c, a, b, d, due] ∧ (∀ w, f__law_refused [.py (.bool c), .py a, .py b, .py d] w = .rt (.py due) w) ∧ good 40 due ∧ due.depth ≤ 50 ∧ cost 40 due ≤ 200000
theorem rows_all (xs : List PyData) (hl : xs.length ≤ 1000) (h : ∀ x ∈ xs, Row5 x) (s0 s1 s2 s3 s4 s5 : Slot) (w : Wd) :
    lcL (asgT [6, 7, 8, 9, 10]) (mNot (mB (mCall f__law_like (mCons (mCall f__law_refused (mCons (mVar 6) (mCons (mVar 7) (mCons (mVar 8) (mCons (mVar 9) mNil))))) (mCons (mVar 10) mNil))))) (mC (.py (.int 1))) [6, 7, 8, 9, 10] (xs.map D.py) [] [s0, s1, s2, s3, s4, s5, .no, .no, .no, .no, .no] w
      = .ok [] [s0, s1, s2, s3, s4, s5, .no, .no, .no, .no, .no] w := by
  rw [lc_filt1 (F := D.py) (p := fun _ => false) (g := fun _ => .int 1) (xs := xs) _ (by simp only [List.length_nil]; omega) ?_]
  · rw [List.filter_eq_nil_iff.mpr (fun a _ => by simp)]
    rfl
  · intro x hx
    obtain ⟨c, a, b, d, due, rfl, e1, e2⟩ := h x hx
    have e3 := like_1 e2 w
    have e4 := e1 w
    refine ⟨_, rfl, ?_, ?_, rfl⟩
    · simp (disch := omega) only [fnM, envOf, sSeq, sAsg, sRet, sIf, sNil, sOw, sApp, sExt, sAsg2, sAug, sDrop, sPar, sParO, sNever, mDf, mRng2, mRng3, seqOf, sRaise, asgN, asgs, asgT, mOp, mFn, mCons, mNil, mC, mVar, mB, mCh, mAndV, mOrV, mNotV, mTyIs, tyOf, mTup, mLst, mFz, mUn, pys, Re.bind, mCall, mNot, mAnd, mIf, mLc, mSeq, mRng1, mEn, mYes, noE, sFor, mIxO, mSl, mPart, fSl, List.map_cons, List.map_nil, Option.map_some, Option.map_none, List.length_cons, List.length_nil, List.length_map, List.replicate, List.cons_append, List.nil_append, List.append_nil, List.getElem?_cons_zero, List.getElem?_cons_succ, List.set_cons_zero, List.set_cons_succ, List.foldl_cons, List.foldl_nil, List.set, List.map_map, fI, fMul, fAdd, fMod, fDiv, fInt, fLen, fSum, fAll, fTup, fDivmod, fMax2, fMin2, fNeg, fBack, fIsB, fNotB, fIx, fCnt, mCnt, Re.cut, fIsN, fNotN, isN, Nat.reduceSub, Nat.reduceAdd, if_true, Bool.false_eq_true, if_false, reduceIte, decide_true, decide_false, Bool.not_true, Bool.not_false, Bool.and_true, Bool.true_and, reduceCtorEq, ifC_pos, eq_FI, e4, e3]
    · simp (disch := omega) only [fnM, envOf, sSeq, sAsg, sRet, sIf, sNil, sOw, sApp, sExt, sAsg2, sAug, sDrop, sPar, sParO, sNever, mDf, mRng2, mRng3, seqOf, sRaise, asgN, asgs, asgT, mOp, mFn, mCons, mNil, mC, mVar, mB, mCh, mAndV, mOrV, mNotV, mTyIs, tyOf, mTup, mLst, mFz, mUn, pys, Re.bind, mCall, mNot, mAnd, mIf, mLc, mSeq, mRng1, mEn, mYes, noE, sFor, mIxO, mSl, mPart, fSl, List.map_cons, List.map_nil, Option.map_some, Option.map_none, List.length_cons, List.length_nil, List.length_map, List.replicate, List.cons_append, List.nil_append, List.append_nil, List.getElem?_cons_zero, List.getElem?_cons_succ, List.set_cons_zero, List.set_cons_succ, List.foldl_cons, List.foldl_nil, List.set, List.map_map, fI, fMul, fAdd, fMod, fDiv, fInt, fLen, fSum, fAll, fTup, fDivmod, fMax2, fMin2, fNeg, fBack, fIsB, fNotB, fIx, fCnt, mCnt, Re.cut, fIsN, fNotN, isN, Nat.reduceSub, Nat.reduceAdd, if_true, Bool.false_eq_true, if_false, reduceIte, decide_true, decide_false, Bool.not_true, Bool.not_false, Bool.and_true, Bool.true_and, reduceCtorEq, ifC_pos, eq_FI]
theorem F_limits {r : List Bk} (h : ROk r) {w : Wd} {k : Int} (ok : WOk w k) (hk : k ≤ 800000) : ∃ w', f__law_limits_right [.mm, .py (rD r), .py (.int (sz r))] w = .rt (.py (.bool true)) w' := by
  obtain ⟨y, w1, d1, hy, o1⟩ := R_ofD [PyData.int (-1), .int (sz r + 1), .bool true, .none, .str "0", .tuple [.int 0]] ok hk (show 0 < 6 by decide) (show 6 ≤ 1000 by decide)
  obtain ⟨⟨yr, n, tn, nl⟩, yo⟩ := odd_all h y hy
  have sb := sz_bd h.2
  have l := h.1
  have s0 := sz_nn h.2
  obtain ⟨zr, m, tm, ml⟩ := odd_int (sz r - 1) (by omega)
  have zo : Odd (.int (sz r - 1)) (sz r) (sz r) := fun w => by rw [F_is_whole, decide_eq_false (by omega)]
  have A : sAsg (asgN 3) (mOp fMul (mTup (mCons (mTup (mCons (mTup (mCons (mC (.py (.int 0))) (mCons (mC (.py (.int 1))) mNil))) (mCons (mC (.py (.int 2))) mNil))) mNil)) (mC (.py (.int 60)))) [.im .mm, .im (.py (rD r)), .im (.py (.int (sz r))), .no, .no, .no, .no, .no, .no, .no, .no] w
      = .nx [.im .mm, .im (.py (rD r)), .im (.py (.int (sz r))), .im (.py (rD full)), .no, .no, .no, .no, .no, .no, .no] w := by
    have e : (List.replicate (60 : Int).toNat [PyData.tuple [.tuple [.int 0, .int 1], .int 2]]).flatten = full.map bD := by rfl
    simp (disch := omega) only [fnM, envOf, sSeq, sAsg, sRet, sIf, sNil, sOw, sApp, sExt, sAsg2, sAug, sDrop, sPar, sParO, sNever, mDf, mRng2, mRng3, seqOf, sRaise, asgN, asgs, asgT, mOp, mFn, mCons, mNil, mC, mVar, mB, mCh, mAndV, mOrV, mNotV, mTyIs, tyOf, mTup, mLst, mFz, mUn, pys, Re.bind, mCall, mNot, mAnd, mIf, mLc, mSeq, mRng1, mEn, mYes, noE, sFor, mIxO, mSl, mPart, fSl, List.map_cons, List.map_nil, Option.map_some, Option.map_none, List.length_cons, List.length_nil, List.length_map, List.cons_append, List.nil_append, List.append_nil, List.getElem?_cons_zero, List.getElem?_cons_succ, List.set_cons_zero, List.set_cons_succ, List.foldl_cons, List.foldl_nil, List.set, List.map_map, fI, fMul, fAdd, fMod, fDiv, fInt, fLen, fSum, fAll, fTup, fDivmod, fMax2, fMin2, fNeg, fBack, fIsB, fNotB, fIx, fCnt, mCnt, Re.cut, fIsN, fNotN, isN, Nat.reduceSub, Nat.reduceAdd, if_true, Bool.false_eq_true, if_false, reduceIte, decide_true, decide_false, Bool.not_true, Bool.not_false, Bool.and_true, Bool.true_and, reduceCtorEq, ifC_pos, eq_FI, e]
    rfl
  have c30 : cutD (full.map bD) none (some 30) = (full.take 30).map bD := by rfl
  have c31 : cutD (full.map bD) none (some 31) = (full.take 31).map bD := by rfl
  have k1 : (pof full 0 240).length ≤ 60 := by decide +kernel
  have k2 : ¬ (pof full 1 240).length ≤ 60 := by decide +kernel
  have k3 : (pof full 2 240).length ≤ 60 := by decide +kernel
  have k4 : (pof full 3 238).length ≤ 60 := by decide +kernel
  have k5 : (full.take 30 ++ full.take 30).length ≤ 60 := by decide +kernel
  have k6 : ¬ (full.take 30 ++ full.take 31).length ≤ 60 := by decide +kernel
  have rows : ∀ x ∈ [PyData.tuple [.bool true, rD full, .int 0, .int 240, .tuple []], .tuple [.bool true, rD full, .int 1, .int 240, great60], .tuple [.bool true, rD full, .int 2, .int 240, .tuple []], .tuple [.bool true, rD full, .int 3, .int 238, .tuple []],
      .tuple [.bool false, rD (full.take 30), rD (full.take 30), .none, .tuple []], .tuple [.bool false, rD (full.take 30), rD (full.take 31), .none, great60],
      .tuple [.bool true, rD r, y, .int 0, placeD y.shown], .tuple [.bool true, rD r, y, .none, placeD y.shown], .tuple [.bool true, rD r, .int 0, y, placeD y.shown], .tuple [.bool true, rD r, .int (sz r), .int (sz r - 1), placeD (PyData.int (sz r - 1)).shown]], Row5 x := by
    intro x hx
    simp only [List.mem_cons, List.not_mem_nil, or_false] at hx
    rcases hx with e | e | e | e | e | e | e | e | e | e
    · refine ⟨_, _, _, _, _, e, fun w => ?_, sh_nil⟩
      have := LR_cut full_ok 0 240 (by decide) (by decide) (by rw [full_sz]; decide) w
      rw [if_pos k1] at this
      exact this
    · refine ⟨_, _, _, _, _, e, fun w => ?_, sh_g60⟩
      have := LR_cut full_ok 1 240 (by decide) (by decide) (by rw [full_sz]; decide) w
      rw [if_neg k2] at this
      exact this
    · refine ⟨_, _, _, _, _, e, fun w => ?_, sh_nil⟩
      have := LR_cut full_ok 2 240 (by decide) (by decide) (by rw [full_sz]; decide) w
      rw [if_pos k3] at this
      exact this
    · refine ⟨_, _, _, _, _, e, fun w => ?_, sh_nil⟩
      have := LR_cut full_ok 3 238 (by decide) (by decide) (by rw [full_sz]; decide) w
      rw [if_pos k4] at this
      exact this
    · refine ⟨_, _, _, _, _, e, fun w => ?_, sh_nil⟩
      have := LR_join (full_cut 30) (full_cut 30) (.py .none) w
      rw [if_pos k5] at this
      exact this
    · refine ⟨_, _, _, _, _, e, fun w => ?_, sh_g60⟩
      have := LR_join (full_cut 30) (full_cut 31) (.py .none) w
      rw [if_neg k6] at this
      exact this
    · exact ⟨_, _, _, _, _, e, fun w => LR_odd1 h y yo yr _ w, sh_place tn nl⟩
    · exact ⟨_, _, _, _, _, e, fun w => LR_odd1 h y yo yr _ w, sh_place tn nl⟩
    · exact ⟨_, _, _, _, _, e, fun w => LR_odd2 h 0 (Int.le_refl 0) s0 y yo yr w, sh_place tn nl⟩
    · exact ⟨_, _, _, _, _, e, fun w => LR_odd2 h (sz r) s0 (Int.le_refl _) _ zo zr w, sh_place tm ml⟩
  have all := rows_all _ (by simp only [List.length_cons, List.length_nil]; decide) rows (.im .mm) (.im (.py (rD r))) (.im (.py (.int (sz r)))) (.im (.py (rD full)))
  refine ⟨w1, ?_⟩
  unfold f__law_limits_right
  refine fnM_rt ?_
  show b__law_limits_right [.im .mm, .im (.py (rD r)), .im (.py (.int (sz r))), .no, .no, .no, .no, .no, .no, .no, .no] w = _
  unfold b__law_limits_right
  rw [seq_nx A]
  have n1 : -(1 : Int) = -1 := rfl
  have g60 : PyData.tuple [.str "great", .int 60] = great60 := rfl
  have pl : ∀ s : Str, PyData.tuple [.str "place", .str s] = placeD s := fun s => rfl
  unfold rD at all ⊢
  simp only [List.map_cons, List.map_nil] at all
  have e0 : fEq (.py (.list [])) (.py (.list [])) = some (.py (.bool true)) := eq_nil_F []
  simp (disch := omega) only [fnM, envOf, sSeq, sAsg, sRet, sIf, sNil, sOw, sApp, sExt, sAsg2, sAug, sDrop, sPar, sParO, sNever, mDf, mRng2, mRng3, seqOf, sRaise, asgN, asgs, asgT, mOp, mFn, mCons, mNil, mC, mVar, mB, mCh, mAndV, mOrV, mNotV, mTyIs, tyOf, mTup, mLst, mFz, mUn, pys, Re.bind, mCall, mNot, mAnd, mIf, mLc, mSeq, mRng1, mEn, mYes, noE, sFor, mIxO, mSl, mPart, fSl, List.map_cons, List.map_nil, Option.map_some, Option.map_none, List.length_cons, List.length_nil, List.length_map, List.cons_append, List.nil_append, List.append_nil, List.getElem?_cons_zero, List.getElem?_cons_succ, List.set_cons_zero, List.set_cons_succ, List.foldl_cons, List.foldl_nil, List.set, List.map_map, fI, fMul, fAdd, fMod, fDiv, fInt, fLen, fSum, fAll, fTup, fDivmod, fMax2, fMin2, fNeg, fBack, fIsB, fNotB, fIx, fCnt, mCnt, Re.cut, fIsN, fNotN, isN, Nat.reduceSub, Nat.reduceAdd, if_true, Bool.false_eq_true, if_false, reduceIte, decide_true, decide_false, Bool.not_true, Bool.not_false, Bool.and_true, Bool.true_and, reduceCtorEq, ifC_pos, eq_FI, c30, c31, d1, yr, zr, mCatL, fCatL, g60, pl, e0, all]
theorem sz_one {r : List Bk} (h : ∀ b ∈ r, BOk b) (hl : 1 ≤ r.length) : 1 ≤ sz r := by
  cases r with
  | nil => simp at hl
  | cons b r =>
    rw [sz_cons]
    have h1 := szB_pos (h b (List.mem_cons_self ..))
    have h2 := sz_nn (fun c hc => h c (List.mem_cons_of_mem (a := c) b hc))
    omega
section
variable {w : Wd} {k : Int}
theorem turn_1 {r : List Bk} (hr : ROk r) (b e : Int) (b0 : 0 ≤ b) (be : b < e) (e1 : e ≤ sz r) (ht : ROk (pof r b e)) (h : WOk w k) (hk : k ≤ 600000) (s3 s5 s6 s7 s8 s10 s11 s12 s13 : Slot) :
    ∃ (t11 : Slot) (w' : Wd), b_law_L1 [.no, .im .mm, .im (.py (rD r)), s3, .im (.py (rD (pof r b e))), s5, s6, s7, s8, .im (.py (.int b)), s10, s11, s12, s13] w
      = .nx [.no, .im .mm, .im (.py (rD r)), s3, .im (.py (rD (pof r b e))), s5, s6, s7, s8, .im (.py (.int b)), s10, t11, s12, s13] w' ∧ WOk w' (k + 10) := by
  have ps := pof_sz hr b e b0 (by omega) e1
  obtain ⟨p, w1, d1, p0, p1, o1⟩ := R_spot ht (by omega) h (by omega)
  obtain ⟨c, g1, g2⟩ := F__law_mark hr (b + p) (by omega) (by omega) w1
  obtain ⟨c', g3, g4⟩ := F_mark_at ht p p0 p1 w1
  rw [mk_pof hr b e p b0 e1 p0 (by omega), g1] at g3
  cases g3
  have cb := mk_in hr.2 g1
  have l1 := like_1 (sh_int (i := c) (by omega)) w1
  refine ⟨.im (.py (.int p)), w1, ?_, o1.mono (by omega)⟩
  unfold b_law_L1
  simp (disch := omega) only [fnM, envOf, sSeq, sAsg, sRet, sIf, sNil, sOw, sApp, sExt, sAsg2, sAug, sDrop, sPar, sParO, sNever, mDf, mRng2, mRng3, seqOf, sRaise, asgN, asgs, asgT, mOp, mFn, mCons, mNil, mC, mVar, mB, mCh, mAndV, mOrV, mNotV, mTyIs, tyOf, mTup, mLst, mFz, mUn, pys, Re.bind, mCall, mNot, mAnd, mIf, mLc, mSeq, mRng1, mEn, mYes, noE, sFor, mIxO, mSl, mPart, fSl, List.map_cons, List.map_nil, Option.map_some, Option.map_none, List.length_cons, List.length_nil, List.length_map, List.replicate, List.cons_append, List.nil_append, List.append_nil, List.getElem?_cons_zero, List.getElem?_cons_succ, List.set_cons_zero, List.set_cons_succ, List.foldl_cons, List.foldl_nil, List.set, List.map_map, fI, fMul, fAdd, fMod, fDiv, fInt, fLen, fSum, fAll, fTup, fDivmod, fMax2, fMin2, fNeg, fBack, fIsB, fNotB, fIx, fCnt, mCnt, Re.cut, fIsN, fNotN, isN, Nat.reduceSub, Nat.reduceAdd, if_true, Bool.false_eq_true, if_false, reduceIte, decide_true, decide_false, Bool.not_true, Bool.not_false, Bool.and_true, Bool.true_and, reduceCtorEq, ifC_pos, eq_FI, d1, g2, g4, l1]
theorem turn_2 {r : List Bk} (hr : ROk r) (r1 : 1 ≤ sz r) (h : WOk w k) (hk : k ≤ 600000) (s4 s5 s6 s8 s9 s10 s11 s12 s13 : Slot) :
    ∃ (t11 : Slot) (w' : Wd), b_law_L2 [.no, .im .mm, .im (.py (rD r)), .im (.py (.int (sz r))), s4, s5, s6, .im (.py (rD (rev r))), s8, s9, s10, s11, s12, s13] w
      = .nx [.no, .im .mm, .im (.py (rD r)), .im (.py (.int (sz r))), s4, s5, s6, .im (.py (rD (rev r))), s8, s9, s10, t11, s12, s13] w' ∧ WOk w' (k + 10) := by
  have rs := rev_sz r fun b hb => (by have := (hr.2 b hb).t1; omega : 0 ≤ b.2)
  obtain ⟨p, w1, d1, p0, p1, o1⟩ := R_spot hr r1 h (by omega)
  obtain ⟨c, g1, g2⟩ := F__law_mark hr p p0 p1 w1
  obtain ⟨c', g3, g4⟩ := F_mark_at (rev_ok hr) (sz r - 1 - p) (by omega) (by omega) w1
  rw [mk_rev hr p p0 p1, g1] at g3
  cases g3
  have cb := mk_in hr.2 g1
  have l1 := like_1 (sh_int (i := c) (by omega)) w1
  refine ⟨.im (.py (.int p)), w1, ?_, o1.mono (by omega)⟩
  unfold b_law_L2
  simp (disch := omega) only [fnM, envOf, sSeq, sAsg, sRet, sIf, sNil, sOw, sApp, sExt, sAsg2, sAug, sDrop, sPar, sParO, sNever, mDf, mRng2, mRng3, seqOf, sRaise, asgN, asgs, asgT, mOp, mFn, mCons, mNil, mC, mVar, mB, mCh, mAndV, mOrV, mNotV, mTyIs, tyOf, mTup, mLst, mFz, mUn, pys, Re.bind, mCall, mNot, mAnd, mIf, mLc, mSeq, mRng1, mEn, mYes, noE, sFor, mIxO, mSl, mPart, fSl, List.map_cons, List.map_nil, Option.map_some, Option.map_none, List.length_cons, List.length_nil, List.length_map, List.replicate, List.cons_append, List.nil_append, List.append_nil, List.getElem?_cons_zero, List.getElem?_cons_succ, List.set_cons_zero, List.set_cons_succ, List.foldl_cons, List.foldl_nil, List.set, List.map_map, fI, fMul, fAdd, fMod, fDiv, fInt, fLen, fSum, fAll, fTup, fDivmod, fMax2, fMin2, fNeg, fBack, fIsB, fNotB, fIx, fCnt, mCnt, Re.cut, fIsN, fNotN, isN, Nat.reduceSub, Nat.reduceAdd, if_true, Bool.false_eq_true, if_false, reduceIte, decide_true, decide_false, Bool.not_true, Bool.not_false, Bool.and_true, Bool.true_and, reduceCtorEq, ifC_pos, eq_FI, d1, g2, g4, l1]
theorem loop_1 {r : List Bk} (hr : ROk r) (b e : Int) (b0 : 0 ≤ b) (be : b < e) (e1 : e ≤ sz r) (ht : ROk (pof r b e)) (h : WOk w k) (hk : k ≤ 500000) (s3 s5 s6 s7 s8 s10 s11 s12 s13 : Slot) :
    ∃ (t8 t11 : Slot) (w' : Wd), forL (asgN 8) b_law_L1 (upto 0 3) [.no, .im .mm, .im (.py (rD r)), s3, .im (.py (rD (pof r b e))), s5, s6, s7, s8, .im (.py (.int b)), s10, s11, s12, s13] w
      = .nx [.no, .im .mm, .im (.py (rD r)), s3, .im (.py (rD (pof r b e))), s5, s6, s7, t8, .im (.py (.int b)), s10, t11, s12, s13] w' ∧ WOk w' (k + 30) := by
  obtain ⟨r', w', e2, t8, t11, rfl, ok⟩ := forL_inv (asg := asgN 8) (body := b_law_L1) (fun i x w' => ∃ t8 t11 : Slot, x = [.no, .im .mm, .im (.py (rD r)), s3, .im (.py (rD (pof r b e))), s5, s6, s7, t8, .im (.py (.int b)), s10, t11, s12, s13] ∧ (i ≤ 3 → WOk w' (k + 10 * i)))
    (upto 0 3) 0 _ w ⟨s8, s11, rfl, fun _ => h.mono (by omega)⟩ (by
    rintro i d x w1 hi ⟨t8, t11, rfl, ok⟩
    simp only [Nat.zero_add] at ok ⊢
    have il : i < 3 := (List.getElem?_eq_some_iff.mp hi).1
    obtain ⟨u11, w2, e2, o2⟩ := turn_1 hr b e b0 be e1 ht (ok (by omega)) (by omega) s3 s5 s6 s7 (.im d) s10 t11 s12 s13
    exact ⟨_, _, w2, rfl, e2, _, _, rfl, fun _ => o2.mono (by push_cast; omega)⟩)
  have el : (upto 0 3).length = 3 := rfl
  rw [el] at ok
  exact ⟨t8, t11, w', e2, (ok (by omega)).mono (by omega)⟩
theorem loop_2 {r : List Bk} (hr : ROk r) (r1 : 1 ≤ sz r) (h : WOk w k) (hk : k ≤ 500000) (s4 s5 s6 s8 s9 s10 s11 s12 s13 : Slot) :
    ∃ (t8 t11 : Slot) (w' : Wd), forL (asgN 8) b_law_L2 (upto 0 3) [.no, .im .mm, .im (.py (rD r)), .im (.py (.int (sz r))), s4, s5, s6, .im (.py (rD (rev r))), s8, s9, s10, s11, s12, s13] w
      = .nx [.no, .im .mm, .im (.py (rD r)), .im (.py (.int (sz r))), s4, s5, s6, .im (.py (rD (rev r))), t8, s9, s10, t11, s12, s13] w' ∧ WOk w' (k + 30) := by
  obtain ⟨r', w', e2, t8, t11, rfl, ok⟩ := forL_inv (asg := asgN 8) (body := b_law_L2) (fun i x w' => ∃ t8 t11 : Slot, x = [.no, .im .mm, .im (.py (rD r)), .im (.py (.int (sz r))), s4, s5, s6, .im (.py (rD (rev r))), t8, s9, s10, t11, s12, s13] ∧ (i ≤ 3 → WOk w' (k + 10 * i)))
    (upto 0 3) 0 _ w ⟨s8, s11, rfl, fun _ => h.mono (by omega)⟩ (by
    rintro i d x w1 hi ⟨t8, t11, rfl, ok⟩
    simp only [Nat.zero_add] at ok ⊢
    have il : i < 3 := (List.getElem?_eq_some_iff.mp hi).1
    obtain ⟨u11, w2, e2, o2⟩ := turn_2 hr r1 (ok (by omega)) (by omega) s4 s5 s6 (.im d) s9 s10 t11 s12 s13
    exact ⟨_, _, w2, rfl, e2, _, _, rfl, fun _ => o2.mono (by push_cast; omega)⟩)
  have el : (upto 0 3).length = 3 := rfl
  rw [el] at ok
  exact ⟨t8, t11, w', e2, (ok (by omega)).mono (by omega)⟩
end
theorem srt_two (x y : Int) : srtI [x, y] = if x ≤ y then [x, y] else [y, x] := by
  show (if x ≤ y then x :: y :: [] else y :: insI x []) = _
  split <;> rfl
theorem told : Tells law_N b_law := by
  intro wd ok
  obtain ⟨r, w1, d1, hr, rl, o1⟩ := R_wide_row2 4 5 ok (by omega) (by decide) (by decide) (by decide) (by decide)
  have r1 := sz_one hr.2 rl.1
  have sb := sz_bd hr.2
  have rl5 := rl.2
  have d2 := F__law_size r w1 hr.1 (fun b hb => (hr.2 b hb).l2)
  obtain ⟨q1, w2, d3, q10, q11, o2⟩ := R_spot hr r1 o1 (by omega)
  obtain ⟨x, w3, d4, xin, o3⟩ := R_of [0, sz r, q1] o2 (by omega) (show 0 < 3 by decide) (show 3 ≤ 1000 by decide)
  obtain ⟨q2, w4, d5, q20, q21, o4⟩ := R_spot hr r1 o3 (by omega)
  obtain ⟨q3, w5, d6, q30, q31, o5⟩ := R_spot hr r1 o4 (by omega)
  obtain ⟨y, w6, d7, yin, o6⟩ := R_of [sz r, q2, q3] o5 (by omega) (show 0 < 3 by decide) (show 3 ≤ 1000 by decide)
  simp only [List.map_cons, List.map_nil] at d4 d7
  have xb : 0 ≤ x ∧ x ≤ sz r := by
    simp only [List.mem_cons, List.not_mem_nil, or_false] at xin
    omega
  have yb : 0 ≤ y ∧ y ≤ sz r := by
    simp only [List.mem_cons, List.not_mem_nil, or_false] at yin
    omega
  obtain ⟨b, e, hs, b0, be, e1⟩ : ∃ b e : Int, srtI [x, y] = [b, e] ∧ 0 ≤ b ∧ b ≤ e ∧ e ≤ sz r := by
    rw [srt_two]
    split
    · exact ⟨_, _, rfl, by omega, by omega, by omega⟩
    · exact ⟨_, _, rfl, by omega, by omega, by omega⟩
  have few := fun s e' => (pof_ok hr.2 s e').1
  have pk : ∀ s e', ROk (pof r s e') := fun s e' => ⟨by have := few s e'; omega, pof_B hr.2 s e'⟩
  have cut : ∀ s e' w, 0 ≤ s → s ≤ e' → e' ≤ sz r → f_cut_out [.py (rD r), .py (.int s), .py (.int e')] w = .rt (.py (rD (pof r s e'))) w := fun s e' w h1 h2 h3 => by
    have := F_cut hr s e' h1 h2 h3 w
    rw [if_pos (pk s e').1] at this
    exact this
  have d8 := cut b e w6 b0 be e1
  have d9 := F__law_piece2 hr b e w6
  have d10 := like_1 (sh_rD (pk b e)) w6
  have d11 := F_length_of (pk b e) w6
  rw [pof_sz hr b e b0 be e1] at d11
  have sl := fl_len fun b hb => (by have := (hr.2 b hb).t1; omega : 0 ≤ b.2)
  have hsr : fSorted [.py (.list [.int x, .int y])] = some [.int b, .int e] := by
    have : fSorted [.py (.list [.int x, .int y])] = some ((srtI [x, y]).map PyData.int) := rfl
    rw [this, hs]
    rfl
  have A : ∃ (t8 t11 : Slot) (w7 : Wd), (sIf (mB (mOp fLt (mVar 9) (mVar 10))) (sFor (asgN 8) (mRng1 (mCons (mC (.py (.int 3))) (mNil))) (b_law_L1)) (sNil)) [.no, .im .mm, .im (.py (rD r)), .im (.py (.int (sz r))), .im (.py (rD (pof r b e))), .no, .no, .no, .no, .im (.py (.int b)), .im (.py (.int e)), .no, .no, .no] w6
      = .nx [.no, .im .mm, .im (.py (rD r)), .im (.py (.int (sz r))), .im (.py (rD (pof r b e))), .no, .no, .no, t8, .im (.py (.int b)), .im (.py (.int e)), t11, .no, .no] w7 ∧ WOk w7 (0 + 3000 + 6 + 1 + 6 + 6 + 1 + 30) := by
    by_cases c : b < e
    · have cd : decide (b < e) = true := decide_eq_true c
      obtain ⟨t8, t11, w7, e2, o7⟩ := loop_1 hr b e b0 c e1 (pk b e) o6 (by omega) (.im (.py (.int (sz r)))) .no .no .no .no (.im (.py (.int e))) .no .no .no
      have u3 : upto 0 (3 : Int).toNat = upto 0 3 := rfl
      refine ⟨t8, t11, w7, ?_, o7⟩
      simp (disch := omega) only [fnM, envOf, sSeq, sAsg, sRet, sIf, sNil, sOw, sApp, sExt, sAsg2, sAug, sDrop, sPar, sParO, sNever, mDf, mRng2, mRng3, seqOf, sRaise, asgN, asgs, asgT, mOp, mFn, mCons, mNil, mC, mVar, mB, mCh, mAndV, mOrV, mNotV, mTyIs, tyOf, mTup, mLst, mFz, mUn, pys, Re.bind, mCall, mNot, mAnd, mIf, mLc, mSeq, mRng1, mEn, mYes, noE, sFor, mIxO, mSl, mPart, fSl, List.map_cons, List.map_nil, Option.map_some, Option.map_none, List.length_cons, List.length_nil, List.length_map, List.replicate, List.cons_append, List.nil_append, List.append_nil, List.getElem?_cons_zero, List.getElem?_cons_succ, List.set_cons_zero, List.set_cons_succ, List.foldl_cons, List.foldl_nil, List.set, List.map_map, fI, fMul, fAdd, fMod, fDiv, fInt, fLen, fSum, fAll, fTup, fDivmod, fMax2, fMin2, fNeg, fBack, fIsB, fNotB, fIx, fCnt, mCnt, Re.cut, fIsN, fNotN, isN, Nat.reduceSub, Nat.reduceAdd, if_true, Bool.false_eq_true, if_false, reduceIte, decide_true, decide_false, Bool.not_true, Bool.not_false, Bool.and_true, Bool.true_and, reduceCtorEq, ifC_pos, eq_FI, cd, u3, e2]
    · have cd : decide (b < e) = false := decide_eq_false c
      refine ⟨.no, .no, w6, ?_, o6.mono (by omega)⟩
      simp (disch := omega) only [fnM, envOf, sSeq, sAsg, sRet, sIf, sNil, sOw, sApp, sExt, sAsg2, sAug, sDrop, sPar, sParO, sNever, mDf, mRng2, mRng3, seqOf, sRaise, asgN, asgs, asgT, mOp, mFn, mCons, mNil, mC, mVar, mB, mCh, mAndV, mOrV, mNotV, mTyIs, tyOf, mTup, mLst, mFz, mUn, pys, Re.bind, mCall, mNot, mAnd, mIf, mLc, mSeq, mRng1, mEn, mYes, noE, sFor, mIxO, mSl, mPart, fSl, List.map_cons, List.map_nil, Option.map_some, Option.map_none, List.length_cons, List.length_nil, List.length_map, List.replicate, List.cons_append, List.nil_append, List.append_nil, List.getElem?_cons_zero, List.getElem?_cons_succ, List.set_cons_zero, List.set_cons_succ, List.foldl_cons, List.foldl_nil, List.set, List.map_map, fI, fMul, fAdd, fMod, fDiv, fInt, fLen, fSum, fAll, fTup, fDivmod, fMax2, fMin2, fNeg, fBack, fIsB, fNotB, fIx, fCnt, mCnt, Re.cut, fIsN, fNotN, isN, Nat.reduceSub, Nat.reduceAdd, if_true, Bool.false_eq_true, if_false, reduceIte, decide_true, decide_false, Bool.not_true, Bool.not_false, Bool.and_true, Bool.true_and, reduceCtorEq, ifC_pos, eq_FI, cd]
  obtain ⟨t8, t11, w7, hA, o7⟩ := A
  have u3 : upto 0 (3 : Int).toNat = upto 0 3 := rfl
  simp (disch := omega) only [fnM, envOf, sSeq, sAsg, sRet, sIf, sNil, sOw, sApp, sExt, sAsg2, sAug, sDrop, sPar, sParO, sNever, mDf, mRng2, mRng3, seqOf, sRaise, asgN, asgs, asgT, mOp, mFn, mCons, mNil, mC, mVar, mB, mCh, mAndV, mOrV, mNotV, mTyIs, tyOf, mTup, mLst, mFz, mUn, pys, Re.bind, mCall, mNot, mAnd, mIf, mLc, mSeq, mRng1, mEn, mYes, noE, sFor, mIxO, mSl, mPart, fSl, List.map_cons, List.map_nil, Option.map_some, Option.map_none, List.length_cons, List.length_nil, List.length_map, List.replicate, List.cons_append, List.nil_append, List.append_nil, List.getElem?_cons_zero, List.getElem?_cons_succ, List.set_cons_zero, List.set_cons_succ, List.foldl_cons, List.foldl_nil, List.set, List.map_map, fI, fMul, fAdd, fMod, fDiv, fInt, fLen, fSum, fAll, fTup, fDivmod, fMax2, fMin2, fNeg, fBack, fIsB, fNotB, fIx, fCnt, mCnt, Re.cut, fIsN, fNotN, isN, Nat.reduceSub, Nat.reduceAdd, if_true, Bool.false_eq_true, if_false, reduceIte, decide_true, decide_false, Bool.not_true, Bool.not_false, Bool.and_true, Bool.true_and, reduceCtorEq, ifC_pos, eq_FI, u3] at hA
  have p0 := cut 0 b w7 (Int.le_refl 0) b0 (by omega)
  have p2 := cut e (sz r) w7 (by omega) e1 (Int.le_refl _)
  have l0 := few 0 b
  have l1 := few b e
  have l2 := few e (sz r)
  have k01 : ROk (pof r 0 b ++ pof r b e) := ⟨by rw [List.length_append]; omega, fun c hc => by
    rcases List.mem_append.mp hc with z | z
    · exact (pk 0 b).2 c z
    · exact (pk b e).2 c z⟩
  have kw : ROk (pof r 0 b ++ pof r b e ++ pof r e (sz r)) := ⟨by rw [List.length_append, List.length_append]; omega, fun c hc => by
    rcases List.mem_append.mp hc with z | z
    · exact k01.2 c z
    · exact (pk e (sz r)).2 c z⟩
  have j1 := F_joined (pk 0 b) (pk b e) w7
  rw [if_pos k01.1] at j1
  have j2 := F_joined k01 (pk e (sz r)) w7
  rw [if_pos kw.1] at j2
  have j3 := like_1 (sh_rD kw) w7
  have fw : fl (pof r 0 b ++ pof r b e ++ pof r e (sz r)) = fl r := by
    rw [fl_app, fl_app, pof_fl hr.2, pof_fl hr.2, pof_fl hr.2]
    have := sg_cut (fl r) b e b0 be (by omega)
    rw [sl] at this
    exact this
  have j4 := F_read_alike kw hr w7
  rw [fw, fpt_self, Option.isNone_none] at j4
  have j5 := F_turned hr w7
  have j6 := like_1 (sh_rD (rev_ok hr)) w7
  obtain ⟨u8, u11, w8, e8, o8⟩ := loop_2 hr r1 o7 (by omega) (.im (.py (rD (pof r b e)))) (.im (.py (.list [rD (pof r 0 b), rD (pof r b e), rD (pof r e (sz r))]))) (.im (.py (rD (pof r 0 b ++ pof r b e ++ pof r e (sz r))))) t8 (.im (.py (.int b))) (.im (.py (.int e))) t11 .no .no
  have m1 := F_turned (rev_ok hr) w8
  rw [rev_rev] at m1
  have hn : ROk [] := ⟨by simp, fun b hb => (by cases hb)⟩
  have m2 : f_turned_about [.py (.tuple [])] w8 = .rt (.py (.tuple [])) w8 := F_turned hn w8
  have m3 := cut e e w8 (by omega) (Int.le_refl _) e1
  rw [pof_nil] at m3
  have m3' : f_cut_out [.py (rD r), .py (.int e), .py (.int e)] w8 = .rt (.py (.tuple [])) w8 := m3
  have m4 := like_L (xs := [rD r, .tuple [], .tuple []]) (fun z hz => by
    simp only [List.mem_cons, List.not_mem_nil, or_false] at hz
    rcases hz with q | q | q <;> rw [q] <;> first | exact sh_rD hr | exact sh_nil) (show 3 ≤ 4 by decide) w8
  obtain ⟨w9, m5⟩ := F_limits hr o8 (by omega)
  have er : (r.map bD).reverse = r.reverse.map bD := List.map_reverse.symm
  have lc : ∀ (s4 s5 s6 s7 s8 s9 s10 s11 : Slot), lcL (asgT [12, 13]) mYes (mTup (mCons (mUn fBack (mVar 12)) (mCons (mVar 13) mNil))) [12, 13] (r.reverse.map (D.py ∘ bD)) [] [.no, .im .mm, .im (.py (rD r)), .im (.py (.int (sz r))), s4, s5, s6, s7, s8, s9, s10, s11, .no, .no] w7
      = .ok ((rev r).map bD) [.no, .im .mm, .im (.py (rD r)), .im (.py (.int (sz r))), s4, s5, s6, s7, s8, s9, s10, s11, .no, .no] w7 := by
    intro s4 s5 s6 s7 s8 s9 s10 s11
    rw [lc_over1 (F := D.py ∘ bD) (g := fun b : Bk => bD (b.1.reverse, b.2)) (xs := r.reverse) _ (by rw [List.length_reverse]; have := hr.1; simp only [List.length_nil]; omega) ?_]
    · unfold rev
      rw [List.map_map]
      rfl
    · intro b hb
      refine ⟨_, rfl, ?_, rfl⟩
      simp (disch := omega) only [fnM, envOf, sSeq, sAsg, sRet, sIf, sNil, sOw, sApp, sExt, sAsg2, sAug, sDrop, sPar, sParO, sNever, mDf, mRng2, mRng3, seqOf, sRaise, asgN, asgs, asgT, mOp, mFn, mCons, mNil, mC, mVar, mB, mCh, mAndV, mOrV, mNotV, mTyIs, tyOf, mTup, mLst, mFz, mUn, pys, Re.bind, mCall, mNot, mAnd, mIf, mLc, mSeq, mRng1, mEn, mYes, noE, sFor, mIxO, mSl, mPart, fSl, List.map_cons, List.map_nil, Option.map_some, Option.map_none, List.length_cons, List.length_nil, List.length_map, List.replicate, List.cons_append, List.nil_append, List.append_nil, List.getElem?_cons_zero, List.getElem?_cons_succ, List.set_cons_zero, List.set_cons_succ, List.foldl_cons, List.foldl_nil, List.set, List.map_map, fI, fMul, fAdd, fMod, fDiv, fInt, fLen, fSum, fAll, fTup, fDivmod, fMax2, fMin2, fNeg, fBack, fIsB, fNotB, fIx, fCnt, mCnt, Re.cut, fIsN, fNotN, isN, Nat.reduceSub, Nat.reduceAdd, if_true, Bool.false_eq_true, if_false, reduceIte, decide_true, decide_false, Bool.not_true, Bool.not_false, Bool.and_true, Bool.true_and, reduceCtorEq, ifC_pos, eq_FI, tI, tI_rev, bD]
  have u3 : upto 0 (3 : Int).toNat = upto 0 3 := rfl
  refine ⟨w9, ?_⟩
  show b_law [.no, .im .mm, .no, .no, .no, .no, .no, .no, .no, .no, .no, .no, .no, .no] wd = _
  unfold b_law
  have g0 : ∀ a b c : PyData, atI [a, b, c] 0 = some a := fun _ _ _ => rfl
  have g1 : ∀ a b c : PyData, atI [a, b, c] 1 = some b := fun _ _ _ => rfl
  have g2 : ∀ a b c : PyData, atI [a, b, c] 2 = some c := fun _ _ _ => rfl
  have cat : ∀ a b : List Bk, a.length + b.length ≤ 1000 → fAdd (.py (rD a)) (.py (rD b)) = some (.py (rD (a ++ b))) := fun a b hab => by
    unfold rD
    simp (disch := omega) only [fnM, envOf, sSeq, sAsg, sRet, sIf, sNil, sOw, sApp, sExt, sAsg2, sAug, sDrop, sPar, sParO, sNever, mDf, mRng2, mRng3, seqOf, sRaise, asgN, asgs, asgT, mOp, mFn, mCons, mNil, mC, mVar, mB, mCh, mAndV, mOrV, mNotV, mTyIs, tyOf, mTup, mLst, mFz, mUn, pys, Re.bind, mCall, mNot, mAnd, mIf, mLc, mSeq, mRng1, mEn, mYes, noE, sFor, mIxO, mSl, mPart, fSl, List.map_cons, List.map_nil, Option.map_some, Option.map_none, List.length_cons, List.length_nil, List.length_map, List.replicate, List.cons_append, List.nil_append, List.append_nil, List.getElem?_cons_zero, List.getElem?_cons_succ, List.set_cons_zero, List.set_cons_succ, List.foldl_cons, List.foldl_nil, List.set, List.map_map, fI, fMul, fAdd, fMod, fDiv, fInt, fLen, fSum, fAll, fTup, fDivmod, fMax2, fMin2, fNeg, fBack, fIsB, fNotB, fIx, fCnt, mCnt, Re.cut, fIsN, fNotN, isN, Nat.reduceSub, Nat.reduceAdd, if_true, Bool.false_eq_true, if_false, reduceIte, decide_true, decide_false, Bool.not_true, Bool.not_false, Bool.and_true, Bool.true_and, reduceCtorEq, ifC_pos, eq_FI, List.map_append]
  have cat1 := cat (pof r 0 b) (pof r b e) (by omega)
  have cat2 := cat (pof r 0 b ++ pof r b e) (pof r e (sz r)) (by rw [List.length_append]; omega)
  have s1 : fBack (.py (rD r)) = some (.py (.tuple ((r.reverse).map bD))) := by unfold rD; simp (disch := omega) only [fnM, envOf, sSeq, sAsg, sRet, sIf, sNil, sOw, sApp, sExt, sAsg2, sAug, sDrop, sPar, sParO, sNever, mDf, mRng2, mRng3, seqOf, sRaise, asgN, asgs, asgT, mOp, mFn, mCons, mNil, mC, mVar, mB, mCh, mAndV, mOrV, mNotV, mTyIs, tyOf, mTup, mLst, mFz, mUn, pys, Re.bind, mCall, mNot, mAnd, mIf, mLc, mSeq, mRng1, mEn, mYes, noE, sFor, mIxO, mSl, mPart, fSl, List.map_cons, List.map_nil, Option.map_some, Option.map_none, List.length_cons, List.length_nil, List.length_map, List.replicate, List.cons_append, List.nil_append, List.append_nil, List.getElem?_cons_zero, List.getElem?_cons_succ, List.set_cons_zero, List.set_cons_succ, List.foldl_cons, List.foldl_nil, List.set, List.map_map, fI, fMul, fAdd, fMod, fDiv, fInt, fLen, fSum, fAll, fTup, fDivmod, fMax2, fMin2, fNeg, fBack, fIsB, fNotB, fIx, fCnt, mCnt, Re.cut, fIsN, fNotN, isN, Nat.reduceSub, Nat.reduceAdd, if_true, Bool.false_eq_true, if_false, reduceIte, decide_true, decide_false, Bool.not_true, Bool.not_false, Bool.and_true, Bool.true_and, reduceCtorEq, ifC_pos, eq_FI, er]
  have erd : PyData.tuple ((rev r).map bD) = rD (rev r) := rfl
  simp (disch := omega) only [fnM, envOf, sSeq, sAsg, sRet, sIf, sNil, sOw, sApp, sExt, sAsg2, sAug, sDrop, sPar, sParO, sNever, mDf, mRng2, mRng3, seqOf, sRaise, asgN, asgs, asgT, mOp, mFn, mCons, mNil, mC, mVar, mB, mCh, mAndV, mOrV, mNotV, mTyIs, tyOf, mTup, mLst, mFz, mUn, pys, Re.bind, mCall, mNot, mAnd, mIf, mLc, mSeq, mRng1, mEn, mYes, noE, sFor, mIxO, mSl, mPart, fSl, List.map_cons, List.map_nil, Option.map_some, Option.map_none, List.length_cons, List.length_nil, List.length_map, List.replicate, List.cons_append, List.nil_append, List.append_nil, List.getElem?_cons_zero, List.getElem?_cons_succ, List.set_cons_zero, List.set_cons_succ, List.foldl_cons, List.foldl_nil, List.set, List.map_map, fI, fMul, fAdd, fMod, fDiv, fInt, fLen, fSum, fAll, fTup, fDivmod, fMax2, fMin2, fNeg, fBack, fIsB, fNotB, fIx, fCnt, mCnt, Re.cut, fIsN, fNotN, isN, Nat.reduceSub, Nat.reduceAdd, if_true, Bool.false_eq_true, if_false, reduceIte, decide_true, decide_false, Bool.not_true, Bool.not_false, Bool.and_true, Bool.true_and, reduceCtorEq, ifC_pos, eq_FI] at cat1
  simp (disch := omega) only [fnM, envOf, sSeq, sAsg, sRet, sIf, sNil, sOw, sApp, sExt, sAsg2, sAug, sDrop, sPar, sParO, sNever, mDf, mRng2, mRng3, seqOf, sRaise, asgN, asgs, asgT, mOp, mFn, mCons, mNil, mC, mVar, mB, mCh, mAndV, mOrV, mNotV, mTyIs, tyOf, mTup, mLst, mFz, mUn, pys, Re.bind, mCall, mNot, mAnd, mIf, mLc, mSeq, mRng1, mEn, mYes, noE, sFor, mIxO, mSl, mPart, fSl, List.map_cons, List.map_nil, Option.map_some, Option.map_none, List.length_cons, List.length_nil, List.length_map, List.replicate, List.cons_append, List.nil_append, List.append_nil, List.getElem?_cons_zero, List.getElem?_cons_succ, List.set_cons_zero, List.set_cons_succ, List.foldl_cons, List.foldl_nil, List.set, List.map_map, fI, fMul, fAdd, fMod, fDiv, fInt, fLen, fSum, fAll, fTup, fDivmod, fMax2, fMin2, fNeg, fBack, fIsB, fNotB, fIx, fCnt, mCnt, Re.cut, fIsN, fNotN, isN, Nat.reduceSub, Nat.reduceAdd, if_true, Bool.false_eq_true, if_false, reduceIte, decide_true, decide_false, Bool.not_true, Bool.not_false, Bool.and_true, Bool.true_and, reduceCtorEq, ifC_pos, eq_FI] at cat2
  simp (disch := omega) only [fnM, envOf, sSeq, sAsg, sRet, sIf, sNil, sOw, sApp, sExt, sAsg2, sAug, sDrop, sPar, sParO, sNever, mDf, mRng2, mRng3, seqOf, sRaise, asgN, asgs, asgT, mOp, mFn, mCons, mNil, mC, mVar, mB, mCh, mAndV, mOrV, mNotV, mTyIs, tyOf, mTup, mLst, mFz, mUn, pys, Re.bind, mCall, mNot, mAnd, mIf, mLc, mSeq, mRng1, mEn, mYes, noE, sFor, mIxO, mSl, mPart, fSl, List.map_cons, List.map_nil, Option.map_some, Option.map_none, List.length_cons, List.length_nil, List.length_map, List.replicate, List.cons_append, List.nil_append, List.append_nil, List.getElem?_cons_zero, List.getElem?_cons_succ, List.set_cons_zero, List.set_cons_succ, List.foldl_cons, List.foldl_nil, List.set, List.map_map, fI, fMul, fAdd, fMod, fDiv, fInt, fLen, fSum, fAll, fTup, fDivmod, fMax2, fMin2, fNeg, fBack, fIsB, fNotB, fIx, fCnt, mCnt, Re.cut, fIsN, fNotN, isN, Nat.reduceSub, Nat.reduceAdd, if_true, Bool.false_eq_true, if_false, reduceIte, decide_true, decide_false, Bool.not_true, Bool.not_false, Bool.and_true, Bool.true_and, reduceCtorEq, ifC_pos, eq_FI] at s1
  simp (disch := omega) only [fnM, envOf, sSeq, sAsg, sRet, sIf, sNil, sOw, sApp, sExt, sAsg2, sAug, sDrop, sPar, sParO, sNever, mDf, mRng2, mRng3, seqOf, sRaise, asgN, asgs, asgT, mOp, mFn, mCons, mNil, mC, mVar, mB, mCh, mAndV, mOrV, mNotV, mTyIs, tyOf, mTup, mLst, mFz, mUn, pys, Re.bind, mCall, mNot, mAnd, mIf, mLc, mSeq, mRng1, mEn, mYes, noE, sFor, mIxO, mSl, mPart, fSl, List.map_cons, List.map_nil, Option.map_some, Option.map_none, List.length_cons, List.length_nil, List.length_map, List.replicate, List.cons_append, List.nil_append, List.append_nil, List.getElem?_cons_zero, List.getElem?_cons_succ, List.set_cons_zero, List.set_cons_succ, List.foldl_cons, List.foldl_nil, List.set, List.map_map, fI, fMul, fAdd, fMod, fDiv, fInt, fLen, fSum, fAll, fTup, fDivmod, fMax2, fMin2, fNeg, fBack, fIsB, fNotB, fIx, fCnt, mCnt, Re.cut, fIsN, fNotN, isN, Nat.reduceSub, Nat.reduceAdd, if_true, Bool.false_eq_true, if_false, reduceIte, decide_true, decide_false, Bool.not_true, Bool.not_false, Bool.and_true, Bool.true_and, reduceCtorEq, ifC_pos, eq_FI, f__law_draw, d1, d2, d3, d4, d5, d6, d7, mFnF, hsr, d8, d9, d10, d11, ne_FI, hA, p0, p2, g0, g1, g2, j1, j2, j3, j4, cat1, cat2, j5, j6, s1, lc, erd, mOr, u3, e8, m1, m2, m3', m4, m5]
end Mi

namespace Mi
open PySem PySem.Spec PyProof.Rows L2

theorem facts {P : Program} {w : World} {K : PySem.W.Frag} {h : Heap} {mg : Str → Option Value} {f : Addr} (t : Tells law_N b_law) (X : K.In h) (G : h.Ns mainGlobals mg) (hfa : mg ("law" : Str) = some (.ref f)) (cc : SaysE fas fns exs K) :
    ∃ fd : FuncData, (∀ (s : Shared) (v : Value), BindsTo s fd ⟨[v], []⟩ [("script", v)]) ∧ ∀ base : Heap, K.In base → base.Ns mainGlobals mg → FnG P w K mg base 7 f fd ["script"] (spLaw K) := by
  obtain ⟨c, cx⟩ := cc
  have g : G0 mg := ⟨He.free_ok X G (c.fact 40 (f := .free "all") rfl), He.free_ok X G (c.fact 41 (f := .free "divmod") rfl), He.free_ok X G (c.fact 42 (f := .free "enumerate") rfl), He.free_ok X G (c.fact 43 (f := .free "int") rfl), He.free_ok X G (c.fact 44 (f := .free "len") rfl), He.free_ok X G (c.fact 45 (f := .free "max") rfl), He.free_ok X G (c.fact 46 (f := .free "min") rfl), He.free_ok X G (c.fact 47 (f := .free "range") rfl), He.free_ok X G (c.fact 48 (f := .free "repr") rfl), He.free_ok X G (c.fact 49 (f := .free "sorted") rfl), He.free_ok X G (c.fact 50 (f := .free "sum") rfl), He.free_ok X G (c.fact 51 (f := .free "tuple") rfl), He.free_ok X G (c.fact 52 (f := .free "type") rfl), He.int_ok X G (c.fact 54 (f := .int "MOST_BLOCKS" (60)) rfl), He.int_ok X G (c.fact 53 (f := .int "MOST_TIMES" (1000000000000000000000000000000)) rfl)⟩
  have a_entry_count : DefAt K mg "entry_count" (top 1) := by
    obtain ⟨fd, F⟩ := c.def_ 0 (d := d_entry_count) rfl
    exact ⟨_, fd, F, He.glo_ok X G (c.fact 0 (f := .glo "entry_count") rfl)⟩
  have a_entry_mark : DefAt K mg "entry_mark" (top 2) := by
    obtain ⟨fd, F⟩ := c.def_ 1 (d := d_entry_mark) rfl
    exact ⟨_, fd, F, He.glo_ok X G (c.fact 1 (f := .glo "entry_mark") rfl)⟩
  have a_block_part : DefAt K mg "block_part" (top 3) := by
    obtain ⟨fd, F⟩ := c.def_ 2 (d := d_block_part) rfl
    exact ⟨_, fd, F, He.glo_ok X G (c.fact 2 (f := .glo "block_part") rfl)⟩
  have a_part_of : DefAt K mg "part_of" (top 4) := by
    obtain ⟨fd, F⟩ := c.def_ 3 (d := d_part_of) rfl
    exact ⟨_, fd, F, He.glo_ok X G (c.fact 3 (f := .glo "part_of") rfl)⟩
  have a_from_the_end : DefAt K mg "from_the_end" (top 5) := by
    obtain ⟨fd, F⟩ := c.def_ 4 (d := d_from_the_end) rfl
    exact ⟨_, fd, F, He.glo_ok X G (c.fact 4 (f := .glo "from_the_end") rfl)⟩
  have a_unlike_offset : DefAt K mg "unlike_offset" (top 6) := by
    obtain ⟨fd, F⟩ := c.def_ 5 (d := d_unlike_offset) rfl
    exact ⟨_, fd, F, He.glo_ok X G (c.fact 5 (f := .glo "unlike_offset") rfl)⟩
  have a_first_parting : DefAt K mg "first_parting" (top 7) := by
    obtain ⟨fd, F⟩ := c.def_ 6 (d := d_first_parting) rfl
    exact ⟨_, fd, F, He.glo_ok X G (c.fact 6 (f := .glo "first_parting") rfl)⟩
  have a_is_whole : DefAt K mg "is_whole" (top 10) := by
    obtain ⟨fd, F⟩ := c.def_ 7 (d := d_is_whole) rfl
    exact ⟨_, fd, F, He.glo_ok X G (c.fact 7 (f := .glo "is_whole") rfl)⟩
  have a_is_tuple : DefAt K mg "is_tuple" (top 11) := by
    obtain ⟨fd, F⟩ := c.def_ 8 (d := d_is_tuple) rfl
    exact ⟨_, fd, F, He.glo_ok X G (c.fact 8 (f := .glo "is_tuple") rfl)⟩
  have a_are_whole : DefAt K mg "are_whole" (top 12) := by
    obtain ⟨fd, F⟩ := c.def_ 9 (d := d_are_whole) rfl
    exact ⟨_, fd, F, He.glo_ok X G (c.fact 9 (f := .glo "are_whole") rfl)⟩
  have a_is_block : DefAt K mg "is_block" (top 13) := by
    obtain ⟨fd, F⟩ := c.def_ 10 (d := d_is_block) rfl
    exact ⟨_, fd, F, He.glo_ok X G (c.fact 10 (f := .glo "is_block") rfl)⟩
  have a_need_entry : DefAt K mg "need_entry" (top 20) := by
    obtain ⟨fd, F⟩ := c.def_ 11 (d := d_need_entry) rfl
    exact ⟨_, fd, F, He.glo_ok X G (c.fact 11 (f := .glo "need_entry") rfl)⟩
  have a_need_border : DefAt K mg "need_border" (top 21) := by
    obtain ⟨fd, F⟩ := c.def_ 12 (d := d_need_border) rfl
    exact ⟨_, fd, F, He.glo_ok X G (c.fact 12 (f := .glo "need_border") rfl)⟩
  have a_need_row : DefAt K mg "need_row" (top 24) := by
    obtain ⟨fd, F⟩ := c.def_ 13 (d := d_need_row) rfl
    exact ⟨_, fd, F, He.glo_ok X G (c.fact 13 (f := .glo "need_row") rfl)⟩
  have a_length_of : DefAt K mg "length_of" (top 25) := by
    obtain ⟨fd, F⟩ := c.def_ 14 (d := d_length_of) rfl
    exact ⟨_, fd, F, He.glo_ok X G (c.fact 14 (f := .glo "length_of") rfl)⟩
  have a_mark_at : DefAt K mg "mark_at" (top 26) := by
    obtain ⟨fd, F⟩ := c.def_ 15 (d := d_mark_at) rfl
    exact ⟨_, fd, F, He.glo_ok X G (c.fact 15 (f := .glo "mark_at") rfl)⟩
  have a_few_blocks : DefAt K mg "few_blocks" (top 28) := by
    obtain ⟨fd, F⟩ := c.def_ 16 (d := d_few_blocks) rfl
    exact ⟨_, fd, F, He.glo_ok X G (c.fact 16 (f := .glo "few_blocks") rfl)⟩
  have a_cut_out : DefAt K mg "cut_out" (top 29) := by
    obtain ⟨fd, F⟩ := c.def_ 17 (d := d_cut_out) rfl
    exact ⟨_, fd, F, He.glo_ok X G (c.fact 17 (f := .glo "cut_out") rfl)⟩
  have a_rows_joined : DefAt K mg "rows_joined" (top 30) := by
    obtain ⟨fd, F⟩ := c.def_ 18 (d := d_rows_joined) rfl
    exact ⟨_, fd, F, He.glo_ok X G (c.fact 18 (f := .glo "rows_joined") rfl)⟩
  have a_turned_about : DefAt K mg "turned_about" (top 31) := by
    obtain ⟨fd, F⟩ := c.def_ 19 (d := d_turned_about) rfl
    exact ⟨_, fd, F, He.glo_ok X G (c.fact 19 (f := .glo "turned_about") rfl)⟩
  have a_read_alike : DefAt K mg "read_alike" (top 33) := by
    obtain ⟨fd, F⟩ := c.def_ 20 (d := d_read_alike) rfl
    exact ⟨_, fd, F, He.glo_ok X G (c.fact 20 (f := .glo "read_alike") rfl)⟩
  have a__law_mixed : DefAt K mg "_law_mixed" (top 35) := by
    obtain ⟨fd, F⟩ := c.def_ 21 (d := d__law_mixed) rfl
    exact ⟨_, fd, F, He.glo_ok X G (c.fact 21 (f := .glo "_law_mixed") rfl)⟩
  have a__law_folded : DefAt K mg "_law_folded" (top 36) := by
    obtain ⟨fd, F⟩ := c.def_ 22 (d := d__law_folded) rfl
    exact ⟨_, fd, F, He.glo_ok X G (c.fact 22 (f := .glo "_law_folded") rfl)⟩
  have a__law_draw : DefAt K mg "_law_draw" (top 37) := by
    obtain ⟨fd, F⟩ := c.def_ 23 (d := d__law_draw) rfl
    exact ⟨_, fd, F, He.glo_ok X G (c.fact 23 (f := .glo "_law_draw") rfl)⟩
  have a__law_begun : DefAt K mg "_law_begun" (top 38) := by
    obtain ⟨fd, F⟩ := c.def_ 24 (d := d__law_begun) rfl
    exact ⟨_, fd, F, He.glo_ok X G (c.fact 24 (f := .glo "_law_begun") rfl)⟩
  have a__law_like : DefAt K mg "_law_like" (top 39) := by
    obtain ⟨fd, F⟩ := c.def_ 25 (d := d__law_like) rfl
    exact ⟨_, fd, F, He.glo_ok X G (c.fact 25 (f := .glo "_law_like") rfl)⟩
  have a__law_of : DefAt K mg "_law_of" (top 40) := by
    obtain ⟨fd, F⟩ := c.def_ 26 (d := d__law_of) rfl
    exact ⟨_, fd, F, He.glo_ok X G (c.fact 26 (f := .glo "_law_of") rfl)⟩
  have a__law_tens : DefAt K mg "_law_tens" (top 41) := by
    obtain ⟨fd, F⟩ := c.def_ 27 (d := d__law_tens) rfl
    exact ⟨_, fd, F, He.glo_ok X G (c.fact 27 (f := .glo "_law_tens") rfl)⟩
  have a__law_times : DefAt K mg "_law_times" (top 42) := by
    obtain ⟨fd, F⟩ := c.def_ 28 (d := d__law_times) rfl
    exact ⟨_, fd, F, He.glo_ok X G (c.fact 28 (f := .glo "_law_times") rfl)⟩
  have a__law_wide_row : DefAt K mg "_law_wide_row" (top 43) := by
    obtain ⟨fd, F⟩ := c.def_ 29 (d := d__law_wide_row) rfl
    exact ⟨_, fd, F, He.glo_ok X G (c.fact 29 (f := .glo "_law_wide_row") rfl)⟩
  have a__law_size : DefAt K mg "_law_size" (top 44) := by
    obtain ⟨fd, F⟩ := c.def_ 30 (d := d__law_size) rfl
    exact ⟨_, fd, F, He.glo_ok X G (c.fact 30 (f := .glo "_law_size") rfl)⟩
  have a__law_mark : DefAt K mg "_law_mark" (top 45) := by
    obtain ⟨fd, F⟩ := c.def_ 31 (d := d__law_mark) rfl
    exact ⟨_, fd, F, He.glo_ok X G (c.fact 31 (f := .glo "_law_mark") rfl)⟩
  have a__law_piece : DefAt K mg "_law_piece" (top 46) := by
    obtain ⟨fd, F⟩ := c.def_ 32 (d := d__law_piece) rfl
    exact ⟨_, fd, F, He.glo_ok X G (c.fact 32 (f := .glo "_law_piece") rfl)⟩
  have a__law_below : DefAt K mg "_law_below" (top 47) := by
    obtain ⟨fd, F⟩ := c.def_ 33 (d := d__law_below) rfl
    exact ⟨_, fd, F, He.glo_ok X G (c.fact 33 (f := .glo "_law_below") rfl)⟩
  have a__law_borders : DefAt K mg "_law_borders" (top 48) := by
    obtain ⟨fd, F⟩ := c.def_ 34 (d := d__law_borders) rfl
    exact ⟨_, fd, F, He.glo_ok X G (c.fact 34 (f := .glo "_law_borders") rfl)⟩
  have a__law_spot : DefAt K mg "_law_spot" (top 49) := by
    obtain ⟨fd, F⟩ := c.def_ 35 (d := d__law_spot) rfl
    exact ⟨_, fd, F, He.glo_ok X G (c.fact 35 (f := .glo "_law_spot") rfl)⟩
  have a__law_refused : DefAt K mg "_law_refused" (top 50) := by
    obtain ⟨fd, F⟩ := c.def_ 36 (d := d__law_refused) rfl
    exact ⟨_, fd, F, He.glo_ok X G (c.fact 36 (f := .glo "_law_refused") rfl)⟩
  have a__law_limits_right : DefAt K mg "_law_limits_right" (top 51) := by
    obtain ⟨fd, F⟩ := c.def_ 37 (d := d__law_limits_right) rfl
    exact ⟨_, fd, F, He.glo_ok X G (c.fact 37 (f := .glo "_law_limits_right") rfl)⟩
  have a_law : DefAt K mg "law" (top 52) := by
    obtain ⟨fd, F⟩ := c.def_ 38 (d := d_law) rfl
    exact ⟨_, fd, F, He.glo_ok X G (c.fact 38 (f := .glo "law") rfl)⟩
  obtain ⟨fd, F⟩ := c.def_ 38 (d := d_law) rfl
  have e := hfa.symm.trans (He.glo_ok X G (c.fact 38 (f := .glo "law") rfl))
  cases e
  have b := FunD.bindsA (ps := ["script"]) F fun _ _ _ _ _ _ us hl => match us, hl with | [_], _ => rfl
  refine ⟨fd, fun s v => b s [v] rfl, fun base _ _ => ?_⟩
  have cx1 : errs1.all (fun cf => errB K cf) = true := by unfold exs at cx; simp only [Bool.and_eq_true] at cx; exact cx.1.1
  have E_BadPlace : ErrF K "BadPlace" ["place"] := errB_ok (List.all_eq_true.mp cx1 ("BadPlace", ["place"]) (.tail _ (.head _)))
  obtain ⟨fd_BadPlace, FI_BadPlace⟩ := c.def_ 40 (d := i_BadPlace) rfl
  have S_BadPlace : FnScope ["self", "place"] ["self", "place"] (defScope (ini 17 0)) := ⟨rfl, rfl, rfl, by decide +kernel, rfl, by decide +kernel, by decide +kernel⟩
  have e_BadPlace := err_of (P := P) (w := w) (base := base) E_BadPlace (He.glo_ok X G (c.fact 57 (f := .glo "BadPlace") rfl)) (init_1 FI_BadPlace S_BadPlace rfl rfl fun _ _ _ _ _ _ => pss_one (ps_ost (pv 0) (pv 1))) (FI_BadPlace.bindsN fun _ _ _ _ _ _ us hl => match us, hl with | [_, _], _ => rfl)
  have E_BadRow : ErrF K "BadRow" ["place"] := errB_ok (List.all_eq_true.mp cx1 ("BadRow", ["place"]) (.head _))
  obtain ⟨fd_BadRow, FI_BadRow⟩ := c.def_ 39 (d := i_BadRow) rfl
  have S_BadRow : FnScope ["self", "place"] ["self", "place"] (defScope (ini 16 0)) := ⟨rfl, rfl, rfl, by decide +kernel, rfl, by decide +kernel, by decide +kernel⟩
  have e_BadRow := err_of (P := P) (w := w) (base := base) E_BadRow (He.glo_ok X G (c.fact 56 (f := .glo "BadRow") rfl)) (init_1 FI_BadRow S_BadRow rfl rfl fun _ _ _ _ _ _ => pss_one (ps_ost (pv 0) (pv 1))) (FI_BadRow.bindsN fun _ _ _ _ _ _ us hl => match us, hl with | [_, _], _ => rfl)
  have E_TooGreat : ErrF K "TooGreat" ["most"] := errB_ok (List.all_eq_true.mp cx1 ("TooGreat", ["most"]) (.tail _ (.tail _ (.head _))))
  obtain ⟨fd_TooGreat, FI_TooGreat⟩ := c.def_ 41 (d := i_TooGreat) rfl
  have S_TooGreat : FnScope ["self", "most"] ["self", "most"] (defScope (ini 18 0)) := ⟨rfl, rfl, rfl, by decide +kernel, rfl, by decide +kernel, by decide +kernel⟩
  have e_TooGreat := err_of (P := P) (w := w) (base := base) E_TooGreat (He.glo_ok X G (c.fact 58 (f := .glo "TooGreat") rfl)) (init_1 FI_TooGreat S_TooGreat rfl rfl fun _ _ _ _ _ _ => pss_one (ps_ost (pv 0) (pv 1))) (FI_TooGreat.bindsN fun _ _ _ _ _ _ us hl => match us, hl with | [_, _], _ => rfl)
  have gl_BadPlace : ∀ x ∈ oth_BadPlace, mg x = some (.ref (He.ga K x)) := List.forall_mem_cons.mpr ⟨He.glo_ok X G (c.fact 56 (f := .glo "BadRow") rfl), List.forall_mem_cons.mpr ⟨He.glo_ok X G (c.fact 58 (f := .glo "TooGreat") rfl), List.forall_mem_nil _⟩⟩
  have k_BadPlace : Catch K mg "BadPlace" oth_BadPlace ["place"] (He.ga K "BadPlace") := catch_of E_BadPlace (by unfold exs at cx; simp only [Bool.and_eq_true] at cx; exact cx.1.2) fun x hx => by
    rcases hx with rfl | hx
    · exact He.glo_ok X G (c.fact 57 (f := .glo "BadPlace") rfl)
    · exact gl_BadPlace x hx
  have gl_TooGreat : ∀ x ∈ oth_TooGreat, mg x = some (.ref (He.ga K x)) := List.forall_mem_cons.mpr ⟨He.glo_ok X G (c.fact 56 (f := .glo "BadRow") rfl), List.forall_mem_cons.mpr ⟨He.glo_ok X G (c.fact 57 (f := .glo "BadPlace") rfl), List.forall_mem_nil _⟩⟩
  have k_TooGreat : Catch K mg "TooGreat" oth_TooGreat ["most"] (He.ga K "TooGreat") := catch_of E_TooGreat (by unfold exs at cx; simp only [Bool.and_eq_true] at cx; exact cx.2) fun x hx => by
    rcases hx with rfl | hx
    · exact He.glo_ok X G (c.fact 58 (f := .glo "TooGreat") rfl)
    · exact gl_TooGreat x hx
  have c__law_mixed := h__law_mixed (P := P) (w := w) (base := base) g a__law_mixed
  have c__law_draw := h__law_draw (P := P) (w := w) (base := base) g a__law_draw c__law_mixed
  have c__law_folded := h__law_folded (P := P) (w := w) (base := base) g a__law_folded
  have c__law_begun := h__law_begun (P := P) (w := w) (base := base) g a__law_begun c__law_folded
  have c_entry_count := h_entry_count (P := P) (w := w) (base := base) g a_entry_count 
  have c_entry_mark := h_entry_mark (P := P) (w := w) (base := base) g a_entry_mark 
  have c_block_part := h_block_part (P := P) (w := w) (base := base) g a_block_part 
  have c_part_of := h_part_of (P := P) (w := w) (base := base) g a_part_of c_block_part
  have c_from_the_end := h_from_the_end (P := P) (w := w) (base := base) g a_from_the_end 
  have c_unlike_offset := h_unlike_offset (P := P) (w := w) (base := base) g a_unlike_offset 
  have c_first_parting := h_first_parting (P := P) (w := w) (base := base) g a_first_parting c_unlike_offset
  have c_is_whole := h_is_whole (P := P) (w := w) (base := base) g a_is_whole 
  have c_is_tuple := h_is_tuple (P := P) (w := w) (base := base) g a_is_tuple 
  have c_are_whole := h_are_whole (P := P) (w := w) (base := base) g a_are_whole 
  have c_is_block := h_is_block (P := P) (w := w) (base := base) g a_is_block c_is_tuple c_are_whole c_is_whole
  have c_need_entry := h_need_entry (P := P) (w := w) (base := base) g a_need_entry c_entry_count c_is_whole e_BadPlace
  have c_need_border := h_need_border (P := P) (w := w) (base := base) g a_need_border c_entry_count c_is_whole e_BadPlace
  have c_need_row := h_need_row (P := P) (w := w) (base := base) g a_need_row c_is_tuple c_is_block e_BadRow
  have c_length_of := h_length_of (P := P) (w := w) (base := base) g a_length_of c_need_row c_entry_count
  have c_mark_at := h_mark_at (P := P) (w := w) (base := base) g a_mark_at c_need_row c_need_entry c_entry_mark
  have c_few_blocks := h_few_blocks (P := P) (w := w) (base := base) g a_few_blocks e_TooGreat
  have c_cut_out := h_cut_out (P := P) (w := w) (base := base) g a_cut_out c_need_row c_need_border c_entry_count c_is_whole c_part_of c_few_blocks e_BadPlace
  have c_rows_joined := h_rows_joined (P := P) (w := w) (base := base) g a_rows_joined c_need_row c_few_blocks
  have c_turned_about := h_turned_about (P := P) (w := w) (base := base) g a_turned_about c_need_row c_from_the_end
  have c_read_alike := h_read_alike (P := P) (w := w) (base := base) g a_read_alike c_need_row c_first_parting
  have c__law_like := h__law_like (P := P) (w := w) (base := base) g a__law_like 
  have c__law_of := h__law_of (P := P) (w := w) (base := base) g a__law_of c__law_draw
  have c__law_tens := h__law_tens (P := P) (w := w) (base := base) g a__law_tens 
  have c__law_times := h__law_times (P := P) (w := w) (base := base) g a__law_times c__law_draw c__law_tens
  have c__law_wide_row := h__law_wide_row (P := P) (w := w) (base := base) g a__law_wide_row c__law_draw c__law_times
  have c__law_size := h__law_size (P := P) (w := w) (base := base) g a__law_size 
  have c__law_mark := h__law_mark (P := P) (w := w) (base := base) g a__law_mark 
  have c__law_piece := h__law_piece (P := P) (w := w) (base := base) g a__law_piece 
  have c__law_below := h__law_below (P := P) (w := w) (base := base) g a__law_below c__law_draw
  have c__law_borders := h__law_borders (P := P) (w := w) (base := base) g a__law_borders 
  have c__law_spot := h__law_spot (P := P) (w := w) (base := base) g a__law_spot c__law_size c__law_draw c__law_below c__law_borders c__law_of
  have c__law_refused := h__law_refused (P := P) (w := w) (base := base) g a__law_refused c_cut_out c_rows_joined k_BadPlace k_TooGreat
  have c__law_limits_right := h__law_limits_right (P := P) (w := w) (base := base) g a__law_limits_right c__law_of c__law_refused c__law_like
  exact law_at F g t c__law_begun c__law_wide_row c__law_size c__law_spot c__law_of c_cut_out c__law_piece c__law_like c_length_of c_mark_at c__law_mark c_rows_joined c_read_alike c_turned_about c__law_limits_right
end Mi
open PySem PySem.W PySem.Calls PyProof.Rows
theorem law_told (t : Mi.Tells Mi.law_N Mi.b_law) : PySem.Challenge.rw_pointingreads_k02_whole_parts_of_rows.Holds := by
  w_on; o_law
  refine HandSHeadRun.head_any (r := OpenLaw.row PySem.Challenge.rw_pointingreads_k02_whole_parts_of_rows) (q := view (OpenLaw.row PySem.Challenge.rw_pointingreads_k02_whole_parts_of_rows).prog [52]) (H := Mi.hks) (ob := Mi.obs) (M := 3000) (loose := Mi.loose) (d := HandSHeadRun.topDef (OpenLaw.row PySem.Challenge.rw_pointingreads_k02_whole_parts_of_rows).prog 52) (kwd := []) Mi.obs_eq
    (by kernel_rfl) (fun s => by kernel_rfl) Mi.run_eq (by kernel_rfl) (by kernel_rfl) (by kernel_rfl) (by rfl) (by first | assumption | decide +kernel) (by decide +kernel) ⟨rfl, rfl, rfl, rfl, rfl, by decide +kernel⟩ ?hw ?hc
  case hw => w_witness2
  case hc =>
    refine Mi.walk_G (l := PySem.Challenge.rw_pointingreads_k02_whole_parts_of_rows) (n := 7) (most := 63) (x := "script") rfl (by decide) (by kernel_rfl) ⟨rfl, by decide, by decide⟩ ?F
    intro w mg fa h Y G hmg0
    obtain ⟨K, KX, c⟩ := Y
    have hmg : mg ("law" : PySem.Str) = some (.ref fa) := by
      have e : (HandSHeadRun.topDef (OpenLaw.row PySem.Challenge.rw_pointingreads_k02_whole_parts_of_rows).prog 52).name = ("law" : PySem.Str) := by kernel_rfl
      rw [← e]
      exact hmg0
    obtain ⟨fd, hb, hF⟩ := Mi.facts (P := (PySem.Challenge.rw_pointingreads_k02_whole_parts_of_rows).prog) (w := w) t KX G hmg c
    exact ⟨K, fd, Mi.spLaw K, KX, hb, fun H a ns hl _ hS => ⟨a, ns, rfl, hl, hS, fun _ => rfl⟩, hF⟩
theorem PySem.Challenge.cw_pointingreads_k02_whole_parts_of_rows_holds : PySem.Challenge.rw_pointingreads_k02_whole_parts_of_rows.Holds :=
  law_told Mi.told
