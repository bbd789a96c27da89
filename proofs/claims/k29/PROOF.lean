import PyProof.Rows.All
import Wide.All
import OpenK.AllK
import Wide.FinOn
import HandS.ForMost
import HandS.Wide
import HandS.Walk
import HandS.Evl
import HandS.Zip
import HandS.IsInst
import HandS.Style
import HandS.Defaults
import KE.GoesEnum
import KE.GoesZip
import KE.KTupSum
import HandS.NoneIn
import HandS.TupMul
import HandS.TupAny
import HandS.Set
import HandS.SetFor
import HandS.Strs
import HandS.Conv
import HandS.SortInts
import HandS.Deep
import KE.IntBitsLaws
import HandS.WideBits
import HandS.More
import HandS.SetKeys
import HandS.TupSets
import PyProof.ReprRoads
import PySem.Challenge.RW_panfalls_k29_whole_all_starts_of_a_word
set_option Elab.async false
set_option linter.all false
set_option maxRecDepth 100000
set_option maxHeartbeats 4000000
namespace Pan
open PySem PySem.Spec PyProof.Rows L2
/-! ### calls of own defs -/
def Kn (P : Program) (w : World) (K : PySem.W.Frag) (mg : Str → Option Value) (base : Heap) (x : Str) (ps : List Str) (k : Nat) (sp : Sp) : Prop :=
  ∃ (f : Addr) (fd : FuncData), FnOk P w K mg base CX0 k f fd ps sp ∧ mg x = some (.ref f) ∧ PySem.W.keepIn K (.ref f) = true ∧ Binds K fd ps []
theorem pe_own {X : Cx} {x : Str} {ps : List Str} {k : Nat} {sp : Sp} {e : Expr} {es : List Expr} {t : TA} {p pos : Pos} (h : Kn X.prog X.w X.K X.mg X.base x ps k sp) (hr : Room k X.A) (hg : Gl X x) (ha : PA X (e :: es) t)
    (hdb : (x == ("__debug__" : Str)) = false := by decide) (he : starEach (e :: es) X.env = (false, eval e X.env) :: starEach es X.env := by rfl) (hpl : (backTo pos (starEach es X.env)).any (·.1) = false := by rfl) :
    PE X (.Call (.Name x p) (e :: es) [] pos) (tCall sp [] E0 t) := by
  obtain ⟨f, fd, F, m, kp, b⟩ := h
  exact pe_call F hr hg m kp b .nil pass0 ha hdb he hpl
theorem Kn.mk {P : Program} {w : World} {K : PySem.W.Frag} {mg : Str → Option Value} {base : Heap} {x : Str} {st : Stmt} {ps : List Str} {k : Nat} {sp : Sp} {f : Addr} {fd : FuncData} (F : Fun K x x st f fd) (m : mg x = some (.ref f)) (b : Binds K fd ps [])
    (ok : FnOk P w K mg base CX0 k f fd ps sp) : Kn P w K mg base x ps k sp := ⟨f, fd, ok, m, F.kp, b⟩
/-! ### heaps -/
theorem same_upd {H : Hp} {p : Addr} {o : HO} (h : H p = none) : Same H (upd H p o) := fun b x e => by
  rw [upd_ne (ne_of_none e h)]
  exact e
/-- a new object, the heap behind it a letter -/
theorem nw {H : Hp} {o : HO} {Q : V → Hp → Prop} (h : ∀ p H', H p = none → Same H H' → H' p = some o → Q (.ref p) H') : ∀ p, H p = none → Q (.ref p) (upd H p o) := fun p np => h p _ np (same_upd np) upd_same
def Un (t : Addr) (H H' : Hp) : Prop := ∀ a o, a ≠ t → H a = some o → H' a = some o
theorem Un.refl (t : Addr) (H : Hp) : Un t H H := fun _ _ _ e => e
theorem Un.trans {t : Addr} {H H1 H2 : Hp} (a : Un t H H1) (b : Un t H1 H2) : Un t H H2 := fun c o n e => b c o n (a c o n e)
theorem Un.same {t : Addr} {H H' : Hp} (s : Same H H') : Un t H H' := fun c o _ e => s c o e
theorem Un.upd {t : Addr} {H : Hp} {o : HO} : Un t H (upd H t o) := fun c u n e => by rw [upd_ne n]; exact e
/-! ### a tape: so many draws are left to it -/
def Tp (b : Nat) (H : Hp) (t : Addr) : Prop := ∃ x y z : Int, H t = some (.lst [.int x, .int y, .int z]) ∧ 0 ≤ x ∧ 0 ≤ y ∧ y < 4611686018427387904 ∧ 0 ≤ z ∧ z + b < 1099511627776
theorem Tp.same {b : Nat} {H H' : Hp} {t : Addr} (s : Same H H') (h : Tp b H t) : Tp b H' t := by
  obtain ⟨x, y, z, e, r⟩ := h
  exact ⟨x, y, z, s _ _ e, r⟩
theorem Tp.le {b c : Nat} {H : Hp} {t : Addr} (h : Tp b H t) (l : c ≤ b) : Tp c H t := by
  obtain ⟨x, y, z, e, h1, h2, h3, h4, h5⟩ := h
  exact ⟨x, y, z, e, h1, h2, h3, h4, by omega⟩
theorem Tp.ne {b : Nat} {H : Hp} {t p : Addr} (h : Tp b H t) {xs : List V} (e : H p = some (.tup xs)) : p ≠ t := by
  obtain ⟨x, y, z, e', _⟩ := h
  exact ne_of e e' (fun q => nomatch q)
theorem Tp.nn {b : Nat} {H : Hp} {t p : Addr} (h : Tp b H t) (e : H p = none) : p ≠ t := by
  obtain ⟨x, y, z, e', _⟩ := h
  exact (ne_of_none e' e).symm
theorem Un.fresh {t : Addr} {H H1 H2 : Hp} (U : Un t H1 H2) (S : Same H H1) (h : H t = none) : Same H H2 := fun a o e => U a o (ne_of_none e h) (S a o e)
theorem Same.of_upd {H H1 : Hp} {p : Addr} {o : HO} (S : Same H H1) (h : H p = none) : Same H (upd H1 p o) := fun a u e => by
  rw [upd_ne (ne_of_none e h)]
  exact S a u e
/-! ### tests that are known -/
theorem iteD {c A B : Prop} [Decidable c] (hc : c) (h : A) : if decide c = true then A else B := by
  rw [if_pos (decide_eq_true hc)]
  exact h
theorem iteDN {c A B : Prop} [Decidable c] (hc : ¬ c) (h : B) : if decide c = true then A else B := by
  rw [if_neg (by simpa using hc)]
  exact h
theorem iteN {c A B : Prop} [Decidable c] (hc : ¬ c) (h : A) : if (!decide c) = true then A else B := by
  rw [decide_eq_false hc]
  exact iteT h
/-! ### items of written lists -/
theorem pick {xs : List Int} {i : Int} (h0 : 0 ≤ i) (h1 : i < xs.length) : ∃ v, v ∈ xs ∧ atI (xs.map V.int) i = some (.int v) := by
  obtain ⟨j, rfl⟩ : ∃ j : Nat, i = (j : Int) := ⟨i.toNat, by omega⟩
  have hj : j < xs.length := by omega
  exact ⟨xs[j], List.getElem_mem hj, atI_nat (by rw [List.getElem?_map, List.getElem?_eq_getElem hj]; rfl)⟩
theorem item_int {xs : List Int} {i : Nat} {x : V} (h : (xs.map V.int)[i]? = some x) : ∃ v, v ∈ xs ∧ x = .int v ∧ xs[i]? = some v := by
  rw [List.getElem?_map] at h
  cases e : xs[i]? with
  | none => rw [e] at h; cases h
  | some v =>
    rw [e] at h
    exact ⟨v, List.mem_of_getElem? e, (Option.some.inj h).symm, rfl⟩
def cutI (xs : List Int) (a b : Nat) : List Int := (xs.drop a).take (b - a)
theorem cut_map (ns : List Int) (lo hi : Option Int) : cutV (ns.map V.int) lo hi = (cutI ns (HT.sIx ns.length 0 lo) (HT.sIx ns.length ns.length hi)).map V.int := by
  unfold cutV cutI
  rw [List.length_map, List.map_take, List.map_drop]
theorem sz {n : Nat} (h : n ≤ 100000) : n ≤ sizeLine := Nat.le_trans h (by decide)
theorem szl {n : Nat} (h : n < 100000) : n < sizeLine := Nat.lt_of_lt_of_le h (by decide)
/-- a list of so many weights, drawn one by one -/
def Drawn (t D : Addr) (H1 : Hp) (m : Int) (c : Nat) (i : Nat) (H' : Hp) : Prop :=
  ∃ ws : List Int, ws.length = i ∧ (∀ w ∈ ws, 1 ≤ w ∧ w ≤ m) ∧ H' D = some (.lst (ws.map V.int)) ∧ Un t H1 H' ∧ Tp c H' t
/-! ### new objects with the heap behind them a letter -/
def NewAt (H : Hp) (o : HO) (Q : VK) : Prop := ∀ p H', H p = none → Same H H' → H' p = some o → Q (.ref p) H'
theorem NewAt.upd {H : Hp} {o : HO} {Q : VK} (h : NewAt H o Q) {p : Addr} (np : H p = none) : Q (.ref p) (L2.upd H p o) := h p _ np (same_upd np) upd_same
def clA (t : TA) : TA := fun σ H Q => ∃ R : List V → Hp → Prop, t σ H R ∧ ∀ vs H', R vs H' → Q vs H'
def clE (t : TE) : TE := fun σ H Q => ∃ R : VK, t σ H R ∧ ∀ v H', R v H' → Q v H'
theorem paCl {X : Cx} {es : List Expr} {t : TA} (h : PA X es t) : PA X es (clA t) :=
  ⟨fun pos pins s σ H Q I ⟨R, hR, k⟩ => thn (h.run pos pins s σ H R I hR) fun us s' ⟨vs, H', I', r, q⟩ => ⟨vs, H', I', r, k vs H' q⟩⟩
theorem pe_cut {X : Cx} {e : Expr} {t : TE} (h : PE X e t) : PE X e (clE t) :=
  ⟨fun pins s σ H Q I ⟨R, hR, k⟩ => thn (h.run pins s σ H R I hR) fun us s' ⟨v, H', I', r, q⟩ => ⟨v, H', I', r, k v H' q⟩⟩
def tTupN (t : TA) : TE := fun σ H Q => t σ H fun xs H1 => xs.length ≤ sizeLine ∧ NewAt H1 (.tup xs) Q
def tLstN (t : TA) : TE := fun σ H Q => t σ H fun xs H1 => xs.length ≤ sizeLine ∧ NewAt H1 (.lst xs) Q
theorem pe_tupN {X : Cx} {es : List Expr} {t : TA} {x1 pos} (h : PA X es t) : PE X (.Tuple es x1 pos) (tTupN t) :=
  ⟨fun pins s σ H Q I hq => (pe_tup (paCl h)).run pins s σ H Q I ⟨_, hq, fun xs H1 z => ⟨z.1, fun p np => z.2.upd np⟩⟩⟩
theorem pe_lstN {X : Cx} {es : List Expr} {t : TA} {pos} (h : PA X es t) : PE X (.List es pos) (tLstN t) :=
  ⟨fun pins s σ H Q I hq => (pe_lst (paCl h)).run pins s σ H Q I ⟨_, hq, fun xs H1 z => ⟨z.1, fun p np => z.2.upd np⟩⟩⟩
def rSlN (K : PySem.W.Frag) : V → Option Int → Option Int → Hp → VK → Prop := fun x lo hi H Q => ∃ a xs, x = .ref a ∧ SqL K H a xs ∧ NewAt H (.lst (cutV xs lo hi)) Q
theorem sl_listN {X : Cx} {K : PySem.W.Frag} (hK : X.K = K := by rfl) : SlR X (rSlN K) := fun pins s σ H x v vl vu lo hi sl Q I rx hs pl pu ⟨a, xs, e, hx, q⟩ =>
  sl_list pins s σ H x v vl vu lo hi sl Q I rx hs pl pu ⟨a, xs, e, by rw [hK]; exact hx, fun p np => q.upd np⟩
def rSlTN (K : PySem.W.Frag) : V → Option Int → Option Int → Hp → VK → Prop := fun x lo hi H Q => ∃ a xs, x = .ref a ∧ SqT K H a xs ∧ ¬ (HT.sIx xs.length 0 lo = 0 ∧ HT.sIx xs.length xs.length hi = xs.length) ∧ NewAt H (.tup (cutV xs lo hi)) Q
theorem sl_tupN {X : Cx} {K : PySem.W.Frag} (hK : X.K = K := by rfl) : SlR X (rSlTN K) := fun pins s σ H x v vl vu lo hi sl Q I rx hs pl pu ⟨a, xs, e, hx, w, q⟩ =>
  sl_tup pins s σ H x v vl vu lo hi sl Q I rx hs pl pu ⟨a, xs, e, by rw [hK]; exact hx, w, fun p np => q.upd np⟩
def rListN (K : PySem.W.Frag) : List V → Hp → VK → Prop := fun xs H Q => ∃ p ys, xs = [.ref p] ∧ (SqL K H p ys ∨ SqT K H p ys) ∧ NewAt H (.lst ys) Q
theorem call_listN {X : Cx} {K : PySem.W.Frag} (hK : X.K = K := by rfl) : CallR X (.type "list") (rListN K) := fun pins s σ H xs us Q I r ⟨p, ys, e, h, q⟩ =>
  call_list_of pins s σ H xs us Q I r ⟨p, ys, e, by rw [hK]; exact h, fun l nl => q.upd nl⟩
def rTupN (K : PySem.W.Frag) : List V → Hp → VK → Prop := fun xs H Q => ∃ p ys, xs = [.ref p] ∧ SqL K H p ys ∧ NewAt H (.tup ys) Q
theorem call_tupleN {X : Cx} {K : PySem.W.Frag} (hK : X.K = K := by rfl) : CallR X (.type "tuple") (rTupN K) := fun pins s σ H xs us Q I r ⟨p, ys, e, h, q⟩ =>
  call_tuple_of pins s σ H xs us Q I r ⟨p, ys, e, .inl ⟨by rw [hK]; exact h, fun l nl => q.upd nl⟩⟩
def rLenN (K : PySem.W.Frag) : List V → Hp → VK → Prop := fun xs H Q => ∃ p ys, xs = [.ref p] ∧ (SqL K H p ys ∨ SqT K H p ys) ∧ Q (.int ys.length) H
theorem call_lenN {X : Cx} {K : PySem.W.Frag} (hK : X.K = K := by rfl) : CallR X (.builtin "len") (rLenN K) := fun pins s σ H xs us Q I r ⟨p, ys, e, h, q⟩ =>
  call_len_seq pins s σ H xs us Q I r ⟨p, ys, e, by rw [hK]; exact h, q⟩
theorem small01 {c : Prop} [Decidable c] : -(2 ^ 64) < (if c then (1 : Int) else 0) ∧ (if c then (1 : Int) else 0) < 2 ^ 64 := by
  split <;> decide
/-! ### chains of comparisons of any length, as tests -/
def tChL (r : R2) (tb : TE) : V → TT := fun x σ H Q => tb σ H fun y H2 => r x y H2 fun z H3 => ∃ k, z = .bl k ∧ Q k H3
def tChC (r : R2) (tb : TE) (u : V → TT) : V → TT := fun x σ H Q => tb σ H fun y H2 => r x y H2 fun z H3 => ∃ k, z = .bl k ∧ if k = true then u y σ H3 Q else Q false H3
structure PCh (X : Cx) (ops : List CmpOp) (es : List Expr) (r : V → TT) : Prop where
  run : ∀ (pos : Pos) (pins : List (Addr × Obj)) (s : Shared) (σ : L2.St) (H : Hp) (x : V) (v : Value) (Q : Bool → Hp → Prop), Inv X pins σ H s → RelV x v → r x σ H Q →
    wpAny (model X.prog X.w) X.A (testChain pos v ops (evalEach es X.env)) (TP X pins σ Q) X.xe s
theorem ch_last {X : Cx} {op : CmpOp} {b : Expr} {r : R2} {tb : TE} (ho : OpR X (compareOp op) r) (hb : PE X b tb) : PCh X [op] [b] (tChL r tb) := by
  refine ⟨fun pos pins s σ H x v Q I rx h => ?_⟩
  refine test_last (thn (hb.run pins s σ H _ I h) fun u s2 ⟨y, H2, I2, r2, q2⟩ => thn (ho pins s2 σ H2 x y v u _ I2 rx r2 q2) fun d s3 ⟨z, H3, I3, r3, k, e, q3⟩ => ?_)
  subst e
  cases r3
  exact wpAny_truthy_bool ⟨H3, I3, q3⟩
theorem ch_link {X : Cx} {op op' : CmpOp} {ops : List CmpOp} {b c : Expr} {es : List Expr} {r : R2} {tb : TE} {u : V → TT} (ho : OpR X (compareOp op) r) (hb : PE X b tb) (hc : PCh X (op' :: ops) (c :: es) u) : PCh X (op :: op' :: ops) (b :: c :: es) (tChC r tb u) := by
  refine ⟨fun pos pins s σ H x v Q I rx h => ?_⟩
  refine test_link (thn (hb.run pins s σ H _ I h) fun w s2 ⟨y, H2, I2, r2, q2⟩ => thn (ho pins s2 σ H2 x y v w _ I2 rx r2 q2) fun d s3 ⟨z, H3, I3, r3, k, e, q3⟩ => ?_)
  subst e
  cases r3
  refine wpAny_truthy_bool ?_
  cases k with
  | false => exact ite_ff ⟨H3, I3, q3⟩
  | true => exact ite_tt (hc.run pos pins s3 σ H3 y w Q I3 r2 q3)
theorem pt_chainN {X : Cx} {op op' : CmpOp} {ops : List CmpOp} {a b c : Expr} {es : List Expr} {pos : Pos} {ta : TE} {u : V → TT} (ha : PE X a ta) (hc : PCh X (op :: op' :: ops) (b :: c :: es) u)
    (hm : lastMarks (op :: op' :: ops) (b :: c :: es) = false := by with_unfolding_all rfl) : PT X (.Compare a (op :: op' :: ops) (b :: c :: es) pos) (fun σ H Q => ta σ H fun x H1 => u x σ H1 Q) := by
  refine ⟨fun pins s σ H Q I h => ?_⟩
  exact isTrue_chain (thn (ha.run pins s σ H _ I h) fun v s1 ⟨x, H1, I1, r1, q1⟩ => hc.run _ pins s1 σ H1 x v Q I1 r1 q1) hm
/-! ### constants of the top -/
theorem pe_const {X : Cx} {x z : Str} {pos : Pos} (h : ∃ t, X.mg x = some (.str z t)) (hg : Gl X x) (hd : (x == ("__debug__" : Str)) = false := by decide) : PE X (.Name x pos) (tC (.str z)) := by
  obtain ⟨t, h⟩ := h
  exact pe_glob hg h ⟨t, rfl⟩ hd
/-! ### zip(list, tuple) -/
def ItLT (K : PySem.W.Frag) (a b : Addr) : It where
  go := fun i H => ∃ (xs ys : List V) (x y : V), SqL K H a xs ∧ SqT K H b ys ∧ xs[i]? = some x ∧ ys[i]? = some y
  yld := fun i H v H' => ∃ T x y, v = .ref T ∧ H T = none ∧ H' = upd H T (.tup [x, y]) ∧ (∀ xs, SqL K H a xs → xs[i]? = some x) ∧ ∀ ys, SqT K H b ys → ys[i]? = some y
  stop := fun i H => ∃ xs ys : List V, SqL K H a xs ∧ SqT K H b ys ∧ i ≤ xs.length ∧ i ≤ ys.length ∧ (i = xs.length ∨ i = ys.length)
def TnLT (a b z TI TO i1 i2 : Addr) (i : Nat) (h : Heap) : Prop := IsZip h z TI TO .none ∧ IsTupOf2 h TI (.ref i1) (.ref i2) ∧ (∃ x y, IsTupOf2 h TO x y) ∧ h.IsListIter i1 a i ∧ h.IsTupleIter i2 b i
theorem turn_zipLT {P : Program} {w : World} {K : PySem.W.Frag} {elts : List Expr} {kk : Nat} {tpos : Pos} {a b z TI TO i1 i2 : Addr} (S : ZipSep2 z TI TO i1 i2 [i1, a] [i2, b]) (n1 : a ≠ i1) (n2 : b ≠ i2) :
    Turn P w K (.Tuple elts kk tpos) (ItLT K a b) [z, TI, TO, i1, i2] z (TnLT a b z TI TO i1 i2) where
  mem := by simp
  obj := fun i h st c hc => by
    obtain ⟨g1, g2, ⟨x, y, g3⟩, ⟨o4, g4, _, d4⟩, ⟨o5, g5, _, d5⟩⟩ := st
    have hm : c = z ∨ c = TI ∨ c = TO ∨ c = i1 ∨ c = i2 := by simpa using hc
    rcases hm with rfl | rfl | rfl | rfl | rfl
    · exact ⟨_, g1, fun v k => nomatch k⟩
    · exact ⟨_, g2, fun v k => nomatch k⟩
    · exact ⟨_, g3, fun v k => nomatch k⟩
    · exact ⟨o4, g4, fun v k => by rw [d4] at k; cases k⟩
    · exact ⟨o5, g5, fun v k => by rw [d5] at k; cases k⟩
  keep := fun i h h' st k => by
    obtain ⟨g1, g2, ⟨x, y, g3⟩, g4, g5⟩ := st
    exact ⟨k z (by simp) _ g1, k TI (by simp) _ g2, ⟨x, y, k TO (by simp) _ g3⟩, g4.at fun o e => k i1 (by simp) o e, g5.at fun o e => k i2 (by simp) o e⟩
  item := by
    intro X eP ew eK hc i pins s σ H E I hf st hg
    subst eP ew eK
    obtain ⟨g1, g2, ⟨x0, y0, g3⟩, g4, g5⟩ := st
    obtain ⟨xs, ys, x, y, qx, qy, hx, hy⟩ := hg
    obtain ⟨its, rv, p1, _⟩ := I.list qx
    obtain ⟨its2, rv2, p2, _⟩ := I.tuple qy
    obtain ⟨u, hu, ru⟩ := rv.get hx
    obtain ⟨u2, hu2, ru2⟩ := rv2.get hy
    have hz0 : z < s.heap.objs.size := Heap.lt_size g1
    have hh : X.A.in1.handled = none := I.ok.hd hc
    have l1 : i < its.toArray.size := by
      have := (List.getElem?_eq_some_iff.mp hu).1
      simpa using this
    have l2 : i < its2.toArray.size := by
      have := (List.getElem?_eq_some_iff.mp hu2).1
      simpa using this
    refine wpAny_pyNext_zipD2_item S (Draws.list hh i1 a n1 its.toArray) (Draws.tuple hh i2 b n2 its2.toArray) g1 g2 g3 ⟨g4, p1.isList⟩ ⟨g5, show s.heap.IsTuple b its2.toArray from p2⟩ l1 l2 fun x1 x2 h' tk P1 P2 z' TO' st1 st2 hT hsz hk => ?_
    have e1 : x1 = u := Option.some.inj (P1.symm.trans (by simpa using hu))
    have e2 : x2 = u2 := Option.some.inj (P2.symm.trans (by simpa using hu2))
    subst e1 e2
    refine ⟨_, rfl, wpAny_letOwnedTupleGo_zip (s := { s with heap := h', toks := tk }) z' fun h'' z'' sb => ?_⟩
    have hT2 : h''.get? s.heap.objs.size = some { cls := .type "tuple", data := .seq #[x1, x2] } := (sb.2 _ (Nat.ne_of_gt hz0)).trans hT
    have nob : ObjOk X.prog X.w (upd H s.heap.objs.size (.tup [x, y])) h'' s.heap.objs.size (.tup [x, y]) := ⟨by show 2 ≤ sizeLine; decide, [x1, x2], .cons ru (.cons ru2 .nil), ⟨_, hT2, rfl, _, rfl⟩⟩
    have keepAll : ∀ c o, c ∉ [z, TI, TO, i1, i2] → s.heap.get? c = some o → h''.get? c = some o := fun c o hb e =>
      (sb.2 c fun k => hb (by simp [k])).trans (hk c o (fun k => hb (by simp [k])) (fun k => hb (by simp [k])) (fun k => hb (by simp [k])) (fun k => hb (by simp [k])) e)
    have I1 : Inv X pins σ (upd H s.heap.objs.size (.tup [x, y])) { s with heap := h'', toks := tk } := I.turnedNew (ch := [z, TI, TO, i1, i2]) keepAll hf (Nat.le_refl _) nob
    refine ⟨.ref s.heap.objs.size, _, I1, rfl, ⟨_, x, y, rfl, I.hok.fresh (Nat.le_refl _), rfl, fun l hl => by rw [I.list_inj hl qx]; exact hx, fun l hl => by rw [I.tuple_inj hl qy]; exact hy⟩, ⟨z'', ?_, ⟨x1, x2, ?_⟩, ?_, ?_⟩, fun c hcm => ?_⟩
    · exact (sb.2 _ S.TIz).trans (hk _ _ S.TIz S.TITO S.TIi1 S.TIi2 g2)
    · exact (sb.2 _ S.TOz).trans TO'
    · exact st1.1.at fun o e => (sb.2 _ S.zi1.symm).trans e
    · exact st2.1.at fun o e => (sb.2 _ S.zi2.symm).trans e
    · have hlt : c < s.heap.objs.size := by
        have hm : c = z ∨ c = TI ∨ c = TO ∨ c = i1 ∨ c = i2 := by simpa using hcm
        obtain ⟨_, g4', _⟩ := g4
        obtain ⟨_, g5', _⟩ := g5
        rcases hm with rfl | rfl | rfl | rfl | rfl
        · exact hz0
        · exact Heap.lt_size g2
        · exact Heap.lt_size g3
        · exact Heap.lt_size g4'
        · exact Heap.lt_size g5'
      rw [upd_ne (Nat.ne_of_lt hlt)]
      exact (hf c hcm).1
  done := by
    intro X eP ew eK hc i pins s σ H E I hf st hg
    subst eP ew eK
    obtain ⟨g1, g2, ⟨x0, y0, g3⟩, g4, g5⟩ := st
    obtain ⟨xs, ys, qx, qy, b1, b2, hend⟩ := hg
    obtain ⟨its, rv, p1, _⟩ := I.list qx
    obtain ⟨its2, rv2, p2, _⟩ := I.tuple qy
    have z1 : its.toArray.size = xs.length := by rw [List.size_toArray]; exact rv.length.symm
    have z2 : its2.toArray.size = ys.length := by rw [List.size_toArray]; exact rv2.length.symm
    have hh : X.A.in1.handled = none := I.ok.hd hc
    refine wpAny_pyNext_zipD2_end S (Draws.list hh i1 a n1 its.toArray) (Draws.tuple hh i2 b n2 its2.toArray) g1 g2 g3 ⟨g4, p1.isList⟩ ⟨g5, show s.heap.IsTuple b its2.toArray from p2⟩ (by omega) (by omega) (by omega) fun h' tk hk => ⟨rfl, I.turnedL (ch := [z, TI, TO, i1, i2]) (fun c o hb e => ?_) hf⟩
    exact hk c o (fun k => hb (by simp [k])) (fun k => hb (by simp [k])) (fun k => hb (by simp [k])) (fun k => hb (by simp [k])) e
  self := fun A i s Q E st h => wpAny_pyIter_zip st.1 h
def iZipLT (K : PySem.W.Frag) (ta : TA) : TI := fun σ H R => ta σ H fun vs H1 => ∃ a b xs ys, vs = [.ref a, .ref b] ∧ SqL K H1 a xs ∧ SqT K H1 b ys ∧ R (ItLT K a b) H1
theorem pi_zipLT {X : Cx} {e e2 : Expr} {ta : TA} {p pos tpos : Pos} {elts : List Expr} {kk : Nat} {K : PySem.W.Frag} (hg : Gl X "zip") (hm : X.mg "zip" = none) (ha : PA X [e, e2] ta) (hK : X.K = K := by rfl)
    (hs : starEach [e, e2] X.env = (false, eval e X.env) :: starEach [e2] X.env := by rfl) (hpl : (backTo pos (starEach [e2] X.env)).any (·.1) = false := by rfl) :
    PI X (.Tuple elts kk tpos) (.Call (.Name "zip" p) [e, e2] [] pos) (iZipLT K ta) := by
  subst hK
  refine ⟨fun pins s σ H R I h => ?_⟩
  refine Call_ (ld_blt I hg hm PyProof.Rows.boot_zip (PyProof.Rows.callWith_type1 (thn (ha.run pos pins s σ H _ I h) fun us s1 hq => ?_) hs hpl))
  obtain ⟨vs, H1, I1, r1, a, b, xs, ys, ex, qx, qy, q⟩ := hq
  subst ex
  cases r1 with
  | cons r rr =>
    cases rr with
    | cons r' rr =>
      cases rr
      cases r
      cases r'
      obtain ⟨its, rv, p1, _⟩ := I1.list qx
      obtain ⟨its2, rv2, p2, _⟩ := I1.tuple qy
      have ht2 : s1.heap.IsTuple b its2.toArray := p2
      obtain ⟨o2, ho2, _⟩ := id p2
      have la : a < s1.heap.objs.size := p1.lt
      have lb : b < s1.heap.objs.size := Heap.lt_size ho2
      refine zip_begins2 (begins_list a its.toArray) (begins_tuple b its2.toArray) p1.isList ht2 fun h' hz hTI hTO g1 g2 hsz hk => wpAny_pyIter_zip hz ?_
      have I2 : Inv X pins σ H1 { s1 with heap := h' } := I1.kept (t' := s1.toks) hk
      have S : ZipSep2 (s1.heap.objs.size + 4) (s1.heap.objs.size + 2) (s1.heap.objs.size + 3) s1.heap.objs.size (s1.heap.objs.size + 1) [s1.heap.objs.size, a] [s1.heap.objs.size + 1, b] :=
        zip_sep2 (fun c hc => by rw [List.mem_singleton.mp hc]; exact la) (fun c hc => by rw [List.mem_singleton.mp hc]; exact lb)
      refine ⟨s1.heap.objs.size + 4, [s1.heap.objs.size + 4, s1.heap.objs.size + 2, s1.heap.objs.size + 3, s1.heap.objs.size, s1.heap.objs.size + 1], _, _, H1, rfl, I2, turn_zipLT S (Nat.ne_of_lt la) (Nat.ne_of_lt (Nat.lt_succ_of_lt lb)), ⟨hz, hTI, ⟨_, _, hTO⟩, ⟨_, g1, rfl, rfl⟩, ⟨_, g2, rfl, rfl⟩⟩, fun c hcm => ?_, q⟩
      have hle : s1.heap.objs.size ≤ c := by
        have hm : c = s1.heap.objs.size + 4 ∨ c = s1.heap.objs.size + 2 ∨ c = s1.heap.objs.size + 3 ∨ c = s1.heap.objs.size ∨ c = s1.heap.objs.size + 1 := by simpa using hcm
        rcases hm with k | k | k | k | k <;> rw [k] <;> first | exact Nat.le_refl _ | exact Nat.le_add_right _ _
      exact I1.fpOk hle (I1.hok.fresh hle)
theorem walk_zipLT {K : PySem.W.Frag} {a b : Addr} {xs ys : List V} (hl : xs.length = ys.length) : Walk (ItLT K a b) xs.length (fun H => SqL K H a xs ∧ SqT K H b ys) (YPair (fun i => xs[i]?) (fun i => ys[i]?)) where
  goes := fun i H hi g => ⟨xs, ys, xs[i], ys[i]'(by omega), g.1, g.2, by simp [hi], by simp [show i < ys.length by omega]⟩
  stops := fun H g => ⟨xs, ys, g.1, g.2, Nat.le_refl _, by omega, .inl rfl⟩
  yields := fun i H v H' hi g y => by
    obtain ⟨T, x, z, h1, h2, h3, h4, h5⟩ := y
    exact ⟨T, x, z, h1, h2, h3, h4 xs g.1, h5 ys g.2⟩
/-! ### sum of a tuple -/
def rSumT (K : PySem.W.Frag) : List V → Hp → VK → Prop := fun vs H Q => ∃ (a : Addr) (ns : List Int), vs = [V.ref a] ∧ SqT K H a (ns.map V.int) ∧ Q (.int ns.sum) H
theorem cr_sumT {X : Cx} {K : PySem.W.Frag} (hc : X.calm = true) (hK : X.K = K := by rfl) : CallR X (.builtin "sum") (rSumT K) := by
  subst hK
  intro pins s σ H vs us Q I r h
  obtain ⟨a, ns, rfl, hs, q⟩ := h
  obtain ⟨its, rv, ht, _⟩ := I.tuple hs
  have hi : IntsAre its ns := rv.ints
  rw [Vals.ref1 r]
  obtain ⟨xs, e⟩ := hi.allInts.items
  have hn : numsOf (intItems xs).toList = ns := by rw [← e]; exact hi.numsOf
  rw [nums_intItems] at hn
  have ht' : s.heap.IsTuple a (intItems xs) := by
    rw [← e]
    exact ht
  refine PySem.W.ktm_sumG (I.ok.hd hc) ht' fun h' tk t' hk => ⟨.int ns.sum, H, I.kept hk, ⟨t', ?_⟩, q⟩
  rw [preSum_eq, List.take_of_length_le (by simp), hn]
/-! ### data -/
def Sh (n : Nat) (d : PyData) : Prop := d.canLay0 = true ∧ d.depth ≤ n
def ShA (n : Nat) (ds : List PyData) : Prop := PyData.canLayAll0 ds = true ∧ PyData.depthAll ds ≤ n
theorem Sh.int {n : Nat} (i : Int) : Sh n (.int i) := ⟨rfl, Nat.zero_le _⟩
theorem Sh.bl {n : Nat} (b : Bool) : Sh n (.bool b) := ⟨rfl, Nat.zero_le _⟩
theorem Sh.non {n : Nat} : Sh n .none := ⟨rfl, Nat.zero_le _⟩
theorem Sh.str {n : Nat} {x : Str} (h : PyData.strOk x = true) : Sh n (.str x) := ⟨h, Nat.zero_le _⟩
theorem ShA.nil {n : Nat} : ShA n [] := ⟨rfl, Nat.zero_le _⟩
theorem ShA.cons {n : Nat} {d : PyData} {ds : List PyData} (h : Sh n d) (k : ShA n ds) : ShA n (d :: ds) := by
  refine ⟨?_, ?_⟩
  · rw [PyData.canLayAll0, h.1, k.1]
    rfl
  · rw [PyData.depthAll]
    exact Nat.max_le.mpr ⟨h.2, k.2⟩
theorem ShA.map {α : Type} {n : Nat} {f : α → PyData} : ∀ (l : List α), (∀ x ∈ l, Sh n (f x)) → ShA n (l.map f)
  | [], _ => .nil
  | x :: l, h => .cons (h x (List.mem_cons_self ..)) (ShA.map l fun y hy => h y (List.mem_cons_of_mem _ hy))
theorem Sh.list {n : Nat} {ds : List PyData} (h : ShA n ds) : Sh (n + 1) (.list ds) := ⟨h.1, Nat.succ_le_succ h.2⟩
theorem Sh.tup {n : Nat} {ds : List PyData} (h : ShA n ds) : Sh (n + 1) (.tuple ds) := ⟨h.1, Nat.succ_le_succ h.2⟩
theorem Sh.ok {n : Nat} {d : PyData} (h : Sh n d) (hn : n ≤ 64 := by decide) : SeqAt.shaped d = true := by
  unfold SeqAt.shaped
  rw [h.1, decide_eq_true (Nat.le_trans h.2 hn)]
  rfl
theorem dpInts {K : PySem.W.Frag} {H : Hp} : ∀ ns : List Int, DpAll K H (ns.map V.int) (ns.map PyData.int)
  | [] => .nil
  | n :: ns => .cons (.int n) (dpInts ns)
theorem dpStrs {K : PySem.W.Frag} {H : Hp} : ∀ ns : List Str, DpAll K H (ns.map V.str) (ns.map PyData.str)
  | [] => .nil
  | n :: ns => .cons (.str n) (dpStrs ns)
theorem dpBls {K : PySem.W.Frag} {H : Hp} : ∀ ns : List Bool, DpAll K H (ns.map V.bl) (ns.map PyData.bool)
  | [] => .nil
  | n :: ns => .cons (.bl n) (dpBls ns)
theorem neSame {K : PySem.W.Frag} {H : Hp} {x y : V} {Q : VK} {d : PyData} (h1 : Dp K H x d) (h2 : Dp K H y d) (hs : SeqAt.shaped d = true) (q : Q (.bl false) H) : rNeD K x y H Q :=
  ⟨d, d, h1, h2, hs, hs, by rw [SeqAt.eqv_refl d (SeqAt.canLay_of_shaped hs)]; exact q⟩
theorem eqSame {K : PySem.W.Frag} {H : Hp} {x y : V} {Q : VK} {d : PyData} (h1 : Dp K H x d) (h2 : Dp K H y d) (hs : SeqAt.shaped d = true) (q : Q (.bl true) H) : rEqD K x y H Q :=
  ⟨d, d, h1, h2, hs, hs, by rw [SeqAt.eqv_refl d (SeqAt.canLay_of_shaped hs)]; exact q⟩
/-! ### comprehensions: what is left once the iterator has come, by a name of its own -/
def LcGo (J : It) (g : TG) (tt : TT) (te : TE) (vs : List Nat) (σ : L2.St) (H1 : Hp) (Q : VK) : Prop := tLc (fun _ H R => R J H) g tt te vs σ H1 Q
def tLcN (wi : TI) (g : TG) (tt : TT) (te : TE) (vs : List Nat) : TE := fun σ H Q => wi σ H fun J H1 => LcGo J g tt te vs σ H1 Q
theorem lcN_eq (wi : TI) (g : TG) (tt : TT) (te : TE) (vs : List Nat) : tLcN wi g tt te vs = tLc wi g tt te vs := rfl
theorem pe_lcN {X : Cx} {elt tg iter : Expr} {ifs : List Expr} {scope : Scope} {own : List (Str × Nat)} {pos : Pos} {wi : TI} {g : TG} {tt : TT} {te : TE} (hc : X.calm = true) (hN : X.N.Nodup) (hi : PI X tg iter wi) (ok : BlkOk X.N X.env.scope scope own)
    (hg : ∀ s H C cl fp, PG (X.blk s H scope (compEnvC scope cl C X.env) fp) tg g) (ht : ∀ s H C cl fp, PTs (X.blk s H scope (compEnvC scope cl C X.env) fp) ifs tt)
    (he : ∀ s H C cl fp, PE (X.blk s H scope (compEnvC scope cl C X.env) fp) elt te) (hs : ∀ x, foldedSetIterable iter X.env x = pure x := by intro _; rfl) :
    PE X (.ListComp elt [⟨tg, iter, ifs, 0⟩] scope pos) (tLcN wi g tt te (own.map (·.2))) := by
  rw [lcN_eq]
  exact pe_lc hc hN hi ok hg ht he hs
theorem ps_setLcN {X : Cx} {i : Nat} {y : Str} {py : Pos} {elt tg iter : Expr} {ifs : List Expr} {scope : Scope} {own : List (Str × Nat)} {pos spos : Pos} {wi : TI} {g : TG} {tt : TT} {te : TE} (hc : X.calm = true) (hN : X.N.Nodup) (hy : X.N[i]? = some y) (hyl : X.env.scope.names.lookup y = some .local)
    (hsw : swapsWith (.ListComp elt [⟨tg, iter, ifs, 0⟩] scope pos) (some (.Name y py)) spos.line X.env = pure true) (hi : PI X tg iter wi) (ok : BlkOk X.N X.env.scope scope own)
    (hg : ∀ s H C cl fp, PG (X.blk s H scope (compEnvC scope cl C X.env) fp) tg g) (ht : ∀ s H C cl fp, PTs (X.blk s H scope (compEnvC scope cl C X.env) fp) ifs tt)
    (he : ∀ s H C cl fp, PE (X.blk s H scope (compEnvC scope cl C X.env) fp) elt te) (hs : ∀ x, foldedSetIterable iter X.env x = pure x := by intro _; rfl) :
    PS X (.Assign [.Name y py] (.ListComp elt [⟨tg, iter, ifs, 0⟩] scope pos) spos) (tAsg (tLcN wi g tt te (own.map (·.2))) (gName i)) := by
  rw [lcN_eq]
  exact ps_setLc hc hN hy hyl hsw hi ok hg ht he hs
/-! ### t[::-1] of a tuple -/
theorem fm_congr {α β : Type} {f g : α → Option β} : ∀ {l : List α}, (∀ x ∈ l, f x = g x) → l.filterMap f = l.filterMap g
  | [], _ => rfl
  | x :: l, h => by
    rw [List.filterMap_cons, List.filterMap_cons, h x (List.mem_cons_self ..), fm_congr fun y hy => h y (List.mem_cons_of_mem _ hy)]
theorem revPick (xs : Array Value) : ((List.range xs.size).filterMap fun (m : Nat) => xs[(((xs.size : Int) - 1) + (m : Int) * (-1)).toNat]?).toArray = xs.toList.reverse.toArray := by
  have e : (List.range xs.size).filterMap (fun (m : Nat) => xs[(((xs.size : Int) - 1) + (m : Int) * (-1)).toNat]?) = ((List.range xs.size).map fun k => xs.size - 1 - k).filterMap (xs[·]?) := by
    rw [List.filterMap_map]
    refine fm_congr fun m hm => ?_
    have := List.mem_range.mp hm
    show xs[(((xs.size : Int) - 1) + (m : Int) * (-1)).toNat]? = xs[xs.size - 1 - m]?
    have e2 : (((xs.size : Int) - 1) + (m : Int) * (-1)).toNat = xs.size - 1 - m := by omega
    rw [e2]
  rw [e, PySem.W.krv_range, List.filterMap_reverse, PySem.W.krv_all]
section
variable {prog : Program} {w : World} {A : Around} {E : Value → Shared → Prop} {s : Shared}
theorem sliceRev {sl : Addr} {vs : Value} {n : Nat} {Q : Int × Int × Nat → Shared → Prop} (hs : s.heap.IsSliceOf sl .none .none vs) (ps : IsPart vs (some (-1))) (h : Q ((n : Int) - 1, -1, n) s) :
    wpAny (model prog w) A (Builtin.Slice.sliceApplied (.ref sl) (pure (n : Int))) Q E s := by
  obtain ⟨os, hos, _, hds⟩ := id hs
  unfold Builtin.Slice.sliceApplied Builtin.Slice.sliceFields
  refine wpAny_bind (wpAny_bind (wpAny_field hos hds (x := .none) rfl ?_))
  refine wpAny_bind (wpAny_field hos hds (x := .none) rfl ?_)
  refine wpAny_bind (wpAny_field hos hds (x := vs) rfl (wpAny_pure ?_))
  refine wpAny_bind (HT.slicePart_ ps ?_)
  show wpAny _ _ (if ((-1 : Int) == 0) = true then _ else _) _ _ s
  rw [if_neg (by decide)]
  refine wpAny_bind (slicePart_none (wpAny_bind (slicePart_none (wpAny_bind (wpAny_pure ?_)))))
  have e1 : Builtin.Slice.sliceAdjust none none (-1) (n : Int) = ((n : Int) - 1, -1) := rfl
  have e2 : Builtin.Slice.slicePlaces ((n : Int) - 1) (-1) (-1) = n := by
    unfold Builtin.Slice.slicePlaces
    rw [if_neg (by decide)]
    have e3 : (-(-1 : Int)) = 1 := by decide
    rw [e3, Int.ediv_one]
    split <;> omega
  show wpAny _ _ (match Builtin.Slice.sliceAdjust none none (-1) (n : Int) with | (a, b) => pure (a, (-1 : Int), Builtin.Slice.slicePlaces a b (-1))) _ _ s
  rw [e1]
  show wpAny _ _ (pure ((n : Int) - 1, (-1 : Int), Builtin.Slice.slicePlaces ((n : Int) - 1) (-1) (-1))) _ _ s
  rw [e2]
  exact wpAny_pure h
theorem getRev {t sl : Addr} {items : Array Value} {vs : Value} {Q : Value → Shared → Prop} (ht : IsTup s.heap t items) (hs : s.heap.IsSliceOf sl .none .none vs) (ps : IsPart vs (some (-1)))
    (h : Q (.ref s.heap.objs.size) { s with heap := s.heap.push { cls := .type "tuple", data := .seq items.toList.reverse.toArray } }) (hsz : items.size ≤ sizeLine) : wpAny (model prog w) A (getItem (.ref t) (.ref sl)) Q E s := by
  have hok : sizeOk (.seq items.toList.reverse.toArray) := by
    show items.toList.reverse.toArray.size ≤ sizeLine
    rw [List.size_toArray, List.length_reverse, Array.length_toList]
    exact hsz
  obtain ⟨os, hos, hcs, hds⟩ := id hs
  have hT : s.TypeIs (.ref sl) "slice" := ⟨os, hos, hcs⟩
  unfold getItem
  try with_reducible refine wpAny_holding ?_
  first | refine wpAny_bind (wpAny_pure ?_) | skip
  refine wpAny_bind (wpAny_sequenceKey ht.typeIs (by decide) ?_)
  refine wpAny_bind (wpAny_callSpecial?_slot (name := Str.ofString "__getitem__") ht.typeIs PyProof.Rows.slot_tuple_getitem (wpAny_call_entry PyProof.Rows.slot_tuple_getitem ht.typeIs entry_tuple_getitem ?_ (args_tuple_getitem _ _)))
  show wpAny _ _ (Builtin.Tuple.tupleItemsOf (.ref t) >>= _) _ _ s
  refine wpAny_bind (tupleItemsOf_ ht (wpAny_bind (wpAny_typeOf hT ?_)))
  rw [if_pos (by decide)]
  refine wpAny_bind (sliceRev hs ps ?_)
  have hno : ¬ ((((items.size : Int) - 1) == 0 && (-1 : Int) == 1 && items.size == items.size) = true) := by
    rw [Bool.and_eq_true, Bool.and_eq_true]
    exact fun k => absurd k.1.2 (by decide)
  show wpAny _ _ (if (((items.size : Int) - 1) == 0 && (-1 : Int) == 1 && items.size == items.size) = true then _ else _) _ _ s
  rw [if_neg hno, revPick]
  first
    | exact wpAny_bind (m := Builtin.Tuple.tupleExact _) (wpAny_newObj_type (wpAny_pure ⟨_, rfl, wpAny_pure h⟩) hok)
    | exact wpAny_bind (m := Builtin.Tuple.tupleExact _) (wpAny_newObj_type (wpAny_bind (wpAny_pure (wpAny_pure ⟨_, rfl, wpAny_pure h⟩))) hok)
    | exact wpAny_bind (wpAny_bind (m := Builtin.Tuple.tupleExact _) (wpAny_newObj_type (wpAny_pure (wpAny_pure ⟨_, rfl, wpAny_pure h⟩)) hok))
    | exact wpAny_bind (wpAny_bind (m := Builtin.Tuple.tupleExact _) (wpAny_newObj_type (wpAny_pure ⟨_, rfl, wpAny_pure h⟩) hok))
end
def tRevT (K : PySem.W.Frag) (te : TE) : TE := fun σ H Q => te σ H fun x H1 => ∃ a xs, x = .ref a ∧ SqT K H1 a xs ∧ NewAt H1 (.tup xs.reverse) Q
theorem pe_revT {X : Cx} {e : Expr} {te : TE} {k : Nat} {p1 p2 p3 pos : Pos} (he : PE X e te) : PE X (.Subscript e (.Slice none none (some (.UnaryOp .USub (.Constant (.int 1) k p1) p2)) p3) pos) (tRevT X.K te) := by
  refine ⟨fun pins s σ H Q I h => ?_⟩
  refine Subscript_ (thn (he.run pins s σ H _ I h) fun v s1 hq => ?_)
  obtain ⟨x, H1, I1, r1, a, xs, ex, hx, q⟩ := hq
  subst ex
  cases r1
  have hst : PO X (some (.UnaryOp .USub (.Constant (.int 1) k p1) p2)) (tPart (tUn (rU fun i => .int (-i)) (tC (.int 1)))) := po_some (pe_un un_neg pe_int)
  refine wpAny_Slice (thn (po_none.run pins s1 σ H1 (fun o H2 => o = none ∧ H2 = H1) I1 ⟨rfl, rfl⟩) fun vl s2 z2 => ?_)
  obtain ⟨l, H2, I2, pl, el, e2⟩ := z2
  subst el e2
  refine thn (po_none.run pins s2 σ H2 (fun o H3 => o = none ∧ H3 = H2) I2 ⟨rfl, rfl⟩) fun vu s3 z3 => ?_
  obtain ⟨u, H3, I3, pu, eu, e3⟩ := z3
  subst eu e3
  refine thn (hst.run pins s3 σ H3 (fun o H4 => o = some (-1) ∧ H4 = H3) I3 ⟨1, rfl, -1, rfl, rfl, rfl⟩) fun vs s4 z4 => ?_
  obtain ⟨o, H4, I4, ps, eo, e4⟩ := z4
  subst eo e4
  cases pl
  cases pu
  have I5 : Inv X pins σ H4 { s4 with heap := s4.heap.push { cls := .type "slice", data := .fields #[.none, .none, vs] } } := I4.kept (t' := s4.toks) fun b ob z => Heap.get?_push_of_some _ z
  obtain ⟨its, r, ht, hz⟩ := I5.tuple hx
  have hlen := r.length
  show wpAny (model X.prog X.w) X.A (subscriptTail e (.Slice none none (some (.UnaryOp .USub (.Constant (.int 1) k p1) p2)) p3) (.ref a) (.ref s4.heap.objs.size)) (EP X pins σ Q) X.xe { s4 with heap := s4.heap.push { cls := .type "slice", data := .fields #[.none, .none, vs] } }
  refine tail_any (ops := [.ref a, .ref s4.heap.objs.size]) ht.typeIs (PyProof.Rows.slot_tuple_getitem.lookup) ?_ (by with_unfolding_all rfl)
  refine getRev ht (Heap.IsSliceOf.new _ .none .none vs) ps ?_ (by rw [List.size_toArray]; omega)
  refine ⟨.ref _, _, I5.laid (t' := s4.toks) (o := .tup xs.reverse) (fun b ob z => Heap.get?_push_of_some _ z) (Nat.le_refl _) ?_, rfl, q.upd (I5.hok.fresh (Nat.le_refl _))⟩
  exact ⟨by rw [List.length_reverse]; exact hz, _, r.reverse, IsTup.new _ _⟩
/-! ### calls with keywords: positional ones, then each further parameter by its keyword's place -/
def pgk {α : Type} (d : α) (perm : List Nat) (vs zs : List α) : List α := vs ++ perm.map fun i => zs.getD i d
theorem relGetD {zs : List V} {ws : List Value} (h : Vals zs ws) (i : Nat) : RelV (zs.getD i .non) (ws.getD i .none) := by
  rw [List.getD_eq_getElem?_getD, List.getD_eq_getElem?_getD]
  cases e : zs[i]? with
  | none =>
    rw [h.none_of e]
    rfl
  | some v =>
    obtain ⟨u, hu, r⟩ := h.get e
    rw [hu]
    exact r
theorem relMap {zs : List V} {ws : List Value} (h : Vals zs ws) : ∀ perm : List Nat, Vals (perm.map fun i => zs.getD i .non) (perm.map fun i => ws.getD i .none)
  | [] => .nil
  | i :: perm => .cons (relGetD h i) (relMap h perm)
def KnK (P : Program) (w : World) (K : PySem.W.Frag) (mg : Str → Option Value) (base : Heap) (x : Str) (ps : List Str) (k : Nat) (sp : Sp) (n : Nat) (ks : List Str) (perm : List Nat) : Prop :=
  ∃ (f : Addr) (fd : FuncData), FnOk P w K mg base CX0 k f fd ps sp ∧ mg x = some (.ref f) ∧ PySem.W.keepIn K (.ref f) = true ∧ KBn K fd ps n ks (pgk .none perm) (pgk .non perm)
theorem KnK.mk {P : Program} {w : World} {K : PySem.W.Frag} {mg : Str → Option Value} {base : Heap} {x : Str} {st : Stmt} {ps ks : List Str} {k n : Nat} {perm : List Nat} {sp : Sp} {f : Addr} {fd : FuncData} (F : Fun K x x st f fd) (m : mg x = some (.ref f))
    (h : ∀ (kV doc pm : Value) (an : Option Addr) (cdv ct : Value) (us ws : List Value), us.length = n → ws.length = ks.length → bindArgs (PySem.W.fnOf x x (defArgs st) (defBody st) (defScope st) .none kV doc pm an cdv ct) ⟨us, ks.zip ws⟩ = pure (ps.zip (pgk .none perm us ws)))
    (ok : FnOk P w K mg base CX0 k f fd ps sp) : KnK P w K mg base x ps k sp n ks perm := by
  refine ⟨f, fd, ok, m, F.kp, ⟨?_, ?_⟩⟩
  · obtain ⟨oc, od, kV, doc, pm, an, cdv, ct, osl, rfl, lk, hcd⟩ := F.ex
    exact fun s us ws _ h1 h2 => .of_eq (h kV doc pm an cdv ct us ws h1 h2)
  · exact fun r rz => Vals.append r (relMap rz perm)
theorem pe_ownK {X : Cx} {x : Str} {ps ks : List Str} {k n : Nat} {perm : List Nat} {sp : Sp} {e : Expr} {es : List Expr} {kws : List Keyword} {t tk : TA} {p pos : Pos} (h : KnK X.prog X.w X.K X.mg X.base x ps k sp n ks perm) (hr : Room k X.A) (hg : Gl X x) (ha : PA X (e :: es) t) (hkw : PK X kws tk)
    (hall : (backToKw pos (keywordEach kws X.env)).all (·.1.isSome) = true := by rfl) (hks : (backToKw pos (keywordEach kws X.env)).filterMap (·.1) = ks := by rfl) (hdb : (x == ("__debug__" : Str)) = false := by decide) (he : starEach (e :: es) X.env = (false, eval e X.env) :: starEach es X.env := by rfl)
    (hpl : ((backTo pos (starEach (e :: es) X.env)).any (·.1) || (backToKw pos (keywordEach kws X.env)).any (·.1.isNone)) = false := by rfl) : PE X (.Call (.Name x p) (e :: es) kws pos) (tCallN n ks.length sp (pgk .non perm) E0 t tk) := by
  obtain ⟨f, fd, F, m, kp, b⟩ := h
  exact pe_callN F hr hg m kp b pass0 ha hkw hall hks hdb he hpl
def tCallK0 (m : Nat) (sp : Sp) (perm : List Nat) (tk : TA) : TE := fun σ H Q => tk σ H fun zs H2 => zs.length = m ∧ sp (pgk .non perm [] zs) H2 Q E0
theorem pe_ownK0 {X : Cx} {x : Str} {ps ks : List Str} {k : Nat} {perm : List Nat} {sp : Sp} {kws : List Keyword} {tk : TA} {p pos : Pos} (h : KnK X.prog X.w X.K X.mg X.base x ps k sp 0 ks perm) (hr : Room k X.A) (hg : Gl X x) (hkw : PK X kws tk)
    (hall : (backToKw pos (keywordEach kws X.env)).all (·.1.isSome) = true := by rfl) (hks : (backToKw pos (keywordEach kws X.env)).filterMap (·.1) = ks := by rfl) (hdb : (x == ("__debug__" : Str)) = false := by decide)
    (hpl : ((backTo pos (starEach [] X.env)).any (·.1) || (backToKw pos (keywordEach kws X.env)).any (·.1.isNone)) = false := by rfl) : PE X (.Call (.Name x p) [] kws pos) (tCallK0 ks.length sp perm tk) := by
  obtain ⟨f, fd, F, m, kp, b⟩ := h
  refine ⟨fun pins s σ H Q I hq => wpAny_Call_Name_kw (ld_glob I hg m ?_ hdb)⟩
  refine PySem.W.callWith_KW0 (h₀ := X.base) I.ok.mod.kin kp hall (thn (hkw.run pos pins s σ H _ I hq) fun ws s2 z2 => ?_) hpl
  obtain ⟨zs, H2, I2, rz, l2, q2⟩ := z2
  refine ⟨I2.kIn, ?_⟩
  rw [hks]
  exact run_fnN F hr b pass0 I2 .nil rz rfl l2 q2
/-! ### enumerate(tuple) -/
theorem enumNew {v : Value} {o : Obj} {G : Heap → Prop} (B : Begins v o G) : Meets (Builtin.«enumerate.__new__» ⟨[.type "enumerate", v], []⟩) (fun _ R s => G s.heap ∧
      R (.ok (.ret (.ref (s.heap.push o).objs.size))) { s with heap := (s.heap.push o).push { cls := .type "enumerate", data := .fields #[.none, .bool false, .ref s.heap.objs.size, rawInt 0, .none, .none] } }) :=
  .of_wp fun prog w A R s h => by
    obtain ⟨hp, g, d, tk, os⟩ := s
    obtain ⟨h1, h⟩ := h
    have hsub := sub_enumerate
    have it : ∀ {A' : Around} {E : Value → Shared → Prop} {Q : Value → Shared → Prop}, Q (.ref hp.objs.size) ⟨hp.push o, g, d, tk, os⟩ → wpAny (model prog w) A' (pyIter v) Q E ⟨hp, g, d, tk, os⟩ := fun q => B.iter prog w _ _ ⟨hp, g, d, tk, os⟩ _ h1 q
    wp_walk using it
    refine wpAny_stack_any fun st => wpAny_pure ?_
    split
    · rename_i c _ _ _ _ _
      cases (c == Value.type "enumerate") <;> (wp_walk using it; exact ⟨_, rfl, h⟩)
    · wp_walk using it
      exact ⟨_, rfl, h⟩
theorem callEnumB {prog : Program} {w : World} {A : Around} {E : Value → Shared → Prop} {s : Shared} {v : Value} {o : Obj} {G : Heap → Prop} {Q : Value → Shared → Prop} (B : Begins v o G) (h1 : G s.heap)
    (h : ∀ h', IsEnum h' (s.heap.objs.size + 1) s.heap.objs.size 0 .none → h'.get? s.heap.objs.size = some o → (∀ b u, s.heap.get? b = some u → h'.get? b = some u) → Q (.ref (s.heap.objs.size + 1)) { s with heap := h' }) :
    wpAny (model prog w) A (call (.type "enumerate") [v]) Q E s := by
  refine callType_new F.called_enumerate (by decide) (F.typeCall_enumerate_1 _) (F.newCall_enumerate_1 _) (fun obj => F.args_object_init_2 obj _) F.entry_enumerate_new (enumNew B) ⟨h1, ?_⟩
  have hz : (s.heap.push o).objs.size = s.heap.objs.size + 1 := Heap.size_push ..
  show _ ∧ _
  rw [hz]
  have he : IsEnum ((s.heap.push o).push { cls := .type "enumerate", data := .fields #[.none, .bool false, .ref s.heap.objs.size, rawInt 0, .none, .none] }) (s.heap.objs.size + 1) s.heap.objs.size 0 .none := by
    have z := Heap.get?_push_size (s.heap.push o) (o := { cls := .type "enumerate", data := .fields #[.none, .bool false, .ref s.heap.objs.size, rawInt 0, .none, .none] }) rfl
    rw [hz] at z
    exact z
  exact ⟨⟨_, he, rfl⟩, h _ he (Heap.get?_push_of_some _ (Heap.get?_push_size _ B.free)) fun b u x => Heap.get?_push_of_some _ (Heap.get?_push_of_some _ x)⟩
def IteT (K : PySem.W.Frag) (a : Addr) : It where
  go := fun i H => ∃ (xs : List V) (x : V), SqT K H a xs ∧ xs[i]? = some x
  yld := fun i H v H' => ∃ T x, v = .ref T ∧ H T = none ∧ H' = upd H T (.tup [.int (i : Nat), x]) ∧ ∀ xs, SqT K H a xs → xs[i]? = some x
  stop := fun i H => ∃ xs : List V, SqT K H a xs ∧ i = xs.length
theorem turn_enumT {P : Program} {w : World} {K : PySem.W.Frag} {elts : List Expr} {kk : Nat} {tpos : Pos} {a e it : Addr} (hai : a ≠ it) (hea : e ≠ a) :
    Turn P w K (.Tuple elts kk tpos) (IteT K a) [e, it] e (fun i h => (∃ old, IsEnum h e it ((i : Nat) : Int) old) ∧ h.IsTupleIter it a i ∧ e ≠ it) where
  mem := by simp
  obj := fun i h st b hb => by
    obtain ⟨⟨old, g1⟩, ⟨o, g2, _, d2⟩, _⟩ := st
    have hm : b = e ∨ b = it := by simpa using hb
    rcases hm with rfl | rfl
    · exact ⟨_, g1, fun v k => nomatch k⟩
    · exact ⟨o, g2, fun v k => by rw [d2] at k; cases k⟩
  keep := fun i h h' st k => let ⟨⟨old, g1⟩, g2, g3⟩ := st; ⟨⟨old, k e (by simp) _ g1⟩, g2.at fun o z => k it (by simp) o z, g3⟩
  item := by
    intro X eP ew eK hc i pins s σ H E I hf st hg
    subst eP ew eK
    obtain ⟨⟨old, g1⟩, g2, g3⟩ := st
    obtain ⟨xs, x, hq, hx⟩ := hg
    obtain ⟨its, rv, p, _⟩ := I.tuple hq
    obtain ⟨u, hu, ru⟩ := rv.get hx
    have le0 : e < s.heap.objs.size := Heap.lt_size g1
    have li0 : it < s.heap.objs.size := by
      obtain ⟨_, z, _⟩ := g2
      exact Heap.lt_size z
    have hh : X.A.in1.handled = none := I.ok.hd hc
    have l1 : i < its.toArray.size := by
      have := (List.getElem?_eq_some_iff.mp hu).1
      simpa using this
    refine wpAny_pyNext_enum_itemD (Draws.tuple hh it a hai its.toArray) g1 ⟨g2, show s.heap.IsTuple a its.toArray from p⟩ l1 g3 (by simp [g3, hea]) fun x1 h' tk P1 ho st' hT hsz hk => ?_
    have e1 : x1 = u := Option.some.inj (P1.symm.trans (by simpa using hu))
    subst e1
    refine ⟨_, rfl, wpAny_letOwnedTupleGo_enum (s := { s with heap := h', toks := tk + 1 }) ho fun h'' he' sb => ?_⟩
    have hT2 : h''.get? s.heap.objs.size = some { cls := .type "tuple", data := .seq #[.int i tk, x1] } := (sb.2 _ (Nat.ne_of_gt le0)).trans hT
    have nob : ObjOk X.prog X.w (upd H s.heap.objs.size (.tup [.int (i : Nat), x])) h'' s.heap.objs.size (.tup [.int (i : Nat), x]) := ⟨by show 2 ≤ sizeLine; decide, [.int i tk, x1], .cons ⟨_, rfl⟩ (.cons ru .nil), ⟨_, hT2, rfl, _, rfl⟩⟩
    have kept : ∀ b ob, b ∉ [e, it] → s.heap.get? b = some ob → h''.get? b = some ob := fun b ob hb z => (sb.2 b (fun k => hb (by simp [k]))).trans (hk b ob (fun k => hb (by simp [k])) (fun k => hb (by simp [k])) z)
    have I1 : Inv X pins σ (upd H s.heap.objs.size (.tup [.int (i : Nat), x])) { s with heap := h'', toks := tk + 1 } := I.turnedNew (ch := [e, it]) kept hf (Nat.le_refl _) nob
    refine ⟨.ref s.heap.objs.size, _, I1, rfl, ⟨_, x, rfl, I.hok.fresh (Nat.le_refl _), rfl, fun ys hy => by rw [I.tuple_inj hy hq]; exact hx⟩, ⟨⟨x1, ?_⟩, st'.1.at fun o z => (sb.2 it (Ne.symm g3)).trans z, g3⟩, fun b hb => ?_⟩
    · have e2 : ((i + 1 : Nat) : Int) = (i : Int) + 1 := by omega
      rw [e2]
      exact he'
    · have hm : b = e ∨ b = it := by simpa using hb
      have hb' : b < s.heap.objs.size := by
        rcases hm with rfl | rfl
        · exact le0
        · exact li0
      rw [upd_ne (Nat.ne_of_lt hb')]
      exact (hf b hb).1
  done := by
    intro X eP ew eK hc i pins s σ H E I hf st hg
    subst eP ew eK
    obtain ⟨⟨old, g1⟩, g2, g3⟩ := st
    obtain ⟨xs, hq, hx⟩ := hg
    obtain ⟨its, rv, p, _⟩ := I.tuple hq
    obtain ⟨f0, f1, f2, f3, f4, f5⟩ := hf it (by simp)
    have hh : X.A.in1.handled = none := I.ok.hd hc
    have z1 : i = its.toArray.size := by rw [List.size_toArray, hx]; exact rv.length
    subst z1
    exact wpAny_pyNext_enum_endD (Draws.tuple hh it a hai its.toArray) g1 ⟨g2, show s.heap.IsTuple a its.toArray from p⟩ fun h' eb => ⟨rfl, I.turned (t' := s.toks) (fun b o hb z => eb b o hb z) f0 f1 f3 f4 f5⟩
  self := fun A i s Q E st h => let ⟨⟨_, g1⟩, _⟩ := st; wpAny_pyIter_enum g1 h
def iEnumT (K : PySem.W.Frag) (ta : TA) : TI := fun σ H R => ta σ H fun vs H1 => ∃ a xs, vs = [.ref a] ∧ SqT K H1 a xs ∧ R (IteT K a) H1
theorem pi_enumT {X : Cx} {e : Expr} {ta : TA} {p pos tpos : Pos} {elts : List Expr} {kk : Nat} {K : PySem.W.Frag} (hg : Gl X "enumerate") (hm : X.mg "enumerate" = none) (ha : PA X [e] ta) (hK : X.K = K := by rfl) (hs : starEach [e] X.env = [(false, eval e X.env)] := by rfl) :
    PI X (.Tuple elts kk tpos) (.Call (.Name "enumerate" p) [e] [] pos) (iEnumT K ta) := by
  subst hK
  refine ⟨fun pins s σ H R I h => Call_ (ld_blt I hg hm boot_enumerate (PyProof.Rows.callWith_type1 (thn (ha.run pos pins s σ H _ I h) fun us s1 z => ?_) hs rfl))⟩
  obtain ⟨vs, H1, I1, r1, a, xs, ex, hq, q⟩ := z
  subst ex
  cases r1 with
  | cons r rr =>
    cases rr
    cases r
    obtain ⟨its, rv, p', _⟩ := I1.tuple hq
    obtain ⟨o2, ho2, _⟩ := id p'
    have la : a < s1.heap.objs.size := Heap.lt_size ho2
    refine callEnumB (begins_tuple a its.toArray) (show s1.heap.IsTuple a its.toArray from p') fun h' he hit hk => wpAny_pyIter_enum he ?_
    have I2 : Inv X pins σ H1 { s1 with heap := h' } := I1.kept (t' := s1.toks) hk
    refine ⟨s1.heap.objs.size + 1, [s1.heap.objs.size + 1, s1.heap.objs.size], _, _, H1, rfl, I2, turn_enumT (a := a) (e := s1.heap.objs.size + 1) (it := s1.heap.objs.size) (Nat.ne_of_lt la) (Nat.ne_of_gt (Nat.lt_succ_of_lt la)), ⟨⟨.none, he⟩, ⟨_, hit, rfl, rfl⟩, Nat.succ_ne_self _⟩, fun b hb => ?_, q⟩
    have hle : s1.heap.objs.size ≤ b := by
      have hm : b = s1.heap.objs.size + 1 ∨ b = s1.heap.objs.size := by simpa using hb
      rcases hm with k | k <;> rw [k] <;> first | exact Nat.le_refl _ | exact Nat.le_add_right _ _
    exact I1.fpOk hle (I1.hok.fresh hle)
theorem walk_enumT {K : PySem.W.Frag} {a : Addr} {xs : List V} : Walk (IteT K a) xs.length (fun H => SqT K H a xs) (YPair (fun i => some (.int (i : Nat))) (fun i => xs[i]?)) where
  goes := fun i H hi g => ⟨xs, xs[i], g, by simp [hi]⟩
  stops := fun H g => ⟨xs, g, rfl⟩
  yields := fun i H v H' hi g y => by
    obtain ⟨T, x, h1, h2, h3, h4⟩ := y
    exact ⟨T, .int (i : Nat), x, h1, h2, h3, rfl, h4 xs g⟩
/-! ### rules that name the written part: it stands by itself, so that a comprehension's own context doesn't show -/
theorem ixs {X : Cx} {K : PySem.W.Frag} (hK : X.K = K := by rfl) : IxR X (rIx K) := by
  subst hK
  exact ix_seq
theorem eqD {X : Cx} {K : PySem.W.Frag} (hu : X.A.units + 64 < cLine) (hK : X.K = K := by rfl) : OpR X (compareOp .Eq) (rEqD K) := by
  subst hK
  exact op_eqD hu
theorem neD {X : Cx} {K : PySem.W.Frag} (hu : X.A.units + 64 < cLine) (hK : X.K = K := by rfl) : OpR X (compareOp .NotEq) (rNeD K) := by
  subst hK
  exact op_neD hu
theorem sumL {X : Cx} {K : PySem.W.Frag} (hc : X.calm = true) (hK : X.K = K := by rfl) : CallR X (.builtin "sum") (rSum K) := by
  subst hK
  exact cr_sum hc
theorem allL {X : Cx} {K : PySem.W.Frag} (hc : X.calm = true) (hK : X.K = K := by rfl) : CallR X (.builtin "all") (rAll K) := by
  subst hK
  exact cr_all hc
theorem anyL {X : Cx} {K : PySem.W.Frag} (hc : X.calm = true) (hK : X.K = K := by rfl) : CallR X (.builtin "any") (rAny K) := by
  subst hK
  exact cr_any hc
theorem isi1 {X : Cx} {K : PySem.W.Frag} (hK : X.K = K := by rfl) : CallR X (.builtin "isinstance") (rIsi K) := by
  subst hK
  exact call_isi
theorem isiN {X : Cx} {K : PySem.W.Frag} (hK : X.K = K := by rfl) : CallR X (.builtin "isinstance") (rIsiT K) := by
  subst hK
  exact call_isiT
def rRepN : R2 := fun x y H Q => ∃ l k xs, x = .ref l ∧ y = .int k ∧ H l = some (.lst xs) ∧ -(2 ^ 63) ≤ k ∧ k < 2 ^ 63 ∧ xs.length * k.toNat ≤ sizeLine ∧ NewAt H (.lst (List.replicate k.toNat xs).flatten) Q
theorem opRepN {X : Cx} : OpR X (binaryOp .Mult) rRepN := fun pins s σ H x y v u Q I rx ry ⟨l, k, xs, e1, e2, h1, h2, h3, h4, q⟩ => op_rep pins s σ H x y v u Q I rx ry ⟨l, k, xs, e1, e2, h1, h2, h3, h4, fun p np => q.upd np⟩
end Pan
namespace Pan
open PySem PySem.Spec PyProof.Rows L2
/-! ### folds of runs -/
def fo (f l m : Int) : Int × Int := if f < 2 * m ∧ 2 * m < l then (1, if l - 2 * m > 2 * m - f then l - 2 * m else 2 * m - f) else if 2 * m < f then (f - 2 * m, l - 2 * m) else (2 * m - l, 2 * m - f)
def be (r : Int × Int) (ws : List Int) : Int × Int := ws.foldl (fun r m => fo r.1 r.2 m) r
def Odds (f l : Int) : Prop := f % 2 = 1 ∧ l % 2 = 1 ∧ 1 ≤ f ∧ f ≤ l
theorem fo_odds {f l m : Int} (h : Odds f l) (hm : 1 ≤ m) : Odds (fo f l m).1 (fo f l m).2 := by
  obtain ⟨h1, h2, h3, h4⟩ := h
  unfold fo Odds
  split
  · dsimp only
    split <;> omega
  · split <;> dsimp only <;> omega
/-- a run within another one is taken within what that is taken to, below 2 M -/
def In2 (M : Int) (r s : Int × Int) : Prop := Odds r.1 r.2 ∧ Odds s.1 s.2 ∧ r.1 ≤ s.1 ∧ s.2 ≤ r.2 ∧ r.2 ≤ 2 * M - 1
theorem fo_in {M m : Int} {r s : Int × Int} (h : In2 M r s) (hm : 1 ≤ m) (hM : m ≤ M) : In2 M (fo r.1 r.2 m) (fo s.1 s.2 m) := by
  obtain ⟨o1, o2, h3, h4, h5⟩ := h
  refine ⟨fo_odds o1 hm, fo_odds o2 hm, ?_⟩
  obtain ⟨a1, a2, a3, a4⟩ := o1
  obtain ⟨b1, b2, b3, b4⟩ := o2
  unfold fo
  (repeat' split) <;> (try dsimp only) <;> omega
theorem be_in {M : Int} : ∀ (ws : List Int) (r s : Int × Int), In2 M r s → (∀ x ∈ ws, 1 ≤ x ∧ x ≤ M) → In2 M (be r ws) (be s ws)
  | [], _, _, h, _ => h
  | x :: ws, r, s, h, k => be_in ws _ _ (fo_in h (k x (List.mem_cons_self ..)).1 (k x (List.mem_cons_self ..)).2) fun y hy => k y (List.mem_cons_of_mem _ hy)
theorem be_snoc (r : Int × Int) (ws : List Int) (m : Int) : be r (ws ++ [m]) = fo (be r ws).1 (be r ws).2 m := by
  unfold be
  rw [List.foldl_append]
  rfl
theorem Drawn.start {t D : Addr} {H1 : Hp} {m : Int} {c : Nat} (nD : H1 D = none) (T : Tp c H1 t) : Drawn t D H1 m c 0 (upd H1 D (.lst [])) :=
  ⟨[], rfl, (fun _ h => absurd h List.not_mem_nil), upd_same, Un.same (same_upd nD), T.same (same_upd nD)⟩
theorem Drawn.more {t D : Addr} {H1 H' H2 : Hp} {m v : Int} {c d i : Nat} (nD : H1 D = none) (T1 : Tp d H1 t) (h : ∃ ws : List Int, ws.length = i ∧ (∀ w ∈ ws, 1 ≤ w ∧ w ≤ m) ∧ H' D = some (.lst (ws.map V.int)) ∧ Un t H1 H') (h1 : 1 ≤ v) (h2 : v ≤ m) (U : Un t H' H2) (T : Tp c H2 t) (hi : i < 1000) :
    ∃ acc, H2 D = some (.lst acc) ∧ acc.length < sizeLine ∧ Drawn t D H1 m c (i + 1) (upd H2 D (.lst (acc ++ [.int v]))) := by
  obtain ⟨ws, hl, hw, e, U1⟩ := h
  have nt : D ≠ t := T1.nn nD
  refine ⟨_, U D _ nt e, szl (by rw [List.length_map]; omega), ws ++ [v], by rw [List.length_append, hl]; rfl, fun x hx => ?_, ?_, ?_, ?_⟩
  · rcases List.mem_append.mp hx with h | h
    · exact hw x h
    · have : x = v := by simpa using h
      subst this
      exact ⟨h1, h2⟩
  · rw [upd_same, List.map_append]
    rfl
  · exact fun a o n ea => by
      rw [upd_ne (ne_of_none ea nD)]
      exact U a o n (U1 a o n ea)
  · obtain ⟨x, y, z, et, r⟩ := T
    exact ⟨x, y, z, by rw [upd_ne nt.symm]; exact et, r⟩
/-! ### falls at one balance -/
def sd (s : Int) : Str := if s < 0 then "left" else "right"
def st1 (s m : Int) : Int := if s < 0 then s + 2 * m else s - 2 * m
def fin (s : Int) (ws : List Int) : Int := ws.foldl st1 s
def sds : Int → List Int → List Str
  | _, [] => []
  | s, m :: ws => sd s :: sds (st1 s m) ws
def lfl : Int → List Int → List Int
  | _, [] => []
  | s, m :: ws => if s < 0 then m :: lfl (st1 s m) ws else lfl (st1 s m) ws
theorem fin_cons (s m : Int) (ws : List Int) : fin s (m :: ws) = fin (st1 s m) ws := rfl
theorem fin_snoc (s : Int) (ws : List Int) (m : Int) : fin s (ws ++ [m]) = st1 (fin s ws) m := by
  unfold fin
  rw [List.foldl_append]
  rfl
theorem fin_app (s : Int) (us ws : List Int) : fin s (us ++ ws) = fin (fin s us) ws := by
  unfold fin
  rw [List.foldl_append]
theorem sds_app : ∀ (us : List Int) (s : Int) (ws : List Int), sds s (us ++ ws) = sds s us ++ sds (fin s us) ws
  | [], _, _ => rfl
  | u :: us, s, ws => by
    show sd s :: sds (st1 s u) (us ++ ws) = sd s :: (sds (st1 s u) us ++ sds (fin (st1 s u) us) ws)
    rw [sds_app us]
theorem sds_snoc (s : Int) (ws : List Int) (m : Int) : sds s (ws ++ [m]) = sds s ws ++ [sd (fin s ws)] := sds_app ws s [m]
theorem lfl_app : ∀ (us : List Int) (s : Int) (ws : List Int), lfl s (us ++ ws) = lfl s us ++ lfl (fin s us) ws
  | [], _, _ => rfl
  | u :: us, s, ws => by
    show (if s < 0 then u :: lfl (st1 s u) (us ++ ws) else lfl (st1 s u) (us ++ ws)) = (if s < 0 then u :: lfl (st1 s u) us else lfl (st1 s u) us) ++ lfl (fin (st1 s u) us) ws
    rw [lfl_app us]
    split <;> rfl
theorem lfl_snoc (s : Int) (ws : List Int) (m : Int) : lfl s (ws ++ [m]) = lfl s ws ++ (if fin s ws < 0 then [m] else []) := lfl_app ws s [m]
theorem sds_len : ∀ (ws : List Int) (s : Int), (sds s ws).length = ws.length
  | [], _ => rfl
  | m :: ws, s => by
    show (sds (st1 s m) ws).length + 1 = ws.length + 1
    rw [sds_len ws]
theorem sds_get : ∀ (ws : List Int) (s : Int) (i : Nat), i < ws.length → (sds s ws)[i]? = some (sd (fin s (ws.take i)))
  | m :: ws, s, 0, _ => rfl
  | m :: ws, s, i + 1, h => sds_get ws (st1 s m) i (Nat.lt_of_succ_lt_succ h)
theorem lfl_len : ∀ (ws : List Int) (s : Int), (lfl s ws).length ≤ ws.length
  | [], _ => Nat.le_refl _
  | m :: ws, s => by
    have h := lfl_len ws (st1 s m)
    unfold lfl
    split
    · exact Nat.succ_le_succ h
    · exact Nat.le_succ_of_le h
/-- what the standing is more, by the pounds of the left pan -/
theorem fin_lfl : ∀ (ws : List Int) (s : Int), fin s ws = s + 2 * (2 * (lfl s ws).sum - ws.sum)
  | [], s => by
    show s = s + 2 * (2 * 0 - 0)
    omega
  | m :: ws, s => by
    rw [fin_cons, fin_lfl ws (st1 s m), List.sum_cons]
    by_cases h : s < 0
    · have e1 : st1 s m = s + 2 * m := if_pos h
      have e2 : lfl s (m :: ws) = m :: lfl (st1 s m) ws := if_pos h
      rw [e2, List.sum_cons, e1]
      omega
    · have e1 : st1 s m = s - 2 * m := if_neg h
      have e2 : lfl s (m :: ws) = lfl (st1 s m) ws := if_neg h
      rw [e2, e1]
      omega
theorem st1_odd {s m : Int} (h : s % 2 = 1) : st1 s m % 2 = 1 := by
  unfold st1
  split <;> omega
theorem fin_odd : ∀ (ws : List Int) (s : Int), s % 2 = 1 → fin s ws % 2 = 1
  | [], _, h => h
  | m :: ws, s, h => fin_odd ws (st1 s m) (st1_odd h)
theorem sd_ok (s : Int) : PyData.strOk (sd s) = true := by
  unfold sd
  split <;> decide +kernel
theorem sds_ok : ∀ (ws : List Int) (s : Int), ∀ x ∈ sds s ws, PyData.strOk x = true
  | [], _, x, h => absurd h List.not_mem_nil
  | m :: ws, s, x, h => by
    rcases List.mem_cons.mp h with rfl | h
    · exact sd_ok s
    · exact sds_ok ws (st1 s m) x h
theorem sd_left {s : Int} : (sd s = ("left" : Str)) ↔ s < 0 := by
  unfold sd
  constructor
  · intro h
    split at h
    · assumption
    · exact absurd h (by decide)
  · intro h
    rw [if_pos h]
theorem sd_right {s : Int} : (sd s = ("right" : Str)) ↔ ¬ s < 0 := by
  unfold sd
  constructor
  · intro h
    split at h
    · exact absurd h (by decide)
    · assumption
  · intro h
    rw [if_neg h]
theorem shSides (s : Int) (ws : List Int) (n : Int) : Sh 2 (.tuple [.list ((sds s ws).map PyData.str), .int n]) :=
  .tup (.cons (.list (.map _ fun x h => .str (sds_ok ws s x h))) (.cons (.int _) .nil))
def ahv (s : Int) (right : Bool) (m : Int) : V := if right then (if s + 2 * m < 0 then .non else .int (s + 2 * m)) else (if s - 2 * m < 0 then .int (s - 2 * m) else .non)
def sideS (right : Bool) : Str := if right then "right" else "left"
theorem sd_side (s : Int) : sd s = sideS (!decide (s < 0)) := by
  unfold sd sideS
  by_cases h : s < 0
  · rw [if_pos h, decide_eq_true h]
    rfl
  · rw [if_neg h, decide_eq_false h]
    rfl
/-- so many times as great -/
theorem st1_times {k s m : Int} (hk : 0 < k) : st1 (k * s) (k * m) = k * st1 s m := by
  unfold st1
  by_cases h : s < 0
  · rw [if_pos h, if_pos (Int.mul_neg_of_pos_of_neg hk h), Int.mul_add, Int.mul_left_comm]
  · have h2 : ¬ k * s < 0 := Int.not_lt.mpr (Int.mul_nonneg (Int.le_of_lt hk) (Int.not_lt.mp h))
    rw [if_neg h, if_neg h2, Int.mul_sub, Int.mul_left_comm]
theorem sd_times {k s : Int} (hk : 0 < k) : sd (k * s) = sd s := by
  unfold sd
  by_cases h : s < 0
  · rw [if_pos h, if_pos (Int.mul_neg_of_pos_of_neg hk h)]
  · have h2 : ¬ k * s < 0 := Int.not_lt.mpr (Int.mul_nonneg (Int.le_of_lt hk) (Int.not_lt.mp h))
    rw [if_neg h, if_neg h2]
theorem fin_times {k : Int} (hk : 0 < k) : ∀ (ws : List Int) (s : Int), fin (k * s) (ws.map (k * ·)) = k * fin s ws
  | [], _ => rfl
  | m :: ws, s => by
    show fin (st1 (k * s) (k * m)) (ws.map (k * ·)) = k * fin (st1 s m) ws
    rw [st1_times hk, fin_times hk ws]
theorem sds_times {k : Int} (hk : 0 < k) : ∀ (ws : List Int) (s : Int), sds (k * s) (ws.map (k * ·)) = sds s ws
  | [], _ => rfl
  | m :: ws, s => by
    show sd (k * s) :: sds (st1 (k * s) (k * m)) (ws.map (k * ·)) = sd s :: sds (st1 s m) ws
    rw [st1_times hk, sds_times hk ws, sd_times hk]
theorem sum_times (k : Int) : ∀ (ws : List Int), (ws.map (k * ·)).sum = k * ws.sum
  | [] => by simp
  | m :: ws => by
    rw [List.map_cons, List.sum_cons, List.sum_cons, sum_times k ws, Int.mul_add]
theorem lfl_times {k : Int} (hk : 0 < k) : ∀ (ws : List Int) (s : Int), lfl (k * s) (ws.map (k * ·)) = (lfl s ws).map (k * ·)
  | [], _ => rfl
  | m :: ws, s => by
    show (if k * s < 0 then k * m :: lfl (st1 (k * s) (k * m)) (ws.map (k * ·)) else lfl (st1 (k * s) (k * m)) (ws.map (k * ·))) = (if s < 0 then m :: lfl (st1 s m) ws else lfl (st1 s m) ws).map (k * ·)
    rw [st1_times hk, lfl_times hk ws]
    by_cases h : s < 0
    · rw [if_pos h, if_pos (Int.mul_neg_of_pos_of_neg hk h)]
      rfl
    · have h2 : ¬ k * s < 0 := Int.not_lt.mpr (Int.mul_nonneg (Int.le_of_lt hk) (Int.not_lt.mp h))
      rw [if_neg h, if_neg h2]
/-- of two times as great at least, one beside it -/
theorem near_neg {k s b : Int} (hk : 2 ≤ k) (hs : s % 2 = 1) (hb : b = 1 ∨ b = -1) : (k * s + b < 0) ↔ s < 0 := by
  constructor
  · intro h
    refine Decidable.byContradiction fun n => ?_
    have h1 : k * 1 ≤ k * s := Int.mul_le_mul_of_nonneg_left (by omega) (by omega)
    omega
  · intro h
    have h1 : k * s ≤ k * (-1) := Int.mul_le_mul_of_nonneg_left (by omega) (by omega)
    omega
theorem st1_near {k s m b : Int} (hk : 2 ≤ k) (hs : s % 2 = 1) (hb : b = 1 ∨ b = -1) : st1 (k * s + b) (k * m) = k * st1 s m + b := by
  unfold st1
  by_cases h : s < 0
  · rw [if_pos h, if_pos ((near_neg hk hs hb).mpr h), Int.mul_add, Int.mul_left_comm]
    omega
  · rw [if_neg h, if_neg (fun z => h ((near_neg hk hs hb).mp z)), Int.mul_sub, Int.mul_left_comm]
    omega
theorem sd_near {k s b : Int} (hk : 2 ≤ k) (hs : s % 2 = 1) (hb : b = 1 ∨ b = -1) : sd (k * s + b) = sd s := by
  unfold sd
  by_cases h : s < 0
  · rw [if_pos h, if_pos ((near_neg hk hs hb).mpr h)]
  · rw [if_neg h, if_neg (fun z => h ((near_neg hk hs hb).mp z))]
theorem falls_near {k b : Int} (hk : 2 ≤ k) (hb : b = 1 ∨ b = -1) : ∀ (ws : List Int) (s : Int), s % 2 = 1 → fin (k * s + b) (ws.map (k * ·)) = k * fin s ws + b ∧ sds (k * s + b) (ws.map (k * ·)) = sds s ws
  | [], _, _ => ⟨rfl, rfl⟩
  | m :: ws, s, hs => by
    have ih := falls_near hk hb ws (st1 s m) (st1_odd hs)
    show fin (st1 (k * s + b) (k * m)) (ws.map (k * ·)) = k * fin (st1 s m) ws + b ∧ sd (k * s + b) :: sds (st1 (k * s + b) (k * m)) (ws.map (k * ·)) = sd s :: sds (st1 s m) ws
    rw [st1_near hk hs hb, sd_near hk hs hb]
    exact ⟨ih.1, by rw [ih.2]⟩
/-! ### comprehensions in short -/
theorem lcMapT {K : PySem.W.Frag} {a : Addr} {ws : List Int} {f : Int → Int} {j : Nat} {te : TE} {vs : List Nat} {σ : L2.St} {H1 : Hp} {Q : VK} (ea : H1 a = some (.tup (ws.map V.int))) (hl : ws.length ≤ 1000)
    (hw : ∀ x, wipe ((wipe σ vs).set j (some x)) vs = wipe σ vs) (ht : ∀ m ∈ ws, ∀ (H' : Hp) (R : VK), R (.int (f m)) H' → te ((wipe σ vs).set j (some (.int m))) H' R)
    (hd : ∀ (D : Addr) (H' : Hp), H1 D = none → Same H1 H' → H' D = some (.lst ((ws.map f).map V.int)) → Q (.ref D) H') : LcGo (Itt K a) (gName j) tYes te vs σ H1 Q := by
  intro D nD
  refine lc_tup (K := K) (a := a) (xs := ws.map V.int) (fun i H' => Same H1 H' ∧ H' D = some (.lst (((ws.take i).map f).map V.int))) ⟨same_upd nD, upd_same⟩ (fun i H' _ hP => SqT.of (hP.1 _ _ ea)) (fun i x H' hx hP => ?_) (fun H' hP => ?_)
  · obtain ⟨m, hm, rfl, hg⟩ := item_int hx
    refine ⟨hw _, ht m hm H' _ ⟨_, hP.2, szl (by rw [List.length_map, List.length_map, List.length_take]; omega), Same.of_upd hP.1 nD, ?_⟩⟩
    rw [upd_same, List.take_add_one, hg, List.map_append, List.map_append]
    rfl
  · rw [List.length_map, List.take_length] at hP
    exact hd D H' nD hP.1 hP.2
theorem lcDraw {t : Addr} {m : Int} {n c j : Nat} {te : TE} {vs : List Nat} {σ : L2.St} {H1 : Hp} {Q : VK} (T : Tp (c + 3 * n) H1 t) (hn : n ≤ 500) (hw : ∀ x, wipe ((wipe σ vs).set j (some x)) vs = wipe σ vs)
    (ht : ∀ (i : Nat) (H' : Hp) (b : Nat), Tp (b + 3) H' t → ∀ R : VK, (∀ (v : Int) (H2 : Hp), 1 ≤ v → v ≤ m → Un t H' H2 → Tp b H2 t → R (.int v) H2) → te ((wipe σ vs).set j (some (.int (0 + (i : Nat))))) H' R)
    (hd : ∀ (D : Addr) (ws : List Int) (H' : Hp), ws.length = n → (∀ x ∈ ws, 1 ≤ x ∧ x ≤ m) → H1 D = none → Un t H1 H' → Tp c H' t → H' D = some (.lst (ws.map V.int)) → Q (.ref D) H') : LcGo (Itr 0 n) (gName j) tYes te vs σ H1 Q := by
  intro D nD
  refine lc_range (lo := 0) (n := n) (fun i H' => Drawn t D H1 m (c + 3 * (n - i)) i H') (Drawn.start nD T) (fun i H' hi hP => ?_) (fun H' hP => ?_)
  · obtain ⟨ws, h1, h2, h3, h4, h5⟩ := hP
    refine ⟨hw _, ht i H' (c + 3 * (n - (i + 1))) (h5.le (by omega)) _ fun v H2 hv1 hv2 U T2 => ?_⟩
    exact Drawn.more nD T ⟨ws, h1, h2, h3, h4⟩ hv1 hv2 U T2 (by omega)
  · obtain ⟨ws, h1, h2, h3, h4, h5⟩ := hP
    exact hd D ws H' h1 h2 nD h4 (h5.le (by omega)) h3
theorem lcMapL {K : PySem.W.Frag} {a : Addr} {xs : List V} {f : V → V} {j : Nat} {te : TE} {vs : List Nat} {σ : L2.St} {H1 : Hp} {Q : VK} (ea : H1 a = some (.lst xs)) (hl : xs.length ≤ 1000)
    (hw : ∀ x, wipe ((wipe σ vs).set j (some x)) vs = wipe σ vs) (ht : ∀ x ∈ xs, ∀ (H' : Hp) (R : VK), Same H1 H' → (∀ H2, Same H' H2 → R (f x) H2) → te ((wipe σ vs).set j (some x)) H' R)
    (hd : ∀ (D : Addr) (H' : Hp), H1 D = none → Same H1 H' → H' D = some (.lst (xs.map f)) → Q (.ref D) H') : LcGo (Itl K a) (gName j) tYes te vs σ H1 Q := by
  intro D nD
  refine lc_list (K := K) (a := a) (xs := xs) (fun i H' => Same H1 H' ∧ H' D = some (.lst ((xs.take i).map f))) ⟨same_upd nD, upd_same⟩ (fun i H' _ hP => SqL.of (hP.1 _ _ ea)) (fun i x H' hx hP => ?_) (fun H' hP => ?_)
  · refine ⟨hw _, ht x (List.mem_of_getElem? hx) H' _ hP.1 fun H2 S2 => ⟨_, S2 _ _ hP.2, szl (by rw [List.length_map, List.length_take]; omega), Same.of_upd (hP.1.trans S2) nD, ?_⟩⟩
    rw [upd_same, List.take_add_one, hx, List.map_append]
    rfl
  · rw [List.take_length] at hP
    exact hd D H' nD hP.1 hP.2
/-! ### mirrored falls -/
def oth (x : Str) : Str := if x = ("left" : Str) then "right" else "left"
theorem oth_sd {s : Int} (h : s % 2 = 1) : oth (sd s) = sd (0 - s) := by
  by_cases c : s < 0
  · have e : sd s = ("left" : Str) := sd_left.mpr c
    have e2 : sd (0 - s) = ("right" : Str) := sd_right.mpr (by omega)
    rw [e, e2]
    rfl
  · have e : sd s = ("right" : Str) := sd_right.mpr c
    have e2 : sd (0 - s) = ("left" : Str) := sd_left.mpr (by omega)
    rw [e, e2]
    rfl
theorem st1_mir {s m : Int} (h : s % 2 = 1) : st1 (0 - s) m = 0 - st1 s m := by
  unfold st1
  split <;> split <;> omega
theorem falls_mir : ∀ (ws : List Int) (s : Int), s % 2 = 1 → fin (0 - s) ws = 0 - fin s ws ∧ sds (0 - s) ws = (sds s ws).map oth ∧ (lfl (0 - s) ws).sum = ws.sum - (lfl s ws).sum
  | [], s, _ => ⟨rfl, rfl, rfl⟩
  | m :: ws, s, h => by
    obtain ⟨h1, h2, h3⟩ := falls_mir ws (st1 s m) (st1_odd h)
    rw [← st1_mir h] at h1 h2 h3
    refine ⟨h1, ?_, ?_⟩
    · show sd (0 - s) :: sds (st1 (0 - s) m) ws = oth (sd s) :: (sds (st1 s m) ws).map oth
      rw [oth_sd h, h2]
    · by_cases c : s < 0
      · have e1 : lfl s (m :: ws) = m :: lfl (st1 s m) ws := if_pos c
        have e2 : lfl (0 - s) (m :: ws) = lfl (st1 (0 - s) m) ws := if_neg (by omega)
        rw [e1, e2, List.sum_cons, List.sum_cons, h3]
        omega
      · have e1 : lfl s (m :: ws) = lfl (st1 s m) ws := if_neg c
        have e2 : lfl (0 - s) (m :: ws) = m :: lfl (st1 (0 - s) m) ws := if_pos (by omega)
        rw [e1, e2, List.sum_cons, List.sum_cons, h3]
        omega
theorem ahv_back {s m : Int} (hm : 1 ≤ m) : ahv (st1 s m) (!decide (s < 0)) m = .int s := by
  unfold ahv st1
  by_cases c : s < 0
  · have e : s + 2 * m - 2 * m = s := by omega
    rw [if_pos c, decide_eq_true c, if_neg (by decide), e, if_pos c]
  · have e : s - 2 * m + 2 * m = s := by omega
    rw [if_neg c, decide_eq_false c, if_pos (by decide), e, if_neg c]
theorem ahv_mir {s m : Int} (h : s % 2 = 1) (hm : 1 ≤ m) : ahv (0 - st1 s m) (decide (s < 0)) m = .int (0 - s) := by
  have e := ahv_back (s := 0 - s) hm
  rw [st1_mir h] at e
  have d : (!decide (0 - s < 0)) = decide (s < 0) := by
    by_cases c : s < 0
    · rw [decide_eq_true c, decide_eq_false (show ¬ 0 - s < 0 by omega)]
      rfl
    · rw [decide_eq_false c, decide_eq_true (show 0 - s < 0 by omega)]
      rfl
  rw [d] at e
  exact e
theorem oth_side {s : Int} (h : s % 2 = 1) : oth (sd s) = sideS (decide (s < 0)) := by
  rw [oth_sd h, sd_side]
  by_cases c : s < 0
  · rw [decide_eq_true c, decide_eq_false (show ¬ 0 - s < 0 by omega)]
    rfl
  · rw [decide_eq_false c, decide_eq_true (show 0 - s < 0 by omega)]
    rfl
/-! ### data that H tracks, so deep at most, the same on both sides -/
mutual
inductive Dt (H : Hp) : Nat → V → PyData → Prop
  | non {n : Nat} : Dt H n .non .none
  | bl {n : Nat} (b : Bool) : Dt H n (.bl b) (.bool b)
  | int {n : Nat} (i : Int) : Dt H n (.int i) (.int i)
  | str {n : Nat} (x : Str) : Dt H n (.str x) (.str x)
  | lst {n : Nat} {a : Addr} {xs : List V} {ds : List PyData} : H a = some (.lst xs) → xs.length ≤ 50000 → DtA H n xs ds → Dt H (n + 1) (.ref a) (.list ds)
  | tup {n : Nat} {a : Addr} {xs : List V} {ds : List PyData} : H a = some (.tup xs) → xs.length ≤ 50000 → DtA H n xs ds → Dt H (n + 1) (.ref a) (.tuple ds)
inductive DtA (H : Hp) : Nat → List V → List PyData → Prop
  | nil {n : Nat} : DtA H n [] []
  | cons {n : Nat} {v : V} {vs : List V} {d : PyData} {ds : List PyData} : Dt H n v d → DtA H n vs ds → DtA H n (v :: vs) (d :: ds)
end
mutual
theorem Dt.same {H H' : Hp} (S : Same H H') : ∀ {n : Nat} {v : V} {d : PyData}, Dt H n v d → Dt H' n v d
  | _, _, _, .non => .non
  | _, _, _, .bl b => .bl b
  | _, _, _, .int i => .int i
  | _, _, _, .str x => .str x
  | _, _, _, .lst e z k => .lst (S _ _ e) z (k.same S)
  | _, _, _, .tup e z k => .tup (S _ _ e) z (k.same S)
theorem DtA.same {H H' : Hp} (S : Same H H') : ∀ {n : Nat} {vs : List V} {ds : List PyData}, DtA H n vs ds → DtA H' n vs ds
  | _, _, _, .nil => .nil
  | _, _, _, .cons h k => .cons (h.same S) (k.same S)
end
mutual
theorem Dt.up {H : Hp} : ∀ {n m : Nat} {v : V} {d : PyData}, Dt H n v d → n ≤ m → Dt H m v d
  | _, _, _, _, .non, _ => .non
  | _, _, _, _, .bl b, _ => .bl b
  | _, _, _, _, .int i, _ => .int i
  | _, _, _, _, .str x, _ => .str x
  | n + 1, m + 1, _, _, .lst e z k, h => .lst e z (k.up (Nat.le_of_succ_le_succ h))
  | n + 1, m + 1, _, _, .tup e z k, h => .tup e z (k.up (Nat.le_of_succ_le_succ h))
theorem DtA.up {H : Hp} : ∀ {n m : Nat} {vs : List V} {ds : List PyData}, DtA H n vs ds → n ≤ m → DtA H m vs ds
  | _, _, _, _, .nil, _ => .nil
  | _, _, _, _, .cons h k, l => .cons (h.up l) (k.up l)
end
theorem DtA.len {H : Hp} : ∀ {n : Nat} {vs : List V} {ds : List PyData}, DtA H n vs ds → vs.length = ds.length
  | _, _, _, .nil => rfl
  | _, _, _, .cons _ k => congrArg (· + 1) k.len
theorem DtA.two {H : Hp} : ∀ {n : Nat} {us vs : List V} {ds : List PyData} {i : Nat} {x y : V}, DtA H n us ds → DtA H n vs ds → us[i]? = some x → vs[i]? = some y → ∃ d, Dt H n x d ∧ Dt H n y d
  | _, _, _, _, _, _, _, .nil, .nil, h, _ => by cases h
  | _, _, _, _, 0, _, _, .cons h _, .cons k _, e, f => by
    cases e
    cases f
    exact ⟨_, h, k⟩
  | _, _, _, _, i + 1, _, _, .cons _ h, .cons _ k, e, f => DtA.two (i := i) h k (by simpa using e) (by simpa using f)
theorem dtInts {H : Hp} {n : Nat} : ∀ ns : List Int, DtA H n (ns.map V.int) (ns.map PyData.int)
  | [] => .nil
  | x :: ns => .cons (.int x) (dtInts ns)
theorem dtStrs {H : Hp} {n : Nat} : ∀ ns : List Str, DtA H n (ns.map V.str) (ns.map PyData.str)
  | [] => .nil
  | x :: ns => .cons (.str x) (dtStrs ns)
theorem dtBls {H : Hp} {n : Nat} : ∀ ns : List Bool, DtA H n (ns.map V.bl) (ns.map PyData.bool)
  | [] => .nil
  | x :: ns => .cons (.bl x) (dtBls ns)
theorem kit2 {K : PySem.W.Frag} {t a b : String} {r s : Bool} (h : kitB t a = some r) (k : kitB t b = some s) : PySem.W.kitAny K (.type t) [.type a, .type b] = some (r || s) := by
  refine kitAny_cons (kit_ty h) (fun e => ?_) (fun e => ?_)
  · subst e
    refine kitAny_cons (kit_ty k) (fun e => ?_) (fun e => ?_)
    · subst e
      exact kitAny_nil
    · subst e
      rfl
  · subst e
    rfl
theorem walk_zipTT {K : PySem.W.Frag} {a b : Addr} {xs ys : List V} (hl : xs.length = ys.length) : Walk (RZ.ItzT K a b) xs.length (fun H => SqT K H a xs ∧ SqT K H b ys) (YPair (fun i => xs[i]?) (fun i => ys[i]?)) where
  goes := fun i H hi g => ⟨xs, ys, xs[i], ys[i]'(by omega), g.1, g.2, by simp [hi], by simp [show i < ys.length by omega]⟩
  stops := fun H g => ⟨xs, ys, g.1, g.2, .inl (Nat.le_refl _)⟩
  yields := fun i H v H' hi g y => by
    obtain ⟨T, x, z, h1, h2, h3, h4, h5⟩ := y
    exact ⟨T, x, z, h1, h2, h3, h4 xs g.1, h5 ys g.2⟩
def spSame : Nat → Sp
  | 0 => fun _ _ _ _ => False
  | n + 1 => fun vs H Q _ => ∃ (x y : V) (d : PyData), vs = [x, y] ∧ Dt H n x d ∧ Dt H n y d ∧ ∀ H', Same H H' → Q (.bl true) H'
/-! ### the law's own falls: 0 left, 1 right -/
def sdn (s : Int) : Int := if s > 0 then 1 else 0
def sdi : Int → List Int → List Int
  | _, [] => []
  | s, m :: ws => sdn s :: sdi (st1 s m) ws
theorem sdi_app : ∀ (us : List Int) (s : Int) (ws : List Int), sdi s (us ++ ws) = sdi s us ++ sdi (fin s us) ws
  | [], _, _ => rfl
  | u :: us, s, ws => by
    show sdn s :: sdi (st1 s u) (us ++ ws) = sdn s :: (sdi (st1 s u) us ++ sdi (fin (st1 s u) us) ws)
    rw [sdi_app us]
theorem sdi_snoc (s : Int) (ws : List Int) (m : Int) : sdi s (ws ++ [m]) = sdi s ws ++ [sdn (fin s ws)] := sdi_app ws s [m]
theorem sdi_len : ∀ (ws : List Int) (s : Int), (sdi s ws).length = ws.length
  | [], _ => rfl
  | m :: ws, s => by
    show (sdi (st1 s m) ws).length + 1 = ws.length + 1
    rw [sdi_len ws]
theorem sdi_01 : ∀ (ws : List Int) (s : Int), ∀ x ∈ sdi s ws, x = 0 ∨ x = 1
  | [], _, x, h => absurd h List.not_mem_nil
  | m :: ws, s, x, h => by
    rcases List.mem_cons.mp h with e | h
    · subst e
      unfold sdn
      split
      · exact .inr rfl
      · exact .inl rfl
    · exact sdi_01 ws (st1 s m) x h
def nmS (i : Int) : Str := if i = 0 then "left" else "right"
theorem nm_sdn {s : Int} (h : s % 2 = 1) : nmS (sdn s) = sd s := by
  unfold nmS sdn sd
  by_cases c : s < 0
  · rw [if_neg (show ¬ s > 0 by omega), if_pos c]
    rfl
  · rw [if_pos (show s > 0 by omega), if_neg c]
    rfl
theorem nm_sdi : ∀ (ws : List Int) (s : Int), s % 2 = 1 → (sdi s ws).map nmS = sds s ws
  | [], _, _ => rfl
  | m :: ws, s, h => by
    show nmS (sdn s) :: (sdi (st1 s m) ws).map nmS = sd s :: sds (st1 s m) ws
    rw [nm_sdn h, nm_sdi ws (st1 s m) (st1_odd h)]
theorem st1_sdn {s m : Int} (h : s % 2 = 1) : s + 2 * m * (1 - 2 * sdn s) = st1 s m := by
  unfold sdn st1
  by_cases c : s < 0
  · rw [if_neg (show ¬ s > 0 by omega), if_pos c, show (1 - 2 * 0 : Int) = 1 by decide, Int.mul_one]
  · rw [if_pos (show s > 0 by omega), if_neg c, show (1 - 2 * 1 : Int) = -1 by decide, Int.mul_neg_one]
    rfl
/-! ### what was ahead, by trying both -/
def b01 (r : Bool) : Int := if r then 1 else 0
def trd (s : Int) (r : Bool) (m : Int) (n : Nat) : List Int := ([s - 2 * m, s + 2 * m].take n).filter fun c => decide (st1 c m = s ∧ sdn c = b01 r)
def ahl : V → List Int
  | .int v => [v]
  | _ => []
theorem trd_all {s m : Int} (r : Bool) (ho : s % 2 = 1) (hm : 1 ≤ m) : trd s r m 2 = ahl (ahv s r m) := by
  have c1 : (st1 (s - 2 * m) m = s ∧ sdn (s - 2 * m) = b01 r) ↔ (r = false ∧ s - 2 * m < 0) := by
    unfold st1 sdn b01
    cases r
    · simp only [true_and]
      constructor
      · intro h
        obtain ⟨h1, h2⟩ := h
        split at h1
        · assumption
        · omega
      · intro h
        rw [if_pos h, if_neg (by omega)]
        exact ⟨by omega, rfl⟩
    · constructor
      · intro h
        obtain ⟨h1, h2⟩ := h
        split at h1 <;> split at h2 <;> simp at h2 <;> omega
      · intro h
        exact absurd h.1 (by decide)
  have c2 : (st1 (s + 2 * m) m = s ∧ sdn (s + 2 * m) = b01 r) ↔ (r = true ∧ ¬ s + 2 * m < 0) := by
    unfold st1 sdn b01
    cases r
    · constructor
      · intro h
        obtain ⟨h1, h2⟩ := h
        split at h1 <;> split at h2 <;> simp at h2 <;> omega
      · intro h
        exact absurd h.1 (by decide)
    · simp only [true_and]
      constructor
      · intro h
        obtain ⟨h1, h2⟩ := h
        split at h1
        · omega
        · assumption
      · intro h
        rw [if_neg h, if_pos (show s + 2 * m > 0 by omega)]
        exact ⟨by omega, rfl⟩
  unfold trd ahv
  rw [List.take_of_length_le (by show 2 ≤ 2; decide), List.filter_cons, List.filter_cons, List.filter_nil]
  simp only [decide_eq_true_eq, c1, c2]
  cases r
  · simp only [true_and]
    by_cases c : s - 2 * m < 0
    · simp [c, ahl]
    · simp [c, ahl]
  · simp only [true_and]
    by_cases c : s + 2 * m < 0
    · simp [c, ahl]
    · simp [c, ahl]
theorem ahv_cases (s : Int) (r : Bool) (m : Int) : (∃ v, ahv s r m = .int v) ∨ ahv s r m = .non := by
  unfold ahv
  cases r
  · by_cases c : s - 2 * m < 0
    · exact .inl ⟨_, if_pos c⟩
    · exact .inr (if_neg c)
  · by_cases c : s + 2 * m < 0
    · exact .inr (if_pos c)
    · exact .inl ⟨_, if_neg c⟩
theorem sum_snoc (xs : List Int) (m : Int) : (xs ++ [m]).sum = xs.sum + m := by
  rw [List.sum_append, List.sum_cons, List.sum_nil]
  omega
theorem sdi_get : ∀ (ws : List Int) (s : Int) (i : Nat), i < ws.length → (sdi s ws)[i]? = some (sdn (fin s (ws.take i)))
  | m :: ws, s, 0, _ => rfl
  | m :: ws, s, i + 1, h => sdi_get ws (st1 s m) i (Nat.lt_of_succ_lt_succ h)
end Pan
namespace Pan
open PySem PySem.Spec PyProof.Rows L2
/-! ### the greatest of a tuple -/
def rMaxT (K : PySem.W.Frag) : List V → Hp → VK → Prop := fun vs H Q => ∃ (a : Addr) (ns : List Int), vs = [V.ref a] ∧ SqT K H a (ns.map V.int) ∧ 0 < ns.length ∧ ∀ m, m ∈ ns → (∀ y, y ∈ ns → y ≤ m) → Q (.int m) H
theorem cr_maxT {X : Cx} {K : PySem.W.Frag} (hc : X.calm = true) (hK : X.K = K := by rfl) : CallR X (.builtin "max") (rMaxT K) := by
  subst hK
  intro pins s σ H vs us Q I r h
  obtain ⟨a, ns, rfl, hs, hne, q⟩ := h
  obtain ⟨its, rv, ht, _⟩ := I.tuple hs
  have hi : IntsAre its ns := rv.ints
  rw [Vals.ref1 r]
  obtain ⟨xs, e⟩ := hi.allInts.items
  have hn : numsOf (intItems xs).toList = ns := by rw [← e]; exact hi.numsOf
  rw [nums_intItems] at hn
  subst hn
  have ht' : s.heap.IsTuple a (intItems xs) := by
    rw [← e]
    exact ht
  have hx : 0 < xs.size := by simpa using hne
  obtain ⟨o, ho, _⟩ := id ht'
  have hlt : a < s.heap.objs.size := Heap.lt_size ho
  have hh : X.A.in1.handled = none := I.ok.hd hc
  refine call_max_walk (wpAny_pyIter_tuple ht' ?_)
  refine ⟨s.heap.objs.size, _, _, _, _, _, _, rfl, Walks.tuple hh s.heap.objs.size a (Nat.ne_of_lt hlt) (intItems xs), ⟨⟨_, Heap.get?_push_size _ rfl, rfl, rfl⟩, ht'.at fun o z => Heap.get?_push_of_some _ z⟩, fun b hb => ?_, by simpa [intItems] using hx, CmpOf.ints_gt (numAt xs) (fun _ _ => intItems_at), fun v h' tk hP hk => ?_⟩
  · show b < (s.heap.push _).objs.size
    rw [Heap.size_push]
    have hm : b = s.heap.objs.size ∨ b = a := by simpa using hb
    rcases hm with rfl | rfl
    · exact Nat.lt_succ_self _
    · exact Nat.lt_succ_of_lt hlt
  · have hP' : (intItems xs)[argBest (fun i j => decide (numAt xs i > numAt xs j)) (xs.size - 1)]? = some v := by simpa [intItems] using hP
    obtain ⟨t, rfl⟩ := intItems_at hP'
    obtain ⟨h1, h2⟩ := argBest_gt (numAt xs) (xs.size - 1)
    refine ⟨.int _, H, I.kept fun b u z => hk b u (fun hb => absurd (Heap.lt_size z) ((List.mem_singleton.mp hb) ▸ Nat.lt_irrefl _)) (Heap.get?_push_of_some _ z), ⟨t, rfl⟩, q _ ?_ fun y hy => ?_⟩
    · rw [numAt_eq]
      exact PySem.getD_mem (by rw [List.length_map, Array.length_toList]; omega)
    · obtain ⟨j, hj, rfl⟩ := mem_getD hy
      rw [List.length_map, Array.length_toList] at hj
      rw [← numAt_eq]
      exact h2 j (by omega)
/-! ### words, their greatest weight -/
def GoodW (ws : List Int) : Prop := ws ≠ [] ∧ ∀ x ∈ ws, 1 ≤ x
def mx : List Int → Int
  | [] => 0
  | x :: ws => max x (mx ws)
theorem le_mx : ∀ (ws : List Int), ∀ x ∈ ws, x ≤ mx ws
  | y :: ws, x, h => by
    rcases List.mem_cons.mp h with e | h
    · subst e
      exact Int.le_max_left _ _
    · exact Int.le_trans (le_mx ws x h) (Int.le_max_right _ _)
theorem mx_mem : ∀ (ws : List Int), ws ≠ [] → (∀ x ∈ ws, 1 ≤ x) → mx ws ∈ ws
  | [x], _, h => by
    have h1 := h x (List.mem_cons_self ..)
    have e : mx [x] = x := by
      show max x 0 = x
      omega
    rw [e]
    exact List.mem_cons_self ..
  | x :: y :: ws, _, h => by
    have ih := mx_mem (y :: ws) (by simp) fun z hz => h z (List.mem_cons_of_mem _ hz)
    show max x (mx (y :: ws)) ∈ _
    by_cases c : mx (y :: ws) ≤ x
    · have e : max x (mx (y :: ws)) = x := by omega
      rw [e]
      exact List.mem_cons_self ..
    · have e : max x (mx (y :: ws)) = mx (y :: ws) := by omega
      rw [e]
      exact List.mem_cons_of_mem _ ih
theorem mx_is {ws : List Int} (g : GoodW ws) {m : Int} (h1 : m ∈ ws) (h2 : ∀ y ∈ ws, y ≤ m) : m = mx ws := by
  have a := le_mx ws m h1
  have b := h2 _ (mx_mem ws g.1 g.2)
  omega
theorem mx_pos {ws : List Int} (g : GoodW ws) : 1 ≤ mx ws := g.2 _ (mx_mem ws g.1 g.2)
theorem sum_pos : ∀ (ws : List Int), (∀ x ∈ ws, 1 ≤ x) → (ws.length : Int) ≤ ws.sum
  | [], _ => Int.le_refl _
  | x :: ws, h => by
    have := sum_pos ws fun y hy => h y (List.mem_cons_of_mem _ hy)
    have := h x (List.mem_cons_self ..)
    rw [List.sum_cons, List.length_cons]
    omega
theorem sum_nn (ws : List Int) (h : ∀ x ∈ ws, 1 ≤ x) : 0 ≤ ws.sum := Int.le_trans (by omega) (sum_pos ws h)
theorem mx_sum {ws : List Int} (h : ∀ x ∈ ws, 1 ≤ x) : mx ws ≤ ws.sum := by
  induction ws with
  | nil => exact Int.le_refl _
  | cons x ws ih =>
    have i1 := ih fun y hy => h y (List.mem_cons_of_mem _ hy)
    have i2 := sum_nn ws fun y hy => h y (List.mem_cons_of_mem _ hy)
    have i3 := h x (List.mem_cons_self ..)
    rw [List.sum_cons]
    show max x (mx ws) ≤ _
    omega
/-! ### sizes -/
def szz (s : Int) : Int := if s < 0 then -s else s
def InR (r : Int × Int) (x : Int) : Prop := r.1 ≤ x ∧ x ≤ r.2
theorem szz_odd {s : Int} (h : s % 2 = 1) : szz s % 2 = 1 ∧ 1 ≤ szz s := by
  unfold szz
  split <;> omega
theorem szz_mir (s : Int) : szz (0 - s) = szz s := by
  unfold szz
  split <;> split <;> omega
theorem st1_in {r : Int × Int} {s m : Int} (ho : s % 2 = 1) (hr : Odds r.1 r.2) (h : InR r (szz s)) : InR (fo r.1 r.2 m) (szz (st1 s m)) := by
  obtain ⟨a1, a2, a3, a4⟩ := hr
  obtain ⟨h1, h2⟩ := h
  unfold fo InR
  unfold szz at *
  unfold st1
  (repeat' split) <;> (repeat' split at h1) <;> (repeat' split at h2) <;> (try dsimp only) <;> omega
theorem be_cons (r : Int × Int) (m : Int) (ws : List Int) : be r (m :: ws) = be (fo r.1 r.2 m) ws := rfl
theorem be_odds : ∀ (ws : List Int) (r : Int × Int), Odds r.1 r.2 → (∀ x ∈ ws, 1 ≤ x) → Odds (be r ws).1 (be r ws).2
  | [], _, h, _ => h
  | m :: ws, r, h, k => be_odds ws _ (fo_odds h (k m (List.mem_cons_self ..))) fun y hy => k y (List.mem_cons_of_mem _ hy)
theorem fin_in : ∀ (ws : List Int) (r : Int × Int) (s : Int), s % 2 = 1 → Odds r.1 r.2 → (∀ x ∈ ws, 1 ≤ x) → InR r (szz s) → InR (be r ws) (szz (fin s ws))
  | [], _, _, _, _, _, h => h
  | m :: ws, r, s, ho, hr, k, h => fin_in ws _ _ (st1_odd ho) (fo_odds hr (k m (List.mem_cons_self ..))) (fun y hy => k y (List.mem_cons_of_mem _ hy)) (st1_in ho hr h)
/-! ### runs that stay are whole -/
def Wh : Int × Int → List Int → Prop
  | _, [] => True
  | r, m :: ws => ¬ (r.1 < 2 * m ∧ 2 * m < r.2) ∧ Wh (fo r.1 r.2 m) ws
theorem fo_wd {f l m : Int} (h : Odds f l) : (fo f l m).2 - (fo f l m).1 ≤ l - f ∧ ((f < 2 * m ∧ 2 * m < l) → (fo f l m).2 - (fo f l m).1 < l - f) := by
  obtain ⟨h1, h2, h3, h4⟩ := h
  unfold fo
  (repeat' split) <;> (try dsimp only) <;> omega
theorem be_wd : ∀ (ws : List Int) (r : Int × Int), Odds r.1 r.2 → (∀ x ∈ ws, 1 ≤ x) → (be r ws).2 - (be r ws).1 ≤ r.2 - r.1 ∧ ((be r ws).2 - (be r ws).1 = r.2 - r.1 → Wh r ws)
  | [], _, _, _ => ⟨Int.le_refl _, fun _ => trivial⟩
  | m :: ws, r, h, k => by
    have a := fo_wd (m := m) h
    have b := be_wd ws (fo r.1 r.2 m) (fo_odds h (k m (List.mem_cons_self ..))) fun y hy => k y (List.mem_cons_of_mem _ hy)
    rw [be_cons]
    refine ⟨by omega, fun e => ⟨fun z => ?_, b.2 (by omega)⟩⟩
    have := a.2 z
    omega
theorem wh_tr : ∀ (ws : List Int) (r : Int × Int) (s u : Int), Wh r ws → Odds r.1 r.2 → (∀ x ∈ ws, 1 ≤ x) → s % 2 = 1 → u % 2 = 1 → InR r (szz s) → InR r (szz u) → (s < 0 ↔ u < 0) → fin s ws - s = fin u ws - u ∧ (fin s ws < 0 ↔ fin u ws < 0)
  | [], _, s, u, _, _, _, _, _, _, _, e => by
    refine ⟨?_, e⟩
    show s - s = u - u
    omega
  | m :: ws, r, s, u, hw, hr, k, hs, hu, h1, h2, e => by
    have e1 : (st1 s m < 0 ↔ st1 u m < 0) ∧ st1 s m - s = st1 u m - u := by
      obtain ⟨a1, a2, a3, a4⟩ := hr
      obtain ⟨g1, g2⟩ := h1
      obtain ⟨g3, g4⟩ := h2
      have w := hw.1
      unfold szz at *
      unfold st1
      (repeat' split) <;> (repeat' split at g1) <;> (repeat' split at g2) <;> (repeat' split at g3) <;> (repeat' split at g4) <;> omega
    have ih := wh_tr ws (fo r.1 r.2 m) (st1 s m) (st1 u m) hw.2 (fo_odds hr (k m (List.mem_cons_self ..))) (fun y hy => k y (List.mem_cons_of_mem _ hy)) (st1_odd hs) (st1_odd hu) (st1_in hs hr h1) (st1_in hu hr h2) e1.1
    rw [fin_cons, fin_cons]
    exact ⟨by omega, ih.2⟩
/-- behind one round, or two -/
theorem fix_pos {r : Int × Int} {ws : List Int} (hr : Odds r.1 r.2) (k : ∀ x ∈ ws, 1 ≤ x) (hf : be r ws = r) {s : Int} (ho : s % 2 = 1) (hp : 0 < s) (h : InR r (szz s)) : (0 < fin r.1 ws ∧ fin s ws = s ∧ fin r.1 ws = r.1) ∨ (fin r.1 ws < 0 ∧ fin s ws = s - (r.1 + r.2)) := by
  have hw := (be_wd ws r hr k).2 (by rw [hf])
  obtain ⟨a1, a2, a3, a4⟩ := id hr
  have q1 : InR r (szz r.1) := by
    unfold szz
    rw [if_neg (by omega)]
    exact ⟨Int.le_refl _, a4⟩
  have q2 : InR r (szz r.2) := by
    unfold szz
    rw [if_neg (by omega)]
    exact ⟨a4, Int.le_refl _⟩
  have t1 := wh_tr ws r s r.1 hw hr k ho a1 h q1 (by omega)
  have t2 := wh_tr ws r r.2 r.1 hw hr k a2 a1 q2 q1 (by omega)
  have i1 := fin_in ws r r.1 a1 hr k q1
  have i2 := fin_in ws r r.2 a2 hr k q2
  rw [hf] at i1 i2
  have o1 := fin_odd ws r.1 a1
  have o2 := fin_odd ws r.2 a2
  obtain ⟨j1, j2⟩ := i1
  obtain ⟨j3, j4⟩ := i2
  unfold szz at *
  by_cases c : fin r.1 ws < 0
  · refine .inr ⟨c, ?_⟩
    have c2 := t2.2.mpr c
    rw [if_pos c] at j1 j2
    rw [if_pos c2] at j3 j4
    omega
  · have c2 : ¬ fin r.2 ws < 0 := fun z => c (t2.2.mp z)
    rw [if_neg c] at j1 j2
    rw [if_neg c2] at j3 j4
    exact .inl ⟨by omega, by omega, by omega⟩
theorem fix_two {r : Int × Int} {ws : List Int} (hr : Odds r.1 r.2) (k : ∀ x ∈ ws, 1 ≤ x) (hf : be r ws = r) {s : Int} (ho : s % 2 = 1) (h : InR r (szz s)) : fin (fin s ws) ws = s ∧ (fin s ws = s ↔ fin r.1 ws = r.1) := by
  have pos : ∀ u : Int, u % 2 = 1 → 0 < u → InR r (szz u) → fin (fin u ws) ws = u ∧ (fin u ws = u ↔ fin r.1 ws = r.1) := fun u hu hp hi => by
    obtain ⟨a1, a2, a3, a4⟩ := id hr
    rcases fix_pos hr k hf hu hp hi with ⟨c1, c2, c3⟩ | ⟨c1, c2⟩
    · rw [c2]
      exact ⟨c2, fun _ => c3, fun _ => rfl⟩
    · have hi2 : InR r u := by
        have hi' := hi
        unfold szz at hi'
        rw [if_neg (by omega)] at hi'
        exact hi'
      obtain ⟨g1, g2⟩ := hi2
      have hv : InR r (szz (r.1 + r.2 - u)) := by
        unfold szz
        rw [if_neg (by omega)]
        exact ⟨by omega, by omega⟩
      have vo : (r.1 + r.2 - u) % 2 = 1 := by omega
      rcases fix_pos hr k hf vo (by omega) hv with ⟨d1, _, _⟩ | ⟨_, d2⟩
      · omega
      · have m1 := (falls_mir ws (r.1 + r.2 - u) vo).1
        have e1 : (0 : Int) - (r.1 + r.2 - u) = fin u ws := by omega
        rw [e1, d2] at m1
        refine ⟨by omega, fun z => ?_, fun z => ?_⟩
        · omega
        · omega
  by_cases c : 0 < s
  · exact pos s ho c h
  · have p := pos (0 - s) (by omega) (by omega) (by rw [szz_mir]; exact h)
    have m1 := (falls_mir ws s ho).1
    have m2 := (falls_mir ws (fin s ws) (fin_odd ws s ho)).1
    rw [m1, m2] at p
    refine ⟨by omega, ?_⟩
    rw [← p.2]
    omega
/-! ### round by round, to the run that stays -/
def rn (ws : List Int) : Nat → Int × Int
  | 0 => (1, 2 * mx ws - 1)
  | n + 1 => be (rn ws n) ws
theorem rn_zero {ws : List Int} (g : GoodW ws) : Odds (rn ws 0).1 (rn ws 0).2 := by
  have := mx_pos g
  show Odds 1 (2 * mx ws - 1)
  exact ⟨by decide, by omega, by decide, by omega⟩
theorem rn_odds {ws : List Int} (g : GoodW ws) : ∀ n, Odds (rn ws n).1 (rn ws n).2
  | 0 => rn_zero g
  | n + 1 => be_odds ws _ (rn_odds g n) g.2
theorem rn_in {ws : List Int} (g : GoodW ws) : ∀ n, In2 (mx ws) (rn ws n) (rn ws (n + 1))
  | 0 => by
    have z := rn_zero g
    have h := be_in (M := mx ws) ws (rn ws 0) (rn ws 0) ⟨z, z, Int.le_refl _, Int.le_refl _, Int.le_refl _⟩ fun x hx => ⟨g.2 x hx, le_mx ws x hx⟩
    obtain ⟨h1, _, _, _, h5⟩ := h
    exact ⟨z, h1, h1.2.2.1, h5, Int.le_refl _⟩
  | n + 1 => be_in (M := mx ws) ws _ _ (rn_in g n) fun x hx => ⟨g.2 x hx, le_mx ws x hx⟩
def IsLast (ws : List Int) (n : Nat) : Prop := rn ws (n + 1) = rn ws n ∧ ∀ i, i < n → rn ws (i + 1) ≠ rn ws i
def rw_ (ws : List Int) (n : Nat) : Nat := ((rn ws n).2 - (rn ws n).1).toNat
theorem rw_lt {ws : List Int} (g : GoodW ws) {n : Nat} (h : rn ws (n + 1) ≠ rn ws n) : rw_ ws (n + 1) < rw_ ws n := by
  obtain ⟨⟨a1, a2, a3, a4⟩, ⟨b1, b2, b3, b4⟩, c1, c2, _⟩ := rn_in g n
  have : ¬ ((rn ws (n + 1)).1 = (rn ws n).1 ∧ (rn ws (n + 1)).2 = (rn ws n).2) := fun z => h (Prod.ext z.1 z.2)
  unfold rw_
  omega
theorem ex_last {ws : List Int} (g : GoodW ws) : ∃ n, IsLast ws n := by
  have key : ∀ (m n : Nat), rw_ ws n ≤ m → (∀ i, i < n → rn ws (i + 1) ≠ rn ws i) → ∃ k, IsLast ws k := fun m => by
    induction m with
    | zero =>
      intro n hn hi
      by_cases c : rn ws (n + 1) = rn ws n
      · exact ⟨n, c, hi⟩
      · have := rw_lt g c
        omega
    | succ m ih =>
      intro n hn hi
      by_cases c : rn ws (n + 1) = rn ws n
      · exact ⟨n, c, hi⟩
      · have := rw_lt g c
        refine ih (n + 1) (by omega) fun i hi2 => ?_
        by_cases e : i = n
        · subst e
          exact c
        · exact hi i (by omega)
  exact key _ 0 (Nat.le_refl _) fun i h => absurd h (Nat.not_lt_zero _)
theorem last_uniq {ws : List Int} {n m : Nat} (h : IsLast ws n) (k : IsLast ws m) : n = m := by
  rcases Nat.lt_trichotomy n m with c | c | c
  · exact absurd h.1 (k.2 n c)
  · exact c
  · exact absurd k.1 (h.2 m c)
open Classical in
noncomputable def stN (ws : List Int) : Nat := if h : ∃ n, IsLast ws n then h.choose else 0
theorem stN_last {ws : List Int} (g : GoodW ws) : IsLast ws (stN ws) := by
  unfold stN
  rw [dif_pos (ex_last g)]
  exact (ex_last g).choose_spec
noncomputable def stS (ws : List Int) : Int × Int := rn ws (stN ws)
theorem stS_odds {ws : List Int} (g : GoodW ws) : Odds (stS ws).1 (stS ws).2 := rn_odds g _
theorem stS_fix {ws : List Int} (g : GoodW ws) : be (stS ws) ws = stS ws := (stN_last g).1
theorem stS_le {ws : List Int} (g : GoodW ws) : (stS ws).2 ≤ 2 * mx ws - 1 := by
  obtain ⟨_, _, _, h4, h5⟩ := rn_in g (stN ws)
  exact h5
theorem last_is {ws : List Int} (g : GoodW ws) {n : Nat} (h : IsLast ws n) : n = stN ws := last_uniq h (stN_last g)
noncomputable def lenW (ws : List Int) : Int := if fin (stS ws).1 ws = (stS ws).1 then 1 else 2
/-! ### rounds of falls -/
def itr (ws : List Int) : Nat → Int → Int
  | 0, s => s
  | n + 1, s => itr ws n (fin s ws)
theorem itr_succ (ws : List Int) : ∀ (n : Nat) (s : Int), itr ws (n + 1) s = fin (itr ws n s) ws
  | 0, _ => rfl
  | n + 1, s => itr_succ ws n (fin s ws)
theorem itr_add (ws : List Int) : ∀ (n m : Nat) (s : Int), itr ws (n + m) s = itr ws m (itr ws n s)
  | 0, m, s => by rw [Nat.zero_add]; rfl
  | n + 1, m, s => by
    rw [Nat.add_right_comm]
    exact itr_add ws n m (fin s ws)
theorem itr_odd (ws : List Int) : ∀ (n : Nat) (s : Int), s % 2 = 1 → itr ws n s % 2 = 1
  | 0, _, h => h
  | n + 1, s, h => itr_odd ws n _ (fin_odd ws s h)
theorem itr_mir (ws : List Int) : ∀ (n : Nat) (s : Int), s % 2 = 1 → itr ws n (0 - s) = 0 - itr ws n s
  | 0, _, _ => rfl
  | n + 1, s, h => by
    show itr ws n (fin (0 - s) ws) = 0 - itr ws n (fin s ws)
    rw [(falls_mir ws s h).1]
    exact itr_mir ws n _ (fin_odd ws s h)
/-- far off all grains fall to one side -/
theorem fin_far : ∀ (ws : List Int) (s : Int), (∀ x ∈ ws, 1 ≤ x) → 2 * ws.sum < szz s → fin s ws = if s < 0 then s + 2 * ws.sum else s - 2 * ws.sum
  | [], s, _, _ => by
    show s = if s < 0 then s + 2 * 0 else s - 2 * 0
    split <;> omega
  | m :: ws, s, k, h => by
    have k1 := k m (List.mem_cons_self ..)
    have k2 : ∀ x ∈ ws, 1 ≤ x := fun y hy => k y (List.mem_cons_of_mem _ hy)
    have k3 := sum_nn ws k2
    rw [List.sum_cons] at h ⊢
    rw [fin_cons]
    by_cases c : s < 0
    · have e1 : st1 s m = s + 2 * m := if_pos c
      have e2 : szz s = -s := if_pos c
      have e3 : szz (s + 2 * m) = -(s + 2 * m) := if_pos (by omega)
      rw [e1, fin_far ws _ k2 (by omega), if_pos c, if_pos (by omega)]
      omega
    · have e1 : st1 s m = s - 2 * m := if_neg c
      have e2 : szz s = s := if_neg c
      have e3 : szz (s - 2 * m) = s - 2 * m := if_neg (by omega)
      rw [e1, fin_far ws _ k2 (by omega), if_neg c, if_neg (by omega)]
      omega
def dn (ws : List Int) (s n : Int) : Int := if s < 0 then s + 2 * ws.sum * n else s - 2 * ws.sum * n
def far (ws : List Int) (s : Int) : Int := (szz s - 1) / (2 * ws.sum)
theorem far_mul {ws : List Int} (g : GoodW ws) (s : Int) : 2 * ws.sum * far ws s ≤ szz s - 1 ∧ szz s - 1 < 2 * ws.sum * far ws s + 2 * ws.sum := by
  have h1 : 0 < 2 * ws.sum := by
    have := sum_pos ws g.2
    have : 0 < ws.length := List.length_pos_iff.mpr g.1
    omega
  have a := Int.emod_add_mul_ediv (szz s - 1) (2 * ws.sum)
  have b := Int.emod_nonneg (szz s - 1) (show 2 * ws.sum ≠ 0 by omega)
  have c := Int.emod_lt_of_pos (szz s - 1) h1
  unfold far
  omega
theorem far_nn {ws : List Int} (g : GoodW ws) {s : Int} (ho : s % 2 = 1) : 0 ≤ far ws s := by
  have h1 : 0 < 2 * ws.sum := by
    have := sum_pos ws g.2
    have : 0 < ws.length := List.length_pos_iff.mpr g.1
    omega
  exact Int.ediv_nonneg (by have := (szz_odd ho).2; omega) (by omega)
theorem itr_far {ws : List Int} (g : GoodW ws) {s : Int} (ho : s % 2 = 1) : ∀ n : Nat, (n : Int) ≤ far ws s → itr ws n s = dn ws s n ∧ szz (itr ws n s) = szz s - 2 * ws.sum * n
  | 0, _ => by
    refine ⟨?_, ?_⟩
    · show s = dn ws s (0 : Int)
      unfold dn
      rw [Int.mul_zero]
      split <;> omega
    · show szz s = szz s - 2 * ws.sum * (0 : Int)
      rw [Int.mul_zero]
      omega
  | n + 1, h => by
    have hn : ((n + 1 : Nat) : Int) = (n : Int) + 1 := by omega
    rw [hn] at h ⊢
    obtain ⟨i1, i2⟩ := itr_far g ho n (by omega)
    have sp : 0 < 2 * ws.sum := by
      have := sum_pos ws g.2
      have : 0 < ws.length := List.length_pos_iff.mpr g.1
      omega
    have fm := far_mul g s
    have e1 : 2 * ws.sum * ((n : Int) + 1) = 2 * ws.sum * n + 2 * ws.sum := by rw [Int.mul_add, Int.mul_one]
    have e2 : 2 * ws.sum * ((n : Int) + 1) ≤ 2 * ws.sum * far ws s := Int.mul_le_mul_of_nonneg_left h (by omega)
    have ff := fin_far ws (itr ws n s) g.2 (by omega)
    rw [itr_succ, ff]
    unfold dn at i1 ⊢
    unfold szz at i2 ⊢
    unfold szz at fm
    rw [e1]
    generalize 2 * ws.sum * (n : Int) = P at *
    generalize 2 * ws.sum * far ws s = R at *
    generalize itr ws n s = v at *
    generalize 2 * ws.sum = T at *
    by_cases c : s < 0
    · simp only [if_pos c] at *
      subst i1
      (repeat' split) <;> (repeat' split at i2) <;> omega
    · simp only [if_neg c] at *
      subst i1
      (repeat' split) <;> (repeat' split at i2) <;> omega
/-- behind one more round it's below twice the greatest weight -/
theorem fin_low (M : Int) : ∀ (ws : List Int) (s : Int), (∀ x ∈ ws, 1 ≤ x ∧ x ≤ M) → s % 2 = 1 → szz s < 2 * M → szz (fin s ws) < 2 * M
  | [], _, _, _, h => h
  | m :: ws, s, k, ho, h => by
    refine fin_low M ws (st1 s m) (fun y hy => k y (List.mem_cons_of_mem _ hy)) (st1_odd ho) ?_
    have := k m (List.mem_cons_self ..)
    unfold szz at *
    unfold st1
    (repeat' split) <;> (repeat' split at h) <;> omega
theorem fin_cross (M : Int) : ∀ (ws : List Int) (s : Int), (∀ x ∈ ws, 1 ≤ x ∧ x ≤ M) → s % 2 = 1 → szz s ≤ 2 * ws.sum → szz (fin s ws) < 2 * M
  | [], s, _, ho, h => by
    have := (szz_odd ho).2
    rw [List.sum_nil] at h
    omega
  | m :: ws, s, k, ho, h => by
    have k1 := k m (List.mem_cons_self ..)
    have k2 : ∀ x ∈ ws, 1 ≤ x ∧ x ≤ M := fun y hy => k y (List.mem_cons_of_mem _ hy)
    have od := szz_odd ho
    rw [List.sum_cons] at h
    rw [fin_cons]
    by_cases c : szz s < 2 * m
    · refine fin_low M ws _ k2 (st1_odd ho) ?_
      unfold szz at *
      unfold st1
      (repeat' split) <;> (repeat' split at c) <;> omega
    · refine fin_cross M ws _ k2 (st1_odd ho) ?_
      unfold szz at *
      unfold st1
      (repeat' split) <;> (repeat' split at c) <;> (repeat' split at h) <;> omega
theorem in_rn {ws : List Int} (g : GoodW ws) {s : Int} (ho : s % 2 = 1) (h : szz s < 2 * mx ws) : ∀ n, InR (rn ws n) (szz (itr ws n s))
  | 0 => by
    have := szz_odd ho
    exact ⟨this.2, by show szz s ≤ 2 * mx ws - 1; omega⟩
  | n + 1 => by
    rw [itr_succ]
    exact fin_in ws _ _ (itr_odd ws n s ho) (rn_odds g n) g.2 (in_rn g ho h n)
def IsSet (ws : List Int) (s : Int) (n : Nat) : Prop := InR (stS ws) (szz (itr ws n s)) ∧ ∀ i, i < n → ¬ InR (stS ws) (szz (itr ws i s))
theorem ex_in {ws : List Int} (g : GoodW ws) {s : Int} (ho : s % 2 = 1) : InR (stS ws) (szz (itr ws ((far ws s).toNat + 1 + stN ws) s)) := by
  have f0 := far_nn g ho
  have fm := far_mul g s
  obtain ⟨_, i2⟩ := itr_far g ho (far ws s).toNat (by omega)
  have e : (((far ws s).toNat : Nat) : Int) = far ws s := by omega
  rw [e] at i2
  have c := fin_cross (mx ws) ws (itr ws (far ws s).toNat s) (fun x hx => ⟨g.2 x hx, le_mx ws x hx⟩) (itr_odd ws _ s ho) (by omega)
  rw [← itr_succ] at c
  rw [itr_add]
  exact in_rn g (itr_odd ws _ s ho) c (stN ws)
theorem ex_set {ws : List Int} (g : GoodW ws) {s : Int} (ho : s % 2 = 1) : ∃ n, IsSet ws s n := by
  have key : ∀ N : Nat, InR (stS ws) (szz (itr ws N s)) → ∃ n, IsSet ws s n := fun N => by
    induction N using Nat.strongRecOn with
    | ind N ih =>
      intro h
      by_cases c : ∃ i, i < N ∧ InR (stS ws) (szz (itr ws i s))
      · obtain ⟨i, hi, h2⟩ := c
        exact ih i hi h2
      · exact ⟨N, h, fun i hi h2 => c ⟨i, hi, h2⟩⟩
  exact key _ (ex_in g ho)
theorem set_uniq {ws : List Int} {s : Int} {n m : Nat} (h : IsSet ws s n) (k : IsSet ws s m) : n = m := by
  rcases Nat.lt_trichotomy n m with c | c | c
  · exact absurd h.1 (k.2 n c)
  · exact c
  · exact absurd k.1 (h.2 m c)
open Classical in
noncomputable def setN (ws : List Int) (s : Int) : Nat := if h : ∃ n, IsSet ws s n then h.choose else 0
theorem setN_is {ws : List Int} (g : GoodW ws) {s : Int} (ho : s % 2 = 1) : IsSet ws s (setN ws s) := by
  unfold setN
  rw [dif_pos (ex_set g ho)]
  exact (ex_set g ho).choose_spec
theorem not_early {ws : List Int} (g : GoodW ws) {s : Int} (ho : s % 2 = 1) {i : Nat} (h : (i : Int) < far ws s) : ¬ InR (stS ws) (szz (itr ws i s)) := fun z => by
  obtain ⟨_, i2⟩ := itr_far g ho i (by omega)
  have fm := far_mul g s
  have e2 : 2 * ws.sum * ((i : Int) + 1) ≤ 2 * ws.sum * far ws s := Int.mul_le_mul_of_nonneg_left (by omega) (by have := sum_nn ws g.2; omega)
  rw [Int.mul_add, Int.mul_one] at e2
  have a := stS_le g
  have b := mx_sum g.2
  have c := z.2
  omega
theorem in_stay {ws : List Int} (g : GoodW ws) {s : Int} (ho : s % 2 = 1) {n : Nat} (h : InR (stS ws) (szz (itr ws n s))) : ∀ k, InR (stS ws) (szz (itr ws (n + k) s))
  | 0 => h
  | k + 1 => by
    have ih := in_stay g ho h k
    have f := fin_in ws _ _ (itr_odd ws (n + k) s ho) (stS_odds g) g.2 ih
    rw [stS_fix g, ← itr_succ] at f
    exact f
theorem itr_two {ws : List Int} (g : GoodW ws) {s : Int} (ho : s % 2 = 1) {n : Nat} (h : InR (stS ws) (szz (itr ws n s))) : itr ws (n + 2) s = itr ws n s ∧ (itr ws (n + 1) s = itr ws n s ↔ lenW ws = 1) := by
  have f := fix_two (stS_odds g) g.2 (stS_fix g) (itr_odd ws n s ho) h
  refine ⟨?_, ?_⟩
  · rw [itr_succ, itr_succ]
    exact f.1
  · rw [itr_succ, f.2]
    unfold lenW
    constructor
    · intro z
      rw [if_pos z]
    · intro z
      split at z
      · assumption
      · exact absurd z (by decide)
theorem lenW_12 (ws : List Int) : lenW ws = 1 ∨ lenW ws = 2 := by
  unfold lenW
  split
  · exact .inl rfl
  · exact .inr rfl
/-- behind settling the rounds come again -/
theorem itr_per {ws : List Int} (g : GoodW ws) {s : Int} (ho : s % 2 = 1) {n : Nat} (h : InR (stS ws) (szz (itr ws n s))) (k : Nat) : itr ws (n + k) s = itr ws (n + ((k : Int) % lenW ws).toNat) s := by
  induction k using Nat.strongRecOn with
  | ind k ih =>
    rcases lenW_12 ws with e | e
    · rw [e]
      by_cases c : k = 0
      · subst c
        rfl
      · obtain ⟨j, rfl⟩ : ∃ j, k = j + 1 := ⟨k - 1, by omega⟩
        have a := (itr_two g ho (in_stay g ho h j)).2.mpr e
        have b := ih j (by omega)
        rw [e] at b
        have e1 : ((j + 1 : Nat) : Int) % 1 = ((j : Nat) : Int) % 1 := by omega
        rw [e1, ← b]
        exact a
    · rw [e]
      by_cases c : k < 2
      · have : ((k : Int) % 2).toNat = k := by omega
        rw [this]
      · obtain ⟨j, rfl⟩ : ∃ j, k = j + 2 := ⟨k - 2, by omega⟩
        have a := (itr_two g ho (in_stay g ho h j)).1
        have b := ih j (by omega)
        rw [e] at b
        have e1 : ((j + 2 : Nat) : Int) % 2 = ((j : Nat) : Int) % 2 := by omega
        rw [e1, ← b]
        exact a
/-! ### for the defs -/
def rDivmodN : List V → Hp → VK → Prop := fun xs H Q => ∃ i j, xs = [.int i, .int j] ∧ CDiv i j ∧ NewAt H (.tup [.int (i / j), .int (i % j)]) Q
theorem call_divmodN {X : Cx} : CallR X (.builtin "divmod") rDivmodN := fun pins s σ H xs us Q I r ⟨i, j, e, c, q⟩ => call_divmod pins s σ H xs us Q I r ⟨i, j, e, c, fun p np => q.upd np⟩
def WOk (ws : List Int) : Prop := (∀ x ∈ ws, 1 ≤ x) ∧ ws.length ≤ 1000 ∧ ws.sum < 1099511627776
theorem WOk.good {ws : List Int} (h : WOk ws) (n : ws ≠ []) : GoodW ws := ⟨n, h.1⟩
theorem WOk.take {ws : List Int} (h : WOk ws) (n : Nat) : WOk (ws.take n) := by
  refine ⟨fun x hx => h.1 x (List.mem_of_mem_take hx), ?_, ?_⟩
  · rw [List.length_take]
    have := h.2.1
    omega
  · have e : (ws.take n).sum + (ws.drop n).sum = ws.sum := by rw [← List.sum_append, List.take_append_drop]
    have := sum_nn (ws.drop n) fun x hx => h.1 x (List.mem_of_mem_drop hx)
    have := h.2.2
    omega
def runD (r : Int × Int) : PyData := .tuple [.int r.1, .int r.2]
theorem eqv_run (a b : Int × Int) : PyData.eqv (runD a) (runD b) = decide (a = b) := by
  obtain ⟨a1, a2⟩ := a
  obtain ⟨b1, b2⟩ := b
  unfold runD
  by_cases c : a1 = b1 ∧ a2 = b2
  · obtain ⟨rfl, rfl⟩ := c
    rw [decide_eq_true rfl]
    exact SeqAt.eqv_refl _ rfl
  · have n : ¬ (a1, a2) = (b1, b2) := fun z => c ⟨congrArg Prod.fst z, congrArg Prod.snd z⟩
    rw [decide_eq_false n]
    simp only [PyData.eqv, PyData.eqvAll, Bool.and_true]
    by_cases d : a1 = b1
    · have e : ¬ a2 = b2 := fun z => c ⟨d, z⟩
      simp [d, e]
    · simp [d]
theorem dtRun_get {H : Hp} {n : Nat} {v : V} {r : Int × Int} (h : Dt H n v (runD r)) : ∃ p, v = .ref p ∧ H p = some (.tup [.int r.1, .int r.2]) := by
  unfold runD at h
  cases h with
  | tup e z k =>
    cases k with
    | cons h1 k =>
      cases k with
      | cons h2 k =>
        cases k
        cases h1
        cases h2
        exact ⟨_, rfl, e⟩
theorem dtRun {H : Hp} {n : Nat} {p : Addr} {r : Int × Int} (h : H p = some (.tup [.int r.1, .int r.2])) : Dt H (n + 1) (.ref p) (runD r) := .tup h (by show 2 ≤ 50000; decide) (.cons (.int _) (.cons (.int _) .nil))
theorem dtRuns_upd {H : Hp} {l : Addr} {o : HO} {xs : List V} (hl : H l = some (.lst xs)) : ∀ {vs : List V} (rs : List (Int × Int)), DtA H 1 vs (rs.map runD) → DtA (upd H l o) 1 vs (rs.map runD)
  | _, [], h => by
    cases h
    exact .nil
  | _, r :: rs, h => by
    cases h with
    | cons h k =>
      obtain ⟨p, rfl, e⟩ := dtRun_get h
      have ne : p ≠ l := ne_of e hl (fun z => nomatch z)
      exact .cons (dtRun (by rw [upd_ne ne]; exact e)) (dtRuns_upd hl rs k)
theorem dtA_snoc {H : Hp} {n : Nat} : ∀ {vs : List V} {ds : List PyData} {v : V} {d : PyData}, DtA H n vs ds → Dt H n v d → DtA H n (vs ++ [v]) (ds ++ [d])
  | _, _, _, _, .nil, h => .cons h .nil
  | _, _, _, _, .cons a k, h => .cons a (dtA_snoc k h)
theorem dtA_last {H : Hp} {n : Nat} : ∀ {vs : List V} {ds : List PyData} {d : PyData}, DtA H n vs (ds ++ [d]) → ∃ us v, vs = us ++ [v] ∧ DtA H n us ds ∧ Dt H n v d
  | _, [], d, h => by
    cases h with
    | cons a k =>
      cases k
      exact ⟨[], _, rfl, .nil, a⟩
  | _, x :: ds, d, h => by
    cases h with
    | cons a k =>
      obtain ⟨us, v, rfl, k1, k2⟩ := dtA_last (ds := ds) k
      exact ⟨_ :: us, v, rfl, .cons a k1, k2⟩
def rnD (ws : List Int) (n : Nat) : List PyData := ((List.range (n + 1)).map (rn ws)).map runD
theorem rnD_succ (ws : List Int) (n : Nat) : rnD ws (n + 1) = rnD ws n ++ [runD (rn ws (n + 1))] := by
  unfold rnD
  rw [List.range_succ, List.map_append, List.map_append]
  rfl
noncomputable def lenOf (ws : List Int) : Int := if ws = [] then 1 else lenW ws
noncomputable def atW (ws : List Int) (s : Int) (many : Int) : Int := if ws = [] then s else fin (itr ws (many / ws.length).toNat s) (ws.take (many % ws.length).toNat)
noncomputable def setOf (ws : List Int) (s : Int) : Nat := if ws = [] then 0 else setN ws s
def cameW (ws : List Int) (many : Int) : Int := if ws = [] then 0 else many / ws.length * ws.sum + (ws.take (many % ws.length).toNat).sum
noncomputable def leftW (ws : List Int) (s : Int) (many : Int) : Int := if ws = [] then 0 else (cameW ws many + (atW ws s many - s) / 2) / 2
theorem lcRanF {n j : Nat} {f : Nat → Int} {te : TE} {vs : List Nat} {σ : L2.St} {H1 : Hp} {Q : VK} (hn : n ≤ 1000) (hw : ∀ x, wipe ((wipe σ vs).set j (some x)) vs = wipe σ vs)
    (ht : ∀ (i : Nat), i < n → ∀ (H' : Hp) (R : VK), Same H1 H' → (∀ H2, Same H' H2 → R (.int (f i)) H2) → te ((wipe σ vs).set j (some (.int (0 + (i : Nat))))) H' R)
    (hd : ∀ (D : Addr) (H' : Hp), H1 D = none → Same H1 H' → H' D = some (.lst (((List.range n).map f).map V.int)) → Q (.ref D) H') : LcGo (Itr 0 n) (gName j) tYes te vs σ H1 Q := by
  intro D nD
  refine lc_range (lo := 0) (n := n) (fun i H' => Same H1 H' ∧ H' D = some (.lst (((List.range i).map f).map V.int))) ⟨same_upd nD, upd_same⟩ (fun i H' hi hP => ?_) (fun H' hP => hd D H' nD hP.1 hP.2)
  refine ⟨hw _, ht i hi H' _ hP.1 fun H2 S2 => ⟨_, S2 _ _ hP.2, szl (by rw [List.length_map, List.length_map, List.length_range]; omega), Same.of_upd (hP.1.trans S2) nD, ?_⟩⟩
  rw [upd_same, List.range_succ, List.map_append, List.map_append]
  rfl
theorem Tp.keep {b : Nat} {H H' : Hp} {t : Addr} (s : Same H H') (h : Tp b H t) : Tp b H' t := h.same s
theorem mx_le {ws : List Int} {m : Int} (h0 : 0 ≤ m) (h : ∀ x ∈ ws, x ≤ m) : mx ws ≤ m := by
  induction ws with
  | nil => exact h0
  | cons x ws ih =>
    have a := ih fun y hy => h y (List.mem_cons_of_mem _ hy)
    have b := h x (List.mem_cons_self ..)
    show max x (mx ws) ≤ m
    omega
theorem sum_le {ws : List Int} {m : Int} (h : ∀ x ∈ ws, x ≤ m) : ws.sum ≤ m * ws.length := by
  induction ws with
  | nil => simp
  | cons x ws ih =>
    have a := ih fun y hy => h y (List.mem_cons_of_mem _ hy)
    have b := h x (List.mem_cons_self ..)
    rw [List.sum_cons, List.length_cons, Int.natCast_add, Int.mul_add]
    omega
/-- a word as the laws draw it -/
def Row (ws : List Int) (c : Nat) : Prop := ws ≠ [] ∧ ws.length ≤ c ∧ ∀ x ∈ ws, 1 ≤ x ∧ x ≤ 24
theorem Row.wok {ws : List Int} {c : Nat} (h : Row ws c) (hc : c ≤ 1000) : WOk ws := by
  refine ⟨fun x hx => (h.2.2 x hx).1, Nat.le_trans h.2.1 hc, ?_⟩
  have a := sum_le (m := 24) fun x hx => (h.2.2 x hx).2
  have b := h.2.1
  omega
theorem Row.good {ws : List Int} {c : Nat} (h : Row ws c) : GoodW ws := ⟨h.1, fun x hx => (h.2.2 x hx).1⟩
theorem Row.mx {ws : List Int} {c : Nat} (h : Row ws c) : mx ws ≤ 24 := mx_le (by decide) fun x hx => (h.2.2 x hx).2
/-! ### far grains -/
theorem itr_left (ws : List Int) : ∀ (n : Nat) (s : Int), ∃ L : Int, itr ws n s = s + 2 * (2 * L - n * ws.sum)
  | 0, s => ⟨0, by
    show s = s + 2 * (2 * 0 - (0 : Int) * ws.sum)
    rw [Int.zero_mul]
    omega⟩
  | n + 1, s => by
    obtain ⟨L, h⟩ := itr_left ws n (fin s ws)
    refine ⟨L + (lfl s ws).sum, ?_⟩
    show itr ws n (fin s ws) = _
    have f := fin_lfl ws s
    have e : ((n + 1 : Nat) : Int) * ws.sum = (n : Int) * ws.sum + ws.sum := by rw [Int.natCast_add, Int.add_mul, Int.natCast_one, Int.one_mul]
    rw [e]
    generalize (n : Int) * ws.sum = P at *
    omega
theorem at_left (ws : List Int) (s : Int) {many : Int} (h : 0 ≤ many) : atW ws s many = s + 2 * (2 * leftW ws s many - cameW ws many) := by
  by_cases c : ws = []
  · subst c
    have e1 : atW [] s many = s := if_pos rfl
    have e2 : leftW [] s many = 0 := if_pos rfl
    have e3 : cameW [] many = 0 := if_pos rfl
    rw [e1, e2, e3]
    omega
  · have e1 : atW ws s many = fin (itr ws (many / ws.length).toNat s) (ws.take (many % ws.length).toNat) := if_neg c
    have e2 : leftW ws s many = (cameW ws many + (atW ws s many - s) / 2) / 2 := if_neg c
    have e3 : cameW ws many = many / ws.length * ws.sum + (ws.take (many % ws.length).toNat).sum := if_neg c
    obtain ⟨L, hL⟩ := itr_left ws (many / ws.length).toNat s
    have d1 : 0 ≤ many / (ws.length : Int) := Int.ediv_nonneg h (by omega)
    have e4 : (((many / (ws.length : Int)).toNat : Nat) : Int) = many / (ws.length : Int) := by omega
    rw [e4] at hL
    have f := fin_lfl (ws.take (many % ws.length).toNat) (itr ws (many / ws.length).toNat s)
    rw [← e1] at f
    rw [e2, e3]
    generalize many / (ws.length : Int) * ws.sum = P at *
    omega
theorem at_mir (ws : List Int) {s : Int} (ho : s % 2 = 1) (many : Int) : atW ws (0 - s) many = 0 - atW ws s many := by
  by_cases c : ws = []
  · subst c
    have e1 : ∀ u, atW [] u many = u := fun u => if_pos rfl
    rw [e1, e1]
  · have e1 : ∀ u, atW ws u many = fin (itr ws (many / ws.length).toNat u) (ws.take (many % ws.length).toNat) := fun u => if_neg c
    rw [e1, e1, itr_mir ws _ s ho]
    exact (falls_mir _ _ (itr_odd ws _ s ho)).1
theorem left_mir (ws : List Int) {s : Int} (ho : s % 2 = 1) {many : Int} (h : 0 ≤ many) : leftW ws (0 - s) many = cameW ws many - leftW ws s many := by
  have a := at_left ws s h
  have b := at_left ws (0 - s) h
  rw [at_mir ws ho] at b
  omega
theorem at_odd (ws : List Int) {s : Int} (ho : s % 2 = 1) {many : Int} (h : 0 ≤ many) : atW ws s many % 2 = 1 := by
  have a := at_left ws s h
  omega
theorem set_mir {ws : List Int} {s : Int} (ho : s % 2 = 1) (hw : ∀ x ∈ ws, 1 ≤ x) : setOf ws (0 - s) = setOf ws s := by
  by_cases c : ws = []
  · subst c
    have e1 : ∀ u, setOf [] u = 0 := fun u => if_pos rfl
    rw [e1, e1]
  · have e1 : ∀ u, setOf ws u = setN ws u := fun u => if_neg c
    have g : GoodW ws := ⟨c, hw⟩
    rw [e1, e1]
    have a := setN_is g ho
    refine set_uniq (setN_is g (s := 0 - s) (by omega)) ⟨?_, fun i hi => ?_⟩
    · rw [itr_mir ws _ s ho, szz_mir]
      exact a.1
    · rw [itr_mir ws _ s ho, szz_mir]
      exact a.2 i hi
/-! ### far grains, put together -/
theorem at_def {ws : List Int} (g : ws ≠ []) (s : Int) (a b : Nat) (hb : b < ws.length) : atW ws s ((a : Int) * ws.length + b) = fin (itr ws a s) (ws.take b) := by
  have e1 : ∀ u m, atW ws u m = fin (itr ws (m / ws.length).toNat u) (ws.take (m % ws.length).toNat) := fun u m => if_neg g
  have hl : (0 : Int) < ws.length := by omega
  have d : ((a : Int) * ws.length + b) / ws.length = a := by
    rw [Int.add_comm, Int.add_mul_ediv_right _ _ (by omega), Int.ediv_eq_zero_of_lt (by omega) (by omega)]
    omega
  have m : ((a : Int) * ws.length + b) % ws.length = b := by
    rw [Int.add_comm, Int.add_mul_emod_self_right, Int.emod_eq_of_lt (by omega) (by omega)]
  rw [e1, d, m, Int.toNat_natCast, Int.toNat_natCast]
theorem split_many {ws : List Int} (g : ws ≠ []) {m : Int} (h : 0 ≤ m) : ∃ a b : Nat, b < ws.length ∧ m = (a : Int) * ws.length + b ∧ m / ws.length = a ∧ m % ws.length = b := by
  have hl : 0 < ws.length := List.length_pos_iff.mpr g
  have h1 := Int.emod_add_mul_ediv m ws.length
  have h2 := Int.emod_nonneg m (show (ws.length : Int) ≠ 0 by omega)
  have h3 := Int.emod_lt_of_pos m (show (0 : Int) < ws.length by omega)
  have h4 : 0 ≤ m / (ws.length : Int) := Int.ediv_nonneg h (by omega)
  refine ⟨(m / ws.length).toNat, (m % ws.length).toNat, by omega, ?_, by omega, by omega⟩
  have e1 : (((m / (ws.length : Int)).toNat : Nat) : Int) = m / ws.length := by omega
  have e2 : (((m % (ws.length : Int)).toNat : Nat) : Int) = m % ws.length := by omega
  rw [e1, e2, Int.mul_comm]
  omega
theorem at_add {ws : List Int} (g : ws ≠ []) (s : Int) (a : Nat) {m : Int} (h : 0 ≤ m) : atW ws s ((a : Int) * ws.length + m) = atW ws (itr ws a s) m := by
  obtain ⟨c, b, hb, e, _, _⟩ := split_many g h
  rw [e, at_def g _ c b hb]
  have e2 : (a : Int) * ws.length + ((c : Int) * ws.length + b) = ((a + c : Nat) : Int) * ws.length + b := by
    rw [Int.natCast_add, Int.add_mul]
    omega
  rw [e2, at_def g _ _ b hb, itr_add]
theorem at_mul {ws : List Int} (g : ws ≠ []) (s : Int) (a : Nat) : atW ws s ((a : Int) * ws.length) = itr ws a s := by
  have hl : 0 < ws.length := List.length_pos_iff.mpr g
  have h := at_def g s a 0 hl
  have e : (a : Int) * ws.length + ((0 : Nat) : Int) = (a : Int) * ws.length := by omega
  rw [e] at h
  exact h
theorem came_add {ws : List Int} (g : ws ≠ []) (a : Nat) {m : Int} (h : 0 ≤ m) : cameW ws ((a : Int) * ws.length + m) = a * ws.sum + cameW ws m := by
  have e1 : ∀ m, cameW ws m = m / ws.length * ws.sum + (ws.take (m % ws.length).toNat).sum := fun m => if_neg g
  have hl : 0 < ws.length := List.length_pos_iff.mpr g
  rw [e1, e1, Int.add_comm ((a : Int) * ws.length) m, Int.add_mul_ediv_right _ _ (by omega), Int.add_mul_emod_self_right, Int.add_mul]
  omega
theorem came_nn {ws : List Int} (hw : ∀ x ∈ ws, 1 ≤ x) {m : Int} (h : 0 ≤ m) : 0 ≤ cameW ws m := by
  by_cases c : ws = []
  · subst c
    have e3 : cameW [] m = 0 := if_pos rfl
    rw [e3]
    exact Int.le_refl _
  · have e1 : cameW ws m = m / ws.length * ws.sum + (ws.take (m % ws.length).toNat).sum := if_neg c
    have a := sum_nn ws hw
    have b := sum_nn (ws.take (m % ws.length).toNat) fun x hx => hw x (List.mem_of_mem_take hx)
    have d : 0 ≤ m / (ws.length : Int) := Int.ediv_nonneg h (by omega)
    have e := Int.mul_nonneg d a
    omega
theorem lfl_bd : ∀ (ws : List Int) (s : Int), (∀ x ∈ ws, 1 ≤ x) → 0 ≤ (lfl s ws).sum ∧ (lfl s ws).sum ≤ ws.sum
  | [], _, _ => ⟨Int.le_refl _, Int.le_refl _⟩
  | m :: ws, s, k => by
    obtain ⟨h1, h2⟩ := lfl_bd ws (st1 s m) fun y hy => k y (List.mem_cons_of_mem _ hy)
    have h3 := k m (List.mem_cons_self ..)
    rw [List.sum_cons]
    unfold lfl
    split
    · rw [List.sum_cons]
      omega
    · omega
theorem itr_leftB (ws : List Int) (hw : ∀ x ∈ ws, 1 ≤ x) : ∀ (n : Nat) (s : Int), ∃ L : Int, itr ws n s = s + 2 * (2 * L - n * ws.sum) ∧ 0 ≤ L ∧ L ≤ n * ws.sum
  | 0, s => ⟨0, by
    show s = s + 2 * (2 * 0 - (0 : Int) * ws.sum)
    rw [Int.zero_mul]
    omega, Int.le_refl _, by
    show (0 : Int) ≤ (0 : Int) * ws.sum
    rw [Int.zero_mul]
    exact Int.le_refl _⟩
  | n + 1, s => by
    obtain ⟨L, h, h1, h2⟩ := itr_leftB ws hw n (fin s ws)
    obtain ⟨b1, b2⟩ := lfl_bd ws s hw
    have f := fin_lfl ws s
    have e : ((n + 1 : Nat) : Int) * ws.sum = (n : Int) * ws.sum + ws.sum := by rw [Int.natCast_add, Int.add_mul, Int.natCast_one, Int.one_mul]
    refine ⟨L + (lfl s ws).sum, ?_, ?_, ?_⟩
    · show itr ws n (fin s ws) = _
      rw [e]
      generalize (n : Int) * ws.sum = P at *
      omega
    · omega
    · rw [e]
      omega
theorem left_bd {ws : List Int} (hw : ∀ x ∈ ws, 1 ≤ x) (s : Int) {m : Int} (h : 0 ≤ m) : 0 ≤ leftW ws s m ∧ leftW ws s m ≤ cameW ws m := by
  have al := at_left ws s h
  by_cases c : ws = []
  · subst c
    have e2 : leftW [] s m = 0 := if_pos rfl
    have e3 : cameW [] m = 0 := if_pos rfl
    rw [e2, e3]
    exact ⟨Int.le_refl _, Int.le_refl _⟩
  · have e1 : atW ws s m = fin (itr ws (m / ws.length).toNat s) (ws.take (m % ws.length).toNat) := if_neg c
    have e3 : cameW ws m = m / ws.length * ws.sum + (ws.take (m % ws.length).toNat).sum := if_neg c
    obtain ⟨L, hL, h1, h2⟩ := itr_leftB ws hw (m / ws.length).toNat s
    have d1 : 0 ≤ m / (ws.length : Int) := Int.ediv_nonneg h (by omega)
    have e4 : (((m / (ws.length : Int)).toNat : Nat) : Int) = m / (ws.length : Int) := by omega
    rw [e4] at hL h2
    obtain ⟨b1, b2⟩ := lfl_bd (ws.take (m % ws.length).toNat) (itr ws (m / ws.length).toNat s) fun x hx => hw x (List.mem_of_mem_take hx)
    have f := fin_lfl (ws.take (m % ws.length).toNat) (itr ws (m / ws.length).toNat s)
    rw [← e1] at f
    rw [e3] at al ⊢
    generalize m / (ws.length : Int) * ws.sum = P at *
    omega
theorem left_add {ws : List Int} (g : ws ≠ []) (s : Int) (a : Nat) {m : Int} (h : 0 ≤ m) : leftW ws s ((a : Int) * ws.length + m) = leftW ws s ((a : Int) * ws.length) + leftW ws (itr ws a s) m := by
  have hp : 0 ≤ (a : Int) * ws.length := Int.mul_nonneg (by omega) (by omega)
  have a1 := at_left ws s (show 0 ≤ (a : Int) * ws.length + m by omega)
  have a2 := at_left ws s hp
  have a3 := at_left ws (itr ws a s) h
  rw [at_add g s a h] at a1
  rw [at_mul g] at a2
  rw [came_add g a h] at a1
  have c0 : cameW ws ((a : Int) * ws.length) = a * ws.sum := by
    have := came_add g a (m := 0) (Int.le_refl _)
    have z : cameW ws 0 = 0 := by
      have e1 : cameW ws 0 = 0 / ws.length * ws.sum + (ws.take (0 % ws.length : Int).toNat).sum := if_neg g
      rw [e1]
      simp
    rw [Int.add_zero, z] at this
    omega
  rw [c0] at a2
  generalize (a : Int) * ws.sum = P at *
  omega
/-- behind settling each one round, or two, more change nothing -/
theorem at_per {ws : List Int} (g : GoodW ws) {s : Int} (ho : s % 2 = 1) (n j : Nat) {e : Int} (he : 0 ≤ e) (hn : setN ws s ≤ n) : atW ws s ((n : Int) * ws.length + e + (j : Int) * lenW ws * ws.length) = atW ws s ((n : Int) * ws.length + e) := by
  have st := setN_is g ho
  have hin := in_stay g ho st.1 (n - setN ws s)
  have e0 : setN ws s + (n - setN ws s) = n := by omega
  rw [e0] at hin
  obtain ⟨k, hk⟩ : ∃ k : Nat, (j : Int) * lenW ws = (k : Int) ∧ ((k : Int) % lenW ws).toNat = 0 := by
    rcases lenW_12 ws with q | q
    · exact ⟨j, by rw [q]; omega, by rw [q]; omega⟩
    · exact ⟨2 * j, by rw [q]; omega, by rw [q]; omega⟩
  have p := itr_per g ho hin k
  rw [hk.2, Nat.add_zero] at p
  have e1 : (n : Int) * ws.length + e + (j : Int) * lenW ws * ws.length = ((n + k : Nat) : Int) * ws.length + e := by
    rw [hk.1, Int.natCast_add, Int.add_mul]
    omega
  rw [e1, at_add g.1 s (n + k) he, at_add g.1 s n he, p]
/-! ### bounds -/
theorem stN_le {ws : List Int} (g : GoodW ws) : (stN ws : Int) ≤ 2 * mx ws := by
  have l := stN_last g
  have key : ∀ n : Nat, n ≤ stN ws → n + rw_ ws n ≤ rw_ ws 0 := fun n => by
    induction n with
    | zero => intro _; omega
    | succ n ih =>
      intro h
      have a := ih (by omega)
      have b := rw_lt g (l.2 n (by omega))
      omega
  have a := key _ (Nat.le_refl _)
  have b : rw_ ws 0 = ((2 * mx ws - 1) - 1).toNat := rfl
  have c := mx_pos g
  omega
theorem setN_le {ws : List Int} (g : GoodW ws) {s : Int} (ho : s % 2 = 1) : (setN ws s : Int) ≤ szz s + 2 * mx ws := by
  have st := setN_is g ho
  have a : setN ws s ≤ (far ws s).toNat + 1 + stN ws := Nat.le_of_not_lt fun z => st.2 _ z (ex_in g ho)
  have b := stN_le g
  have f0 := far_nn g ho
  have fm := far_mul g s
  have sp := sum_pos ws g.2
  have hl : 0 < ws.length := List.length_pos_iff.mpr g.1
  have c : 1 * far ws s ≤ 2 * ws.sum * far ws s := Int.mul_le_mul_of_nonneg_right (by omega) f0
  omega
theorem itr_ne {ws : List Int} (g : GoodW ws) {s : Int} (ho : s % 2 = 1) (h2 : lenW ws = 2) {n : Nat} (hn : setN ws s ≤ n) : itr ws (n + 1) s ≠ itr ws n s := fun z => by
  have st := setN_is g ho
  have hin := in_stay g ho st.1 (n - setN ws s)
  have e0 : setN ws s + (n - setN ws s) = n := by omega
  rw [e0] at hin
  have := (itr_two g ho hin).2.mp z
  omega
theorem at_ne {ws : List Int} (g : GoodW ws) {s : Int} (ho : s % 2 = 1) (h2 : lenW ws = 2) {n b : Nat} (hn : setN ws s ≤ n) (hb : b < ws.length) : atW ws s (((n + 1 : Nat) : Int) * ws.length + b) ≠ atW ws s ((n : Int) * ws.length + b) := fun z => by
  rw [at_def g.1 s (n + 1) b hb, at_def g.1 s n b hb] at z
  have k : ∀ m, fin (fin (itr ws m s) (ws.take b)) (ws.drop b) = itr ws (m + 1) s := fun m => by
    rw [← fin_app, List.take_append_drop, itr_succ]
  have z2 : itr ws (n + 1 + 1) s = itr ws (n + 1) s := by
    have a := k (n + 1)
    rw [z, k n] at a
    exact a.symm
  exact itr_ne g ho h2 (n := n + 1) (by omega) z2
end Pan
namespace Pan
open PySem PySem.Spec PyProof.Rows L2
/-! ### unpacking a list, a tuple so many times -/
theorem pg_unlN {X : Cx} {K : PySem.W.Frag} {es : List Expr} {k : Nat} {t : TGs} {n : Nat} {pos : Pos} (hc : X.calm = true) (h : PGs X es t) (hK : X.K = K := by rfl)
    (hn : (assignEach es X.env).length = n := by rfl) (hst : (assignEach es X.env).findIdx? (·.1) = none := by rfl) : PG X (.Tuple es k pos) (gUnl K n t) := by
  subst hK
  exact pg_unl hc h hn hst
def rRepTN (K : PySem.W.Frag) : R2 := fun x y H Q => ∃ l k xs, x = .ref l ∧ y = .int k ∧ SqT K H l xs ∧ xs ≠ [] ∧ 2 ≤ k ∧ k ≤ 1000 ∧ xs.length ≤ 1000 ∧ NewAt H (.tup (List.replicate k.toNat xs).flatten) Q
theorem opRepTN {X : Cx} {K : PySem.W.Frag} (hK : X.K = K := by rfl) : OpR X (binaryOp .Mult) (rRepTN K) := fun pins s σ H x y v u Q I rx ry ⟨l, k, xs, e1, e2, h1, h2, h3, h4, h5, q⟩ =>
  op_repT pins s σ H x y v u Q I rx ry ⟨l, k, xs, e1, e2, by rw [hK]; exact h1, h2, h3, h4, h5, fun p np => q.upd np⟩
/-! ### more comprehensions -/
theorem lcDrawP {t : Addr} {p : Int → Prop} {n c d j : Nat} {te : TE} {vs : List Nat} {σ : L2.St} {H1 : Hp} {Q : VK} (T : Tp (c + d * n) H1 t) (hn : n ≤ 500) (hw : ∀ x, wipe ((wipe σ vs).set j (some x)) vs = wipe σ vs)
    (ht : ∀ (i : Nat) (H' : Hp) (b : Nat), Un t H1 H' → Tp (b + d) H' t → ∀ R : VK, (∀ (v : Int) (H2 : Hp), p v → Un t H' H2 → Tp b H2 t → R (.int v) H2) → te ((wipe σ vs).set j (some (.int (0 + (i : Nat))))) H' R)
    (hd : ∀ (D : Addr) (ws : List Int) (H' : Hp), ws.length = n → (∀ x ∈ ws, p x) → H1 D = none → Un t H1 H' → Tp c H' t → H' D = some (.lst (ws.map V.int)) → Q (.ref D) H') : LcGo (Itr 0 n) (gName j) tYes te vs σ H1 Q := by
  intro D nD
  have nt : D ≠ t := T.nn nD
  refine lc_range (lo := 0) (n := n) (fun i H' => ∃ ws : List Int, ws.length = i ∧ (∀ x ∈ ws, p x) ∧ H' D = some (.lst (ws.map V.int)) ∧ Un t H1 H' ∧ Tp (c + d * (n - i)) H' t)
    ⟨[], rfl, (fun _ h => absurd h List.not_mem_nil), upd_same, Un.same (same_upd nD), T.same (same_upd nD)⟩ (fun i H' hi hP => ?_) (fun H' hP => ?_)
  · obtain ⟨ws, h1, h2, h3, h4, h5⟩ := hP
    have ed : d * (n - i) = d * (n - (i + 1)) + d := by
      have : n - i = (n - (i + 1)) + 1 := by omega
      rw [this, Nat.mul_add, Nat.mul_one]
    refine ⟨hw _, ht i H' (c + d * (n - (i + 1))) h4 (h5.le (by omega)) _ fun v H2 hv U T2 => ?_⟩
    refine ⟨_, U D _ nt h3, szl (by rw [List.length_map]; omega), ws ++ [v], by rw [List.length_append, h1]; rfl, fun x hx => ?_, ?_, ?_, ?_⟩
    · rcases List.mem_append.mp hx with h | h
      · exact h2 x h
      · have : x = v := by simpa using h
        subst this
        exact hv
    · rw [upd_same, List.map_append]
      rfl
    · exact fun a o n ea => by
        rw [upd_ne (ne_of_none ea nD)]
        exact U a o n (h4 a o n ea)
    · obtain ⟨x, y, z, et, r⟩ := T2
      exact ⟨x, y, z, by rw [upd_ne nt.symm]; exact et, r⟩
  · obtain ⟨ws, h1, h2, h3, h4, h5⟩ := hP
    exact hd D ws H' h1 h2 nD h4 (h5.le (by omega)) h3
theorem lcMapTV {K : PySem.W.Frag} {a : Addr} {xs : List V} {f : V → V} {j : Nat} {te : TE} {vs : List Nat} {σ : L2.St} {H1 : Hp} {Q : VK} (ea : H1 a = some (.tup xs)) (hl : xs.length ≤ 1000)
    (hw : ∀ x, wipe ((wipe σ vs).set j (some x)) vs = wipe σ vs) (ht : ∀ x ∈ xs, ∀ (H' : Hp) (R : VK), Same H1 H' → (∀ H2, Same H' H2 → R (f x) H2) → te ((wipe σ vs).set j (some x)) H' R)
    (hd : ∀ (D : Addr) (H' : Hp), H1 D = none → Same H1 H' → H' D = some (.lst (xs.map f)) → Q (.ref D) H') : LcGo (Itt K a) (gName j) tYes te vs σ H1 Q := by
  intro D nD
  refine lc_tup (K := K) (a := a) (xs := xs) (fun i H' => Same H1 H' ∧ H' D = some (.lst ((xs.take i).map f))) ⟨same_upd nD, upd_same⟩ (fun i H' _ hP => SqT.of (hP.1 _ _ ea)) (fun i x H' hx hP => ?_) (fun H' hP => ?_)
  · refine ⟨hw _, ht x (List.mem_of_getElem? hx) H' _ hP.1 fun H2 S2 => ⟨_, S2 _ _ hP.2, szl (by rw [List.length_map, List.length_take]; omega), Same.of_upd (hP.1.trans S2) nD, ?_⟩⟩
    rw [upd_same, List.take_add_one, hx, List.map_append]
    rfl
  · rw [List.take_length] at hP
    exact hd D H' nD hP.1 hP.2
/-! ### tuples cut and put together, whichever object it is -/
def rSlW : V → Option Int → Option Int → Hp → VK → Prop := fun x lo hi H Q => ∃ a xs, x = .ref a ∧ H a = some (.tup xs) ∧ ∀ p H', Same H H' → H' p = some (.tup (cutV xs lo hi)) → Q (.ref p) H'
theorem sl_tupW {X : Cx} : SlR X rSlW := fun pins s σ H x v vl vu lo hi sl Q I rx hs pl pu ⟨a, xs, e, hx, q⟩ =>
  sl_tupA pins s σ H x v vl vu lo hi sl Q I rx hs pl pu ⟨a, xs, e, SqT.of hx, fun z => q a H (Same.refl _) (by
    unfold cutV
    rw [z.1, z.2, List.drop_zero, Nat.sub_zero, List.take_length]
    exact hx), fun _ p np => q p _ (same_upd np) upd_same⟩
def rCatW : R2 := fun x y H Q => ∃ a b xs ys, x = .ref a ∧ y = .ref b ∧ H a = some (.tup xs) ∧ H b = some (.tup ys) ∧ xs.length + ys.length ≤ sizeLine ∧ ∀ p H', Same H H' → H' p = some (.tup (xs ++ ys)) → Q (.ref p) H'
theorem op_catW {X : Cx} : OpR X (binaryOp .Add) rCatW := fun pins s σ H x y v u Q I rx ry ⟨a, b, xs, ys, e1, e2, h1, h2, h3, q⟩ =>
  op_catA pins s σ H x y v u Q I rx ry ⟨a, b, xs, ys, e1, e2, SqT.of h1, SqT.of h2, h3, fun z => q b H (Same.refl _) (by rw [z]; exact h2), fun _ z => q a H (Same.refl _) (by rw [z, List.append_nil]; exact h1), fun _ _ p np => q p _ (same_upd np) upd_same⟩
/-! ### grain by grain -/
theorem grow {ws : List Int} (g : ws ≠ []) (n : Nat) : ∃ m, ws[n % ws.length]? = some m ∧ (∀ s, atW ws s ((n + 1 : Nat) : Int) = st1 (atW ws s (n : Int)) m) ∧ cameW ws ((n + 1 : Nat) : Int) = cameW ws (n : Int) + m := by
  have hl : 0 < ws.length := List.length_pos_iff.mpr g
  obtain ⟨a, b, hb, e, ha, hm⟩ := split_many g (show (0 : Int) ≤ (n : Int) by omega)
  have hbn : n % ws.length = b := by omega
  have hg : ws[b]? = some ws[b] := List.getElem?_eq_getElem hb
  have et : ws.take (b + 1) = ws.take b ++ [ws[b]] := by rw [List.take_add_one, hg]; rfl
  have cd : ∀ c d : Nat, d < ws.length → cameW ws ((c : Int) * ws.length + d) = c * ws.sum + (ws.take d).sum := fun c d hd => by
    rw [came_add g c (by omega)]
    have e1 : cameW ws (d : Int) = (d : Int) / ws.length * ws.sum + (ws.take ((d : Int) % ws.length).toNat).sum := if_neg g
    rw [e1, Int.ediv_eq_zero_of_lt (by omega) (by omega), Int.emod_eq_of_lt (by omega) (by omega), Int.toNat_natCast, Int.zero_mul, Int.zero_add]
  refine ⟨ws[b], by rw [hbn]; exact hg, ?_⟩
  by_cases c : b + 1 < ws.length
  · have e2 : ((n + 1 : Nat) : Int) = (a : Int) * ws.length + ((b + 1 : Nat) : Int) := by omega
    rw [e2, e]
    refine ⟨fun s => ?_, ?_⟩
    · rw [at_def g s a (b + 1) c, at_def g s a b hb, et, fin_snoc]
    · rw [cd a (b + 1) c, cd a b hb, et, sum_snoc]
      omega
  · have hb1 : b + 1 = ws.length := by omega
    have e2 : ((n + 1 : Nat) : Int) = ((a + 1 : Nat) : Int) * ws.length + ((0 : Nat) : Int) := by
      rw [Int.natCast_add a 1, Int.add_mul]
      omega
    have ew : ws.take b ++ [ws[b]] = ws := by
      rw [← et, hb1, List.take_length]
    rw [e2, e]
    refine ⟨fun s => ?_, ?_⟩
    · rw [at_def g s (a + 1) 0 hl, at_def g s a b hb, ← fin_snoc, ew, itr_succ]
      rfl
    · have es : ws.sum = (ws.take b).sum + ws[b] := by rw [← sum_snoc, ew]
      rw [cd (a + 1) 0 hl, cd a b hb, Int.natCast_add a 1, Int.add_mul]
      show (a : Int) * ws.sum + ((1 : Nat) : Int) * ws.sum + 0 = _
      omega
def grs (ws : List Int) (n : Nat) : List Int := if ws = [] then [] else (List.range n).map fun k => ws.getD (k % ws.length) 0
theorem grs_is {ws : List Int} (g : ws ≠ []) (n : Nat) : grs ws n = (List.range n).map fun k => ws.getD (k % ws.length) 0 := if_neg g
theorem grs_at (ws : List Int) (s : Int) : ∀ n : Nat, fin s (grs ws n) = atW ws s (n : Int) ∧ (grs ws n).sum = cameW ws (n : Int) := by
  by_cases g : ws = []
  · subst g
    intro n
    have e1 : atW [] s (n : Int) = s := if_pos rfl
    have e3 : cameW [] (n : Int) = 0 := if_pos rfl
    rw [e1, e3]
    exact ⟨rfl, rfl⟩
  · intro n
    have hl : 0 < ws.length := List.length_pos_iff.mpr g
    induction n with
    | zero =>
      rw [grs_is g]
      have a := at_def g s 0 0 hl
      have c := came_add g 0 (m := 0) (Int.le_refl _)
      have e1 : cameW ws 0 = 0 / ws.length * ws.sum + (ws.take (0 % ws.length : Int).toNat).sum := if_neg g
      have z : ((0 : Nat) : Int) * ws.length + ((0 : Nat) : Int) = ((0 : Nat) : Int) := by simp
      rw [z] at a
      refine ⟨a.symm, ?_⟩
      show (0 : Int) = cameW ws 0
      rw [e1]
      simp
    | succ n ih =>
      obtain ⟨m, hm, h1, h2⟩ := grow g n
      have em : ws.getD (n % ws.length) 0 = m := by rw [List.getD_eq_getElem?_getD, hm]; rfl
      have eg : grs ws (n + 1) = grs ws n ++ [m] := by
        rw [grs_is g, grs_is g, List.range_succ, List.map_append]
        show _ ++ [ws.getD (n % ws.length) 0] = _
        rw [em]
      rw [eg, fin_snoc, sum_snoc, ih.1, ih.2, h1, h2]
      exact ⟨rfl, rfl⟩
theorem grs_left (ws : List Int) (s : Int) (n : Nat) : (lfl s (grs ws n)).sum = leftW ws s (n : Int) := by
  have a := fin_lfl (grs ws n) s
  have b := at_left ws s (show (0 : Int) ≤ (n : Int) by omega)
  rw [(grs_at ws s n).1, (grs_at ws s n).2] at a
  omega
theorem grs_len (ws : List Int) (n : Nat) : (grs ws n).length ≤ n := by
  unfold grs
  split
  · exact Nat.zero_le _
  · rw [List.length_map, List.length_range]
    exact Nat.le_refl _
end Pan
namespace Pan
open PySem PySem.Spec PyProof.Rows L2
/-! ### set(list of ints) -/
abbrev eSet (b : Bool) : Obj := { cls := .type "set", dict := none, data := .set #[] 0 (.fresh 0 0 b) }
section
variable {P : Program} {w : World} {A : Around} {E : Value → Shared → Prop} {s : Shared}
theorem setOfList {a : Addr} {us : Array Value} (zs : List Int) {R : Value → Shared → Prop} (hA : A.handled = none) (ha : s.heap.IsList a us) (hi : IntsAre us.toList zs) (room : zs.length + 1 < scanBound)
    (k : ∀ (g : Heap) (tk c : Nat), SetR w g s.heap.objs.size (fun j => decide (j ∈ zs)) c → c ≤ zs.length → (∀ b o, s.heap.get? b = some o → g.get? b = some o) → R (.ref s.heap.objs.size) { s with heap := g, toks := tk }) :
    wpAny (model P w) A (call (.type "set") [.ref a]) R E s := by
  have eL : us.size = zs.length := by
    have z := IntsAre.length hi
    rwa [Array.length_toList] at z
  obtain ⟨c0, tl0, hmro0⟩ := F.called_set.mro
  have made0 := F.called_set.made
  have sub0 := F.called_set.sub
  refine wpAny_call (codeAny_of_tree (?_ : wpAny _ _ (callAny (.type "set") _) _ _ _))
  refine wpAny_pure ⟨Code.quiet_builtin _ (by decide +kernel), codeAny_builtin F.entry_type_call (?_)⟩
  rw [Around.under_plain (weight_type_call_type "set" [.ref a] []) rfl]
  have nt0 := F.called_set.notType
  have cc0 := F.called_set.canCreate
  have tc0 := F.typeCall_set_1 (.ref a)
  repeat (any_goals first | assumption | wp_step)
  refine codeAny_mono (code_set_led1 (.ref a) (E := E) (Q₁ := fun x t => x = .ref s.heap.objs.size ∧ t = { s with heap := s.heap.push (eSet (!w.params.followText "set-order")) }) ⟨rfl, rfl⟩) fun r t hr => ?_
  cases r with
  | error e => exact hr
  | ok fl =>
    cases fl with
    | ret x =>
      obtain ⟨rfl, rfl⟩ := hr
      have gS : (s.heap.push (eSet (!w.params.followText "set-order"))).get? s.heap.objs.size = some (eSet (!w.params.followText "set-order")) := Heap.get?_push_size _ rfl
      have tS : Shared.TypeIs { s with heap := s.heap.push (eSet (!w.params.followText "set-order")) } (.ref s.heap.objs.size) "set" := ⟨_, gS, rfl⟩
      have li0 := F.called_set.init.lookup
      have bi0 := F.called_set.init.bind (.ref s.heap.objs.size)
      repeat (any_goals first | assumption | wp_step)
      refine codeAny_mono (codeAny_call_builtin (R := wants (fun y t => y = .none ∧ ∃ g tk c, t = { s with heap := g, toks := tk } ∧ SetR w g s.heap.objs.size (fun j => decide (j ∈ zs)) c ∧ c ≤ zs.length ∧
          (∀ b o, s.heap.get? b = some o → g.get? b = some o)) E) F.called_set.init.plain F.entry_set_init (check_set_init_1 tS ?_)) fun y t hy => ?_
      · obtain ⟨ol, gl, cl, nl, dl⟩ := ha
        obtain ⟨oc, od, odt, osl⟩ := ol
        simp only at cl dl
        subst cl
        subst dl
        have gl' : (s.heap.push (eSet (!w.params.followText "set-order"))).get? a = some { cls := .type "list", dict := od, data := .seq us nl, slots := osl } := Heap.get?_push_of_some _ gl
        have s1 := F.sub_list_set
        have s2 := F.sub_list_frozenset
        have ne0 : (Value.type "list" == Value.type "dict") = false := by decide
        have il : (s.heap.push (eSet (!w.params.followText "set-order"))).IsList a us := ⟨_, gl', rfl, nl, rfl⟩
        unfold Builtin.«set.__init__» noKeywords Builtin.Frozenset.updateFrom
        generalize hPI : pyIter = PIv
        wp_walk
        subst hPI
        refine wpAny_pyIter_list il (wpAny_bind (wpAny_runValue ?_))
        have la : a < s.heap.objs.size := Heap.lt_size gl
        have h3 : A.in1.in1.in1.handled = none := by simp [hA]
        have nI : a ≠ (s.heap.push (eSet (!w.params.followText "set-order"))).objs.size := by
          rw [Heap.size_push]
          exact Nat.ne_of_lt (Nat.lt_succ_of_lt la)
        have nS : s.heap.objs.size ∉ [(s.heap.push (eSet (!w.params.followText "set-order"))).objs.size, a] := by
          rw [Heap.size_push]
          intro z
          rcases List.mem_cons.mp z with z | z
          · exact absurd z (Nat.ne_of_lt (Nat.lt_succ_self _))
          · exact absurd (List.mem_singleton.mp z) (Nat.ne_of_gt la)
        have vals : ∀ (i : Nat) (v : Value), us[i]? = some v → ∃ k t, zs[i]? = some k ∧ v = .int k t := fun i v hv => by
          have li : i < zs.length := by
            rw [← eL]
            exact (Array.getElem?_eq_some_iff.mp hv).1
          obtain ⟨t, e⟩ := PyProof.Rows.IntsAre.int_at hi i v (by rw [Array.getElem?_toList]; exact hv)
          refine ⟨zs[i], t, List.getElem?_eq_getElem li, ?_⟩
          rw [e, List.getD_eq_getElem?_getD, List.getElem?_eq_getElem li]
          rfl
        refine set_update_ints ((Walks.list h3 _ a nI us).toS) s.heap.objs.size nS zs eL room vals (us.size - 0) 0 _ (by omega) (Nat.zero_le _)
          ⟨⟨_, Heap.get?_push_size _ rfl, rfl, rfl⟩, il.push _⟩ ⟨0, Nat.le_refl 0, setR_new_at (Heap.get?_push_of_some _ gS)⟩ fun t c' mv hc' hS' => ?_
        obtain ⟨g, g2, d2, tk2, os2⟩ := t
        have eg : g2 = s.gens := mv.gens
        have ed : d2 = s.drawn := mv.drawn
        have eo : os2 = s.os := mv.os
        subst eg
        subst ed
        subst eo
        show wpAny _ _ _ _ _ _
        refine wpAny_pure (?_ : wpAny _ _ (ret Value.none) _ _ _)
        rw [eL] at hc'
        refine wpAny_pure ⟨rfl, g, tk2, c', rfl, hS', hc', fun b o e => ?_⟩
        have lb : b < s.heap.objs.size := Heap.lt_size e
        refine mv.heap b o (fun z => ?_) (Heap.get?_push_of_some _ (Heap.get?_push_of_some _ e))
        rcases List.mem_cons.mp z with z | z
        · exact absurd z (Nat.ne_of_lt lb)
        · have z2 := List.mem_singleton.mp z
          rw [Heap.size_push] at z2
          exact absurd z2 (Nat.ne_of_lt (Nat.lt_succ_of_lt lb))
      · cases y with
        | error e => exact hy
        | ok fl2 =>
          cases fl2 with
          | ret x2 =>
            obtain ⟨rfl, g, tk, c', rfl, hS', hc', hk'⟩ := hy
            repeat (any_goals first | assumption | wp_step)
            exact k _ _ _ hS' hc' hk'
          | _ => exact hy.elim
    | _ => exact hr.elim
end
def rSetL (K : PySem.W.Frag) (w : World) : List V → Hp → VK → Prop := fun vs H Q => ∃ (a : Addr) (ns : List Int), vs = [V.ref a] ∧ SqL K H a (ns.map V.int) ∧ ns.length ≤ 1000 ∧
  ∀ (p : Addr) (c : Nat) (H' : Hp), H p = none → Same H H' → H' p = some (SetO w p (fun j => decide (j ∈ ns)) c) → (∀ D : List Int, (∀ x ∈ ns, x ∈ D) → c ≤ D.length) → Q (.ref p) H'
theorem nd_len : ∀ (l D : List Int), l.Nodup → (∀ x ∈ l, x ∈ D) → l.length ≤ D.length
  | [], _, _, _ => Nat.zero_le _
  | x :: l, D, h, k => by
    obtain ⟨h1, h2⟩ := List.nodup_cons.mp h
    have hx := k x (List.mem_cons_self ..)
    have a := nd_len l (D.erase x) h2 fun y hy => (List.mem_erase_of_ne (fun z : y = x => h1 (by rw [← z]; exact hy))).mpr (k y (List.mem_cons_of_mem _ hy))
    rw [List.length_erase_of_mem hx] at a
    have b := List.length_pos_of_mem hx
    rw [List.length_cons]
    omega
theorem setR_few {w : World} {h : Heap} {a : Addr} {ns : List Int} {c : Nat} (R : SetR w h a (fun j => decide (j ∈ ns)) c) (D : List Int) (hD : ∀ x ∈ ns, x ∈ D) : c ≤ D.length := by
  obtain ⟨o, es, ep, t, ho, hex, hd, g, nd, hm, hb, hf, hn, hr, hl⟩ := R
  have a := nd_len (es.toList.map keyOf) D nd fun x hx => hD x (of_decide_eq_true ((hm x).mpr hx))
  rw [List.length_map, Array.length_toList, hn] at a
  exact a
theorem cr_setL {X : Cx} {K : PySem.W.Frag} {w : World} (hc : X.calm = true) (hK : X.K = K := by rfl) (hw : X.w = w := by rfl) : CallR X (.type "set") (rSetL K w) := by
  subst hK hw
  intro pins s σ H vs us Q I r h
  obtain ⟨a, ns, rfl, hs, hl, q⟩ := h
  obtain ⟨its, rv, ⟨ol, nl, ho, hcl, hdn, hd⟩, hz⟩ := I.list hs
  rw [Vals.ref1 r]
  have il : s.heap.IsList a its.toArray := ⟨ol, ho, hcl, nl, hd⟩
  refine setOfList ns (I.ok.hd hc) il (by simpa using ints_of_vals rv) (by unfold scanBound; omega) fun g tk c R hc2 hk => ?_
  refine ⟨.ref s.heap.objs.size, upd H s.heap.objs.size (SetO X.w s.heap.objs.size (fun j => decide (j ∈ ns)) c), I.laid hk (Nat.le_refl _) (setO_new R), rfl, ?_⟩
  have nf := I.hok.fresh (Nat.le_refl s.heap.objs.size)
  exact q _ c _ nf (same_upd nf) upd_same (setR_few R)
def rSortSet (w : World) : List V → Hp → VK → Prop := fun vs H Q => ∃ (a : Addr) (S : Int → Bool) (n : Nat), vs = [V.ref a] ∧ H a = some (SetO w a S n) ∧ n < 64 ∧
  ∀ (ns : List Int) (p : Addr) (H' : Hp), ns.Pairwise (· < ·) → (∀ k : Int, k ∈ ns ↔ S k = true) → ns.length = n → H p = none → Same H H' → H' p = some (.lst (ns.map V.int)) → Q (.ref p) H'
theorem cr_sortSet {X : Cx} {w : World} (hc : X.calm = true) (hw : X.w = w := by rfl) : CallR X (.builtin "sorted") (rSortSet w) := by
  subst hw
  exact fun pins s σ H vs us Q I r ⟨a, S, n, e, ha, h64, q⟩ => cr_sortedSet hc pins s σ H vs us Q I r ⟨a, S, n, e, ha, h64, fun ns p h1 h2 h3 np => q ns p _ h1 h2 h3 np (same_upd np) upd_same⟩
/-! ### list(range(a, b, 2)) -/
def rg2 (a b : Int) : List Int := (List.range ((b - a + 1) / 2).toNat).map fun i => a + 2 * (i : Nat)
def tLstRg2 (ta : TA) : TE := fun σ H Q => ta σ H fun vs H1 => ∃ a b, vs = [.int a, .int b, .int 2] ∧ -1000000 ≤ a ∧ a ≤ 1000000 ∧ -1000000 ≤ b ∧ b ≤ 1000000 ∧ NewAt H1 (.lst ((rg2 a b).map V.int)) Q
theorem size_two (a b : Int) : Builtin.Range.rangeSize a b 2 = (((b - a + 1) / 2).toNat : Int) := by
  unfold Builtin.Range.rangeSize
  simp only [show (2 : Int) > 0 by decide, if_true]
  split <;> omega
theorem small_two {a b : Int} (h1 : -1000000 ≤ a) (h2 : a ≤ 1000000) (h3 : -1000000 ≤ b) (h4 : b ≤ 1000000) : Builtin.Range.small a b 2 = true := by
  unfold Builtin.Range.small
  rw [size_two]
  simp only [Builtin.Range.rangeFitsLong, Bool.and_eq_true, Bool.or_eq_true, decide_eq_true_eq, beq_iff_eq, show (2 : Int) > 0 by decide, if_true]
  omega
theorem rgC_two {a b : Int} (h1 : -1000000 ≤ a) (h2 : a ≤ 1000000) (h3 : -1000000 ≤ b) (h4 : b ≤ 1000000) : RgC a b 2 ((b - a + 1) / 2).toNat := ⟨by decide, by decide, small_two h1 h2 h3 h4, size_two a b⟩
theorem rg2_len (a b : Int) : (rg2 a b).length = ((b - a + 1) / 2).toNat := by
  unfold rg2
  rw [List.length_map, List.length_range]
theorem rg2_mem {a b x : Int} : x ∈ rg2 a b ↔ a ≤ x ∧ x < b ∧ (x - a) % 2 = 0 := by
  unfold rg2
  rw [List.mem_map]
  constructor
  · rintro ⟨i, hi, rfl⟩
    have := List.mem_range.mp hi
    omega
  · intro ⟨h1, h2, h3⟩
    exact ⟨((x - a) / 2).toNat, List.mem_range.mpr (by omega), by omega⟩
theorem rg2_vals {a b : Int} {acc : Array Value} (h : ItemsOf (fun i v => ∃ t, v = .int (a + i * 2) t) acc ((b - a + 1) / 2).toNat) : Vals ((rg2 a b).map V.int) acc.toList := by
  have e : acc.toList.length = ((b - a + 1) / 2).toNat := by rw [Array.length_toList]; exact h.1
  unfold rg2
  rw [← e, List.map_map]
  refine vals_of_get acc.toList _ fun j u hj => ?_
  obtain ⟨t, rfl⟩ := h.2 j u (by rw [← hj, Array.getElem?_toList])
  exact ⟨t, by rw [Int.mul_comm]⟩
theorem pe_listRg2 {X : Cx} {a b c : Expr} {ta : TA} {p p2 pos pos2 : Pos} (hc : X.calm = true) (hg : Gl X "list") (hm : X.mg "list" = none) (hg2 : Gl X "range") (hm2 : X.mg "range" = none) (ha : PA X [a, b, c] ta)
    (na : starEach [.Call (.Name "range" p2) [a, b, c] [] pos2] X.env = (false, eval (.Call (.Name "range" p2) [a, b, c] [] pos2) X.env) :: starEach [] X.env := by rfl)
    (hs : starEach [a, b, c] X.env = (false, eval a X.env) :: starEach [b, c] X.env := by rfl) (hpl : (backTo pos2 (starEach [b, c] X.env)).any (·.1) = false := by rfl) :
    PE X (.Call (.Name "list" p) [.Call (.Name "range" p2) [a, b, c] [] pos2] [] pos) (tLstRg2 ta) := by
  refine ⟨fun pins s σ H Q I h => ?_⟩
  refine Call_ (ld_blt I hg hm boot_list (PyProof.Rows.callWith_type1 (args_cons ?_ na) na))
  refine Call_ (ld_blt I hg2 hm2 boot_range (PyProof.Rows.callWith_type1 (thn (ha.run pos2 pins s σ H _ I h) fun us s1 ⟨vs, H1, I1, r1, lo, hi, e, h1, h2, h3, h4, q⟩ => ?_) hs hpl))
  subst e
  cases r1 with
  | cons r rr =>
    cases rr with
    | cons r' rr =>
      cases rr with
      | cons r'' rr =>
        cases rr
        obtain ⟨t, rfl⟩ := r
        obtain ⟨t', rfl⟩ := r'
        obtain ⟨t'', rfl⟩ := r''
        refine call_range_3 (by decide) ?_ (.inl (PyProof.noPylong_small (by decide)))
        have I2 : Inv X pins σ H1 { s1 with heap := s1.heap.push { cls := .type "range", data := .fields #[.int lo t, .int hi t', .int 2 t''] } } := I1.kept (t' := s1.toks) fun b o e => Heap.get?_push_of_some _ e
        refine args_nil ?_
        refine call_list_range (n := ((hi - lo + 1) / 2).toNat) (I2.ok.hd hc) (IsRange.new ..) (small_two h1 h2 h3 h4) (size_two lo hi) (by omega) fun h' tk acc c' hk e' hi2 => ?_
        refine ⟨.ref _, upd H1 _ (.lst ((rg2 lo hi).map V.int)), I2.laid hk (Nat.le_refl _) (show ObjOk X.prog X.w _ _ _ (.lst ((rg2 lo hi).map V.int)) from ⟨?_, acc.toList, c', rg2_vals hi2, ?_⟩), rfl, q.upd (I2.hok.fresh (Nat.le_refl _))⟩
        · rw [List.length_map, rg2_len, sizeLine_eq]
          omega
        · rw [Array.toArray_toList]
          exact e'
/-! ### rising lists -/
theorem asc_ext : ∀ {xs ys : List Int}, xs.Pairwise (· < ·) → ys.Pairwise (· < ·) → (∀ k, k ∈ xs ↔ k ∈ ys) → xs = ys
  | [], [], _, _, _ => rfl
  | [], y :: ys, _, _, h => absurd ((h y).mpr (List.mem_cons_self ..)) List.not_mem_nil
  | x :: xs, [], _, _, h => absurd ((h x).mp (List.mem_cons_self ..)) List.not_mem_nil
  | x :: xs, y :: ys, hx, hy, h => by
    obtain ⟨a1, a2⟩ := List.pairwise_cons.mp hx
    obtain ⟨b1, b2⟩ := List.pairwise_cons.mp hy
    have e : x = y := by
      rcases List.mem_cons.mp ((h x).mp (List.mem_cons_self ..)) with e | e
      · exact e
      · rcases List.mem_cons.mp ((h y).mpr (List.mem_cons_self ..)) with f | f
        · exact f.symm
        · have := a1 y f
          have := b1 x e
          omega
    subst e
    have t := asc_ext a2 b2 fun k => by
      constructor
      · intro hk
        rcases List.mem_cons.mp ((h k).mp (List.mem_cons_of_mem _ hk)) with e | e
        · have := a1 k hk
          omega
        · exact e
      · intro hk
        rcases List.mem_cons.mp ((h k).mpr (List.mem_cons_of_mem _ hk)) with e | e
        · have := b1 k hk
          omega
        · exact e
    rw [t]
theorem asc_map {f : Nat → Int} (hf : ∀ i j, i < j → f i < f j) : ∀ n : Nat, ((List.range n).map f).Pairwise (· < ·) := fun n =>
  List.pairwise_map.mpr (List.Pairwise.imp (fun h => hf _ _ h) List.pairwise_lt_range)
theorem rg2_asc (a b : Int) : (rg2 a b).Pairwise (· < ·) := asc_map (fun i j h => by omega) _
def runL (r : Int × Int) : List Int := rg2 r.1 (r.2 + 1)
theorem runL_mem {r : Int × Int} (h : Odds r.1 r.2) {x : Int} : x ∈ runL r ↔ InR r x ∧ x % 2 = 1 := by
  obtain ⟨h1, h2, h3, h4⟩ := h
  unfold runL InR
  rw [rg2_mem]
  omega
theorem runL_len {r : Int × Int} (h : Odds r.1 r.2) : ((runL r).length : Int) = (r.2 - r.1) / 2 + 1 := by
  obtain ⟨h1, h2, h3, h4⟩ := h
  unfold runL
  rw [rg2_len]
  omega
theorem runL_ne {r : Int × Int} (h : Odds r.1 r.2) : runL r ≠ [] := fun z => by
  have a := runL_len h
  rw [z] at a
  obtain ⟨h1, h2, h3, h4⟩ := h
  have : ((([] : List Int).length : Nat) : Int) = 0 := rfl
  omega
theorem fold_mem {r : Int × Int} {m : Int} (h : Odds r.1 r.2) (hm : 1 ≤ m) (k : Int) : k ∈ (runL r).map (fun x => szz (x - 2 * m)) ↔ k ∈ runL (fo r.1 r.2 m) := by
  rw [runL_mem (fo_odds h hm), List.mem_map]
  constructor
  · rintro ⟨x, hx, rfl⟩
    obtain ⟨h1, h2⟩ := (runL_mem h).mp hx
    have p : 0 < x := by
      have := h.2.2.1
      have := h1.1
      omega
    have a := st1_in (m := m) (s := x) h2 h (by unfold szz; rw [if_neg (by omega)]; exact h1)
    have e : st1 x m = x - 2 * m := if_neg (by omega)
    rw [e] at a
    refine ⟨a, ?_⟩
    exact (szz_odd (by omega)).1
  · intro ⟨h1, h2⟩
    obtain ⟨a1, a2, a3, a4⟩ := id h
    unfold InR at h1
    have key : ∃ x, (r.1 ≤ x ∧ x ≤ r.2) ∧ x % 2 = 1 ∧ szz (x - 2 * m) = k := by
      unfold fo at h1
      by_cases c : r.1 < 2 * m ∧ 2 * m < r.2
      · rw [if_pos c] at h1
        dsimp only at h1
        by_cases d : k ≤ r.2 - 2 * m
        · exact ⟨2 * m + k, by omega, by omega, by unfold szz; split <;> omega⟩
        · refine ⟨2 * m - k, ?_, by omega, by unfold szz; split <;> omega⟩
          split at h1 <;> omega
      · rw [if_neg c] at h1
        by_cases d : 2 * m < r.1
        · rw [if_pos d] at h1
          dsimp only at h1
          exact ⟨2 * m + k, by omega, by omega, by unfold szz; split <;> omega⟩
        · rw [if_neg d] at h1
          dsimp only at h1
          exact ⟨2 * m - k, by omega, by omega, by unfold szz; split <;> omega⟩
    obtain ⟨x, b1, b2, b3⟩ := key
    exact ⟨x, (runL_mem h).mpr ⟨b1, b2⟩, b3⟩
theorem fold_list {r : Int × Int} {m : Int} (h : Odds r.1 r.2) (hm : 1 ≤ m) {ns : List Int} (asc : ns.Pairwise (· < ·)) (hk : ∀ k : Int, k ∈ ns ↔ decide (k ∈ (runL r).map (fun x => szz (x - 2 * m))) = true) : ns = runL (fo r.1 r.2 m) :=
  asc_ext asc (rg2_asc _ _) fun k => (hk k).trans (decide_eq_true_iff.trans (fold_mem h hm k))
/-- the rounds to the staying run are fewer than the greatest weight -/
theorem stN_lt {ws : List Int} (g : GoodW ws) : (stN ws : Int) ≤ mx ws - 1 := by
  have l := stN_last g
  have key : ∀ n : Nat, n ≤ stN ws → 2 * n + ((rn ws n).2 - (rn ws n).1) ≤ 2 * mx ws - 2 := fun n => by
    induction n with
    | zero =>
      intro _
      show 2 * ((0 : Nat) : Int) + ((2 * mx ws - 1) - 1) ≤ 2 * mx ws - 2
      omega
    | succ n ih =>
      intro h
      have a := ih (by omega)
      have b := rw_lt g (l.2 n (by omega))
      have o1 := rn_odds g n
      have o2 := rn_odds g (n + 1)
      obtain ⟨a1, a2, a3, a4⟩ := o1
      obtain ⟨b1, b2, b3, b4⟩ := o2
      unfold rw_ at b
      omega
  have a := key _ (Nat.le_refl _)
  obtain ⟨b1, b2, b3, b4⟩ := rn_odds g (stN ws)
  omega
theorem eqvI (a b : Int) : PyData.eqv (.int a) (.int b) = decide (a = b) := by
  have e : PyData.eqv (.int a) (.int b) = (a == b) := by rfl
  rw [e]
  by_cases c : a = b
  · rw [decide_eq_true c, c]
    exact beq_self_eq_true b
  · rw [decide_eq_false c]
    exact beq_false_of_ne c
theorem eqvIs : ∀ (xs ys : List Int), PyData.eqvAll (xs.map PyData.int) (ys.map PyData.int) = decide (xs = ys)
  | [], [] => by rfl
  | [], y :: ys => by rw [decide_eq_false (by simp)]; rfl
  | x :: xs, [] => by rw [decide_eq_false (by simp)]; rfl
  | x :: xs, y :: ys => by
    have e : PyData.eqvAll ((x :: xs).map PyData.int) ((y :: ys).map PyData.int) = (PyData.eqv (.int x) (.int y) && PyData.eqvAll (xs.map PyData.int) (ys.map PyData.int)) := by rfl
    rw [e, eqvI, eqvIs xs ys]
    by_cases c : x = y
    · by_cases d : xs = ys
      · simp [c, d]
      · simp [c, d]
    · simp [c]
theorem runL_inj {r s : Int × Int} (h : Odds r.1 r.2) (k : Odds s.1 s.2) (e : runL r = runL s) : r = s := by
  have a1 : s.1 ∈ runL r := by rw [e]; exact (runL_mem k).mpr ⟨⟨Int.le_refl _, k.2.2.2⟩, k.1⟩
  have a2 : s.2 ∈ runL r := by rw [e]; exact (runL_mem k).mpr ⟨⟨k.2.2.2, Int.le_refl _⟩, k.2.1⟩
  have b1 : r.1 ∈ runL s := by rw [← e]; exact (runL_mem h).mpr ⟨⟨Int.le_refl _, h.2.2.2⟩, h.1⟩
  have b2 : r.2 ∈ runL s := by rw [← e]; exact (runL_mem h).mpr ⟨⟨h.2.2.2, Int.le_refl _⟩, h.2.1⟩
  have c1 := ((runL_mem h).mp a1).1
  have c2 := ((runL_mem h).mp a2).1
  have d1 := ((runL_mem k).mp b1).1
  have d2 := ((runL_mem k).mp b2).1
  unfold InR at c1 c2 d1 d2
  exact Prod.ext (by omega) (by omega)
theorem lst_ne {ns : List Int} {ps : List Addr} (h : ns ≠ []) : (HO.lst (ns.map V.int)) ≠ HO.lst (ps.map V.ref) := fun z => by
  cases ns with
  | nil => exact h rfl
  | cons x ns =>
    cases ps with
    | nil => simp at z
    | cons p ps => simp at z
def LsOf (H : Hp) (ps : List Addr) (f : Nat → List Int) : Prop := ∀ (j : Nat) (p : Addr), ps[j]? = some p → H p = some (.lst ((f j).map V.int))
theorem LsOf.same {H H' : Hp} {ps : List Addr} {f : Nat → List Int} (S : Same H H') (h : LsOf H ps f) : LsOf H' ps f := fun j p e => S _ _ (h j p e)
theorem at_end {us : List V} {v : V} (h : us[us.length - 1]? = some v) : atI us (-1) = some v := by
  have hl : us.length - 1 < us.length := (List.getElem?_eq_some_iff.mp h).1
  have hne : us ≠ [] := fun z => by
    subst z
    exact absurd hl (by decide)
  have e : us = us.dropLast ++ [v] := by
    have a := (List.dropLast_concat_getLast hne).symm
    have b : us.getLast hne = v := by
      rw [List.getLast_eq_getElem]
      rw [List.getElem?_eq_getElem hl] at h
      exact Option.some.inj h
    rw [b] at a
    exact a
  rw [e]
  exact atI_last _ _
theorem lcMapI {K : PySem.W.Frag} {a : Addr} {ws : List Int} {f : Int → Int} {j : Nat} {te : TE} {vs : List Nat} {σ : L2.St} {H1 : Hp} {Q : VK} (ea : H1 a = some (.lst (ws.map V.int))) (hl : ws.length ≤ 1000)
    (hw : ∀ x, wipe ((wipe σ vs).set j (some x)) vs = wipe σ vs) (ht : ∀ m ∈ ws, ∀ (H' : Hp) (R : VK), Same H1 H' → (∀ H2, Same H' H2 → R (.int (f m)) H2) → te ((wipe σ vs).set j (some (.int m))) H' R)
    (hd : ∀ (D : Addr) (H' : Hp), H1 D = none → Same H1 H' → H' D = some (.lst ((ws.map f).map V.int)) → Q (.ref D) H') : LcGo (Itl K a) (gName j) tYes te vs σ H1 Q := by
  intro D nD
  refine lc_list (K := K) (a := a) (xs := ws.map V.int) (fun i H' => Same H1 H' ∧ H' D = some (.lst (((ws.take i).map f).map V.int))) ⟨same_upd nD, upd_same⟩ (fun i H' _ hP => SqL.of (hP.1 _ _ ea)) (fun i x H' hx hP => ?_) (fun H' hP => ?_)
  · obtain ⟨m, hm, rfl, hg⟩ := item_int hx
    refine ⟨hw _, ht m hm H' _ hP.1 fun H2 S2 => ⟨_, S2 _ _ hP.2, szl (by rw [List.length_map, List.length_map, List.length_take]; omega), Same.of_upd (hP.1.trans S2) nD, ?_⟩⟩
    rw [upd_same, List.take_add_one, hg, List.map_append, List.map_append]
    rfl
  · rw [List.length_map, List.take_length] at hP
    exact hd D H' nD hP.1 hP.2
end Pan
namespace Pan
open PySem PySem.Spec PyProof.Rows L2
theorem u65 {k : Nat} {A : Around} (r : Room k A) : A.units + 65 < cLine := by
  have := r.un
  omega
theorem inD {X : Cx} {K : PySem.W.Frag} (hu : X.A.units + 65 < cLine) (hK : X.K = K := by rfl) : OpR X (compareOp .In) (rInD K) := by
  subst hK
  exact op_inD hu
theorem notInD {X : Cx} {K : PySem.W.Frag} (hu : X.A.units + 65 < cLine) (hK : X.K = K := by rfl) : OpR X (compareOp .NotIn) (rNotInD K) := by
  subst hK
  exact op_notInD hu
/-- a test whose ways come together -/
def clT (t : TT) : TT := fun σ H Q => ∃ R : Bool → Hp → Prop, t σ H R ∧ ∀ b H', R b H' → Q b H'
theorem pt_cut {X : Cx} {e : Expr} {t : TT} (h : PT X e t) : PT X e (clT t) :=
  ⟨fun pins s σ H Q I ⟨R, hR, k⟩ => thn (h.run pins s σ H R I hR) fun b s' ⟨H', I', q⟩ => ⟨H', I', k b H' q⟩⟩
mutual
theorem dtDp {K : PySem.W.Frag} {H : Hp} : ∀ {n : Nat} {v : V} {d : PyData}, Dt H n v d → Dp K H v d
  | _, _, _, .non => .non
  | _, _, _, .bl b => .bl b
  | _, _, _, .int i => .int i
  | _, _, _, .str x => .str x
  | _, _, _, .lst e _ k => .lst (SqL.of e) (dtDpA k)
  | _, _, _, .tup e _ k => .tup (SqT.of e) (dtDpA k)
theorem dtDpA {K : PySem.W.Frag} {H : Hp} : ∀ {n : Nat} {vs : List V} {ds : List PyData}, DtA H n vs ds → DpAll K H vs ds
  | _, _, _, .nil => .nil
  | _, _, _, .cons h k => .cons (dtDp h) (dtDpA k)
end
theorem DtA.at {H : Hp} : ∀ {n : Nat} {vs : List V} {ds : List PyData} {i : Nat} {v : V}, DtA H n vs ds → vs[i]? = some v → ∃ d, ds[i]? = some d ∧ Dt H n v d
  | _, _, _, _, _, .nil, h => by cases h
  | _, _, _, 0, _, .cons h _, e => by
    cases e
    exact ⟨_, rfl, h⟩
  | _, _, _, i + 1, _, .cons _ h, e => by
    obtain ⟨d, e1, e2⟩ := DtA.at (i := i) h (by simpa using e)
    exact ⟨d, by simpa using e1, e2⟩
theorem cut1 (us : List V) : cutV us (some 1) none = us.drop 1 := by
  unfold cutV
  have e : HT.sIx us.length 0 (some (1 : Int)) = min 1 us.length := HT.sIx_nat us.length 0 1
  rw [HT.sIx_none, e, List.take_of_length_le (by rw [List.length_drop]; exact Nat.le_refl _)]
  by_cases c : us.length = 0
  · have : us = [] := List.length_eq_zero_iff.mp c
    subst this
    rfl
  · rw [Nat.min_eq_left (by omega)]
theorem runL_first {r : Int × Int} (h : Odds r.1 r.2) : atI ((runL r).map V.int) 0 = some (.int r.1) := by
  have a := runL_len h
  obtain ⟨h1, h2, h3, h4⟩ := h
  refine atI_nat (j := 0) ?_
  rw [List.getElem?_map]
  have e : (runL r)[0]? = some r.1 := by
    unfold runL rg2 at a ⊢
    rw [List.length_map, List.length_range] at a
    rw [List.getElem?_map, List.getElem?_range (by omega)]
    show some (r.1 + 2 * ((0 : Nat) : Int)) = some r.1
    congr 1
    omega
  rw [e]
  rfl
theorem runL_last {r : Int × Int} (h : Odds r.1 r.2) : atI ((runL r).map V.int) (-1) = some (.int r.2) := by
  have a := runL_len h
  obtain ⟨h1, h2, h3, h4⟩ := h
  refine at_end ?_
  rw [List.length_map, List.getElem?_map]
  have e : (runL r)[(runL r).length - 1]? = some r.2 := by
    unfold runL rg2 at a ⊢
    rw [List.length_map, List.length_range] at a ⊢
    rw [List.getElem?_map, List.getElem?_range (by omega)]
    show some (r.1 + 2 * (((((r.2 + 1 - r.1 + 1) / 2).toNat - 1 : Nat)) : Int)) = some r.2
    congr 1
    omega
  rw [e]
  rfl
/-- a list of so many runs -/
def RsD (n : Nat) (f : Nat → Int × Int) : List PyData := ((List.range n).map f).map runD
theorem RsD_succ (n : Nat) (f : Nat → Int × Int) : RsD (n + 1) f = RsD n f ++ [runD (f n)] := by
  unfold RsD
  rw [List.range_succ, List.map_append, List.map_append]
  rfl
theorem RsD_len (n : Nat) (f : Nat → Int × Int) : (RsD n f).length = n := by
  unfold RsD
  rw [List.length_map, List.length_map, List.length_range]
theorem RsD_at {n : Nat} {f : Nat → Int × Int} {i : Nat} (h : i < n) : (RsD n f)[i]? = some (runD (f i)) := by
  unfold RsD
  rw [List.getElem?_map, List.getElem?_map, List.getElem?_range h]
  rfl
theorem RsD_ok (n : Nat) (f : Nat → Int × Int) : Sh 2 (.list (RsD n f)) := .list (by
  unfold RsD
  rw [List.map_map]
  exact .map _ fun x _ => .tup (.cons (.int _) (.cons (.int _) .nil)))
theorem rsd_get {H : Hp} {us : List V} {n i : Nat} {f : Nat → Int × Int} {v : V} (h : DtA H 1 us (RsD n f)) (e : us[i]? = some v) : i < n ∧ ∃ p, v = .ref p ∧ H p = some (.tup [.int (f i).1, .int (f i).2]) := by
  obtain ⟨d, e1, e2⟩ := h.at e
  have hi : i < n := by
    have := (List.getElem?_eq_some_iff.mp e1).1
    rw [RsD_len] at this
    exact this
  rw [RsD_at hi] at e1
  have := Option.some.inj e1
  subst this
  exact ⟨hi, dtRun_get e2⟩
theorem inV_ints (k : Int) : ∀ ns : List Int, inV (.int k) (ns.map V.int) = decide (k ∈ ns)
  | [] => rfl
  | n :: ns => by
    have e : inV (.int k) ((n :: ns).map V.int) = (eqV (.int n) (.int k) || inV (.int k) (ns.map V.int)) := rfl
    have e2 : eqV (.int n) (.int k) = (n == k) := rfl
    rw [e, e2, inV_ints k ns]
    by_cases c : n = k
    · subst c
      simp
    · by_cases d : k ∈ ns
      · simp [d]
      · have : (n == k) = false := beq_false_of_ne c
        rw [this, decide_eq_false d, decide_eq_false (fun z => by
          rcases List.mem_cons.mp z with z | z
          · exact c z.symm
          · exact d z)]
        rfl
theorem flat_ints (ns : List Int) : (ns.map V.int).all flatV = true := by
  rw [List.all_map]
  exact List.all_eq_true.mpr fun x _ => rfl
/-- two rounds bring back just where it has settled -/
theorem back_in {ws : List Int} (g : GoodW ws) {s : Int} (ho : s % 2 = 1) {n : Nat} (h : itr ws (n + 2) s = itr ws n s) : InR (stS ws) (szz (itr ws n s)) := by
  have key : ∀ j : Nat, itr ws (n + 2 * j) s = itr ws n s := fun j => by
    induction j with
    | zero => rfl
    | succ j ih =>
      have e : n + 2 * (j + 1) = (n + 2 * j) + 2 := by omega
      rw [e, itr_add, ih, ← itr_add]
      exact h
  have a := setN_is g ho
  have b := in_stay g ho a.1 (n + 2 * setN ws s - setN ws s)
  rw [show setN ws s + (n + 2 * setN ws s - setN ws s) = n + 2 * setN ws s by omega, key] at b
  exact b
theorem again_iff {ws : List Int} (g : GoodW ws) {s : Int} (ho : s % 2 = 1) (n : Nat) : itr ws n s = itr ws (n + (lenW ws).toNat) s ↔ setN ws s ≤ n := by
  have a := setN_is g ho
  constructor
  · intro h
    refine Nat.le_of_not_lt fun z => a.2 n z (back_in g ho ?_)
    rcases lenW_12 ws with e | e
    · rw [e] at h
      have h1 : itr ws (n + 1) s = itr ws n s := h.symm
      rw [show n + 2 = n + 1 + 1 by omega, itr_add, h1, ← itr_add, h1]
    · rw [e] at h
      exact h.symm
  · intro h
    have b := in_stay g ho a.1 (n - setN ws s)
    rw [show setN ws s + (n - setN ws s) = n by omega] at b
    have c := itr_two g ho b
    rcases lenW_12 ws with e | e
    · rw [e]
      exact (c.2.mpr e).symm
    · rw [e]
      exact c.1.symm
theorem setN_small {ws : List Int} (g : GoodW ws) {s : Int} (ho : s % 2 = 1) (h : szz s < 2 * mx ws) : setN ws s ≤ stN ws := by
  have a := setN_is g ho
  exact Nat.le_of_not_lt fun z => a.2 _ z (in_rn g ho h (stN ws))
/-- so many rounds further off it settles so many rounds later -/
theorem setN_far {ws : List Int} (g : GoodW ws) {s : Int} (ho : s % 2 = 1) {k : Nat} {x : Int} (hx : x = if s < 0 then s - 2 * ws.sum * k else s + 2 * ws.sum * k) : setN ws x = setN ws s + k := by
  have hs : (1 : Int) ≤ ws.sum := by
    have a := sum_pos ws g.2
    have : 0 < ws.length := List.length_pos_iff.mpr g.1
    omega
  have hp : (0 : Int) ≤ 2 * ws.sum * k := Int.mul_nonneg (by omega) (by omega)
  have e2 : 2 * ws.sum * (k : Int) = 2 * (ws.sum * k) := Int.mul_assoc ..
  have hox : x % 2 = 1 := by
    rw [hx]
    split <;> omega
  have hz : szz x = szz s + 2 * ws.sum * k := by
    rw [hx]
    unfold szz
    split <;> split <;> omega
  have hf := far_mul g x
  have hkf : (k : Int) ≤ far ws x := by
    refine Decidable.byContradiction fun n => ?_
    have h1 : 2 * ws.sum * (far ws x + 1) ≤ 2 * ws.sum * k := Int.mul_le_mul_of_nonneg_left (by omega) (by omega)
    rw [Int.mul_add, Int.mul_one] at h1
    have h2 := (szz_odd ho).2
    omega
  have hb := (itr_far g hox k hkf).1
  have hback : itr ws k x = s := by
    rw [hb]
    unfold dn
    rw [hx]
    split <;> split <;> omega
  have a := setN_is g ho
  refine set_uniq (setN_is g hox) ⟨?_, fun i hi => ?_⟩
  · rw [Nat.add_comm, itr_add, hback]
    exact a.1
  · by_cases c : i < k
    · exact not_early g hox (by omega)
    · have := a.2 (i - k) (by omega)
      rw [show i = k + (i - k) by omega, itr_add, hback]
      exact this
theorem maxL {X : Cx} {K : PySem.W.Frag} (hc : X.calm = true) (hK : X.K = K := by rfl) : CallR X (.builtin "max") (rMax K) := by
  subst hK
  exact cr_max hc
/-! ### sizes, whatever the side -/
def fz (x : Int) (ws : List Int) : Int := ws.foldl (fun x m => szz (x - 2 * m)) x
theorem szz_st1 {s m : Int} (ho : s % 2 = 1) : szz (st1 s m) = szz (szz s - 2 * m) := by
  unfold st1 szz
  (repeat' split) <;> omega
theorem szz_fin : ∀ (ws : List Int) (s : Int), s % 2 = 1 → szz (fin s ws) = fz (szz s) ws
  | [], _, _ => rfl
  | m :: ws, s, h => by
    show szz (fin (st1 s m) ws) = fz (szz (szz s - 2 * m)) ws
    rw [szz_fin ws (st1 s m) (st1_odd h), szz_st1 h]
theorem fz_mem : ∀ (ws : List Int) (r : Int × Int), Odds r.1 r.2 → (∀ x ∈ ws, 1 ≤ x) → ∀ k : Int, (∃ x ∈ runL r, fz x ws = k) ↔ k ∈ runL (be r ws)
  | [], r, _, _, k => by
    constructor
    · rintro ⟨x, hx, e⟩
      have : x = k := e
      rw [← this]
      exact hx
    · exact fun h => ⟨k, h, rfl⟩
  | m :: ws, r, h, hw, k => by
    have hm := hw m (List.mem_cons_self ..)
    rw [be_cons, ← fz_mem ws _ (fo_odds h hm) (fun x hx => hw x (List.mem_cons_of_mem _ hx)) k]
    constructor
    · rintro ⟨x, hx, e⟩
      exact ⟨szz (x - 2 * m), (fold_mem h hm _).mp (List.mem_map.mpr ⟨x, hx, rfl⟩), e⟩
    · rintro ⟨y, hy, e⟩
      obtain ⟨x, hx, rfl⟩ := List.mem_map.mp ((fold_mem h hm y).mpr hy)
      exact ⟨x, hx, e⟩
theorem runL_pos {r : Int × Int} (h : Odds r.1 r.2) {x : Int} (hx : x ∈ runL r) : x % 2 = 1 ∧ 0 < x ∧ szz x = x := by
  obtain ⟨h1, h2⟩ := (runL_mem h).mp hx
  have := h.2.2.1
  have := h1.1
  refine ⟨h2, by omega, ?_⟩
  unfold szz
  rw [if_neg (by omega)]
theorem itr_mem {ws : List Int} (g : GoodW ws) : ∀ (n : Nat) (k : Int), (∃ x ∈ runL (rn ws 0), szz (itr ws n x) = k) ↔ k ∈ runL (rn ws n)
  | 0, k => by
    constructor
    · rintro ⟨x, hx, e⟩
      have : szz x = k := e
      rw [← this, (runL_pos (rn_odds g 0) hx).2.2]
      exact hx
    · exact fun h => ⟨k, h, (runL_pos (rn_odds g 0) h).2.2⟩
  | n + 1, k => by
    have e : rn ws (n + 1) = be (rn ws n) ws := rfl
    rw [e, ← fz_mem ws _ (rn_odds g n) g.2 k]
    constructor
    · rintro ⟨x, hx, e⟩
      have ho := (runL_pos (rn_odds g 0) hx).1
      refine ⟨szz (itr ws n x), (itr_mem g n _).mp ⟨x, hx, rfl⟩, ?_⟩
      rw [← e, itr_succ, szz_fin ws _ (itr_odd ws n x ho)]
    · rintro ⟨y, hy, e⟩
      obtain ⟨x, hx, rfl⟩ := (itr_mem g n y).mpr hy
      have ho := (runL_pos (rn_odds g 0) hx).1
      refine ⟨x, hx, ?_⟩
      rw [itr_succ, szz_fin ws _ (itr_odd ws n x ho), e]
theorem szz_near {a b : Int} (h : -2 ≤ a - b ∧ a - b ≤ 2) : -2 ≤ szz a - szz b ∧ szz a - szz b ≤ 2 := by
  unfold szz
  split <;> split <;> omega
theorem fz_near : ∀ (ws : List Int) (a b : Int), (-2 ≤ a - b ∧ a - b ≤ 2) → -2 ≤ fz a ws - fz b ws ∧ fz a ws - fz b ws ≤ 2
  | [], _, _, h => h
  | m :: ws, a, b, h => fz_near ws _ _ (szz_near (by omega))
theorem itr_near (ws : List Int) : ∀ (n : Nat) (a b : Int), a % 2 = 1 → b % 2 = 1 → (-2 ≤ szz a - szz b ∧ szz a - szz b ≤ 2) → -2 ≤ szz (itr ws n a) - szz (itr ws n b) ∧ szz (itr ws n a) - szz (itr ws n b) ≤ 2
  | 0, _, _, _, _, h => h
  | n + 1, a, b, ha, hb, h => by
    rw [itr_succ, itr_succ, szz_fin ws _ (itr_odd ws n a ha), szz_fin ws _ (itr_odd ws n b hb)]
    exact fz_near ws _ _ (itr_near ws n a b ha hb h)
theorem rn_end {ws : List Int} (g : GoodW ws) : ∀ j, rn ws (stN ws + j) = stS ws
  | 0 => rfl
  | j + 1 => by
    show be (rn ws (stN ws + j)) ws = stS ws
    rw [rn_end g j, stS_fix g]
theorem rn_min {ws : List Int} (g : GoodW ws) (n : Nat) : rn ws (min n (stN ws)) = rn ws n := by
  by_cases c : n ≤ stN ws
  · rw [Nat.min_eq_left c]
  · rw [Nat.min_eq_right (by omega)]
    have := rn_end g (n - stN ws)
    rw [show stN ws + (n - stN ws) = n by omega] at this
    rw [this]
    rfl
/-! ### whole or not -/
def whB : Int × Int → List Int → Bool
  | _, [] => true
  | r, m :: ws => !decide (r.1 < 2 * m ∧ 2 * m < r.2) && whB (fo r.1 r.2 m) ws
theorem whB_iff : ∀ (ws : List Int) (r : Int × Int), whB r ws = true ↔ Wh r ws
  | [], _ => ⟨fun _ => trivial, fun _ => rfl⟩
  | m :: ws, r => by
    show (!decide (r.1 < 2 * m ∧ 2 * m < r.2) && whB (fo r.1 r.2 m) ws) = true ↔ ¬ (r.1 < 2 * m ∧ 2 * m < r.2) ∧ Wh (fo r.1 r.2 m) ws
    rw [Bool.and_eq_true, whB_iff ws, Bool.not_eq_true', decide_eq_false_iff_not]
theorem whB_app : ∀ (us : List Int) (r : Int × Int) (ws : List Int), whB r (us ++ ws) = (whB r us && whB (be r us) ws)
  | [], _, _ => rfl
  | m :: us, r, ws => by
    show (!decide (r.1 < 2 * m ∧ 2 * m < r.2) && whB (fo r.1 r.2 m) (us ++ ws)) = ((!decide (r.1 < 2 * m ∧ 2 * m < r.2) && whB (fo r.1 r.2 m) us) && whB (be (fo r.1 r.2 m) us) ws)
    rw [whB_app us, Bool.and_assoc]
theorem beApp (r : Int × Int) (us ws : List Int) : be r (us ++ ws) = be (be r us) ws := by
  unfold be
  rw [List.foldl_append]
/-! ### more rules that name the written part -/
def tRevN (K : PySem.W.Frag) (te : TE) : TE := fun σ H Q => te σ H fun x H1 => ∃ a xs, x = .ref a ∧ SqL K H1 a xs ∧ NewAt H1 (.lst xs.reverse) Q
theorem pe_revN {X : Cx} {e : Expr} {te : TE} {k : Nat} {p1 p2 p3 pos : Pos} (he : PE X e te) : PE X (.Subscript e (.Slice none none (some (.UnaryOp .USub (.Constant (.int 1) k p1) p2)) p3) pos) (tRevN X.K te) :=
  ⟨fun pins s σ H Q I hq => (pe_revL (pe_cut he)).run pins s σ H Q I ⟨_, hq, fun x H1 ⟨a, xs, e1, e2, q⟩ => ⟨a, xs, e1, e2, fun p np => q.upd np⟩⟩⟩
def rSortL (K : PySem.W.Frag) : List V → Hp → VK → Prop := fun vs H Q => ∃ (a : Addr) (ns : List Int), vs = [V.ref a] ∧ SqL K H a (ns.map V.int) ∧ ns.length < 64 ∧
  ∀ (ns' : List Int) (p : Addr) (H' : Hp), ns'.Perm ns → ns'.Pairwise (· ≤ ·) → H p = none → Same H H' → H' p = some (.lst (ns'.map V.int)) → Q (.ref p) H'
theorem sortL {X : Cx} {K : PySem.W.Frag} (hK : X.K = K := by rfl) : CallR X (.builtin "sorted") (rSortL K) := by
  subst hK
  exact fun pins s σ H vs us Q I r ⟨a, ns, e, hs, h64, q⟩ => cr_sorted pins s σ H vs us Q I r ⟨a, ns, e, hs, h64, fun ns' p h1 h2 np => q ns' p _ h1 h2 np (same_upd np) upd_same⟩
def rCatL : R2 := fun x y H Q => ∃ l b xs zs, x = .ref l ∧ y = .ref b ∧ H l = some (.lst xs) ∧ H b = some (.lst zs) ∧ xs.length + zs.length ≤ 100000 ∧ NewAt H (.lst (xs ++ zs)) Q
theorem op_catL {X : Cx} : OpR X (binaryOp .Add) rCatL := fun pins s σ H x y v u Q I rx ry ⟨l, b, xs, zs, e1, e2, h1, h2, h3, q⟩ => op_cat pins s σ H x y v u Q I rx ry ⟨l, b, xs, zs, e1, e2, h1, h2, sz h3, fun p np => q.upd np⟩
theorem cut_pre {ws : List Int} {n : Nat} (h : n ≤ ws.length) : cutV (ws.map V.int) none (some (n : Int)) = (ws.take n).map V.int := by
  rw [cut_map, HT.sIx_none, HT.sIx_nat]
  unfold cutI
  rw [List.drop_zero, Nat.sub_zero, Nat.min_eq_left h]
theorem cut_suf {ws : List Int} {n : Nat} (h : n ≤ ws.length) : cutV (ws.map V.int) (some (n : Int)) none = (ws.drop n).map V.int := by
  rw [cut_map, HT.sIx_none, HT.sIx_nat]
  unfold cutI
  rw [Nat.min_eq_left h, List.take_of_length_le (by rw [List.length_drop]; exact Nat.le_refl _)]
theorem cut_mid {ws : List Int} {a b : Nat} (h : a ≤ b) (k : b ≤ ws.length) : cutV (ws.map V.int) (some (a : Int)) (some (b : Int)) = ((ws.drop a).take (b - a)).map V.int := by
  rw [cut_map, HT.sIx_nat, HT.sIx_nat]
  unfold cutI
  rw [Nat.min_eq_left k, Nat.min_eq_left (show a ≤ ws.length by omega)]
theorem lcMapG {K : PySem.W.Frag} {a : Addr} {ws : List Int} {f : Int → V} {j : Nat} {te : TE} {vs : List Nat} {σ : L2.St} {H1 : Hp} {Q : VK} (ea : H1 a = some (.lst (ws.map V.int))) (hl : ws.length ≤ 1000)
    (hw : ∀ x, wipe ((wipe σ vs).set j (some x)) vs = wipe σ vs) (ht : ∀ m ∈ ws, ∀ (H' : Hp) (R : VK), Same H1 H' → (∀ H2, Same H' H2 → R (f m) H2) → te ((wipe σ vs).set j (some (.int m))) H' R)
    (hd : ∀ (D : Addr) (H' : Hp), H1 D = none → Same H1 H' → H' D = some (.lst (ws.map f)) → Q (.ref D) H') : LcGo (Itl K a) (gName j) tYes te vs σ H1 Q := by
  intro D nD
  refine lc_list (K := K) (a := a) (xs := ws.map V.int) (fun i H' => Same H1 H' ∧ H' D = some (.lst ((ws.take i).map f))) ⟨same_upd nD, upd_same⟩ (fun i H' _ hP => SqL.of (hP.1 _ _ ea)) (fun i x H' hx hP => ?_) (fun H' hP => ?_)
  · obtain ⟨m, hm, rfl, hg⟩ := item_int hx
    refine ⟨hw _, ht m hm H' _ hP.1 fun H2 S2 => ⟨_, S2 _ _ hP.2, szl (by rw [List.length_map, List.length_take]; omega), Same.of_upd (hP.1.trans S2) nD, ?_⟩⟩
    rw [upd_same, List.take_add_one, hg, List.map_append]
    rfl
  · rw [List.length_map, List.take_length] at hP
    exact hd D H' nD hP.1 hP.2
theorem wh_width : ∀ (ws : List Int) (r : Int × Int), Odds r.1 r.2 → (∀ x ∈ ws, 1 ≤ x) → whB r ws = true → (be r ws).2 - (be r ws).1 = r.2 - r.1
  | [], _, _, _, _ => rfl
  | m :: ws, r, h, hw, hb => by
    have hm := hw m (List.mem_cons_self ..)
    obtain ⟨h1, h2⟩ := Bool.and_eq_true_iff.mp (show (!decide (r.1 < 2 * m ∧ 2 * m < r.2) && whB (fo r.1 r.2 m) ws) = true from hb)
    have h3 : ¬ (r.1 < 2 * m ∧ 2 * m < r.2) := decide_eq_false_iff_not.mp (by rw [Bool.not_eq_true'] at h1; exact h1)
    rw [be_cons, wh_width ws _ (fo_odds h hm) (fun x hx => hw x (List.mem_cons_of_mem _ hx)) h2]
    unfold fo
    rw [if_neg h3]
    split <;> dsimp only <;> omega
theorem wh_len {r : Int × Int} {ws : List Int} (h : Odds r.1 r.2) (hw : ∀ x ∈ ws, 1 ≤ x) : whB r ws = decide (V.int ((runL (be r ws)).length : Int) = V.int ((r.2 - r.1) / 2 + 1)) := by
  have o := be_odds ws r h hw
  have e := runL_len o
  by_cases c : whB r ws = true
  · rw [c]
    symm
    refine decide_eq_true (congrArg V.int ?_)
    have := wh_width ws r h hw c
    omega
  · have c2 : whB r ws = false := by simpa using c
    rw [c2]
    symm
    refine decide_eq_false fun z => c ?_
    have z2 := V.int.inj z
    refine (whB_iff ws r).mpr ((be_wd ws r h hw).2 ?_)
    obtain ⟨a1, a2, a3, a4⟩ := o
    obtain ⟨b1, b2, b3, b4⟩ := h
    omega
theorem some_below {r : Int × Int} (h : Odds r.1 r.2) (m : Int) : inV (.bl true) ((runL r).map fun x => V.bl (decide (x < 2 * m))) = decide (r.1 < 2 * m) := by
  unfold inV
  rw [List.any_map]
  by_cases c : r.1 < 2 * m
  · rw [decide_eq_true c]
    refine List.any_eq_true.mpr ⟨r.1, (runL_mem h).mpr ⟨⟨Int.le_refl _, h.2.2.2⟩, h.1⟩, ?_⟩
    show eqV (.bl (decide (r.1 < 2 * m))) (.bl true) = true
    rw [decide_eq_true c]
    rfl
  · rw [decide_eq_false c]
    refine List.any_eq_false.mpr fun x hx => ?_
    have := ((runL_mem h).mp hx).1.1
    show ¬ eqV (.bl (decide (x < 2 * m))) (.bl true) = true
    rw [decide_eq_false (by omega)]
    exact fun z => by cases z
theorem some_above {r : Int × Int} (h : Odds r.1 r.2) (m : Int) : inV (.bl false) ((runL r).map fun x => V.bl (decide (x < 2 * m))) = decide (2 * m < r.2) := by
  unfold inV
  rw [List.any_map]
  have ho := h.2.1
  by_cases c : 2 * m < r.2
  · rw [decide_eq_true c]
    refine List.any_eq_true.mpr ⟨r.2, (runL_mem h).mpr ⟨⟨h.2.2.2, Int.le_refl _⟩, h.2.1⟩, ?_⟩
    show eqV (.bl (decide (r.2 < 2 * m))) (.bl false) = true
    rw [decide_eq_false (by omega)]
    rfl
  · rw [decide_eq_false c]
    refine List.any_eq_false.mpr fun x hx => ?_
    have := ((runL_mem h).mp hx).1.2
    show ¬ eqV (.bl (decide (x < 2 * m))) (.bl false) = true
    rw [decide_eq_true (by omega)]
    exact fun z => by cases z
theorem be_top {M : Int} : ∀ (ws : List Int) (r : Int × Int), Odds r.1 r.2 → r.2 ≤ M → (∀ x ∈ ws, 1 ≤ x ∧ 2 * x ≤ M) → (be r ws).2 ≤ M
  | [], _, _, h, _ => h
  | m :: ws, r, o, h, k => by
    have hm := k m (List.mem_cons_self ..)
    refine be_top ws (fo r.1 r.2 m) (fo_odds o hm.1) ?_ fun x hx => k x (List.mem_cons_of_mem _ hx)
    obtain ⟨a1, a2, a3, a4⟩ := o
    unfold fo
    (repeat' split) <;> dsimp only <;> omega
end Pan
namespace Pan
open PySem PySem.Spec PyProof.Rows L2
/-! ### rows that halve -/
def sp (r : Int × Int) : Int := (r.2 - r.1) / 2 + 1
def hvw (r : Int × Int) : Int := (r.1 - 1 + 2 * (sp r / 2)) / 2
theorem sp_pos {r : Int × Int} (h : Odds r.1 r.2) : 1 ≤ sp r := by
  unfold sp
  have := h.2.2.2
  omega
theorem fo_half {r : Int × Int} (h : Odds r.1 r.2) (h2 : 1 < sp r) : fo r.1 r.2 (hvw r) = (1, 2 * (sp r - sp r / 2) - 1) ∧ 1 ≤ hvw r := by
  obtain ⟨a1, a2, a3, a4⟩ := h
  unfold hvw
  have hs : sp r = (r.2 - r.1) / 2 + 1 := rfl
  have e : 2 * ((r.1 - 1 + 2 * (sp r / 2)) / 2) = r.1 - 1 + 2 * (sp r / 2) := by omega
  unfold fo
  rw [e, if_pos (by omega)]
  refine ⟨?_, by omega⟩
  split
  · exact Prod.ext rfl (by show r.2 - _ = _; omega)
  · exact Prod.ext rfl (by show _ - r.1 = _; omega)
theorem sp_half {r : Int × Int} (h : Odds r.1 r.2) (h2 : 1 < sp r) : sp (fo r.1 r.2 (hvw r)) = sp r - sp r / 2 := by
  rw [(fo_half h h2).1]
  unfold sp
  dsimp only
  omega
def rsW : Nat → Int × Int → List Int
  | 0, _ => []
  | n + 1, r => if 1 < sp r then hvw r :: rsW n (fo r.1 r.2 (hvw r)) else []
def resL (r : Int × Int) : List Int := rsW (sp r).toNat r
def blN (k : Int) : Nat := Builtin.Int.intBits (k - 1)
theorem bl_half {k : Int} (h : 1 < k) : blN k = blN (k - k / 2) + 1 := by
  unfold blN
  have e : k - k / 2 - 1 = (k - 1) / 2 := by omega
  rw [e]
  have hm : 1 ≤ k - 1 := by omega
  generalize k - 1 = m at hm
  have key : ∀ n, Builtin.Int.intBits m ≤ n + 1 ↔ Builtin.Int.intBits (m / 2) ≤ n := fun n => by
    rw [PySem.intBits_le_iff, PySem.intBits_le_iff, Nat.pow_succ]
    omega
  have h0 : ¬ Builtin.Int.intBits m ≤ 0 := by
    rw [PySem.intBits_le_iff]
    omega
  have a := (key _).mpr (Nat.le_refl _)
  obtain ⟨j, hj⟩ : ∃ j, Builtin.Int.intBits m = j + 1 := ⟨Builtin.Int.intBits m - 1, by omega⟩
  have b := (key j).mp (by omega)
  omega
theorem bl_one : blN 1 = 0 := rfl
theorem bl_le {k : Int} {n : Nat} (h0 : 1 ≤ k) : blN k ≤ n ↔ k ≤ 2 ^ n := by
  unfold blN
  rw [PySem.intBits_le_iff]
  have e : ((2 : Int) ^ n) = ((2 ^ n : Nat) : Int) := by simp
  rw [e]
  omega
theorem rs_all : ∀ (n : Nat) (r : Int × Int), Odds r.1 r.2 → (sp r).toNat ≤ n → sp (be r (rsW n r)) = 1 ∧ (rsW n r).length = blN (sp r) ∧ ∀ x ∈ rsW n r, 1 ≤ x
  | 0, r, h, hn => by
    have := sp_pos h
    omega
  | n + 1, r, h, hn => by
    have hp := sp_pos h
    by_cases c : 1 < sp r
    · have e : rsW (n + 1) r = hvw r :: rsW n (fo r.1 r.2 (hvw r)) := if_pos c
      have hf := fo_half h c
      have hs := sp_half h c
      have ho := fo_odds h hf.2
      obtain ⟨i1, i2, i3⟩ := rs_all n (fo r.1 r.2 (hvw r)) ho (by omega)
      rw [e]
      refine ⟨i1, ?_, fun x hx => ?_⟩
      · rw [List.length_cons, i2, hs, ← bl_half c]
      · rcases List.mem_cons.mp hx with rfl | hx
        · exact hf.2
        · exact i3 x hx
    · have e : rsW (n + 1) r = [] := if_neg c
      have e1 : sp r = 1 := by omega
      rw [e]
      exact ⟨e1, by rw [e1]; rfl, fun x hx => absurd hx List.not_mem_nil⟩
theorem res_one {r : Int × Int} (h : Odds r.1 r.2) : sp (be r (resL r)) = 1 := (rs_all _ r h (Nat.le_refl _)).1
theorem res_len {r : Int × Int} (h : Odds r.1 r.2) : (resL r).length = blN (sp r) := (rs_all _ r h (Nat.le_refl _)).2.1
theorem res_pos {r : Int × Int} (h : Odds r.1 r.2) : ∀ x ∈ resL r, 1 ≤ x := (rs_all _ r h (Nat.le_refl _)).2.2
/-- no fold leaves less than half -/
theorem sp_fo {r : Int × Int} {m : Int} (h : Odds r.1 r.2) (hm : 1 ≤ m) : sp r ≤ 2 * sp (fo r.1 r.2 m) := by
  obtain ⟨a1, a2, a3, a4⟩ := h
  unfold sp fo
  (repeat' split) <;> dsimp only <;> omega
theorem sp_be : ∀ (ws : List Int) (r : Int × Int), Odds r.1 r.2 → (∀ x ∈ ws, 1 ≤ x) → sp r ≤ 2 ^ ws.length * sp (be r ws)
  | [], r, _, _ => by
    show sp r ≤ 2 ^ 0 * sp r
    omega
  | m :: ws, r, h, k => by
    have hm := k m (List.mem_cons_self ..)
    have a := sp_fo h hm
    have b := sp_be ws _ (fo_odds h hm) fun x hx => k x (List.mem_cons_of_mem _ hx)
    rw [be_cons, List.length_cons, Int.pow_succ, Int.mul_comm (2 ^ ws.length) 2, Int.mul_assoc]
    omega
theorem few_grains {ws : List Int} {r : Int × Int} (h : Odds r.1 r.2) (k : ∀ x ∈ ws, 1 ≤ x) (e : sp (be r ws) = 1) : blN (sp r) ≤ ws.length := by
  have a := sp_be ws r h k
  rw [e, Int.mul_one] at a
  exact (bl_le (sp_pos h)).mpr a
theorem sp_one {r : Int × Int} (h : Odds r.1 r.2) : sp r = 1 ↔ r.1 = r.2 := by
  obtain ⟨a1, a2, a3, a4⟩ := h
  unfold sp
  omega
theorem rs_step : ∀ (n : Nat) (r : Int × Int), Odds r.1 r.2 → ∀ (i : Nat) (m : Int), (rsW n r)[i]? = some m → m = hvw (be r ((rsW n r).take i)) ∧ 1 < sp (be r ((rsW n r).take i))
  | 0, r, _, i, m, e => by simp [rsW] at e
  | n + 1, r, h, i, m, e => by
    by_cases c : 1 < sp r
    · have er : rsW (n + 1) r = hvw r :: rsW n (fo r.1 r.2 (hvw r)) := if_pos c
      rw [er] at e ⊢
      cases i with
      | zero =>
        have : hvw r = m := Option.some.inj e
        exact ⟨this.symm, c⟩
      | succ i =>
        have e' : (rsW n (fo r.1 r.2 (hvw r)))[i]? = some m := by simpa using e
        exact rs_step n _ (fo_odds h (fo_half h c).2) i m e'
    · have er : rsW (n + 1) r = [] := if_neg c
      rw [er] at e
      simp at e
theorem res_step {r : Int × Int} (h : Odds r.1 r.2) {i : Nat} {m : Int} (e : (resL r)[i]? = some m) : m = hvw (be r ((resL r).take i)) ∧ 1 < sp (be r ((resL r).take i)) := rs_step _ r h i m e
theorem runL_sp {r : Int × Int} (h : Odds r.1 r.2) : ((runL r).length : Int) = sp r := runL_len h
theorem below_len {r : Int × Int} (h : Odds r.1 r.2) (h2 : 1 < sp r) : (((runL r).filter fun x => decide (x < 2 * hvw r)).length : Int) = sp r / 2 := by
  obtain ⟨a1, a2, a3, a4⟩ := id h
  have e : 2 * hvw r = r.1 - 1 + 2 * (sp r / 2) := by
    unfold hvw
    omega
  have e2 : (runL r).filter (fun x => decide (x < 2 * hvw r)) = rg2 r.1 (2 * hvw r) := by
    refine asc_ext (List.Pairwise.filter _ (rg2_asc _ _)) (rg2_asc _ _) fun k => ?_
    rw [List.mem_filter, decide_eq_true_iff, runL_mem h, rg2_mem]
    unfold InR
    have hs : sp r = (r.2 - r.1) / 2 + 1 := rfl
    omega
  rw [e2, rg2_len, e]
  omega
theorem minL {X : Cx} {K : PySem.W.Frag} (hc : X.calm = true) (hK : X.K = K := by rfl) : CallR X (.builtin "min") (rMin K) := by
  subst hK
  exact cr_min hc
theorem rs_fuel : ∀ (n m : Nat) (r : Int × Int), Odds r.1 r.2 → blN (sp r) ≤ n → blN (sp r) ≤ m → rsW n r = rsW m r
  | n, m, r, h, hn, hm => by
    have hp := sp_pos h
    by_cases c : 1 < sp r
    · have hb := bl_half c
      have hs := sp_half h c
      match n, m, hn, hm with
      | 0, _, hn, _ => omega
      | _ + 1, 0, _, hm => omega
      | n + 1, m + 1, hn, hm =>
        have e1 : rsW (n + 1) r = hvw r :: rsW n (fo r.1 r.2 (hvw r)) := if_pos c
        have e2 : rsW (m + 1) r = hvw r :: rsW m (fo r.1 r.2 (hvw r)) := if_pos c
        rw [e1, e2, rs_fuel n m _ (fo_odds h (fo_half h c).2) (by rw [hs]; omega) (by rw [hs]; omega)]
    · have z : ∀ k, rsW k r = [] := fun k => by
        cases k with
        | zero => rfl
        | succ k => exact if_neg c
      rw [z, z]
theorem bl_self {k : Int} (h : 1 ≤ k) : blN k ≤ k.toNat := (bl_le h).mpr (by
  have : k.toNat < 2 ^ k.toNat := Nat.lt_two_pow_self
  have e : ((2 : Int) ^ k.toNat) = ((2 ^ k.toNat : Nat) : Int) := by simp
  rw [e]
  omega)
theorem res_fuel {n : Nat} {r : Int × Int} (h : Odds r.1 r.2) (hn : blN (sp r) ≤ n) : resL r = rsW n r := rs_fuel _ _ r h (bl_self (sp_pos h)) hn
theorem cons_eq {a b : Int} {l m : List Int} (h : a = b) (k : l = m) : a :: l = b :: m := by rw [h, k]
/-- powers of two, the greatest first -/
def pw : Nat → List Int
  | 0 => []
  | k + 1 => 2 ^ k :: pw k
theorem two_pos (k : Nat) : (1 : Int) ≤ 2 ^ k := by
  have : 0 < (2 : Nat) ^ k := Nat.pow_pos (by decide)
  have e : ((2 : Int) ^ k) = ((2 ^ k : Nat) : Int) := by simp
  rw [e]
  omega
theorem bl_two (k : Nat) : blN (2 ^ k) = k := by
  induction k with
  | zero => rfl
  | succ k ih =>
    have h := two_pos k
    rw [bl_half (by rw [Int.pow_succ]; omega)]
    have e : (2 : Int) ^ (k + 1) - 2 ^ (k + 1) / 2 = 2 ^ k := by rw [Int.pow_succ]; omega
    rw [e, ih]
theorem rs_two : ∀ (k n : Nat), k ≤ n → rsW n (1, 2 * 2 ^ k - 1) = pw k
  | 0, n, _ => by
    have z : ¬ 1 < sp (1, 2 * 2 ^ 0 - 1) := by decide
    cases n with
    | zero => rfl
    | succ n => exact if_neg z
  | k + 1, n, h => by
    obtain ⟨n, rfl⟩ : ∃ m, n = m + 1 := ⟨n - 1, by omega⟩
    have hp := two_pos k
    have e2 : (2 : Int) ^ (k + 1) = 2 * 2 ^ k := by rw [Int.pow_succ]; omega
    have hs : sp (1, 2 * 2 ^ (k + 1) - 1) = 2 * 2 ^ k := by
      unfold sp
      dsimp only
      rw [e2]
      omega
    have c : 1 < sp (1, 2 * 2 ^ (k + 1) - 1) := by rw [hs]; omega
    have ho : Odds (1 : Int) (2 * 2 ^ (k + 1) - 1) := ⟨rfl, by omega, by omega, by omega⟩
    have hf := (fo_half (r := (1, 2 * 2 ^ (k + 1) - 1)) ho c).1
    have hv : hvw (1, 2 * 2 ^ (k + 1) - 1) = 2 ^ k := by
      unfold hvw
      rw [hs]
      dsimp only
      omega
    have e1 : rsW (n + 1) (1, 2 * 2 ^ (k + 1) - 1) = hvw (1, 2 * 2 ^ (k + 1) - 1) :: rsW n (fo 1 (2 * 2 ^ (k + 1) - 1) (hvw (1, 2 * 2 ^ (k + 1) - 1))) := if_pos c
    have hf' : fo 1 (2 * 2 ^ (k + 1) - 1) (hvw (1, 2 * 2 ^ (k + 1) - 1)) = (1, 2 * 2 ^ k - 1) := by
      rw [hs] at hf
      have : fo 1 (2 * 2 ^ (k + 1) - 1) (hvw (1, 2 * 2 ^ (k + 1) - 1)) = (1, 2 * (2 * 2 ^ k - 2 * 2 ^ k / 2) - 1) := hf
      rw [this]
      exact Prod.ext rfl (by dsimp only; omega)
    rw [e1, hf', hv, rs_two k n (by omega)]
    rfl
def dueP (o : Int) (p : Nat) : List Int := (List.range p).map fun i => o * (if i = 0 then 1 else 0) + 2 ^ (p - 1 - i)
theorem pw_map : ∀ p : Nat, pw p = (List.range p).map fun i => (2 : Int) ^ (p - 1 - i)
  | 0 => rfl
  | p + 1 => by
    rw [List.range_succ_eq_map, List.map_cons, List.map_map]
    show 2 ^ p :: pw p = _
    rw [pw_map p]
    refine cons_eq (by simp) ?_
    refine List.map_congr_left fun i hi => ?_
    show _ = (2 : Int) ^ (p + 1 - 1 - (i + 1))
    congr 1
    omega
theorem res_two {o : Int} (h0 : 0 ≤ o) (p : Nat) {r : Int × Int} (h1 : r.1 = 2 * o + 1) (h2 : r.2 = 2 * o + 1 + 2 * 2 ^ p - 2) : Odds r.1 r.2 ∧ sp r = 2 ^ p ∧ resL r = dueP o p := by
  have hp := two_pos p
  have ho : Odds r.1 r.2 := ⟨by omega, by omega, by omega, by omega⟩
  have hs : sp r = 2 ^ p := by
    unfold sp
    omega
  refine ⟨ho, hs, ?_⟩
  cases p with
  | zero =>
    have e : resL r = rsW 0 r := res_fuel ho (by rw [hs]; decide)
    rw [e]
    rfl
  | succ k =>
    have hk := two_pos k
    have e2 : (2 : Int) ^ (k + 1) = 2 * 2 ^ k := by rw [Int.pow_succ]; omega
    have c : 1 < sp r := by rw [hs]; omega
    have hf := (fo_half ho c).1
    have e : resL r = rsW (k + 1) r := res_fuel ho (by rw [hs, bl_two]; omega)
    have e1 : rsW (k + 1) r = hvw r :: rsW k (fo r.1 r.2 (hvw r)) := if_pos c
    have hv : hvw r = o + 2 ^ k := by
      unfold hvw
      rw [hs, h1]
      omega
    have hf' : fo r.1 r.2 (hvw r) = (1, 2 * 2 ^ k - 1) := by
      rw [hf, hs]
      exact Prod.ext rfl (by dsimp only; omega)
    rw [e, e1, hf', hv, rs_two k k (Nat.le_refl _), pw_map]
    unfold dueP
    rw [List.range_succ_eq_map, List.map_cons, List.map_map]
    refine cons_eq (by simp) ?_
    refine List.map_congr_left fun i hi => ?_
    show _ = o * (if i + 1 = 0 then 1 else 0) + (2 : Int) ^ (k + 1 - 1 - (i + 1))
    rw [if_neg (by omega), Int.mul_zero, Int.zero_add]
    congr 1
    omega
/-- halved so many times -/
def hqs : Nat → Int → List Int × Int
  | 0, l => ([], l)
  | n + 1, l => ((hqs n l).1 ++ [(hqs n l).2 / 2], (hqs n l).2 - (hqs n l).2 / 2)
theorem hqs_len (l : Int) : ∀ n, (hqs n l).1.length = n
  | 0 => rfl
  | n + 1 => by
    show ((hqs n l).1 ++ [(hqs n l).2 / 2]).length = n + 1
    rw [List.length_append, hqs_len l n]
    rfl
theorem far_bl : blN 500000000 = 29 := by decide +kernel
theorem far_res : resL (1, 999999999) = (hqs 29 500000000).1 := by
  have ho : Odds (1 : Int) 999999999 := ⟨by decide, by decide, by decide, by decide⟩
  have e : resL (1, 999999999) = rsW 29 (1, 999999999) := res_fuel (r := (1, 999999999)) ho (by
    have : sp (1, 999999999) = 500000000 := by decide
    rw [this, far_bl]
    exact Nat.le_refl _)
  rw [e]
  decide +kernel
/-! ### rows whose sides tell the start -/
def run0 (most : Int) : Int × Int := (1, 2 * most - 1)
def telL (most : Int) : List Int := resL (run0 most) ++ [1]
theorem run0_odds {most : Int} (h : 1 ≤ most) : Odds (run0 most).1 (run0 most).2 := ⟨rfl, by show (2 * most - 1) % 2 = 1; omega, Int.le_refl _, by show (1 : Int) ≤ 2 * most - 1; omega⟩
theorem rs_first : ∀ (n : Nat) (r : Int × Int), Odds r.1 r.2 → r.1 = 1 → (be r (rsW n r)).1 = 1
  | 0, _, _, h => h
  | n + 1, r, o, h => by
    by_cases c : 1 < sp r
    · have er : rsW (n + 1) r = hvw r :: rsW n (fo r.1 r.2 (hvw r)) := if_pos c
      have hf := fo_half o c
      rw [er, be_cons]
      refine rs_first n _ (fo_odds o hf.2) ?_
      rw [hf.1]
    · have er : rsW (n + 1) r = [] := if_neg c
      rw [er]
      exact h
theorem res_to_one {most : Int} (h : 1 ≤ most) : be (run0 most) (resL (run0 most)) = (1, 1) := by
  have o := run0_odds h
  have a : (be (run0 most) (resL (run0 most))).1 = 1 := rs_first _ _ o rfl
  have b := (sp_one (be_odds _ _ o (res_pos o))).mp (res_one o)
  exact Prod.ext a (by rw [← b]; exact a)
theorem tel_one {most s : Int} (h : 1 ≤ most) (ho : s % 2 = 1) (hs : szz s < 2 * most) : szz (fin s (resL (run0 most))) = 1 := by
  have o := run0_odds h
  have a := fin_in (resL (run0 most)) (run0 most) s ho o (res_pos o) ⟨(szz_odd ho).2, by show szz s ≤ 2 * most - 1; omega⟩
  rw [res_to_one h] at a
  have b := a.1
  have c := a.2
  dsimp only at b c
  omega
/-- known by hand: the size of a start, by where the sides change -/
def kn : List Int → Int
  | [] => 1
  | c :: cs => 2 ^ (cs.length + 1) + kn cs * (if c = 0 then 1 else -1)
theorem kn_bd : ∀ cs : List Int, 1 ≤ kn cs ∧ kn cs ≤ 2 ^ (cs.length + 1) - 1 ∧ kn cs % 2 = 1
  | [] => by decide
  | c :: cs => by
    obtain ⟨h1, h2, h3⟩ := kn_bd cs
    show 1 ≤ 2 ^ (cs.length + 1) + kn cs * (if c = 0 then 1 else -1) ∧ 2 ^ (cs.length + 1) + kn cs * (if c = 0 then 1 else -1) ≤ 2 ^ (cs.length + 1 + 1) - 1 ∧ (2 ^ (cs.length + 1) + kn cs * (if c = 0 then 1 else -1)) % 2 = 1
    have e : (2 : Int) ^ (cs.length + 1 + 1) = 2 * 2 ^ (cs.length + 1) := by rw [Int.pow_succ]; omega
    have e1 : (2 : Int) ^ (cs.length + 1) = 2 * 2 ^ cs.length := by rw [Int.pow_succ]; omega
    have hp := two_pos cs.length
    rw [e]
    generalize (2 : Int) ^ (cs.length + 1) = P at *
    split <;> omega
def slS : Int → List Int → List Int
  | f, [] => [f]
  | f, c :: cs => f :: slS ((f + c) % 2) cs
theorem kn_sides : ∀ (cs : List Int) (f : Int), (∀ x ∈ cs, x = 0 ∨ x = 1) → (f = 0 ∨ f = 1) → sds (kn cs * (if f = 0 then -1 else 1)) (pw cs.length ++ [1]) = (slS f cs).map nmS
  | [], f, _, hf => by
    rcases hf with rfl | rfl <;> rfl
  | c :: cs, f, hc, hf => by
    have hb := kn_bd (c :: cs)
    have hb2 := kn_bd cs
    have hc0 := hc c (List.mem_cons_self ..)
    have ih := fun f' h' => kn_sides cs f' (fun x hx => hc x (List.mem_cons_of_mem _ hx)) h'
    have ek : kn (c :: cs) = 2 ^ (cs.length + 1) + kn cs * (if c = 0 then 1 else -1) := rfl
    have e1 : (2 : Int) ^ (cs.length + 1) = 2 * 2 ^ cs.length := by rw [Int.pow_succ]; omega
    show sd (kn (c :: cs) * (if f = 0 then -1 else 1)) :: sds (st1 (kn (c :: cs) * (if f = 0 then -1 else 1)) (2 ^ cs.length)) (pw cs.length ++ [1]) = nmS f :: (slS ((f + c) % 2) cs).map nmS
    have hst : st1 (kn (c :: cs) * (if f = 0 then -1 else 1)) (2 ^ cs.length) = kn cs * (if (f + c) % 2 = 0 then -1 else 1) ∧ sd (kn (c :: cs) * (if f = 0 then -1 else 1)) = nmS f := by
      rw [e1] at ek
      unfold st1 sd nmS
      rcases hf with rfl | rfl
      · rw [if_pos rfl, if_pos (show kn (c :: cs) * -1 < 0 by omega), if_pos (show kn (c :: cs) * -1 < 0 by omega)]
        refine ⟨?_, rfl⟩
        rcases hc0 with rfl | rfl
        · rw [if_pos (by decide)]
          rw [if_pos rfl] at ek
          omega
        · rw [if_neg (by decide)]
          rw [if_neg (by decide)] at ek
          omega
      · have e10 : (if (1 : Int) = 0 then (-1 : Int) else 1) = 1 := rfl
        rw [e10, if_neg (show ¬ kn (c :: cs) * 1 < 0 by omega), if_neg (show ¬ kn (c :: cs) * 1 < 0 by omega)]
        refine ⟨?_, rfl⟩
        rcases hc0 with rfl | rfl
        · rw [if_neg (by decide)]
          rw [if_pos rfl] at ek
          omega
        · rw [if_pos (by decide)]
          rw [if_neg (by decide)] at ek
          omega
    rw [hst.1, hst.2, ih ((f + c) % 2) (by omega)]
theorem tel_two (p : Nat) : telL (2 ^ p) = pw p ++ [1] := by
  unfold telL
  have ho := run0_odds (two_pos p)
  have hs : sp (run0 (2 ^ p)) = 2 ^ p := by
    have := two_pos p
    unfold sp run0
    dsimp only
    omega
  rw [res_fuel (n := p) ho (by rw [hs, bl_two]; exact Nat.le_refl _)]
  exact congrArg (· ++ [1]) (rs_two p p (Nat.le_refl _))
theorem cut_neg1 (xs : List V) : cutV xs none (some (-1)) = xs.take (xs.length - 1) := by
  unfold cutV
  rw [HT.sIx_none]
  have e : HT.sIx xs.length xs.length (some (-1 : Int)) = xs.length - 1 := by
    have := HT.clip_eq (-1) xs.length xs.length
    rw [if_pos (by decide)] at this
    omega
  rw [e, List.drop_zero, Nat.sub_zero]
/-! ### a tuple so many times, whichever object it is -/
theorem tupleOnce (l : Addr) (us : Array Value) (m : Nat) (dd : Option Addr) (sl : Array (Option Value)) (u : Tok) :
    Meets (Builtin.«tuple.__mul__» ⟨[.ref l, .int 1 u], []⟩) (fun _ R s => s.heap.get? l = some { cls := .type "tuple", dict := dd, data := .seq us m, slots := sl } ∧ R (.ok (.ret (Value.ref l))) s) :=
  .of_wp fun prog w A R s h => by
    obtain ⟨hp, g, d, tk, os⟩ := s
    obtain ⟨hl, h⟩ := h
    have f1 := AutoSeq1.idx_int
    have c1 : (us.isEmpty || (1 : Int) == 1) = true := by simp
    wp_walk using wpAny_loadPart' hl
    repeat (first
      | (refine wpAny_ite_false (by decide) ?_; wp_walk using wpAny_loadPart' hl)
      | (refine wpAny_ite_true (decide_eq_true c1) ?_; wp_walk using wpAny_loadPart' hl))
    exact ⟨_, rfl, h⟩
def rRepW : R2 := fun x y H Q => ∃ l k xs, x = .ref l ∧ y = .int k ∧ H l = some (.tup xs) ∧ xs ≠ [] ∧ 1 ≤ k ∧ k ≤ 1000 ∧ xs.length ≤ 1000 ∧ ∀ p H', Same H H' → H' p = some (.tup (List.replicate k.toNat xs).flatten) → Q (.ref p) H'
theorem op_repW {X : Cx} : OpR X (binaryOp .Mult) rRepW := by
  intro pins s σ H x y v u Q I rx ry h
  obtain ⟨l, k, xs, rfl, rfl, hT, hne, h1, h2, hz, q⟩ := h
  by_cases c : 2 ≤ k
  · exact op_repT pins s σ H _ _ v u Q I rx ry ⟨l, k, xs, rfl, rfl, SqT.of hT, hne, c, h2, hz, fun p np => q p _ (same_upd np) upd_same⟩
  · have e : k = 1 := by omega
    subst e
    cases rx
    obtain ⟨t, rfl⟩ := ry
    obtain ⟨its, r, ⟨⟨cls, dd, data, sl⟩, ho, hc, n, hd⟩, hs⟩ := I.tuple (SqT.of (K := X.K) hT)
    simp only at hc hd
    subst hc hd
    refine wpAny_binaryOp_repeat_ref (T := "tuple") (U := "int") (by decide) ⟨_, ho, rfl⟩ (fun s' => typeIs_int s' 1 t) noFill_tuple_mul F.fills_int_mul F.slot_int_rmul repeat_tuple F.slot_int_index.lookup
      (call_meets F.slot_int_rmul (typeIs_int s 1 t) F.entry_int_rmul (F.args_int_rmul_2 _ _) (int_rmul_tuple 1 t l its.toArray n dd sl)
        ⟨ho, rfl, ⟨_, ho, rfl⟩, call_meets F.slot_tuple_mul ⟨_, ho, rfl⟩ F.entry_tuple_mul (F.args_tuple_mul_2 _ _) (tupleOnce l its.toArray n dd sl t) ⟨ho, ?_⟩⟩)
    refine ⟨.ref l, H, I, rfl, q l H (Same.refl _) ?_⟩
    have e1 : (List.replicate (Int.toNat 1) xs).flatten = xs := by
      show ([xs] : List (List V)).flatten = xs
      simp
    rw [e1]
    exact hT
theorem flatRep (n : Nat) (x : Int) : (List.replicate n [V.int x]).flatten = (List.replicate n x).map V.int := by
  induction n with
  | zero => rfl
  | succ n ih => rw [List.replicate_succ, List.flatten_cons, ih, List.replicate_succ]; rfl
end Pan
namespace Pan
open PySem PySem.Spec PyProof.Rows L2
/-! ### two starts -/
def metAt (ws : List Int) (s u : Int) (n : Nat) : Prop := szz (atW ws s (n : Int)) = szz (atW ws u (n : Int))
theorem atN_odd (ws : List Int) {s : Int} (ho : s % 2 = 1) (n : Nat) : atW ws s (n : Int) % 2 = 1 := at_odd ws ho (by omega)
theorem at_bare (s : Int) (n : Int) : atW [] s n = s := if_pos rfl
theorem at_zero (ws : List Int) (s : Int) : atW ws s ((0 : Nat) : Int) = s := by
  by_cases c : ws = []
  · subst c
    exact at_bare _ _
  · have := at_mul c s 0
    simpa [itr] using this
theorem met_succ {ws : List Int} {s u : Int} (hs : s % 2 = 1) (hu : u % 2 = 1) {n : Nat} (h : metAt ws s u n) : metAt ws s u (n + 1) := by
  by_cases c : ws = []
  · subst c
    unfold metAt at h ⊢
    rw [at_bare, at_bare] at h ⊢
    exact h
  · obtain ⟨m, _, hm, _⟩ := grow c n
    unfold metAt at h ⊢
    rw [hm, hm, szz_st1 (atN_odd ws hs n), szz_st1 (atN_odd ws hu n), h]
theorem met_le {ws : List Int} {s u : Int} (hs : s % 2 = 1) (hu : u % 2 = 1) {n : Nat} (h : metAt ws s u n) : ∀ k, metAt ws s u (n + k)
  | 0 => h
  | k + 1 => met_succ hs hu (met_le hs hu h k)
theorem met_mono {ws : List Int} {s u : Int} (hs : s % 2 = 1) (hu : u % 2 = 1) {n m : Nat} (h : metAt ws s u n) (l : n ≤ m) : metAt ws s u m := by
  have := met_le hs hu h (m - n)
  rwa [show n + (m - n) = m by omega] at this
noncomputable def bothN (ws : List Int) (s u : Int) : Nat := max (setOf ws s) (setOf ws u)
noncomputable def enoughN (ws : List Int) (s u : Int) : Nat := bothN ws s u * ws.length
/-- behind settling they don't meet any more -/
theorem met_enough {ws : List Int} {s u : Int} (hw : ∀ x ∈ ws, 1 ≤ x) (hs : s % 2 = 1) (hu : u % 2 = 1) {n : Nat} (h : metAt ws s u n) : metAt ws s u (enoughN ws s u) := by
  by_cases c : ws = []
  · subst c
    unfold metAt at h ⊢
    rw [at_bare, at_bare] at h ⊢
    exact h
  · have g : GoodW ws := ⟨c, hw⟩
    have hl : 0 < ws.length := List.length_pos_iff.mpr c
    have e1 : setOf ws s = setN ws s := if_neg c
    have e2 : setOf ws u = setN ws u := if_neg c
    have two : ∀ {x : Int}, x % 2 = 1 → ∀ (b j : Nat), setN ws x ≤ b → itr ws (b + 2 * j) x = itr ws b x := fun {x} hx b j hb => by
      have hin := in_stay g hx (setN_is g hx).1
      induction j with
      | zero => rfl
      | succ j ih =>
        have a := hin (b + 2 * j - setN ws x)
        rw [show setN ws x + (b + 2 * j - setN ws x) = b + 2 * j by omega] at a
        rw [show b + 2 * (j + 1) = b + 2 * j + 2 by omega, (itr_two g hx a).1, ih]
    have key : metAt ws s u ((bothN ws s u + 2 * n) * ws.length) := met_mono hs hu h (by
      have : n * 1 ≤ n * ws.length := Nat.mul_le_mul_left _ hl
      rw [Nat.add_mul, Nat.mul_assoc]
      omega)
    have ea : ∀ {x : Int} (k : Nat), atW ws x (((k * ws.length : Nat)) : Int) = itr ws k x := fun {x} k => by
      rw [Int.natCast_mul]
      exact at_mul c x k
    unfold enoughN
    unfold metAt at key ⊢
    rw [ea, ea] at key ⊢
    have b1 : setN ws s ≤ bothN ws s u := by unfold bothN; rw [e1, e2]; omega
    have b2 : setN ws u ≤ bothN ws s u := by unfold bothN; rw [e1, e2]; omega
    rw [two hs _ _ b1, two hu _ _ b2] at key
    exact key
/-- the first time, or never -/
def IsFst (ws : List Int) (s u : Int) : Option Nat → Prop
  | none => ∀ n, ¬ metAt ws s u n
  | some n => metAt ws s u n ∧ ∀ m, m < n → ¬ metAt ws s u m
theorem fst_uniq {ws : List Int} {s u : Int} {a b : Option Nat} (h : IsFst ws s u a) (k : IsFst ws s u b) : a = b := by
  match a, b, h, k with
  | none, none, _, _ => rfl
  | none, some n, h, k => exact absurd k.1 (h n)
  | some n, none, h, k => exact absurd h.1 (k n)
  | some n, some m, h, k =>
    rcases Nat.lt_trichotomy n m with l | l | l
    · exact absurd h.1 (k.2 n l)
    · rw [l]
    · exact absurd k.1 (h.2 m l)
noncomputable def mtV (ws : List Int) (s u : Int) : Option Nat → List V
  | none => [.str "apart"]
  | some n => [.str (if atW ws s (n : Int) = atW ws u (n : Int) then "one" else "mirrored"), .int (n : Int)]
noncomputable def mtD (ws : List Int) (s u : Int) : Option Nat → List PyData
  | none => [.str "apart"]
  | some n => [.str (if atW ws s (n : Int) = atW ws u (n : Int) then "one" else "mirrored"), .int (n : Int)]
theorem mt_ok (ws : List Int) (s u : Int) (o : Option Nat) : ShA 1 (mtD ws s u o) := by
  cases o with
  | none => exact .cons (.str (by decide +kernel)) .nil
  | some n =>
    refine .cons (.str ?_) (.cons (.int _) .nil)
    split <;> decide +kernel
theorem mt_dt {H : Hp} (ws : List Int) (s u : Int) (o : Option Nat) {n : Nat} : DtA H n (mtV ws s u o) (mtD ws s u o) := by
  cases o with
  | none => exact .cons (.str _) .nil
  | some n => exact .cons (.str _) (.cons (.int _) .nil)
theorem mt_len (ws : List Int) (s u : Int) (o : Option Nat) : (mtV ws s u o).length ≤ 2 := by
  cases o
  · exact (by decide : 1 ≤ 2)
  · exact (by decide : 2 ≤ 2)
theorem met_sym {ws : List Int} {s u : Int} {o : Option Nat} (h : IsFst ws s u o) : IsFst ws u s o := by
  cases o with
  | none => exact fun n k => h n (Eq.symm k)
  | some n => exact ⟨h.1.symm, fun m l k => h.2 m l (Eq.symm k)⟩
theorem mtV_sym (ws : List Int) (s u : Int) (o : Option Nat) : mtV ws u s o = mtV ws s u o := by
  cases o with
  | none => rfl
  | some n =>
    show [V.str (if atW ws u (n : Int) = atW ws s (n : Int) then "one" else "mirrored"), _] = [V.str (if atW ws s (n : Int) = atW ws u (n : Int) then "one" else "mirrored"), _]
    by_cases c : atW ws s (n : Int) = atW ws u (n : Int)
    · rw [if_pos c, if_pos c.symm]
    · rw [if_neg c, if_neg (fun z => c z.symm)]
theorem met_mir {ws : List Int} {s u : Int} (hs : s % 2 = 1) {n : Nat} : metAt ws (0 - s) u n ↔ metAt ws s u n := by
  unfold metAt
  rw [at_mir ws hs, szz_mir]
theorem fst_mir {ws : List Int} {s u : Int} (hs : s % 2 = 1) {o : Option Nat} (h : IsFst ws s u o) : IsFst ws (0 - s) u o := by
  cases o with
  | none => exact fun n k => h n ((met_mir hs).mp k)
  | some n => exact ⟨(met_mir hs).mpr h.1, fun m l k => h.2 m l ((met_mir hs).mp k)⟩
theorem szz_eq {a b : Int} (h : szz a = szz b) : a = b ∨ a = 0 - b := by
  unfold szz at h
  split at h <;> split at h <;> omega
theorem szz_of {a b : Int} (h : a = b ∨ a = 0 - b) : szz a = szz b := by
  rcases h with rfl | rfl
  · rfl
  · exact szz_mir b
theorem mtV_mir2 {ws : List Int} {s u : Int} (hs : s % 2 = 1) (hu : u % 2 = 1) (o : Option Nat) : mtV ws (0 - s) (0 - u) o = mtV ws s u o := by
  cases o with
  | none => rfl
  | some n =>
    show [V.str (if atW ws (0 - s) (n : Int) = atW ws (0 - u) (n : Int) then "one" else "mirrored"), _] = [V.str (if atW ws s (n : Int) = atW ws u (n : Int) then "one" else "mirrored"), _]
    rw [at_mir ws hs, at_mir ws hu]
    by_cases c : atW ws s (n : Int) = atW ws u (n : Int)
    · rw [if_pos c, if_pos (by rw [c])]
    · rw [if_neg c, if_neg (fun z => c (by omega))]
theorem pe_constI {X : Cx} {x : Str} {z : Int} {pos : Pos} (h : ∃ t, X.mg x = some (.int z t)) (hg : Gl X x) (hd : (x == ("__debug__" : Str)) = false := by decide) : PE X (.Name x pos) (tC (.int z)) :=
  h.elim fun t k => pe_glob hg k ⟨t, rfl⟩ hd
/-! ### far starts -/
theorem itr_twos {ws : List Int} (g : GoodW ws) {x : Int} (hx : x % 2 = 1) {b : Nat} (hb : setN ws x ≤ b) : ∀ j : Nat, itr ws (b + 2 * j) x = itr ws b x
  | 0 => rfl
  | j + 1 => by
    have hin := in_stay g hx (setN_is g hx).1 (b + 2 * j - setN ws x)
    rw [show setN ws x + (b + 2 * j - setN ws x) = b + 2 * j by omega] at hin
    rw [show b + 2 * (j + 1) = b + 2 * j + 2 by omega, (itr_two g hx hin).1, itr_twos g hx hb j]
theorem set_near {ws : List Int} (g : GoodW ws) {x : Int} (hx : x % 2 = 1) (hb : szz x < 2 * mx ws + 2 * ws.sum) : (setN ws x : Int) ≤ mx ws + 2 := by
  have hst := stN_lt g
  have hsum := mx_sum (ws := ws) g.2
  have f0 := far_nn g hx
  have fm := (far_mul g x).1
  have hp := mx_pos g
  have hle : setN ws x ≤ (far ws x).toNat + 1 + stN ws := Nat.le_of_not_lt fun z => (setN_is g hx).2 _ z (ex_in g hx)
  have hfar : far ws x ≤ 1 := by
    refine Decidable.byContradiction fun n => ?_
    have h1 : 2 * ws.sum * 2 ≤ 2 * ws.sum * far ws x := Int.mul_le_mul_of_nonneg_left (by omega) (by omega)
    omega
  omega
/-- how many rounds before the largest weight's reach -/
def nrR (ws : List Int) (z : Int) : Int := (if z - 2 * mx ws > 0 then z - 2 * mx ws else 0) / (2 * ws.sum)
theorem nr_mul {ws : List Int} (g : GoodW ws) {z : Int} (hz : 1 ≤ z) : 0 ≤ nrR ws z ∧ nrR ws z * (2 * ws.sum) ≤ z - 1 ∧ (nrR ws z = 0 ∨ nrR ws z * (2 * ws.sum) ≤ z - 2 * mx ws) ∧ z < nrR ws z * (2 * ws.sum) + 2 * ws.sum + 2 * mx ws := by
  have hp := mx_pos g
  have hsum := mx_sum (ws := ws) g.2
  have h2 : (0 : Int) < 2 * ws.sum := by omega
  unfold nrR
  split
  · have a := Int.mul_ediv_add_emod (z - 2 * mx ws) (2 * ws.sum)
    have b := Int.emod_nonneg (z - 2 * mx ws) (b := 2 * ws.sum) (by omega)
    have c := Int.emod_lt_of_pos (z - 2 * mx ws) h2
    have d : 0 ≤ (z - 2 * mx ws) / (2 * ws.sum) := Int.ediv_nonneg (by omega) (by omega)
    rw [Int.mul_comm] at a
    generalize (z - 2 * mx ws) / (2 * ws.sum) = k at *
    generalize k * (2 * ws.sum) = m at *
    omega
  · rw [Int.zero_ediv]
    omega
theorem nr_far {ws : List Int} (g : GoodW ws) {s : Int} (hs : s % 2 = 1) : nrR ws (szz s) ≤ far ws s := by
  have h := nr_mul g (szz_odd hs).2
  have hp := mx_pos g
  have hsum := mx_sum (ws := ws) g.2
  unfold far
  exact Int.le_ediv_of_mul_le (by omega) h.2.1
theorem dn_is (ws : List Int) {s : Int} (hs : s % 2 = 1) (n : Int) : dn ws s n = (szz s - 2 * ws.sum * n) * (if 0 < s then 1 else -1) := by
  unfold dn szz
  by_cases c : s < 0
  · rw [if_pos c, if_pos c, if_neg (by omega), Int.mul_neg_one]
    omega
  · rw [if_neg c, if_neg c, if_pos (by omega), Int.mul_one]
/-- so many rounds, the far ones at once, the settled ones by two -/
theorem at_short {ws : List Int} (g : GoodW ws) {s : Int} (hs : s % 2 = 1) (R : Nat) (n : Nat) (hn : (n : Int) = (if nrR ws (szz s) < (R : Int) then nrR ws (szz s) else (R : Int))) (k : Nat)
    (hk : (k : Int) = (if (R : Int) - n < mx ws + 4 then (R : Int) - n else mx ws + 4 + ((R : Int) - n - mx ws - 4) % 2)) : itr ws R s = itr ws k (dn ws s n) ∧ dn ws s n % 2 = 1 ∧ k ≤ R := by
  have hp := mx_pos g
  have hf := nr_far g hs
  have hm := nr_mul g (szz_odd hs).2
  have hnf : (n : Int) ≤ far ws s := by
    revert hn
    split <;> intro hn <;> omega
  have hnR : n ≤ R := by
    revert hn
    split <;> intro hn <;> omega
  obtain ⟨e1, e2⟩ := itr_far g hs n hnf
  have ho : dn ws s n % 2 = 1 := by
    rw [← e1]
    exact itr_odd ws n s hs
  have eR : itr ws R s = itr ws (R - n) (dn ws s n) := by
    rw [← e1, ← itr_add, show n + (R - n) = R by omega]
  by_cases c : (R : Int) - n < mx ws + 4
  · rw [if_pos c] at hk
    refine ⟨?_, ho, by omega⟩
    rw [eR, show R - n = k by omega]
  · rw [if_neg c] at hk
    refine ⟨?_, ho, by omega⟩
    have hlt : nrR ws (szz s) < (R : Int) := by
      refine Decidable.byContradiction fun z => ?_
      rw [if_neg z] at hn
      omega
    rw [if_pos hlt] at hn
    have hb : szz (dn ws s n) < 2 * mx ws + 2 * ws.sum := by
      rw [← e1, e2, hn, Int.mul_comm]
      omega
    have hset := set_near g ho hb
    obtain ⟨j, hj⟩ : ∃ j : Nat, R - n = k + 2 * j := ⟨(R - n - k) / 2, by omega⟩
    rw [eR, hj, itr_twos g ho (b := k) (by omega)]
/-- till the further one is near, they don't meet -/
theorem far_apart {ws : List Int} (g : GoodW ws) {s u : Int} (hs : s % 2 = 1) (hu : u % 2 = 1) (hlt : szz u < szz s) (A : Nat) (hA : (A : Int) = nrR ws (szz s)) : ∀ n : Nat, n ≤ A * ws.length → szz (atW ws u (n : Int)) < szz (atW ws s (n : Int)) ∧ szz s - 2 * cameW ws (n : Int) ≤ szz (atW ws s (n : Int)) := by
  have hm := nr_mul g (szz_odd hs).2
  have hcA : cameW ws (((A * ws.length : Nat)) : Int) = A * ws.sum := by
    have h := came_add g.1 A (m := 0) (Int.le_refl _)
    have z : cameW ws 0 = 0 := (grs_at ws 0 0).2.symm.trans (by rw [grs_is g.1]; rfl)
    rw [Int.add_zero, z, Int.add_zero] at h
    rw [Int.natCast_mul]
    exact h
  have hmono : ∀ (n k : Nat), cameW ws (n : Int) ≤ cameW ws ((n + k : Nat) : Int) := fun n k => by
    induction k with
    | zero => exact Int.le_refl _
    | succ k ih =>
      obtain ⟨m, hm1, _, hc⟩ := grow g.1 (n + k)
      have := g.2 m (List.mem_of_getElem? hm1)
      rw [show n + (k + 1) = n + k + 1 by omega, hc]
      omega
  intro n
  induction n with
  | zero =>
    intro _
    rw [at_zero, at_zero]
    have z : cameW ws ((0 : Nat) : Int) = 0 := (grs_at ws 0 0).2.symm.trans (by rw [grs_is g.1]; rfl)
    rw [z]
    exact ⟨hlt, by omega⟩
  | succ n ih =>
    intro hn
    obtain ⟨i1, i2⟩ := ih (by omega)
    obtain ⟨m, hm1, hgr, hc⟩ := grow g.1 n
    have hm0 := g.2 m (List.mem_of_getElem? hm1)
    have hmx := le_mx ws m (List.mem_of_getElem? hm1)
    have oa := szz_odd (atN_odd ws hs n)
    have ob := szz_odd (atN_odd ws hu n)
    have hle := hmono (n + 1) (A * ws.length - (n + 1))
    rw [show n + 1 + (A * ws.length - (n + 1)) = A * ws.length by omega, hcA, hc] at hle
    have hA1 : 1 ≤ A := by
      rcases Nat.eq_zero_or_pos A with z | z
      · rw [z, Nat.zero_mul] at hn
        omega
      · exact z
    have hAm : (A : Int) * ws.sum * 2 ≤ szz s - 2 * mx ws := by
      rcases hm.2.2.1 with z | z
      · omega
      · rw [← hA] at z
        rw [Int.mul_assoc, Int.mul_comm ws.sum]
        exact z
    rw [hgr, hgr, szz_st1 (atN_odd ws hs n), szz_st1 (atN_odd ws hu n), hc]
    generalize (A : Int) * ws.sum = P at *
    generalize szz (atW ws s (n : Int)) = a at *
    generalize szz (atW ws u (n : Int)) = b at *
    generalize szz s = z at *
    unfold szz
    constructor
    · split <;> split <;> omega
    · split <;> omega
/-- the first meeting, counted from the time when the further one is near -/
theorem fst_ahead {ws : List Int} (g : GoodW ws) {s u : Int} (A : Nat) (hno : ∀ n, n < A * ws.length → ¬ metAt ws s u n) {o : Option Nat} (h : IsFst ws (itr ws A s) (itr ws A u) o) : IsFst ws s u (o.map fun n => A * ws.length + n) ∧ (∀ n, o = some n → mtV ws s u (some (A * ws.length + n)) = [.str (if atW ws (itr ws A s) (n : Int) = atW ws (itr ws A u) (n : Int) then "one" else "mirrored"), .int ((A * ws.length + n : Nat) : Int)]) := by
  have ea : ∀ (x : Int) (n : Nat), atW ws x ((A * ws.length + n : Nat) : Int) = atW ws (itr ws A x) (n : Int) := fun x n => by
    rw [Int.natCast_add, Int.natCast_mul]
    exact at_add g.1 x A (by omega)
  have em : ∀ n : Nat, metAt ws s u (A * ws.length + n) ↔ metAt ws (itr ws A s) (itr ws A u) n := fun n => by
    unfold metAt
    rw [ea, ea]
  refine ⟨?_, fun n _ => ?_⟩
  · cases o with
    | none =>
      intro n z
      by_cases c : n < A * ws.length
      · exact hno n c z
      · refine h (n - A * ws.length) ((em _).mp ?_)
        rwa [show A * ws.length + (n - A * ws.length) = n by omega]
    | some n =>
      refine ⟨(em n).mpr h.1, fun m hm z => ?_⟩
      have hm' : m < A * ws.length + n := hm
      by_cases c : m < A * ws.length
      · exact hno m c z
      · refine h.2 (m - A * ws.length) (by omega) ((em _).mp ?_)
        rwa [show A * ws.length + (m - A * ws.length) = m by omega]
  · show [V.str (if atW ws s ((A * ws.length + n : Nat) : Int) = atW ws u ((A * ws.length + n : Nat) : Int) then "one" else "mirrored"), _] = _
    rw [ea, ea]
/-- both settled: what a paper tells -/
theorem stay_wh {ws : List Int} (g : GoodW ws) : whB (stS ws) ws = true := (whB_iff _ _).mpr ((be_wd ws _ (stS_odds g) g.2).2 (by rw [stS_fix g]))
theorem both_in {ws : List Int} (g : GoodW ws) {s : Int} (hs : s % 2 = 1) {n : Nat} (h : setOf ws s ≤ n) : InR (stS ws) (szz (atW ws s ((n * ws.length : Nat) : Int))) := by
  have e : setOf ws s = setN ws s := if_neg g.1
  have hin := in_stay g hs (setN_is g hs).1 (n - setN ws s)
  rw [show setN ws s + (n - setN ws s) = n by omega] at hin
  rw [Int.natCast_mul, at_mul g.1]
  exact hin
theorem apart_eqv (ws : List Int) (s u : Int) (o : Option Nat) : PyData.eqv (.tuple (mtD ws s u o)) (.tuple [.str "apart"]) = o.isNone := by
  cases o with
  | none => exact SeqAt.eqv_refl _ (SeqAt.canLay_of_shaped (Sh.ok (n := 2) (.tup (mt_ok ws s u none))))
  | some n =>
    have : PyData.eqv (.tuple (mtD ws s u (some n))) (.tuple [.str "apart"]) = (PyData.eqv (.str (if atW ws s (n : Int) = atW ws u (n : Int) then "one" else "mirrored")) (.str "apart") && false) := by rfl
    rw [this, Bool.and_false]
    rfl
theorem far_one {ws : List Int} (g : GoodW ws) {s u : Int} (hs : s % 2 = 1) (hu : u % 2 = 1) (hlt : szz u < szz s) (A : Nat) (hA : (A : Int) = nrR ws (szz s)) : szz (itr ws A s) < 2 * mx ws + 2 * ws.sum ∧ szz (itr ws A u) < 2 * mx ws + 2 * ws.sum := by
  have hm := nr_mul g (szz_odd hs).2
  have hf := nr_far g hs
  obtain ⟨_, e2⟩ := itr_far g hs A (by omega)
  have h := (far_apart g hs hu hlt A hA (A * ws.length) (Nat.le_refl _)).1
  rw [Int.natCast_mul, at_mul g.1, at_mul g.1] at h
  rw [Int.mul_comm, hA] at e2
  omega
theorem far_both {ws : List Int} (g : GoodW ws) {s u : Int} (hs : s % 2 = 1) (hu : u % 2 = 1) (hne : szz s ≠ szz u) (A : Nat) (hA : (A : Int) = nrR ws (if szz u > szz s then szz u else szz s)) :
    (∀ n, n < A * ws.length → ¬ metAt ws s u n) ∧ (bothN ws (itr ws A s) (itr ws A u) : Int) ≤ mx ws + 2 ∧ (A : Int) ≤ szz s + szz u := by
  have e1 : ∀ x, setOf ws x = setN ws x := fun x => if_neg g.1
  have o1 := itr_odd ws A s hs
  have o2 := itr_odd ws A u hu
  have hsum := mx_sum (ws := ws) g.2
  have hp := mx_pos g
  have z1 := (szz_odd hs).2
  have z2 := (szz_odd hu).2
  have hA0 : (A : Int) * 1 ≤ A * (2 * ws.sum) := Int.mul_le_mul_of_nonneg_left (by omega) (by omega)
  by_cases c : szz u > szz s
  · rw [if_pos c] at hA
    have hm := nr_mul g z2
    rw [← hA] at hm
    obtain ⟨b1, b2⟩ := far_one g hu hs c A hA
    have s1 := set_near g o1 b2
    have s2 := set_near g o2 b1
    refine ⟨fun n hn z => ?_, ?_, by omega⟩
    · have := (far_apart g hu hs c A hA n (by omega)).1
      unfold metAt at z
      omega
    · unfold bothN
      rw [e1, e1]
      omega
  · rw [if_neg c] at hA
    have c' : szz u < szz s := by omega
    have hm := nr_mul g z1
    rw [← hA] at hm
    obtain ⟨b1, b2⟩ := far_one g hs hu c' A hA
    have s1 := set_near g o1 b1
    have s2 := set_near g o2 b2
    refine ⟨fun n hn z => ?_, ?_, by omega⟩
    · have := (far_apart g hs hu c' A hA n (by omega)).1
      unfold metAt at z
      omega
    · unfold bothN
      rw [e1, e1]
      omega
theorem set_half {ws : List Int} (g : GoodW ws) {x : Int} (hx : x % 2 = 1) : 2 * (setOf ws x : Int) ≤ szz x + 2 * mx ws + 2 := by
  have e : setOf ws x = setN ws x := if_neg g.1
  have hst := stN_lt g
  have hsum := mx_sum (ws := ws) g.2
  have f0 := far_nn g hx
  have fm := (far_mul g x).1
  have hp := mx_pos g
  have hle : setN ws x ≤ (far ws x).toNat + 1 + stN ws := Nat.le_of_not_lt fun z => (setN_is g hx).2 _ z (ex_in g hx)
  have h1 : 2 * 1 * far ws x ≤ 2 * ws.sum * far ws x := Int.mul_le_mul_of_nonneg_right (by omega) f0
  omega
theorem at_sign (s : Int) : atI [V.int (-1), V.int 1] (if decide (0 < s) = true then 1 else 0) = some (.int (if 0 < s then 1 else -1)) := by
  by_cases c : 0 < s
  · rw [decide_eq_true c, if_pos c]
    rfl
  · rw [decide_eq_false c, if_neg c]
    rfl
theorem sign_bd (s : Int) : -(2 ^ 64) < (if 0 < s then (1 : Int) else -1) ∧ (if 0 < s then (1 : Int) else -1) < 2 ^ 64 := by
  constructor <;> split <;> decide
theorem far_out {s W R : Int} (hs : s % 2 = 1) (hz : szz s < 48) (h0 : 0 ≤ 2 * W * R) (b : 2 * W * R ≤ 1000000000) : (s + 2 * W * R * (if 0 < s then 1 else -1)) % 2 = 1 ∧ szz (s + 2 * W * R * (if 0 < s then 1 else -1)) ≤ 1000000100 := by
  rw [Int.mul_assoc 2 W R] at *
  generalize W * R = P at *
  unfold szz at *
  by_cases c : 0 < s
  · rw [if_pos c, Int.mul_one]
    rw [if_neg (by omega)] at hz
    refine ⟨by omega, ?_⟩
    split <;> omega
  · rw [if_neg c, Int.mul_neg_one]
    rw [if_pos (by omega)] at hz
    refine ⟨by omega, ?_⟩
    split <;> omega
theorem rounds_bd {W w d1 d2 : Int} (h1 : 1 ≤ W) (h2 : W ≤ 288) (a1 : d1 < 20) (a2 : d2 < 100000000 / W) (h : w = d1 ∨ w = d2 ∨ w = 1000000000 / (2 * W) - 60) : ∃ R : Nat, (R : Int) = (if w > 0 then w else 0) ∧ 2 * W * R ≤ 1000000000 := by
  have e1 := Int.ediv_mul_le 100000000 (b := W) (by omega)
  have e2 := Int.ediv_mul_le 1000000000 (b := 2 * W) (by omega)
  generalize (100000000 : Int) / W = E1 at *
  generalize (1000000000 : Int) / (2 * W) = E2 at *
  by_cases c : w > 0
  · refine ⟨w.toNat, by rw [if_pos c]; omega, ?_⟩
    have ew : (w.toNat : Int) = w := by omega
    rw [ew]
    rcases h with rfl | rfl | rfl
    · have : 2 * W * w ≤ 2 * W * 20 := Int.mul_le_mul_of_nonneg_left (by omega) (by omega)
      omega
    · have k : 2 * W * w ≤ 2 * W * E1 := Int.mul_le_mul_of_nonneg_left (by omega) (by omega)
      have k2 : 2 * W * E1 = 2 * (E1 * W) := by rw [Int.mul_assoc, Int.mul_comm W]
      omega
    · have k : 2 * W * (E2 - 60) ≤ 2 * W * E2 := Int.mul_le_mul_of_nonneg_left (by omega) (by omega)
      rw [Int.mul_comm (2 * W) E2] at k
      omega
  · exact ⟨0, by rw [if_neg c]; rfl, by omega⟩
/-! ### repr of a truth value -/
theorem cr_reprB {X : Cx} : CallR X (.builtin "repr") (fun xs H Q => ∃ b : Bool, xs = [.bl b] ∧ Q (.str (if b then "True" else "False")) H) := fun pins s σ H xs us Q I r ⟨b, e, q⟩ => by
  subst e
  obtain ⟨u, rfl, r1⟩ := vals1 r
  cases r1
  exact PySem.P.repr_of_bool ⟨.str (if b then "True" else "False"), H, I.tok _, ⟨_, rfl⟩, q⟩
end Pan
namespace Pan
open PySem PySem.Spec PyProof.Rows L2
/-! ### either of two rules -/
theorem pe_alt {X : Cx} {e : Expr} {t u : TE} (h : PE X e t) (k : PE X e u) : PE X e (fun σ H Q => t σ H Q ∨ u σ H Q) :=
  ⟨fun pins s σ H Q I z => z.elim (h.run pins s σ H Q I) (k.run pins s σ H Q I)⟩
theorem pi_alt {X : Cx} {tg e : Expr} {t u : TI} (h : PI X tg e t) (k : PI X tg e u) : PI X tg e (fun σ H R => t σ H R ∨ u σ H R) :=
  ⟨fun pins s σ H R I z => z.elim (h.run pins s σ H R I) (k.run pins s σ H R I)⟩
/-! ### told things without lists stay where a list is changed -/
inductive TO : PyData → Prop
  | non : TO .none
  | bl (b : Bool) : TO (.bool b)
  | int (i : Int) : TO (.int i)
  | str (x : Str) : TO (.str x)
  | tup {ds : List PyData} : (∀ d ∈ ds, TO d) → TO (.tuple ds)
theorem TO.ints (ns : List Int) : ∀ d ∈ ns.map PyData.int, TO d := fun d hd => by
  obtain ⟨i, _, rfl⟩ := List.mem_map.mp hd
  exact .int i
theorem TO.two {a b : PyData} (h : TO a) (k : TO b) : TO (.tuple [a, b]) := .tup fun d hd => by
  rcases List.mem_cons.mp hd with rfl | hd
  · exact h
  · rcases List.mem_cons.mp hd with rfl | hd
    · exact k
    · exact absurd hd List.not_mem_nil
mutual
theorem dtTO {H : Hp} {l : Addr} {o : HO} {xs : List V} (hl : H l = some (.lst xs)) : ∀ {n : Nat} {v : V} {d : PyData}, Dt H n v d → TO d → Dt (upd H l o) n v d
  | _, _, _, .non, _ => .non
  | _, _, _, .bl b, _ => .bl b
  | _, _, _, .int b, _ => .int b
  | _, _, _, .str b, _ => .str b
  | _, _, _, .lst e z a, k => nomatch k
  | _, _, _, .tup e z a, k => .tup (by rw [upd_ne (ne_of e hl (fun z => nomatch z))]; exact e) z (dtTOA hl a (by cases k with | tup h => exact h))
theorem dtTOA {H : Hp} {l : Addr} {o : HO} {xs : List V} (hl : H l = some (.lst xs)) : ∀ {n : Nat} {vs : List V} {ds : List PyData}, DtA H n vs ds → (∀ d ∈ ds, TO d) → DtA (upd H l o) n vs ds
  | _, _, _, .nil, _ => .nil
  | _, _, _, .cons h t, k => .cons (dtTO hl h (k _ (List.mem_cons_self ..))) (dtTOA hl t fun d hd => k d (List.mem_cons_of_mem _ hd))
end
theorem Un.new {t p : Addr} {H H1 : Hp} {o : HO} (U : Un t H H1) (h : H p = none) : Un t H (L2.upd H1 p o) := fun b u nb e => by
  rw [upd_ne (ne_of_none e h)]
  exact U b u nb e
/-! ### dicts -/
def tDNewTN : TE := fun _ H Q => NewAt H (.dT []) Q
def tDNewKN : TE := fun _ H Q => NewAt H (.dK []) Q
theorem pe_dnewTN {X : Cx} {pos : Pos} : PE X (.Dict [] [] pos) tDNewTN := ⟨fun pins s σ H Q I h => pe_dnewT.run pins s σ H Q I fun p np => h.upd np⟩
theorem pe_dnewKN {X : Cx} {pos : Pos} : PE X (.Dict [] [] pos) tDNewKN := ⟨fun pins s σ H Q I h => pe_dnewK.run pins s σ H Q I fun p np => h.upd np⟩
theorem valV_no {κ : Type} [DecidableEq κ] {kvs : List (κ × V)} {k : κ} (h : ∀ kv ∈ kvs, kv.1 ≠ k) : valV kvs k = none := by
  unfold valV
  rw [List.find?_eq_none.mpr fun kv hkv => by simpa using h kv hkv]
  rfl
/-! ### sets of numbers, how many they are -/
def rSetX (K : PySem.W.Frag) (w : World) : List V → Hp → VK → Prop := fun vs H Q => ∃ (a : Addr) (ns : List Int), vs = [V.ref a] ∧ SqL K H a (ns.map V.int) ∧ ns.length ≤ 1000 ∧
  ∀ (p : Addr) (D : List Int) (H' : Hp), H p = none → Same H H' → H' p = some (SetO w p (fun j => decide (j ∈ ns)) D.length) → D.Nodup → (∀ x, x ∈ D ↔ x ∈ ns) → Q (.ref p) H'
theorem cr_setX {X : Cx} {K : PySem.W.Frag} {w : World} (hc : X.calm = true) (hK : X.K = K := by rfl) (hw : X.w = w := by rfl) : CallR X (.type "set") (rSetX K w) := by
  subst hK hw
  intro pins s σ H vs us Q I r h
  obtain ⟨a, ns, rfl, hs, hl, q⟩ := h
  obtain ⟨its, rv, ⟨ol, nl, ho, hcl, hdn, hd⟩, hz⟩ := I.list hs
  rw [Vals.ref1 r]
  have il : s.heap.IsList a its.toArray := ⟨ol, ho, hcl, nl, hd⟩
  refine setOfList ns (I.ok.hd hc) il (by simpa using ints_of_vals rv) (by unfold scanBound; omega) fun g tk c R hc2 hk => ?_
  have R0 := R
  obtain ⟨o, es, ep, t, ho', hex, hd', g', nd, hm, hb, hf, hn, hr, hl'⟩ := R0
  have elen : (es.toList.map keyOf).length = c := by rw [List.length_map, Array.length_toList, hn]
  rw [← elen] at R
  refine ⟨.ref s.heap.objs.size, upd H s.heap.objs.size (SetO X.w s.heap.objs.size (fun j => decide (j ∈ ns)) (es.toList.map keyOf).length), I.laid hk (Nat.le_refl _) (setO_new R), rfl, ?_⟩
  have nf := I.hok.fresh (Nat.le_refl s.heap.objs.size)
  exact q _ (es.toList.map keyOf) _ nf (same_upd nf) upd_same nd fun x => by rw [← hm x, decide_eq_true_iff]
def rLenSet (w : World) : List V → Hp → VK → Prop := fun vs H Q => ∃ (a : Addr) (S : Int → Bool) (n : Nat), vs = [V.ref a] ∧ H a = some (SetO w a S n) ∧ Q (.int n) H
theorem cr_lenSet {X : Cx} {w : World} (hw : X.w = w := by rfl) : CallR X (.builtin "len") (rLenSet w) := by
  subst hw
  intro pins s σ H vs us Q I r h
  obtain ⟨a, S, n, rfl, ha, q⟩ := h
  rw [Vals.ref1 r]
  obtain ⟨o, es, ep, t, ho', hex, hd', g', nd, hm, hb, hf, hn, hr, hl'⟩ := setO_get I ha
  exact call_len_set ho' hex hd' hf (by unfold scanBound at hb; omega) ⟨.int n, H, I.tok _, ⟨_, by rw [hn]⟩, q⟩
/-! ### sets of tuples of numbers -/
theorem cr_setT {X : Cx} {K : PySem.W.Frag} {P : Program} {w : World} (hc : X.calm = true) (hu : X.A.units + 64 < cLine) (hK : X.K = K := by rfl) (hP : X.prog = P := by rfl) (hw : X.w = w := by rfl) : CallR X (.type "set") (rSetOfT K P w) := by
  subst hK hP hw
  exact cr_setOfT hc hu
def rLenSetT (K : PySem.W.Frag) (P : Program) (w : World) : List V → Hp → VK → Prop := fun vs H Q => ∃ (a : Addr) (L : List (Addr × List Int)), vs = [V.ref a] ∧ H a = some (SetTO P w a L) ∧ (∀ p ∈ L, SqT K H p.1 (p.2.map V.int)) ∧ ((L.map (·.2)).Nodup → Q (.int L.length) H)
theorem cr_lenSetT {X : Cx} {K : PySem.W.Frag} {P : Program} {w : World} (hK : X.K = K := by rfl) (hP : X.prog = P := by rfl) (hw : X.w = w := by rfl) : CallR X (.builtin "len") (rLenSetT K P w) := by
  subst hK hP hw
  intro pins s σ H vs us Q I r h
  obtain ⟨a, L, rfl, ha, hk, q⟩ := h
  rw [Vals.ref1 r]
  have R0 : SetT0 X.prog X.w s.heap a L := (I.hok a _ ha).1
  obtain ⟨es, ep, t, R⟩ := R0.full fun p hp => I.isT (hk p hp)
  obtain ⟨o, ho, hex, hd⟩ := R.ob
  have en : es.size = L.length := by
    rw [← Array.length_toList, R.rows]
    unfold rowsOf
    rw [List.length_map]
  exact call_len_set ho hex hd R.fits (by have := R.few; omega) ⟨.int L.length, H, I.tok _, ⟨_, by rw [en]⟩, q R.nd⟩
/-! ### what may be none -/
def oV : Option Int → V
  | some v => .int v
  | none => .non
def oD : Option Int → PyData
  | some v => .int v
  | none => .none
theorem oV_dt {H : Hp} {n : Nat} (o : Option Int) : Dt H n (oV o) (oD o) := by
  cases o with
  | none => exact .non
  | some v => exact .int v
/-! ### gone back by sides that are any -/
def aho (s : Int) (r : Bool) (m : Int) : Option Int := if r then (if s + 2 * m < 0 then none else some (s + 2 * m)) else (if s - 2 * m < 0 then some (s - 2 * m) else none)
theorem ahv_aho (s : Int) (r : Bool) (m : Int) : ahv s r m = oV (aho s r m) := by
  unfold ahv aho
  cases r
  · show (if s - 2 * m < 0 then V.int (s - 2 * m) else V.non) = oV (if s - 2 * m < 0 then some (s - 2 * m) else none)
    split <;> rfl
  · show (if s + 2 * m < 0 then V.non else V.int (s + 2 * m)) = oV (if s + 2 * m < 0 then none else some (s + 2 * m))
    split <;> rfl
def gbk : Int → List Bool → List Int → Option Int
  | s, b :: bs, w :: ws => match aho s b w with
    | some v => gbk v bs ws
    | none => none
  | s, _, _ => some s
def sideV (b : Bool) : V := .str (sideS b)
end Pan
namespace Pan
open PySem PySem.Spec PyProof.Rows L2
/-! ### promises of defs that are called where no text of an object is under way -/
structure FnOkG (P : Program) (w : World) (K : PySem.W.Frag) (mg : Str → Option Value) (base : Heap) (CX : CXT) (k : Nat) (f : Addr) (fd : FuncData) (ps : List Str) (sp : Sp) : Prop where
  lenG : ∀ vs H Q E, sp vs H Q E → vs.length = ps.length
  runG : ∀ (B : Around) (below : List Env) (t : Shared) (H : Hp) (args : Args) (us : List Value) (vs : List V) (Q : VK) (E : XK), Room k B → B.guards = some [] → Env0 P w K mg base B below t H → BindsTo t fd args (ps.zip us) → Vals vs us → sp vs H Q E →
    codeAny (model P w) B (.call (.ref f) args) (CR CX below P w H t Q E) t
theorem FnOkG.of {P : Program} {w : World} {K : PySem.W.Frag} {mg : Str → Option Value} {base : Heap} {CX : CXT} {k : Nat} {f : Addr} {fd : FuncData} {ps : List Str} {sp : Sp} (F : FnOk P w K mg base CX k f fd ps sp) : FnOkG P w K mg base CX k f fd ps sp :=
  ⟨F.len, fun B below t H args us vs Q E hr _ => F.run B below t H args us vs Q E hr⟩
theorem okG_of {CX : CXT} {P : Program} {w : World} {K : PySem.W.Frag} {mg : Str → Option Value} {base : Heap} {k : Nat} {f : Addr} {nm ql : Str} {pr : Arguments} {bd : List Stmt} {sco : Scope} {dV kV doc pm cdv ct oc : Value} {an od : Option Addr} {osl : Array (Option Value)} {N ps : List Str} {sp : Sp}
    (look : K.lookup f = some ⟨oc, od, .func (PySem.W.fnOf nm ql pr bd sco dV kV doc pm an cdv ct), osl⟩) (code : PySem.W.codeIn K cdv ql = true) (S : FnScope N ps sco) (len : ∀ vs H Q E, sp vs H Q E → vs.length = ps.length)
    (bodyOk : ∀ (B : Around) (below : List Env) (t : Shared) (H : Hp) (vs : List V) (Q : VK) (E : XK), Room k (B.deeper (envOfC ql sco t.heap.objs.size f cdv)) → B.guards = some [] → sp vs H Q E →
      ∃ r, PSs (cxOf CX P w K mg base N ql sco f cdv B below t H E) bd r ∧ r { nx := fun _ H' => Q .non H', rt := Q } (L2.start N vs) H) :
    FnOkG P w K mg base CX (k + 1) f (PySem.W.fnOf nm ql pr bd sco dV kV doc pm an cdv ct) ps sp := by
  constructor
  · exact len
  · intro B below t H args us vs Q E room gd env bind rel want
    have width := len _ _ _ _ want
    have inK : K.In t.heap := env.mod.kin.keeps fun b o z => (env.bs b o z).1
    have noLim : t.heap.NoLimit := env.mod.nolimit.keeps fun b o z => (env.bs b o z).1
    have kinds : ∀ y ∈ ps.zip us, sco.names.lookup y.1 = some .local ∨ (sco.names.lookup y.1 = some .cell ∧ ((cellsFrom (t.heap.objs.size + 1) sco.names []).lookup y.1).isSome = true) := by
      intro ⟨n, v⟩ hy
      exact (S.par n (List.of_mem_zip hy).1).elim (fun z => .inl z) (fun z => .inr ⟨z, PySem.W.cellsFrom_some _ _ _ (.inl z)⟩)
    apply codeAny_call_function room.depth (inK _ _ look) rfl S.co S.gen rfl (PySem.W.codeRec_of inK code)
    apply bind
    apply wpAny_newFunctionEnv_cells S.kind kinds
    intro env1 same1 t1 made
    subst same1
    refine ⟨noLim.keeps made.toInCall.keep, codeAny_func ?_⟩
    obtain ⟨r, hr, hread⟩ := bodyOk B below t H vs Q E (room.deeper _) gd want
    have begin1 : Inv (cxOf CX P w K mg base N ql sco f cdv B below t H E) [] (L2.start N vs) H t1 := inv_start S room.hd env width rel made
    apply wpAny_mono (hr.run [] t1 (L2.start N vs) H _ begin1 hread)
    · intro fl t2 behind
      match fl, behind with
      | .ret u, ⟨v, σ2, H2, J, rv, z⟩ => exact ⟨v, H2, J.os, J.bare, J.base, J.hok, rv, z⟩
      | .next, ⟨σ2, H2, J, z⟩ => exact ⟨V.non, H2, J.os, J.bare, J.base, J.hok, rfl, z⟩
      | .brk, ⟨_, _, _, z⟩ => exact z.elim
      | .cont, ⟨_, _, _, z⟩ => exact z.elim
    · exact fun e t2 z => z
theorem okG_mk {P : Program} {w : World} {K : PySem.W.Frag} {mg : Str → Option Value} {base : Heap} {x ql : Str} {st : Stmt} {f : Addr} {fd : FuncData} {N ps : List Str} {k : Nat} {sp : Sp} (F : Fun K x ql st f fd) (S : FnScope N ps (defScope st)) (len : ∀ vs H Q E, sp vs H Q E → vs.length = ps.length)
    (bodyOk : ∀ (cdv : Value) (B : Around) (below : List Env) (t : Shared) (H : Hp) (vs : List V) (Q : VK) (E : XK), Room k (B.deeper (envOfC ql (defScope st) t.heap.objs.size f cdv)) → B.guards = some [] → sp vs H Q E →
      ∃ r, PSs (cxOf CX0 P w K mg base N ql (defScope st) f cdv B below t H E).nox (defBody st) r ∧ r { nx := fun _ H' => Q .non H', rt := Q } (L2.start N vs) H) : FnOkG P w K mg base CX0 (k + 1) f fd ps sp := by
  obtain ⟨oc, od, kV, doc, pm, an, cdv, ct, osl, efd, look, code⟩ := F.ex
  subst efd
  apply okG_of look code S len
  intro B below t H vs Q E room gd want
  obtain ⟨r, h, z⟩ := bodyOk cdv B below t H vs Q E room gd want
  exact ⟨r, h.nox, z⟩
def KnG (P : Program) (w : World) (K : PySem.W.Frag) (mg : Str → Option Value) (base : Heap) (x : Str) (ps : List Str) (k : Nat) (sp : Sp) : Prop :=
  ∃ (f : Addr) (fd : FuncData), FnOkG P w K mg base CX0 k f fd ps sp ∧ mg x = some (.ref f) ∧ PySem.W.keepIn K (.ref f) = true ∧ Binds K fd ps []
theorem KnG.mk {P : Program} {w : World} {K : PySem.W.Frag} {mg : Str → Option Value} {base : Heap} {x : Str} {st : Stmt} {ps : List Str} {k : Nat} {sp : Sp} {f : Addr} {fd : FuncData} (F : Fun K x x st f fd) (m : mg x = some (.ref f)) (b : Binds K fd ps [])
    (ok : FnOkG P w K mg base CX0 k f fd ps sp) : KnG P w K mg base x ps k sp := ⟨f, fd, ok, m, F.kp, b⟩
theorem pe_ownG {X : Cx} {x : Str} {ps : List Str} {k : Nat} {sp : Sp} {e : Expr} {es : List Expr} {t : TA} {p pos : Pos} (h : KnG X.prog X.w X.K X.mg X.base x ps k sp) (room : Room k X.A) (gd : X.A.guards = some []) (hg : Gl X x) (ha : PA X (e :: es) t)
    (hdb : (x == ("__debug__" : Str)) = false := by decide) (he : starEach (e :: es) X.env = (false, eval e X.env) :: starEach es X.env := by rfl) (hpl : (backTo pos (starEach es X.env)).any (·.1) = false := by rfl) :
    PE X (.Call (.Name x p) (e :: es) [] pos) (tCall sp [] E0 t) := by
  obtain ⟨f, fd, F, m, kp, b⟩ := h
  constructor
  intro pins s σ H Q I want
  apply wpAny_Call_Name_kw (ld_glob I hg m ?_ hdb)
  apply PySem.W.callWith_K (h₀ := X.base) I.ok.mod.kin kp _ he hpl
  apply thn (ha.run pos pins s σ H _ I want)
  intro us s1 ⟨vs, H1, I1, rel, q⟩
  refine ⟨I1.kIn, ?_⟩
  have rel2 : Vals (vs ++ []) (us ++ []) := rel.append .nil
  have width : (us ++ []).length = ps.length := by
    rw [← rel2.length]
    exact F.lenG _ _ _ _ q
  apply wpAny_call
  apply codeAny_mono (F.runG X.A X.stack s1 H1 ⟨us, []⟩ (us ++ []) (vs ++ []) Q E0 room gd I1.env0 (b s1 us I1.kIn width) rel2 q)
  intro r s2 z
  match r, z with
  | .error e, z => exact pass0 pins σ H1 s1 e s2 I1 z
  | .ok (.ret u), z => exact I1.after z
  | .ok .next, z => exact z.elim
  | .ok .brk, z => exact z.elim
  | .ok .cont, z => exact z.elim
/-! ### the law itself -/
theorem only_script {P : Program} {w : World} {K : PySem.W.Frag} {mg mb : Str → Option Value} {k : Nat} {fa a : Addr} {fd : FuncData} {x : Str} {sp : Sp} {t1 : Shared} {vs : List Value} {ns : List Int} {CX : CXT} (inK : K.In t1.heap) (gns : t1.heap.Ns mainGlobals mg) (bns : t1.heap.Ns builtinsNs mb) (boot : ∀ x : Str, x ≠ "__name__" → mb x = bootBuiltins x) (noLim : t1.heap.NoLimit)
    (gens : t1.gens = #[]) (script : t1.heap.get? a = some { cls := .type "list", data := .seq vs.toArray }) (room : Room k callerA) (F : ∀ base : Heap, K.In base → base.Ns mainGlobals mg → FnOkG P w K mg base CX k fa fd [x] sp) (bind : ∀ (s : Shared) (u : Value), BindsTo s fd ⟨[u], []⟩ [(x, u)])
    (want : ∀ H : Hp, Only H → SqL K H a (ns.map V.int) → sp [.ref a] H (fun v _ => v = .bl true) fun _ _ _ => False) (noX : ∀ H e s', CX [] H t1 (fun _ _ _ => False) e s' → False)
    (H : Hp) (only : Only H) (sq : SqL K H a (ns.map V.int)) (ok : HOk P w H t1.heap) (just : ∀ b, H b ≠ none → b = a) (own : H a ≠ none → K.lookup a = none) :
    codeAny (model P w) callerA (.call (.ref fa) ⟨[.ref a], []⟩) (fun r s' => r = .ok (.ret (.bool true)) ∧ OldK t1.heap s'.heap ∧ s'.os = t1.os ∧ AllBare s'.gens) t1 := by
  have there : ∀ {b : Addr} {o : Obj}, t1.heap.get? b = some o → H b = none → (hidT t1.heap H).get? b = some o := fun e n => hidT_get e n
  have at_a : ∀ {b : Addr} {u : HO}, H b = some u → b = a := fun {b u} z => just b fun y => by rw [y] at z; cases z
  have noDict : ∀ {b : Addr} {o : Obj} {es : Array DictEntry} {ep : Nat}, t1.heap.get? b = some o → o.data = .dict es ep → H b = none := by
    intro b o es ep e d
    cases z : H b with
    | none => rfl
    | some u =>
      have := at_a z
      subst this
      rw [script] at e
      cases e
      exact nomatch d
  have nsOf : ∀ {b : Addr} {m : Str → Option Value}, t1.heap.Ns b m → (hidT t1.heap H).Ns b m := fun {b m} ⟨o, es, ep, e, d, r⟩ => ⟨o, es, ep, there e (noDict e d), d, r⟩
  have inB : K.In (hidT t1.heap H) := by
    intro b o e
    refine there (inK b o e) ?_
    cases z : H b with
    | none => rfl
    | some u =>
      have := at_a z
      subst this
      rw [own (by rw [z]; exact fun y => nomatch y)] at e
      cases e
  have modB : Mod K mg (hidT t1.heap H) := ⟨inB, nsOf gns, ⟨mb, nsOf bns, boot⟩, by
    obtain ⟨mc, y1, y2⟩ := noLim
    exact ⟨mc, nsOf y1, y2⟩⟩
  have env : Env0 P w K mg (hidT t1.heap H) callerA [] t1 H := {
    frames := rfl
    mod := modB
    bs := fun b o e => of_hidT e
    bsz := Nat.le_of_eq (hidT_size _ _)
    funs := trivial
    frf := fun b y => nomatch y
    hok := ok
    bare := .of_eq gens }
  apply codeAny_mono ((F _ inB (nsOf gns)).runG callerA [] t1 H ⟨[.ref a], []⟩ [.ref a] [.ref a] _ _ room rfl env (bind t1 (.ref a)) (.cons rfl .nil) (want H only sq))
  intro r s2 z
  match r, z with
  | .error e, z => exact (noX H e s2 z).elim
  | .ok .next, z => exact z.elim
  | .ok .brk, z => exact z.elim
  | .ok .cont, z => exact z.elim
  | .ok (.ret u), ⟨v, H2, os, bare, un, ok2, rv, y⟩ =>
    have yt : v = .bl true := y
    subst yt
    have : u = Value.bool true := rv
    subst this
    refine ⟨rfl, OldK.of_keep fun b o e => ?_, os, bare⟩
    cases zb : H b with
    | none => exact un.keep b o e zb (fun y => nomatch y) (fun y => nomatch y)
    | some u =>
      rcases only b with y | ⟨ob, xs, y⟩
      · rw [zb] at y
        cases y
      · have y2 := un.frzs b ob _ y
        have f1 := (ok b _ y).1
        have f2 := (ok2 b _ y2).1
        rw [e] at f1
        cases f1
        exact f2
theorem law_callG {P : Program} {w : World} {K : PySem.W.Frag} {mg mb : Str → Option Value} {k : Nat} {fa a : Addr} {fd : FuncData} {x : Str} {sp : Sp} {t1 : Shared} {vs : List Value} {ns : List Int} {CX : CXT} (inK : K.In t1.heap) (gns : t1.heap.Ns mainGlobals mg) (bns : t1.heap.Ns builtinsNs mb) (boot : ∀ x : Str, x ≠ "__name__" → mb x = bootBuiltins x) (noLim : t1.heap.NoLimit)
    (gens : t1.gens = #[]) (script : t1.heap.get? a = some { cls := .type "list", data := .seq vs.toArray }) (wholes : IntsAre vs ns) (few : ns.length ≤ sizeLine) (room : Room k callerA) (F : ∀ base : Heap, K.In base → base.Ns mainGlobals mg → FnOkG P w K mg base CX k fa fd [x] sp) (bind : ∀ (s : Shared) (u : Value), BindsTo s fd ⟨[u], []⟩ [(x, u)])
    (want : ∀ H : Hp, Only H → SqL K H a (ns.map V.int) → sp [.ref a] H (fun v _ => v = .bl true) fun _ _ _ => False) (noX : ∀ H e s', CX [] H t1 (fun _ _ _ => False) e s' → False) :
    codeAny (model P w) callerA (.call (.ref fa) ⟨[.ref a], []⟩) (fun r s' => r = .ok (.ret (.bool true)) ∧ OldK t1.heap s'.heap ∧ s'.os = t1.os ∧ AllBare s'.gens) t1 := by
  have go := fun H only sq ok just own => only_script (ns := ns) inK gns bns boot noLim gens script room F bind want noX H only sq ok just own
  have lens : vs.length = ns.length := wholes.length
  cases lk : K.lookup a with
  | some o =>
    have e := inK a o lk
    rw [script] at e
    cases e
    apply go (fun _ => none)
    · exact fun _ => .inl rfl
    · exact .inr ⟨_, vs.toArray, _, lk, rfl, rfl, rfl, by rw [List.size_toArray, lens]; exact few, by simpa using vals_ints wholes⟩
    · intro b u z
      exact nomatch z
    · exact fun b z => absurd rfl z
    · exact fun z => absurd rfl z
  | none =>
    apply go (fun b => if b = a then some (.frz { cls := .type "list", data := .seq vs.toArray } (.lst (ns.map V.int))) else none)
    · intro b
      by_cases c : b = a
      · exact .inr ⟨_, _, if_pos c⟩
      · exact .inl (if_neg c)
    · exact .inl (.inr ⟨{ cls := .type "list", data := .seq vs.toArray }, if_pos rfl⟩)
    · intro b u z
      by_cases c : b = a
      · have y := (if_pos c).symm.trans z
        cases y
        subst c
        exact ⟨script, by rw [List.length_map]; exact few, vs, _, vals_ints wholes, script⟩
      · have y := (if_neg c).symm.trans z
        cases y
    · intro b z
      by_cases c : b = a
      · exact c
      · exact absurd (if_neg c) z
    · exact fun _ => lk
theorem walk_ofG {l : PySem.W.OpenLaw} {n k : Nat} {q : Program} {loose : List Str} {XP : (Str → Option Value) → Heap → Prop} {YP : World → Heap → Prop} {d : DefRec} {K : Params → PySem.W.Frag} {CX : World → CXT} {sp : World → Sp} {x : Str} (most : l.most = some n) (few : n ≤ sizeLine) (plain : d.params.defaults = []) (room : Room k callerA)
    (inY : ∀ (w : World) (h : Heap), YP w h → (K w.params).In h)
    (F : ∀ (w : World) (mg : Str → Option Value) (fa : Addr) (h : Heap), (K w.params).In h → h.Ns mainGlobals mg → mg d.name = some (.ref fa) → ∃ fd : FuncData, (∀ (s : Shared) (u : Value), BindsTo s fd ⟨[u], []⟩ [(x, u)]) ∧ ∀ base : Heap, (K w.params).In base → base.Ns mainGlobals mg → FnOkG l.prog w (K w.params) mg base (CX w) k fa fd [x] (sp w))
    (want : ∀ (w : World) (H : Hp) (a : Addr) (ns : List Int), ns.length ≤ n → Only H → SqL (K w.params) H a (ns.map V.int) → sp w [.ref a] H (fun v _ => v = .bl true) fun _ _ _ => False) (noX : ∀ (w : World) (H : Hp) (s : Shared) (e : Value) (s' : Shared), CX w [] H s (fun _ _ _ => False) e s' → False) :
    PySem.W.WalkO q loose XP YP l.row.toRowW d [] (fun f vs => PySem.call f vs) := by
  apply Att.attach_call most plain
  intro w s0 s1 mg mb fa o pm cd doc a vs ns G Y ho hd hcd hmg hobj wholes hlen hgen
  have inK := inY w _ Y
  obtain ⟨fd, bind, ok⟩ := F w mg fa _ inK G.T.g hmg
  exact law_callG inK G.T.g G.T.b G.T.builtins G.T.nolimit hgen hobj wholes (Nat.le_trans hlen few) room ok bind (fun H only sq => want w H a ns hlen only sq) (fun H e s' => noX w H s1 e s')
/-! ### repr of told things -/
theorem cr_repr {X : Cx} {K : PySem.W.Frag} (gd : X.A.guards = some []) (hu : X.A.units + 64 < cLine) (hK : X.K = K := by rfl) : CallR X (.builtin "repr") (fun vs H Q => ∃ (a : Addr) (d : PyData), vs = [.ref a] ∧ Dp K H (.ref a) d ∧ d.showable = true ∧ d.hasDict = false ∧ d.depth ≤ 60 ∧ d.shown.length ≤ sizeLine ∧ Q (.str d.shown) H) := by
  subst hK
  intro pins s σ H vs us Q I r h
  obtain ⟨a, d, rfl, hd, h1, h2, h3, h4, q⟩ := h
  rw [Vals.ref1 r]
  obtain ⟨as, rd⟩ := Dp.reads I d (.ref a) (.ref a) hd rfl
  exact repr_of_reads' rd h1 (PyData.noDict_hsm h2) gd (by omega) (fun _ _ e => e) (fun h' u tk hk => ⟨.str d.shown, H, I.kept hk, ⟨_, rfl⟩, q⟩) h4
/-! ### things that are shown by short texts -/
structure Sw (n w : Nat) (d : PyData) : Prop where
  sh : d.showable = true
  nd : d.hasDict = false
  dp : d.depth ≤ n
  ls : d.leavesShort 13 = true
  wt : d.weight ≤ w
structure SwA (n w : Nat) (ds : List PyData) : Prop where
  sh : PyData.showableAll ds = true
  nd : PyData.hasDictAll ds = false
  dp : PyData.depthAll ds ≤ n
  ls : PyData.leavesShortAll 13 ds = true
  wt : PyData.weightAll ds ≤ w
theorem SwA.nil {n w : Nat} : SwA n w [] := ⟨rfl, rfl, Nat.zero_le _, rfl, Nat.zero_le _⟩
theorem SwA.cons {n w v : Nat} {d : PyData} {ds : List PyData} (h : Sw n w d) (k : SwA n v ds) : SwA n (w + 1 + v) (d :: ds) := by
  refine ⟨?_, ?_, ?_, ?_, ?_⟩
  · show (d.showable && PyData.showableAll ds) = true
    rw [h.sh, k.sh]
    rfl
  · show (d.hasDict || PyData.hasDictAll ds) = false
    rw [h.nd, k.nd]
    rfl
  · show max d.depth (PyData.depthAll ds) ≤ n
    exact Nat.max_le.mpr ⟨h.dp, k.dp⟩
  · show (d.leavesShort 13 && PyData.leavesShortAll 13 ds) = true
    rw [h.ls, k.ls]
    rfl
  · show d.weight + 1 + PyData.weightAll ds ≤ w + 1 + v
    have := h.wt
    have := k.wt
    omega
theorem Sw.le {n m w v : Nat} {d : PyData} (h : Sw n w d) (a : n ≤ m) (b : w ≤ v) : Sw m v d := ⟨h.sh, h.nd, Nat.le_trans h.dp a, h.ls, Nat.le_trans h.wt b⟩
theorem SwA.le {n m w v : Nat} {d : List PyData} (h : SwA n w d) (a : n ≤ m) (b : w ≤ v) : SwA m v d := ⟨h.sh, h.nd, Nat.le_trans h.dp a, h.ls, Nat.le_trans h.wt b⟩
theorem SwA.map {α : Type} {n w : Nat} {f : α → PyData} : ∀ (l : List α), (∀ x ∈ l, Sw n w (f x)) → SwA n ((w + 1) * l.length) (l.map f)
  | [], _ => .nil
  | x :: l, h => by
    have a := SwA.cons (h x (List.mem_cons_self ..)) (SwA.map l fun y hy => h y (List.mem_cons_of_mem _ hy))
    rw [List.length_cons, Nat.mul_add, Nat.mul_one, Nat.add_comm]
    exact a
theorem Sw.list {n w : Nat} {ds : List PyData} (h : SwA n w ds) : Sw (n + 1) w (.list ds) := ⟨h.sh, h.nd, Nat.succ_le_succ h.dp, h.ls, h.wt⟩
theorem Sw.tup {n w : Nat} {ds : List PyData} (h : SwA n w ds) : Sw (n + 1) w (.tuple ds) := ⟨h.sh, h.nd, Nat.succ_le_succ h.dp, h.ls, h.wt⟩
theorem Sw.bl {n w : Nat} (b : Bool) : Sw n w (.bool b) := ⟨rfl, rfl, Nat.zero_le _, rfl, Nat.zero_le _⟩
theorem Sw.non {n w : Nat} : Sw n w .none := ⟨rfl, rfl, Nat.zero_le _, rfl, Nat.zero_le _⟩
theorem small_ints : ((List.range 64).all fun i => (PyData.int (i : Nat)).showable && (PyData.int (i : Nat)).leavesShort 13 && decide ((PyData.int (i : Nat)).weight ≤ 10)) = true := by decide +kernel
theorem Sw.int {n : Nat} {i : Int} (h0 : 0 ≤ i) (h1 : i < 64) : Sw n 10 (.int i) := by
  have a := List.all_eq_true.mp small_ints i.toNat (List.mem_range.mpr (by omega))
  have e : ((i.toNat : Nat) : Int) = i := by omega
  rw [e, Bool.and_eq_true, Bool.and_eq_true] at a
  exact ⟨a.1.1, rfl, Nat.zero_le _, a.1.2, of_decide_eq_true a.2⟩
theorem Sw.short {n w : Nat} {d : PyData} (h : Sw n w d) (hw : w ≤ 6000) : d.shown.length ≤ sizeLine := by
  have a := PyData.shown_le 13 (by decide) d h.ls
  have := h.wt
  exact sz (by omega)
/-! ### pairs of a number and a truth -/
def pD (p : Int × Bool) : PyData := .tuple [.int p.1, .bool p.2]
/-- a strip's entry, and the next strip's by it -/
def soP (gs : List (Int × Bool)) (p : Int × Bool) : Int × Bool := ((gs.getD (p.1 / 2).toNat (0, false)).1, p.2 != (gs.getD (p.1 / 2).toNat (0, false)).2)
theorem pD_to (l : List (Int × Bool)) : ∀ d ∈ l.map pD, TO d := fun d hd => by
  obtain ⟨s, _, rfl⟩ := List.mem_map.mp hd
  exact .two (.int _) (.bl _)
theorem pD_get {H : Hp} {us : List V} {fs : List (Int × Bool)} {i : Nat} {v : V} {f : Int × Bool} (h : DtA H 1 us (fs.map pD)) (e : us[i]? = some v) (es : fs[i]? = some f) : ∃ p, v = .ref p ∧ H p = some (.tup [.int f.1, .bl f.2]) := by
  obtain ⟨d, hd, hv⟩ := h.at e
  rw [List.getElem?_map, es] at hd
  have ed := Option.some.inj hd
  subst ed
  cases hv with
  | tup e1 _ a =>
    cases a with
    | cons h1 t1 =>
      cases t1 with
      | cons h2 t2 =>
        cases t2
        cases h1
        cases h2
        exact ⟨_, rfl, e1⟩
theorem bl_ne (a b : Bool) : V.bl (!decide (V.bl a = V.bl b)) = V.bl (a != b) := by
  cases a <;> cases b <;> rfl
mutual
theorem dtUn {H H' : Hp} {t : Addr} {xs : List V} (ht : H t = some (.lst xs)) (U : Un t H H') : ∀ {n : Nat} {v : V} {d : PyData}, Dt H n v d → TO d → Dt H' n v d
  | _, _, _, .non, _ => .non
  | _, _, _, .bl b, _ => .bl b
  | _, _, _, .int b, _ => .int b
  | _, _, _, .str b, _ => .str b
  | _, _, _, .lst e z a, k => nomatch k
  | _, _, _, .tup e z a, k => .tup (U _ _ (ne_of e ht (fun z => nomatch z)) e) z (dtUnA ht U a (by cases k with | tup h => exact h))
theorem dtUnA {H H' : Hp} {t : Addr} {xs : List V} (ht : H t = some (.lst xs)) (U : Un t H H') : ∀ {n : Nat} {vs : List V} {ds : List PyData}, DtA H n vs ds → (∀ d ∈ ds, TO d) → DtA H' n vs ds
  | _, _, _, .nil, _ => .nil
  | _, _, _, .cons h r, k => .cons (dtUn ht U h (k _ (List.mem_cons_self ..))) (dtUnA ht U r fun d hd => k d (List.mem_cons_of_mem _ hd))
end
end Pan
namespace Pan
open PySem PySem.Spec PyProof.Rows L2
/-! ### things of any kind: what they are -/
def isNumB : PyData → Bool
  | .int _ => true
  | _ => false
def isIntB : PyData → Bool
  | .int _ | .bool _ => true
  | _ => false
def isBolB : PyData → Bool
  | .bool _ => true
  | _ => false
def isTupB : PyData → Bool
  | .tuple _ => true
  | _ => false
def isLstB : PyData → Bool
  | .list _ => true
  | _ => false
def isStrB : PyData → Bool
  | .str _ => true
  | _ => false
theorem isi_int {K : PySem.W.Frag} {H : Hp} {n : Nat} {v : V} {d : PyData} (h : Dt H n v d) : ∃ t u, ClsV (V.ty "int") u ∧ TyX K H v t ∧ PySem.W.kitOne K t u = some (isIntB d) := by
  cases h with
  | non => exact ⟨_, _, .ty _, .base .non, kit_ty (r := false) (by decide +kernel)⟩
  | bl b => exact ⟨_, _, .ty _, .base (.bl b), kit_ty (r := true) (by decide +kernel)⟩
  | int i => exact ⟨_, _, .ty _, .base (.int i), kit_ty (r := true) (by decide +kernel)⟩
  | str z => exact ⟨_, _, .ty _, .base (.str z), kit_ty (r := false) (by decide +kernel)⟩
  | lst e _ _ => exact ⟨_, _, .ty _, .base (.lst e), kit_ty (r := false) (by decide +kernel)⟩
  | tup e _ _ => exact ⟨_, _, .ty _, .base (.tup e), kit_ty (r := false) (by decide +kernel)⟩
theorem isi_bool {K : PySem.W.Frag} {H : Hp} {n : Nat} {v : V} {d : PyData} (h : Dt H n v d) : ∃ t u, ClsV (V.ty "bool") u ∧ TyX K H v t ∧ PySem.W.kitOne K t u = some (isBolB d) := by
  cases h with
  | non => exact ⟨_, _, .ty _, .base .non, kit_ty (r := false) (by decide +kernel)⟩
  | bl b => exact ⟨_, _, .ty _, .base (.bl b), kit_ty (r := true) (by decide +kernel)⟩
  | int i => exact ⟨_, _, .ty _, .base (.int i), kit_ty (r := false) (by decide +kernel)⟩
  | str z => exact ⟨_, _, .ty _, .base (.str z), kit_ty (r := false) (by decide +kernel)⟩
  | lst e _ _ => exact ⟨_, _, .ty _, .base (.lst e), kit_ty (r := false) (by decide +kernel)⟩
  | tup e _ _ => exact ⟨_, _, .ty _, .base (.tup e), kit_ty (r := false) (by decide +kernel)⟩
theorem isi_tup {K : PySem.W.Frag} {H : Hp} {n : Nat} {v : V} {d : PyData} (h : Dt H n v d) : ∃ t u, ClsV (V.ty "tuple") u ∧ TyX K H v t ∧ PySem.W.kitOne K t u = some (isTupB d) := by
  cases h with
  | non => exact ⟨_, _, .ty _, .base .non, kit_ty (r := false) (by decide +kernel)⟩
  | bl b => exact ⟨_, _, .ty _, .base (.bl b), kit_ty (r := false) (by decide +kernel)⟩
  | int i => exact ⟨_, _, .ty _, .base (.int i), kit_ty (r := false) (by decide +kernel)⟩
  | str z => exact ⟨_, _, .ty _, .base (.str z), kit_ty (r := false) (by decide +kernel)⟩
  | lst e _ _ => exact ⟨_, _, .ty _, .base (.lst e), kit_ty (r := false) (by decide +kernel)⟩
  | tup e _ _ => exact ⟨_, _, .ty _, .base (.tup e), kit_ty (r := true) (by decide +kernel)⟩
theorem isi_lst {K : PySem.W.Frag} {H : Hp} {n : Nat} {v : V} {d : PyData} (h : Dt H n v d) : ∃ t u, ClsV (V.ty "list") u ∧ TyX K H v t ∧ PySem.W.kitOne K t u = some (isLstB d) := by
  cases h with
  | non => exact ⟨_, _, .ty _, .base .non, kit_ty (r := false) (by decide +kernel)⟩
  | bl b => exact ⟨_, _, .ty _, .base (.bl b), kit_ty (r := false) (by decide +kernel)⟩
  | int i => exact ⟨_, _, .ty _, .base (.int i), kit_ty (r := false) (by decide +kernel)⟩
  | str z => exact ⟨_, _, .ty _, .base (.str z), kit_ty (r := false) (by decide +kernel)⟩
  | lst e _ _ => exact ⟨_, _, .ty _, .base (.lst e), kit_ty (r := true) (by decide +kernel)⟩
  | tup e _ _ => exact ⟨_, _, .ty _, .base (.tup e), kit_ty (r := false) (by decide +kernel)⟩
theorem isi_str {K : PySem.W.Frag} {H : Hp} {n : Nat} {v : V} {d : PyData} (h : Dt H n v d) : ∃ t u, ClsV (V.ty "str") u ∧ TyX K H v t ∧ PySem.W.kitOne K t u = some (isStrB d) := by
  cases h with
  | non => exact ⟨_, _, .ty _, .base .non, kit_ty (r := false) (by decide +kernel)⟩
  | bl b => exact ⟨_, _, .ty _, .base (.bl b), kit_ty (r := false) (by decide +kernel)⟩
  | int i => exact ⟨_, _, .ty _, .base (.int i), kit_ty (r := false) (by decide +kernel)⟩
  | str z => exact ⟨_, _, .ty _, .base (.str z), kit_ty (r := true) (by decide +kernel)⟩
  | lst e _ _ => exact ⟨_, _, .ty _, .base (.lst e), kit_ty (r := false) (by decide +kernel)⟩
  | tup e _ _ => exact ⟨_, _, .ty _, .base (.tup e), kit_ty (r := false) (by decide +kernel)⟩
theorem num_of (d : PyData) : (isIntB d && !isBolB d) = isNumB d := by
  cases d <;> rfl
/-! ### their texts -/
def TxtOk (d : PyData) : Prop := d.showable = true ∧ d.hasDict = false ∧ d.depth ≤ 60 ∧ d.shown.length ≤ sizeLine
theorem cr_reprD {X : Cx} (gd : X.A.guards = some []) (hu : X.A.units + 64 < cLine) : CallR X (.builtin "repr") (fun vs H Q => ∃ (v : V) (n : Nat) (d : PyData), vs = [v] ∧ Dt H n v d ∧ TxtOk d ∧ Q (.str d.shown) H) := by
  intro pins s σ H vs us Q I r h
  obtain ⟨v, n, d, rfl, hd, hok, q⟩ := h
  cases r with
  | cons rv rr =>
    cases rr
    cases hd with
    | non =>
      cases rv
      exact P.repr_of_none ⟨.str _, H, I.tok _, ⟨_, rfl⟩, q⟩
    | bl b =>
      cases rv
      exact P.repr_of_bool ⟨.str _, H, I.tok _, ⟨_, rfl⟩, q⟩
    | int i =>
      obtain ⟨t, rfl⟩ := rv
      exact P.repr_of_int (of_decide_eq_true hok.1) ⟨.str _, H, I.tok _, ⟨_, rfl⟩, q⟩
    | str z =>
      obtain ⟨t, rfl⟩ := rv
      exact P.repr_of_str ⟨.str _, H, I.tok _, ⟨_, rfl⟩, q⟩ hok.2.2.2
    | lst e z a =>
      cases rv
      have hd := Dt.lst e z a
      obtain ⟨as, rd⟩ := Dp.reads I _ _ _ (dtDp hd) rfl
      exact repr_of_reads' rd hok.1 (PyData.noDict_hsm hok.2.1) gd (by have := hok.2.2.1; omega) (fun _ _ e => e) (fun h' u tk hk => ⟨.str _, H, I.kept hk, ⟨_, rfl⟩, q⟩) hok.2.2.2
    | tup e z a =>
      cases rv
      have hd := Dt.tup e z a
      obtain ⟨as, rd⟩ := Dp.reads I _ _ _ (dtDp hd) rfl
      exact repr_of_reads' rd hok.1 (PyData.noDict_hsm hok.2.1) gd (by have := hok.2.2.1; omega) (fun _ _ e => e) (fun h' u tk hk => ⟨.str _, H, I.kept hk, ⟨_, rfl⟩, q⟩) hok.2.2.2
/-- small enough to be shown: depth, and how many parts there are at most -/
structure Sm2 (n w : Nat) (d : PyData) : Prop where
  sh : d.showable = true
  nd : d.hasDict = false
  dp : d.depth ≤ n
  ls : d.leavesShort 30 = true
  wt : d.weight ≤ w
structure SmA (n w : Nat) (ds : List PyData) : Prop where
  sh : PyData.showableAll ds = true
  nd : PyData.hasDictAll ds = false
  dp : PyData.depthAll ds ≤ n
  ls : PyData.leavesShortAll 30 ds = true
  wt : PyData.weightAll ds ≤ w
theorem SmA.nil {n w : Nat} : SmA n w [] := ⟨rfl, rfl, Nat.zero_le _, rfl, Nat.zero_le _⟩
theorem SmA.cons {n w v : Nat} {d : PyData} {ds : List PyData} (h : Sm2 n w d) (k : SmA n v ds) : SmA n (w + 1 + v) (d :: ds) := by
  refine ⟨?_, ?_, ?_, ?_, ?_⟩
  · show (d.showable && PyData.showableAll ds) = true
    rw [h.sh, k.sh]
    rfl
  · show (d.hasDict || PyData.hasDictAll ds) = false
    rw [h.nd, k.nd]
    rfl
  · show max d.depth (PyData.depthAll ds) ≤ n
    exact Nat.max_le.mpr ⟨h.dp, k.dp⟩
  · show (d.leavesShort 30 && PyData.leavesShortAll 30 ds) = true
    rw [h.ls, k.ls]
    rfl
  · show d.weight + 1 + PyData.weightAll ds ≤ w + 1 + v
    have := h.wt
    have := k.wt
    omega
theorem Sm2.le {n m w v : Nat} {d : PyData} (h : Sm2 n w d) (a : n ≤ m) (b : w ≤ v) : Sm2 m v d := ⟨h.sh, h.nd, Nat.le_trans h.dp a, h.ls, Nat.le_trans h.wt b⟩
theorem SmA.le {n m w v : Nat} {d : List PyData} (h : SmA n w d) (a : n ≤ m) (b : w ≤ v) : SmA m v d := ⟨h.sh, h.nd, Nat.le_trans h.dp a, h.ls, Nat.le_trans h.wt b⟩
theorem SmA.all {n w : Nat} : ∀ (l : List PyData), (∀ x ∈ l, Sm2 n w x) → SmA n ((w + 1) * l.length) l
  | [], _ => .nil
  | x :: l, h => by
    have a := SmA.cons (h x (List.mem_cons_self ..)) (SmA.all l fun y hy => h y (List.mem_cons_of_mem _ hy))
    rw [List.length_cons, Nat.mul_add, Nat.mul_one, Nat.add_comm]
    exact a
theorem Sm2.list {n w : Nat} {ds : List PyData} (h : SmA n w ds) : Sm2 (n + 1) w (.list ds) := ⟨h.sh, h.nd, Nat.succ_le_succ h.dp, h.ls, h.wt⟩
theorem Sm2.tup {n w : Nat} {ds : List PyData} (h : SmA n w ds) : Sm2 (n + 1) w (.tuple ds) := ⟨h.sh, h.nd, Nat.succ_le_succ h.dp, h.ls, h.wt⟩
theorem Sm2.bl {n w : Nat} (b : Bool) : Sm2 n w (.bool b) := ⟨rfl, rfl, Nat.zero_le _, rfl, Nat.zero_le _⟩
theorem Sm2.non {n w : Nat} : Sm2 n w .none := ⟨rfl, rfl, Nat.zero_le _, rfl, Nat.zero_le _⟩
theorem Sm2.int {n : Nat} {i : Int} (h : i.natAbs < 10000000000000000000000) : Sm2 n 80 (.int i) := by
  have hlog : i.natAbs.log2 < 79 := by
    by_cases c : i.natAbs = 0
    · rw [c]
      decide
    · exact (Nat.log2_lt c).mpr (Nat.lt_trans h (by decide))
  refine ⟨decide_eq_true (by omega), rfl, Nat.zero_le _, decide_eq_true ?_, ?_⟩
  · show (Str.ofString (toString i)).length ≤ 30
    rw [PySem.ofString_length]
    have := int_text_length_le10 (a := i) (k := 22) (by decide) (Nat.lt_of_lt_of_eq h (by decide))
    omega
  · show (if i == 0 then 0 else i.natAbs.log2 + 1) ≤ 80
    split <;> omega
theorem Sm2.ok {n w : Nat} {d : PyData} (h : Sm2 n w d) (hn : n ≤ 60) (hw : w ≤ 500000) : TxtOk d := by
  refine ⟨h.sh, h.nd, Nat.le_trans h.dp hn, ?_⟩
  have a := PyData.shown_le 30 (by decide) d h.ls
  have := h.wt
  rw [sizeLine_eq]
  omega
theorem Sm2.ints {n : Nat} (ns : List Int) (h : ∀ x ∈ ns, x.natAbs < 10000000000000000000000) : SmA n (81 * ns.length) (ns.map PyData.int) := by
  have := SmA.all (n := n) (w := 80) (ns.map PyData.int) fun d hd => by
    obtain ⟨i, hi, rfl⟩ := List.mem_map.mp hd
    exact .int (h i hi)
  rw [List.length_map] at this
  exact this
theorem str_sm {n : Nat} {x : Str} (h : (x.cps.toList.all fun c => decide (c < 16 ^ 8)) = true) (hw : x.cps.size ≤ 80) : Sm2 n 80 (.str x) := ⟨rfl, rfl, Nat.zero_le _, h, hw⟩
/-! ### the same, with a bound of the numbers -/
mutual
def intsLe (B : Nat) : PyData → Bool
  | .int i => decide (i.natAbs ≤ B)
  | .list xs | .tuple xs => intsLeAll B xs
  | _ => true
def intsLeAll (B : Nat) : List PyData → Bool
  | [] => true
  | x :: xs => intsLe B x && intsLeAll B xs
end
structure Sm3 (B n w : Nat) (d : PyData) : Prop where
  ib : intsLe B d = true
  sh : d.showable = true
  nd : d.hasDict = false
  dp : d.depth ≤ n
  ls : d.leavesShort 30 = true
  wt : d.weight ≤ w
structure SmB (B n w : Nat) (ds : List PyData) : Prop where
  ib : intsLeAll B ds = true
  sh : PyData.showableAll ds = true
  nd : PyData.hasDictAll ds = false
  dp : PyData.depthAll ds ≤ n
  ls : PyData.leavesShortAll 30 ds = true
  wt : PyData.weightAll ds ≤ w
theorem SmB.nil {B n w : Nat} : SmB B n w [] := ⟨rfl, rfl, rfl, Nat.zero_le _, rfl, Nat.zero_le _⟩
theorem SmB.cons {B n w v : Nat} {d : PyData} {ds : List PyData} (h : Sm3 B n w d) (k : SmB B n v ds) : SmB B n (w + 1 + v) (d :: ds) := by
  refine ⟨?_, ?_, ?_, ?_, ?_, ?_⟩
  · show (intsLe B d && intsLeAll B ds) = true
    rw [h.ib, k.ib]
    rfl
  · show (d.showable && PyData.showableAll ds) = true
    rw [h.sh, k.sh]
    rfl
  · show (d.hasDict || PyData.hasDictAll ds) = false
    rw [h.nd, k.nd]
    rfl
  · show max d.depth (PyData.depthAll ds) ≤ n
    exact Nat.max_le.mpr ⟨h.dp, k.dp⟩
  · show (d.leavesShort 30 && PyData.leavesShortAll 30 ds) = true
    rw [h.ls, k.ls]
    rfl
  · show d.weight + 1 + PyData.weightAll ds ≤ w + 1 + v
    have := h.wt
    have := k.wt
    omega
theorem Sm3.le {B n m w v : Nat} {d : PyData} (h : Sm3 B n w d) (a : n ≤ m) (b : w ≤ v) : Sm3 B m v d := ⟨h.ib, h.sh, h.nd, Nat.le_trans h.dp a, h.ls, Nat.le_trans h.wt b⟩
theorem SmB.le {B n m w v : Nat} {d : List PyData} (h : SmB B n w d) (a : n ≤ m) (b : w ≤ v) : SmB B m v d := ⟨h.ib, h.sh, h.nd, Nat.le_trans h.dp a, h.ls, Nat.le_trans h.wt b⟩
theorem SmB.all {B n w : Nat} : ∀ (l : List PyData), (∀ x ∈ l, Sm3 B n w x) → SmB B n ((w + 1) * l.length) l
  | [], _ => .nil
  | x :: l, h => by
    have a := SmB.cons (h x (List.mem_cons_self ..)) (SmB.all l fun y hy => h y (List.mem_cons_of_mem _ hy))
    rw [List.length_cons, Nat.mul_add, Nat.mul_one, Nat.add_comm]
    exact a
theorem Sm3.list {B n w : Nat} {ds : List PyData} (h : SmB B n w ds) : Sm3 B (n + 1) w (.list ds) := ⟨h.ib, h.sh, h.nd, Nat.succ_le_succ h.dp, h.ls, h.wt⟩
theorem Sm3.tup {B n w : Nat} {ds : List PyData} (h : SmB B n w ds) : Sm3 B (n + 1) w (.tuple ds) := ⟨h.ib, h.sh, h.nd, Nat.succ_le_succ h.dp, h.ls, h.wt⟩
theorem Sm3.bl {B n w : Nat} (b : Bool) : Sm3 B n w (.bool b) := ⟨rfl, rfl, rfl, Nat.zero_le _, rfl, Nat.zero_le _⟩
theorem Sm3.non {B n w : Nat} : Sm3 B n w .none := ⟨rfl, rfl, rfl, Nat.zero_le _, rfl, Nat.zero_le _⟩
theorem Sm3.int {B n : Nat} {i : Int} (hB : B < 10000000000000000000000) (hi : i.natAbs ≤ B) : Sm3 B n 80 (.int i) := by
  have h : i.natAbs < 10000000000000000000000 := Nat.lt_of_le_of_lt hi hB
  have hlog : i.natAbs.log2 < 79 := by
    by_cases c : i.natAbs = 0
    · rw [c]
      decide
    · exact (Nat.log2_lt c).mpr (Nat.lt_trans h (by decide))
  refine ⟨decide_eq_true hi, decide_eq_true (by omega), rfl, Nat.zero_le _, decide_eq_true ?_, ?_⟩
  · show (Str.ofString (toString i)).length ≤ 30
    rw [PySem.ofString_length]
    have := int_text_length_le10 (a := i) (k := 22) (by decide) (Nat.lt_of_lt_of_eq h (by decide))
    omega
  · show (if i == 0 then 0 else i.natAbs.log2 + 1) ≤ 80
    split <;> omega
theorem Sm3.ok {B n w : Nat} {d : PyData} (h : Sm3 B n w d) (hn : n ≤ 60) (hw : w ≤ 500000) : TxtOk d := by
  refine ⟨h.sh, h.nd, Nat.le_trans h.dp hn, ?_⟩
  have a := PyData.shown_le 30 (by decide) d h.ls
  have := h.wt
  rw [sizeLine_eq]
  omega
theorem Sm3.ints {B n : Nat} (ns : List Int) (hB : B < 10000000000000000000000) (h : ∀ x ∈ ns, x.natAbs ≤ B) : SmB B n (81 * ns.length) (ns.map PyData.int) := by
  have := SmB.all (B := B) (n := n) (w := 80) (ns.map PyData.int) fun d hd => by
    obtain ⟨i, hi, rfl⟩ := List.mem_map.mp hd
    exact .int hB (h i hi)
  rw [List.length_map] at this
  exact this
theorem str_sm3 {B n : Nat} {x : Str} (h : (x.cps.toList.all fun c => decide (c < 16 ^ 8)) = true) (hw : x.cps.size ≤ 80) : Sm3 B n 80 (.str x) := ⟨rfl, rfl, rfl, Nat.zero_le _, h, hw⟩
theorem Sm3.up {B C n w : Nat} {d : PyData} (h : Sm3 B n w d) (l : intsLe C d = true) : Sm3 C n w d := ⟨l, h.sh, h.nd, h.dp, h.ls, h.wt⟩
mutual
theorem intsLe_mono {B C : Nat} (h : B ≤ C) : ∀ d : PyData, intsLe B d = true → intsLe C d = true
  | .int i, k => decide_eq_true (Nat.le_trans (of_decide_eq_true k) h)
  | .list xs, k => intsLeA_mono h xs k
  | .tuple xs, k => intsLeA_mono h xs k
  | .none, _ => rfl
  | .bool _, _ => rfl
  | .str _, _ => rfl
  | .dict _, _ => rfl
theorem intsLeA_mono {B C : Nat} (h : B ≤ C) : ∀ ds : List PyData, intsLeAll B ds = true → intsLeAll C ds = true
  | [], _ => rfl
  | x :: xs, k => by
    have k' : (intsLe B x && intsLeAll B xs) = true := k
    rw [Bool.and_eq_true] at k'
    show (intsLe C x && intsLeAll C xs) = true
    rw [intsLe_mono h x k'.1, intsLeA_mono h xs k'.2]
    rfl
end
theorem Sm3.big {B C n w : Nat} {d : PyData} (h : Sm3 B n w d) (l : B ≤ C) : Sm3 C n w d := h.up (intsLe_mono l d h.ib)
theorem SmB.big {B C n w : Nat} {d : List PyData} (h : SmB B n w d) (l : B ≤ C) : SmB C n w d := ⟨intsLeA_mono l d h.ib, h.sh, h.nd, h.dp, h.ls, h.wt⟩
theorem SmB.mem {B n w : Nat} : ∀ {ds : List PyData}, SmB B n w ds → ∀ d ∈ ds, Sm3 B n w d
  | x :: xs, h, d, hd => by
    have i1 : (intsLe B x && intsLeAll B xs) = true := h.ib
    have i2 : (x.showable && PyData.showableAll xs) = true := h.sh
    have i3 : (x.hasDict || PyData.hasDictAll xs) = false := h.nd
    have i4 : max x.depth (PyData.depthAll xs) ≤ n := h.dp
    have i5 : (x.leavesShort 30 && PyData.leavesShortAll 30 xs) = true := h.ls
    have i6 : x.weight + 1 + PyData.weightAll xs ≤ w := h.wt
    rw [Bool.and_eq_true] at i1 i2 i5
    rw [Bool.or_eq_false_iff] at i3
    have i4' := Nat.max_le.mp i4
    rcases List.mem_cons.mp hd with rfl | hd
    · exact ⟨i1.1, i2.1, i3.1, i4'.1, i5.1, by omega⟩
    · exact SmB.mem (ds := xs) ⟨i1.2, i2.2, i3.2, i4'.2, i5.2, by omega⟩ d hd
theorem SmB.tail {B n w : Nat} {x : PyData} {xs : List PyData} (h : SmB B n w (x :: xs)) : SmB B n w xs := by
  have i1 : (intsLe B x && intsLeAll B xs) = true := h.ib
  have i2 : (x.showable && PyData.showableAll xs) = true := h.sh
  have i3 : (x.hasDict || PyData.hasDictAll xs) = false := h.nd
  have i4 : max x.depth (PyData.depthAll xs) ≤ n := h.dp
  have i5 : (x.leavesShort 30 && PyData.leavesShortAll 30 xs) = true := h.ls
  have i6 : x.weight + 1 + PyData.weightAll xs ≤ w := h.wt
  rw [Bool.and_eq_true] at i1 i2 i5
  rw [Bool.or_eq_false_iff] at i3
  have i4' := Nat.max_le.mp i4
  exact ⟨i1.2, i2.2, i3.2, i4'.2, i5.2, by omega⟩
theorem wtAll_len : ∀ ds : List PyData, ds.length ≤ PyData.weightAll ds
  | [] => Nat.zero_le _
  | x :: xs => by
    have := wtAll_len xs
    show xs.length + 1 ≤ x.weight + 1 + PyData.weightAll xs
    omega
theorem SmB.app {B n w v : Nat} : ∀ {a b : List PyData}, SmB B n w a → SmB B n v b → SmB B n (w + v) (a ++ b)
  | [], b, _, k => k.le (Nat.le_refl _) (by omega)
  | x :: a, b, h, k => by
    have hx := SmB.mem h x (List.mem_cons_self ..)
    have i6 : x.weight + 1 + PyData.weightAll a ≤ w := h.wt
    have hx' : Sm3 B n x.weight x := ⟨hx.ib, hx.sh, hx.nd, hx.dp, hx.ls, Nat.le_refl _⟩
    have ht := h.tail
    have ht' : SmB B n (PyData.weightAll a) a := ⟨ht.ib, ht.sh, ht.nd, ht.dp, ht.ls, Nat.le_refl _⟩
    have := SmB.cons hx' (SmB.app ht' k)
    exact this.le (Nat.le_refl _) (by omega)
theorem SmB.take {B n w : Nat} : ∀ {ds : List PyData} (k : Nat), SmB B n w ds → SmB B n w (ds.take k)
  | [], _, h => by rw [List.take_nil]; exact h
  | x :: xs, 0, h => .nil
  | x :: xs, k + 1, h => by
    have hx := SmB.mem h x (List.mem_cons_self ..)
    have i6 : x.weight + 1 + PyData.weightAll xs ≤ w := h.wt
    have hx' : Sm3 B n x.weight x := ⟨hx.ib, hx.sh, hx.nd, hx.dp, hx.ls, Nat.le_refl _⟩
    have ht := h.tail
    have ht' : SmB B n (PyData.weightAll xs) xs := ⟨ht.ib, ht.sh, ht.nd, ht.dp, ht.ls, Nat.le_refl _⟩
    exact (SmB.cons hx' (SmB.take k ht')).le (Nat.le_refl _) (by omega)
theorem SmB.drop {B n w : Nat} : ∀ {ds : List PyData} (k : Nat), SmB B n w ds → SmB B n w (ds.drop k)
  | [], _, h => by rw [List.drop_nil]; exact h
  | x :: xs, 0, h => h
  | x :: xs, k + 1, h => SmB.drop k h.tail
theorem SmB.rev {B n w : Nat} : ∀ {ds : List PyData}, SmB B n w ds → SmB B n w ds.reverse
  | [], h => h
  | x :: xs, h => by
    have hx := SmB.mem h x (List.mem_cons_self ..)
    have i6 : x.weight + 1 + PyData.weightAll xs ≤ w := h.wt
    have hx' : Sm3 B n x.weight x := ⟨hx.ib, hx.sh, hx.nd, hx.dp, hx.ls, Nat.le_refl _⟩
    have ht := h.tail
    have ht' : SmB B n (PyData.weightAll xs) xs := ⟨ht.ib, ht.sh, ht.nd, ht.dp, ht.ls, Nat.le_refl _⟩
    rw [List.reverse_cons]
    exact (SmB.app (SmB.rev ht') (SmB.cons hx' (.nil (w := 0)))).le (Nat.le_refl _) (by omega)
theorem SmB.set {B n w v : Nat} : ∀ {ds : List PyData} {d : PyData} (k : Nat), SmB B n w ds → Sm3 B n v d → SmB B n (w + v) (ds.set k d)
  | [], _, _, h, _ => h.le (Nat.le_refl _) (by omega)
  | x :: xs, d, 0, h, hd => by
    have i6 : x.weight + 1 + PyData.weightAll xs ≤ w := h.wt
    have ht := h.tail
    have ht' : SmB B n (PyData.weightAll xs) xs := ⟨ht.ib, ht.sh, ht.nd, ht.dp, ht.ls, Nat.le_refl _⟩
    exact (SmB.cons hd ht').le (Nat.le_refl _) (by omega)
  | x :: xs, d, k + 1, h, hd => by
    have hx := SmB.mem h x (List.mem_cons_self ..)
    have i6 : x.weight + 1 + PyData.weightAll xs ≤ w := h.wt
    have hx' : Sm3 B n x.weight x := ⟨hx.ib, hx.sh, hx.nd, hx.dp, hx.ls, Nat.le_refl _⟩
    have ht := h.tail
    have ht' : SmB B n (PyData.weightAll xs) xs := ⟨ht.ib, ht.sh, ht.nd, ht.dp, ht.ls, Nat.le_refl _⟩
    exact (SmB.cons hx' (SmB.set k ht' hd)).le (Nat.le_refl _) (by omega)
theorem DtA.take {H : Hp} {n : Nat} : ∀ {vs : List V} {ds : List PyData} (k : Nat), DtA H n vs ds → DtA H n (vs.take k) (ds.take k)
  | _, _, k, .nil => by rw [List.take_nil, List.take_nil]; exact .nil
  | _, _, 0, .cons _ _ => .nil
  | _, _, k + 1, .cons h t => .cons h (DtA.take k t)
theorem DtA.drop {H : Hp} {n : Nat} : ∀ {vs : List V} {ds : List PyData} (k : Nat), DtA H n vs ds → DtA H n (vs.drop k) (ds.drop k)
  | _, _, k, .nil => by rw [List.drop_nil, List.drop_nil]; exact .nil
  | _, _, 0, .cons h t => .cons h t
  | _, _, k + 1, .cons _ t => DtA.drop k t
theorem DtA.app {H : Hp} {n : Nat} : ∀ {vs us : List V} {ds es : List PyData}, DtA H n vs ds → DtA H n us es → DtA H n (vs ++ us) (ds ++ es)
  | _, _, _, _, .nil, k => k
  | _, _, _, _, .cons h t, k => .cons h (DtA.app t k)
theorem DtA.rev {H : Hp} {n : Nat} : ∀ {vs : List V} {ds : List PyData}, DtA H n vs ds → DtA H n vs.reverse ds.reverse
  | _, _, .nil => .nil
  | _, _, .cons h t => by
    rw [List.reverse_cons, List.reverse_cons]
    exact DtA.app (DtA.rev t) (.cons h .nil)
theorem DtA.set {H : Hp} {n : Nat} {v : V} {d : PyData} (hd : Dt H n v d) : ∀ {vs : List V} {ds : List PyData} (k : Nat), DtA H n vs ds → DtA H n (vs.set k v) (ds.set k d)
  | _, _, k, .nil => .nil
  | _, _, 0, .cons _ t => .cons hd t
  | _, _, k + 1, .cons h t => .cons h (DtA.set hd k t)
/-- a part of a row of things -/
theorem DtA.cut {B n w N : Nat} {H : Hp} {vs : List V} {ds : List PyData} (h : DtA H N vs ds) (k : SmB B n w ds) (lo hi : Option Int) : ∃ es, DtA H N (cutV vs lo hi) es ∧ SmB B n w es ∧ (cutV vs lo hi).length ≤ vs.length := by
  unfold cutV
  refine ⟨_, DtA.take _ (DtA.drop _ h), SmB.take _ (SmB.drop _ k), ?_⟩
  rw [List.length_take, List.length_drop]
  omega
/-! ### what is new since a heap -/
def nwH (H H' : Hp) : Hp := fun a => if H a = none then H' a else none
theorem nw_of {H H' : Hp} {a : Addr} {o : HO} (n : H a = none) (e : H' a = some o) : nwH H H' a = some o := by
  unfold nwH
  rw [if_pos n]
  exact e
theorem nw_get {H H' : Hp} {a : Addr} {o : HO} (e : nwH H H' a = some o) : H a = none ∧ H' a = some o := by
  unfold nwH at e
  by_cases c : H a = none
  · rw [if_pos c] at e
    exact ⟨c, e⟩
  · rw [if_neg c] at e
    cases e
theorem nw_same {H H' : Hp} : Same (nwH H H') H' := fun a o e => (nw_get e).2
theorem nw_un {t : Addr} {H H1 H2 : Hp} (ht : H t ≠ none) (U : Un t H1 H2) : Same (nwH H H1) (nwH H H2) := fun a o e => by
  obtain ⟨n, e1⟩ := nw_get e
  exact nw_of n (U a o (fun z => ht (by rw [← z]; exact n)) e1)
theorem nw_sameR {H H1 H2 : Hp} (S : Same H1 H2) : Same (nwH H H1) (nwH H H2) := fun a o e => by
  obtain ⟨n, e1⟩ := nw_get e
  exact nw_of n (S a o e1)
theorem nw_upd {H H1 : Hp} {D : Addr} {o : HO} (hD : H D ≠ none) : Same (nwH H H1) (nwH H (upd H1 D o)) := fun a u e => by
  obtain ⟨n, e1⟩ := nw_get e
  refine nw_of n ?_
  rw [upd_ne (fun z => hD (by rw [← z]; exact n))]
  exact e1
theorem nw_back {H0 H H1 : Hp} (S : ∀ a, H a = none → H0 a = none) : Same (nwH H H1) (nwH H0 H1) := fun a o e => by
  obtain ⟨n, e1⟩ := nw_get e
  exact nw_of (S a n) e1
def hd1 (t : Addr) (H : Hp) : Hp := fun a => if a = t then none else H a
theorem hd1_of {t a : Addr} {H : Hp} {o : HO} (n : a ≠ t) (e : H a = some o) : hd1 t H a = some o := by
  unfold hd1
  rw [if_neg n]
  exact e
theorem hd1_get {t a : Addr} {H : Hp} {o : HO} (e : hd1 t H a = some o) : a ≠ t ∧ H a = some o := by
  unfold hd1 at e
  by_cases c : a = t
  · rw [if_pos c] at e
    cases e
  · rw [if_neg c] at e
    exact ⟨c, e⟩
theorem hd1_un {t : Addr} {H H' : Hp} (U : Un t H H') : Same (hd1 t H) (hd1 t H') := fun a o e => by
  obtain ⟨n, e1⟩ := hd1_get e
  exact hd1_of n (U a o n e1)
theorem hd1_same {t : Addr} {H H' : Hp} (S : Same H H') : Same (hd1 t H) (hd1 t H') := hd1_un (Un.same S)
theorem hd1_in {t : Addr} {H : Hp} : Same (hd1 t H) H := fun a o e => (hd1_get e).2
theorem pickA {xs : List V} {i : Int} (h0 : 0 ≤ i) (h1 : i < xs.length) : ∃ v, v ∈ xs ∧ atI xs i = some v := by
  obtain ⟨j, rfl⟩ : ∃ j : Nat, i = (j : Int) := ⟨i.toNat, by omega⟩
  have hj : j < xs.length := by omega
  exact ⟨xs[j], List.getElem_mem hj, atI_nat (List.getElem?_eq_getElem hj)⟩
theorem un_none {t : Addr} {H H' : Hp} (U : Un t H H') (ht : H' t ≠ none) : ∀ a, H' a = none → H a = none := fun a n => by
  cases e : H a with
  | none => rfl
  | some o =>
    by_cases c : a = t
    · rw [c] at n
      exact absurd n ht
    · rw [U a o c e] at n
      cases n
theorem Tp.has {b : Nat} {H : Hp} {t : Addr} (h : Tp b H t) : H t ≠ none := by
  obtain ⟨x, y, z, e, _⟩ := h
  rw [e]
  exact fun z => nomatch z
theorem decI (a b : Int) : decide (V.int a = V.int b) = decide (a = b) := by
  by_cases c : a = b
  · rw [c, decide_eq_true rfl, decide_eq_true rfl]
  · rw [decide_eq_false c, decide_eq_false fun z => c (V.int.inj z)]
theorem decL (a b : Nat) : decide (V.int (a : Int) = V.int (b : Int)) = decide (a = b) := by
  rw [decI]
  exact decide_eq_decide.mpr ⟨fun z => by omega, fun z => by omega⟩
/-! ### truths as numbers -/
theorem op_addBI {X : Cx} : OpR X (binaryOp .Add) (fun x y H Q => ∃ k j, x = .bl k ∧ y = .int j ∧ Q (.int ((if k = true then (1 : Int) else 0) + j)) H) := by
  intro pins s σ H x y v u Q I rx ry h
  obtain ⟨k, j, rfl, rfl, q⟩ := h
  cases rx
  obtain ⟨t, rfl⟩ := ry
  exact PySem.IntBool.add_bool_int ⟨.int _, H, I.tok _, ⟨_, rfl⟩, q⟩
theorem op_subBI {X : Cx} : OpR X (binaryOp .Sub) (fun x y H Q => ∃ k j, x = .bl k ∧ y = .int j ∧ Q (.int ((if k = true then (1 : Int) else 0) - j)) H) := by
  intro pins s σ H x y v u Q I rx ry h
  obtain ⟨k, j, rfl, rfl, q⟩ := h
  cases rx
  obtain ⟨t, rfl⟩ := ry
  exact PySem.IntBool.sub_bool_int ⟨.int _, H, I.tok _, ⟨_, rfl⟩, q⟩
theorem op_subIB {X : Cx} : OpR X (binaryOp .Sub) (fun x y H Q => ∃ i k, x = .int i ∧ y = .bl k ∧ Q (.int (i - (if k = true then (1 : Int) else 0))) H) := by
  intro pins s σ H x y v u Q I rx ry h
  obtain ⟨i, k, rfl, rfl, q⟩ := h
  obtain ⟨t, rfl⟩ := rx
  cases ry
  exact PySem.IntBool.sub_int_bool ⟨.int _, H, I.tok _, ⟨_, rfl⟩, q⟩
theorem cr_strB {X : Cx} : CallR X (.type "str") (fun xs H Q => ∃ b : Bool, xs = [.bl b] ∧ Q (.str (if b then "True" else "False")) H) := by
  intro pins s σ H xs us Q I r h
  obtain ⟨b, rfl, q⟩ := h
  cases r with
  | cons rv rr =>
    cases rr
    cases rv
    exact P.str_of_bool ⟨.str _, H, I.tok _, ⟨_, rfl⟩, q⟩
def isSeqB : PyData → Bool
  | .list _ | .tuple _ => true
  | _ => false
theorem isi_seq {K : PySem.W.Frag} {H : Hp} {n : Nat} {v : V} {d : PyData} (h : Dt H n v d) : ∃ t, TyX K H v t ∧ PySem.W.kitAny K t [.type "list", .type "tuple"] = some (isSeqB d) := by
  cases h with
  | non => exact ⟨_, .base .non, kit2 (r := false) (s := false) (by decide +kernel) (by decide +kernel)⟩
  | bl b => exact ⟨_, .base (.bl b), kit2 (r := false) (s := false) (by decide +kernel) (by decide +kernel)⟩
  | int i => exact ⟨_, .base (.int i), kit2 (r := false) (s := false) (by decide +kernel) (by decide +kernel)⟩
  | str z => exact ⟨_, .base (.str z), kit2 (r := false) (s := false) (by decide +kernel) (by decide +kernel)⟩
  | lst e _ _ => exact ⟨_, .base (.lst e), kit2 (r := true) (s := false) (by decide +kernel) (by decide +kernel)⟩
  | tup e _ _ => exact ⟨_, .base (.tup e), kit2 (r := false) (s := true) (by decide +kernel) (by decide +kernel)⟩
/-! ### heaps with some objects hidden -/
def hs (A : List Addr) (H : Hp) : Hp := fun a => if a ∈ A then none else H a
theorem hs_of {A : List Addr} {H : Hp} {a : Addr} {o : HO} (n : a ∉ A) (e : H a = some o) : hs A H a = some o := by
  unfold hs
  rw [if_neg n]
  exact e
theorem hs_get {A : List Addr} {H : Hp} {a : Addr} {o : HO} (e : hs A H a = some o) : a ∉ A ∧ H a = some o := by
  unfold hs at e
  by_cases c : a ∈ A
  · rw [if_pos c] at e
    cases e
  · rw [if_neg c] at e
    exact ⟨c, e⟩
theorem hs_in {A : List Addr} {H : Hp} : Same (hs A H) H := fun a o e => (hs_get e).2
theorem hs_un {A : List Addr} {t : Addr} {H H' : Hp} (ht : t ∈ A) (U : Un t H H') : Same (hs A H) (hs A H') := fun a o e => by
  obtain ⟨n, e1⟩ := hs_get e
  exact hs_of n (U a o (fun z => n (by rw [z]; exact ht)) e1)
theorem hs_same {A : List Addr} {H H' : Hp} (S : Same H H') : Same (hs A H) (hs A H') := fun a o e => by
  obtain ⟨n, e1⟩ := hs_get e
  exact hs_of n (S a o e1)
/-- all of them are there -/
def Ex (A : List Addr) (H : Hp) : Prop := ∀ a ∈ A, H a ≠ none
theorem Ex.un {A : List Addr} {t : Addr} {H H' : Hp} (h : Ex A H) (U : Un t H H') (ht : H' t ≠ none) : Ex A H' := fun a ha z => by
  cases e : H a with
  | none => exact h a ha e
  | some o =>
    by_cases c : a = t
    · rw [c] at z
      exact ht z
    · rw [U a o c e] at z
      cases z
theorem Ex.same {A : List Addr} {H H' : Hp} (h : Ex A H) (S : Same H H') : Ex A H' := fun a ha z => by
  cases e : H a with
  | none => exact h a ha e
  | some o =>
    rw [S a o e] at z
    cases z
theorem Ex.new {A : List Addr} {H : Hp} {p : Addr} (h : Ex A H) (n : H p = none) : p ∉ A := fun z => h p z n
theorem hs_more {A : List Addr} {t p : Addr} {H H' : Hp} (ht : t ∈ A) (n : H p = none) (U : Un t H H') : Same (hs A H) (hs (p :: A) H') := fun a o e => by
  obtain ⟨m, e1⟩ := hs_get e
  refine hs_of (fun z => ?_) (U a o (fun z => m (by rw [z]; exact ht)) e1)
  rcases List.mem_cons.mp z with z | z
  · rw [z, n] at e1
    cases e1
  · exact m z
theorem hs_upd {A : List Addr} {p : Addr} {H : Hp} {o : HO} : Same (hs (p :: A) H) (hs A (upd H p o)) := fun a u e => by
  obtain ⟨m, e1⟩ := hs_get e
  refine hs_of (fun z => m (List.mem_cons_of_mem _ z)) ?_
  rw [upd_ne (fun z => m (by rw [z]; exact List.mem_cons_self ..))]
  exact e1
theorem hs_less {A : List Addr} {p : Addr} {H : Hp} : Same (hs (p :: A) H) (hs A H) := fun a u e => by
  obtain ⟨m, e1⟩ := hs_get e
  exact hs_of (fun z => m (List.mem_cons_of_mem _ z)) e1
theorem str_app_ok {x y : Str} (h : (x.cps.toList.all fun c => decide (c < 16 ^ 8)) = true) (k : (y.cps.toList.all fun c => decide (c < 16 ^ 8)) = true) : ((x ++ y).cps.toList.all fun c => decide (c < 16 ^ 8)) = true := by
  have e : (x ++ y).cps.toList = x.cps.toList ++ y.cps.toList := by
    show (x.cps ++ y.cps).toList = _
    rw [Array.toList_append]
  rw [e, List.all_append, h, k]
  rfl
end Pan
namespace Pan
open PySem PySem.Spec PyProof.Rows L2
def topS (i : Nat) : Stmt := PySem.Challenge.pw_panfalls_k29_whole_all_starts_of_a_word.main.body.getD i (.Pass ⟨0, 0, 0, 0⟩)
abbrev s_lighter : Stmt := topS 3
abbrev N_lighter : List Str := ["standing"]
abbrev P_lighter : List Str := ["standing"]
theorem sc_lighter : FnScope N_lighter P_lighter (defScope s_lighter) := ⟨rfl, rfl, rfl, by decide +kernel, rfl, by decide +kernel, by decide +kernel⟩
abbrev s_fall : Stmt := topS 4
abbrev N_fall : List Str := ["standing", "weight"]
abbrev P_fall : List Str := ["standing", "weight"]
theorem sc_fall : FnScope N_fall P_fall (defScope s_fall) := ⟨rfl, rfl, rfl, by decide +kernel, rfl, by decide +kernel, by decide +kernel⟩
abbrev s_falls : Stmt := topS 5
abbrev N_falls : List Str := ["standing", "word", "sides", "now", "weight", "side"]
abbrev P_falls : List Str := ["standing", "word"]
theorem sc_falls : FnScope N_falls P_falls (defScope s_falls) := ⟨rfl, rfl, rfl, by decide +kernel, rfl, by decide +kernel, by decide +kernel⟩
abbrev s_spots : Stmt := topS 7
abbrev N_spots : List Str := ["run", "first", "last"]
abbrev P_spots : List Str := ["run"]
theorem sc_spots : FnScope N_spots P_spots (defScope s_spots) := ⟨rfl, rfl, rfl, by decide +kernel, rfl, by decide +kernel, by decide +kernel⟩
abbrev s_parts : Stmt := topS 8
abbrev N_parts : List Str := ["run", "weight", "first", "last"]
abbrev P_parts : List Str := ["run", "weight"]
theorem sc_parts : FnScope N_parts P_parts (defScope s_parts) := ⟨rfl, rfl, rfl, by decide +kernel, rfl, by decide +kernel, by decide +kernel⟩
abbrev s_folded : Stmt := topS 9
abbrev N_folded : List Str := ["run", "weight", "first", "last", "fold"]
abbrev P_folded : List Str := ["run", "weight"]
theorem sc_folded : FnScope N_folded P_folded (defScope s_folded) := ⟨rfl, rfl, rfl, by decide +kernel, rfl, by decide +kernel, by decide +kernel⟩
abbrev s_behind : Stmt := topS 10
abbrev N_behind : List Str := ["run", "word", "now", "weight"]
abbrev P_behind : List Str := ["run", "word"]
theorem sc_behind : FnScope N_behind P_behind (defScope s_behind) := ⟨rfl, rfl, rfl, by decide +kernel, rfl, by decide +kernel, by decide +kernel⟩
abbrev s_is_within : Stmt := topS 11
abbrev N_is_within : List Str := ["inner", "outer"]
abbrev P_is_within : List Str := ["inner", "outer"]
theorem sc_is_within : FnScope N_is_within P_is_within (defScope s_is_within) := ⟨rfl, rfl, rfl, by decide +kernel, rfl, by decide +kernel, by decide +kernel⟩
abbrev s_is_size_in : Stmt := topS 12
abbrev N_is_size_in : List Str := ["standing", "run", "size"]
abbrev P_is_size_in : List Str := ["standing", "run"]
theorem sc_is_size_in : FnScope N_is_size_in P_is_size_in (defScope s_is_size_in) := ⟨rfl, rfl, rfl, by decide +kernel, rfl, by decide +kernel, by decide +kernel⟩
abbrev s_runs_to : Stmt := topS 14
abbrev N_runs_to : List Str := ["word", "now", "told", "made"]
abbrev P_runs_to : List Str := ["word"]
theorem sc_runs_to : FnScope N_runs_to P_runs_to (defScope s_runs_to) := ⟨rfl, rfl, rfl, by decide +kernel, rfl, by decide +kernel, by decide +kernel⟩
abbrev s_staying : Stmt := topS 15
abbrev N_staying : List Str := ["word"]
abbrev P_staying : List Str := ["word"]
theorem sc_staying : FnScope N_staying P_staying (defScope s_staying) := ⟨rfl, rfl, rfl, by decide +kernel, rfl, by decide +kernel, by decide +kernel⟩
abbrev s_length : Stmt := topS 16
abbrev N_length : List Str := ["word", "start"]
abbrev P_length : List Str := ["word"]
theorem sc_length : FnScope N_length P_length (defScope s_length) := ⟨rfl, rfl, rfl, by decide +kernel, rfl, by decide +kernel, by decide +kernel⟩
abbrev s_far_rounds : Stmt := topS 18
abbrev N_far_rounds : List Str := ["standing", "word"]
abbrev P_far_rounds : List Str := ["standing", "word"]
theorem sc_far_rounds : FnScope N_far_rounds P_far_rounds (defScope s_far_rounds) := ⟨rfl, rfl, rfl, by decide +kernel, rfl, by decide +kernel, by decide +kernel⟩
abbrev s_drawn_near : Stmt := topS 19
abbrev N_drawn_near : List Str := ["standing", "word", "rounds", "step"]
abbrev P_drawn_near : List Str := ["standing", "word", "rounds"]
theorem sc_drawn_near : FnScope N_drawn_near P_drawn_near (defScope s_drawn_near) := ⟨rfl, rfl, rfl, by decide +kernel, rfl, by decide +kernel, by decide +kernel⟩
abbrev s_settled_from : Stmt := topS 20
abbrev N_settled_from : List Str := ["standing", "word", "rounds", "now", "run"]
abbrev P_settled_from : List Str := ["standing", "word"]
theorem sc_settled_from : FnScope N_settled_from P_settled_from (defScope s_settled_from) := ⟨rfl, rfl, rfl, by decide +kernel, rfl, by decide +kernel, by decide +kernel⟩
abbrev s_fewer_rounds : Stmt := topS 21
abbrev N_fewer_rounds : List Str := ["standing", "word", "rounds", "settled"]
abbrev P_fewer_rounds : List Str := ["standing", "word", "rounds"]
theorem sc_fewer_rounds : FnScope N_fewer_rounds P_fewer_rounds (defScope s_fewer_rounds) := ⟨rfl, rfl, rfl, by decide +kernel, rfl, by decide +kernel, by decide +kernel⟩
abbrev s_standing_of_round : Stmt := topS 22
abbrev N_standing_of_round : List Str := ["standing", "word", "rounds", "wanted", "skipped", "now", "again"]
abbrev P_standing_of_round : List Str := ["standing", "word", "rounds"]
theorem sc_standing_of_round : FnScope N_standing_of_round P_standing_of_round (defScope s_standing_of_round) := ⟨rfl, rfl, rfl, by decide +kernel, rfl, by decide +kernel, by decide +kernel⟩
abbrev s_standing_at : Stmt := topS 23
abbrev N_standing_at : List Str := ["standing", "word", "many", "rounds", "rest"]
abbrev P_standing_at : List Str := ["standing", "word", "many"]
theorem sc_standing_at : FnScope N_standing_at P_standing_at (defScope s_standing_at) := ⟨rfl, rfl, rfl, by decide +kernel, rfl, by decide +kernel, by decide +kernel⟩
abbrev s_have_met : Stmt := topS 25
abbrev N_have_met : List Str := ["one", "other", "word", "many"]
abbrev P_have_met : List Str := ["one", "other", "word", "many"]
theorem sc_have_met : FnScope N_have_met P_have_met (defScope s_have_met) := ⟨rfl, rfl, rfl, by decide +kernel, rfl, by decide +kernel, by decide +kernel⟩
abbrev s_both_settled : Stmt := topS 26
abbrev N_both_settled : List Str := ["one", "other", "word"]
abbrev P_both_settled : List Str := ["one", "other", "word"]
theorem sc_both_settled : FnScope N_both_settled P_both_settled (defScope s_both_settled) := ⟨rfl, rfl, rfl, by decide +kernel, rfl, by decide +kernel, by decide +kernel⟩
abbrev s_fewest_grains : Stmt := topS 27
abbrev N_fewest_grains : List Str := ["one", "other", "word", "enough", "low", "high", "middle"]
abbrev P_fewest_grains : List Str := ["one", "other", "word", "enough"]
theorem sc_fewest_grains : FnScope N_fewest_grains P_fewest_grains (defScope s_fewest_grains) := ⟨rfl, rfl, rfl, by decide +kernel, rfl, by decide +kernel, by decide +kernel⟩
abbrev s_meeting : Stmt := topS 28
abbrev N_meeting : List Str := ["one", "other", "word", "enough", "many"]
abbrev P_meeting : List Str := ["one", "other", "word"]
theorem sc_meeting : FnScope N_meeting P_meeting (defScope s_meeting) := ⟨rfl, rfl, rfl, by decide +kernel, rfl, by decide +kernel, by decide +kernel⟩
abbrev s_apart_paper : Stmt := topS 29
abbrev N_apart_paper : List Str := ["one", "other", "word", "sizes"]
abbrev P_apart_paper : List Str := ["one", "other", "word"]
theorem sc_apart_paper : FnScope N_apart_paper P_apart_paper (defScope s_apart_paper) := ⟨rfl, rfl, rfl, by decide +kernel, rfl, by decide +kernel, by decide +kernel⟩
abbrev s_l_tape : Stmt := topS 31
abbrev N_l_tape : List Str := ["_law_script", "_law_k", "_law_cell"]
abbrev P_l_tape : List Str := ["_law_script", "_law_k"]
theorem sc_l_tape : FnScope N_l_tape P_l_tape (defScope s_l_tape) := ⟨rfl, rfl, rfl, by decide +kernel, rfl, by decide +kernel, by decide +kernel⟩
abbrev s_l_draw : Stmt := topS 32
abbrev N_l_draw : List Str := ["_law_tape_here", "_law_many", "_law_found", "_law_once", "_law_twice", "_law_wide"]
abbrev P_l_draw : List Str := ["_law_tape_here", "_law_many"]
theorem sc_l_draw : FnScope N_l_draw P_l_draw (defScope s_l_draw) := ⟨rfl, rfl, rfl, by decide +kernel, rfl, by decide +kernel, by decide +kernel⟩
abbrev s_l_folded : Stmt := topS 33
abbrev N_l_folded : List Str := ["_law_script", "_law_many", "_law_cells", "_law_k", "_law_cell"]
abbrev P_l_folded : List Str := ["_law_script", "_law_many"]
theorem sc_l_folded : FnScope N_l_folded P_l_folded (defScope s_l_folded) := ⟨rfl, rfl, rfl, by decide +kernel, rfl, by decide +kernel, by decide +kernel⟩
abbrev s_l_weight : Stmt := topS 34
abbrev N_l_weight : List Str := ["_law_tape_here", "_law_most"]
abbrev P_l_weight : List Str := ["_law_tape_here", "_law_most"]
theorem sc_l_weight : FnScope N_l_weight P_l_weight (defScope s_l_weight) := ⟨rfl, rfl, rfl, by decide +kernel, rfl, by decide +kernel, by decide +kernel⟩
abbrev s_l_word : Stmt := topS 35
abbrev N_l_word : List Str := ["_law_tape_here", "_law_many", "_law_most", "_law_size", "_law_way", "_law_some", "_law_k"]
abbrev P_l_word : List Str := ["_law_tape_here", "_law_many", "_law_most"]
theorem sc_l_word : FnScope N_l_word P_l_word (defScope s_l_word) := ⟨rfl, rfl, rfl, by decide +kernel, rfl, by decide +kernel, by decide +kernel⟩
abbrev s_l_fallen : Stmt := topS 36
abbrev N_l_fallen : List Str := ["_law_standing", "_law_word_here", "_law_sides", "_law_weight_here"]
abbrev P_l_fallen : List Str := ["_law_standing", "_law_word_here"]
theorem sc_l_fallen : FnScope N_l_fallen P_l_fallen (defScope s_l_fallen) := ⟨rfl, rfl, rfl, by decide +kernel, rfl, by decide +kernel, by decide +kernel⟩
abbrev s_l_led : Stmt := topS 37
abbrev N_l_led : List Str := ["_law_sizes", "_law_word_here", "_law_found", "_law_size", "_law_weight_here"]
abbrev P_l_led : List Str := ["_law_sizes", "_law_word_here"]
theorem sc_l_led : FnScope N_l_led P_l_led (defScope s_l_led) := ⟨rfl, rfl, rfl, by decide +kernel, rfl, by decide +kernel, by decide +kernel⟩
abbrev s_l_staying : Stmt := topS 38
abbrev N_l_staying : List Str := ["_law_word_here", "_law_sizes", "_law_turn"]
abbrev P_l_staying : List Str := ["_law_word_here"]
theorem sc_l_staying : FnScope N_l_staying P_l_staying (defScope s_l_staying) := ⟨rfl, rfl, rfl, by decide +kernel, rfl, by decide +kernel, by decide +kernel⟩
abbrev s_l_behind : Stmt := topS 39
abbrev N_l_behind : List Str := ["_law_standing", "_law_word_here", "_law_many", "_law_rounds", "_law_left", "_law_turn"]
abbrev P_l_behind : List Str := ["_law_standing", "_law_word_here", "_law_many"]
theorem sc_l_behind : FnScope N_l_behind P_l_behind (defScope s_l_behind) := ⟨rfl, rfl, rfl, by decide +kernel, rfl, by decide +kernel, by decide +kernel⟩
abbrev s_l_pair_right : Stmt := topS 40
abbrev N_l_pair_right : List Str := ["_law_one", "_law_other", "_law_word_here", "_law_told", "_law_ends", "_law_mine", "_law_its", "_law_ahead", "_law_standing"]
abbrev P_l_pair_right : List Str := ["_law_one", "_law_other", "_law_word_here", "_law_told", "_law_ends"]
theorem sc_l_pair_right : FnScope N_l_pair_right P_l_pair_right (defScope s_l_pair_right) := ⟨rfl, rfl, rfl, by decide +kernel, rfl, by decide +kernel, by decide +kernel⟩
abbrev s_l_slow_right : Stmt := topS 41
abbrev N_l_slow_right : List Str := ["_law_tape_here", "_law_most", "_law_small", "_law_great", "_law_signs", "_law_word_here", "_law_one", "_law_other", "_law_due", "_law_turn"]
abbrev P_l_slow_right : List Str := ["_law_tape_here"]
theorem sc_l_slow_right : FnScope N_l_slow_right P_l_slow_right (defScope s_l_slow_right) := ⟨rfl, rfl, rfl, by decide +kernel, rfl, by decide +kernel, by decide +kernel⟩
abbrev s_l_right : Stmt := topS 42
abbrev N_l_right : List Str := ["_law_tape_here", "_law_word_here", "_law_top", "_law_starts", "_law_ends", "_law_told", "_law_i", "_law_one", "_law_j", "_law_some", "_law_when", "_law_run", "_law_stay", "_law_back", "_law_size", "_law_standing"]
abbrev P_l_right : List Str := ["_law_tape_here"]
theorem sc_l_right : FnScope N_l_right P_l_right (defScope s_l_right) := ⟨rfl, rfl, rfl, by decide +kernel, rfl, by decide +kernel, by decide +kernel⟩
abbrev s_law : Stmt := topS 43
abbrev N_law : List Str := ["_law_script", "_law_cells", "_law_k", "_law_tape_here"]
abbrev P_law : List Str := ["_law_script"]
theorem sc_law : FnScope N_law P_law (defScope s_law) := ⟨rfl, rfl, rfl, by decide +kernel, rfl, by decide +kernel, by decide +kernel⟩
structure Bl (mg : Str → Option Value) : Prop where
  abs : mg "abs" = none
  divmod : mg "divmod" = none
  enumerate : mg "enumerate" = none
  int : mg "int" = none
  len : mg "len" = none
  list : mg "list" = none
  max : mg "max" = none
  min : mg "min" = none
  range : mg "range" = none
  set : mg "set" = none
  sorted : mg "sorted" = none
  sum : mg "sum" = none
  tuple : mg "tuple" = none
  c_LEFT : ∃ t, mg "LEFT" = some (.str "left" t)
  c_RIGHT : ∃ t, mg "RIGHT" = some (.str "right" t)
section
variable {P : Program} {w : World} {K : PySem.W.Frag} {mg : Str → Option Value} {base : Heap}
abbrev LV_lighter : Nat := 1
def sp_lighter : Sp := fun vs H Q _ => ∃ (s : Int), vs = [.int s] ∧ Q (.str (sd s)) H
theorem ok_lighter {f : Addr} {fd : FuncData} (F : Fun K "lighter" "lighter" s_lighter f fd) (Z : Bl mg) : FnOk P w K mg base CX0 LV_lighter f fd P_lighter sp_lighter := by
  refine F.ok sc_lighter (fun vs H Q E h => ?_) (fun cdv A outer s H vs Q E hr h => ?_)
  · obtain ⟨s, rfl, _⟩ := h
    rfl
  obtain ⟨s, rfl, q⟩ := h
  refine ⟨_, (pss_cons (ps_if (pt_cmpR op_lt (pv 0) pe_int (nomark _)) (pss_one (ps_ret (pe_const Z.c_LEFT (by rfl)))) pss_nil)
    (pss_one (ps_ret (pe_const Z.c_RIGHT (by rfl))))), ?_⟩
  refine ⟨.int s, rfl, _, _, rfl, rfl, _, rfl, ite2 (fun c => ?_) (fun c => ?_)⟩
  · have c1 := of_decide_eq_true c
    have e : sd s = ("left" : Str) := sd_left.mpr c1
    rw [e] at q
    exact q
  · have c1 : ¬ s < 0 := fun z => c (decide_eq_true z)
    have e : sd s = ("right" : Str) := sd_right.mpr c1
    rw [e] at q
    exact q
abbrev LV_fall : Nat := 2
def sp_fall : Sp := fun vs H Q _ => ∃ (s m : Int), vs = [.int s, .int m] ∧
  ∀ (p : Addr) (H' : Hp), H p = none → Same H H' → H' p = some (.tup [.str (sd s), .int (st1 s m)]) → Q (.ref p) H'
theorem ok_fall {f : Addr} {fd : FuncData} (F : Fun K "fall" "fall" s_fall f fd) (Z : Bl mg) (G_lighter : Kn P w K mg base "lighter" P_lighter LV_lighter sp_lighter) : FnOk P w K mg base CX0 LV_fall f fd P_fall sp_fall := by
  refine F.ok sc_fall (fun vs H Q E h => ?_) (fun cdv A outer s H vs Q E hr h => ?_)
  · obtain ⟨s, m, rfl, _⟩ := h
    rfl
  obtain ⟨s, m, rfl, q⟩ := h
  refine ⟨_, (pss_cons (ps_if (pt_cmpR op_eq (pe_own G_lighter (hr.mono (by decide)) (by rfl) (pa_cons (pv 0) pa_nil)) (pe_const Z.c_LEFT (by rfl)) (nomark _)) (pss_one (ps_ret (pe_tupN (pa_cons (pe_const Z.c_LEFT (by rfl)) (pa_cons (pe_op op_add (pv 0) (pe_op op_mul pe_int (pv 1))) pa_nil))))) pss_nil)
    (pss_one (ps_ret (pe_tupN (pa_cons (pe_const Z.c_RIGHT (by rfl)) (pa_cons (pe_op op_sub (pv 0) (pe_op op_mul pe_int (pv 1))) pa_nil)))))), ?_⟩
  refine ⟨.int s, rfl, s, rfl, rfl, _, rfl, ite2 (fun c => ?_) (fun c => ?_)⟩
  · have c1 : sd s = ("left" : Str) := V.str.inj (of_decide_eq_true c)
    refine ⟨.int s, rfl, .int m, rfl, _, _, rfl, rfl, .inl ⟨by decide, by decide⟩, _, _, rfl, rfl, (by show 2 ≤ sizeLine; decide), fun p H' np S e => q p H' np S ?_⟩
    unfold st1
    rw [c1, if_pos (sd_left.mp c1)]
    exact e
  · have c1 : ¬ s < 0 := fun z => c (decide_eq_true (congrArg V.str (sd_left.mpr z)))
    refine ⟨.int s, rfl, .int m, rfl, _, _, rfl, rfl, .inl ⟨by decide, by decide⟩, _, _, rfl, rfl, (by show 2 ≤ sizeLine; decide), fun p H' np S e => q p H' np S ?_⟩
    unfold st1
    rw [sd_right.mpr c1, if_neg c1]
    exact e
abbrev LV_falls : Nat := 3
def sp_falls : Sp := fun vs H Q _ => ∃ (s : Int) (u : Addr) (ws : List Int), vs = [.int s, .ref u] ∧ H u = some (.tup (ws.map V.int)) ∧ ws.length ≤ 1000 ∧
  ∀ (p l : Addr) (H' : Hp), H p = none → H l = none → p ≠ l → Same H H' → H' l = some (.lst ((sds s ws).map V.str)) → H' p = some (.tup [.ref l, .int (fin s ws)]) → Q (.ref p) H'
theorem ok_falls {f : Addr} {fd : FuncData} (F : Fun K "falls" "falls" s_falls f fd) (Z : Bl mg) (G_fall : Kn P w K mg base "fall" P_fall LV_fall sp_fall) : FnOk P w K mg base CX0 LV_falls f fd P_falls sp_falls := by
  refine F.ok sc_falls (fun vs H Q E h => ?_) (fun cdv A outer s H vs Q E hr h => ?_)
  · obtain ⟨s, u, ws, rfl, _⟩ := h
    rfl
  obtain ⟨s, u, ws, rfl, eu, hlen, q⟩ := h
  refine ⟨_, (pss_cons (ps_set (i := 2) sc_falls.nd rfl (Or.inl rfl) (pe_lstN pa_nil))
    (pss_cons (ps_set (i := 3) sc_falls.nd rfl (Or.inl rfl) (pv 0))
    (pss_cons (ps_for PassesOwn.never rfl (pi_tup (pv 1)) (pg_name (i := 4) sc_falls.nd rfl (Or.inl rfl))
    (pss_cons (ps_asg (pe_own G_fall (hr.mono (by decide)) (by rfl) (pa_cons (pv 3) (pa_cons (pv 4) pa_nil))) (pg_tup rfl (pgs_cons (pg_name (i := 5) sc_falls.nd rfl (Or.inl rfl)) (pgs_cons (pg_name (i := 3) sc_falls.nd rfl (Or.inl rfl)) pgs_nil))))
    (pss_one (ps_expr (pe_bm PySem.F.plainAttrs_list PySem.F.slot_list_append PySem.F.type_list_append mt_append (pv 2) (pa_cons (pv 5) pa_nil))))))
    (pss_one (ps_ret (pe_tupN (pa_cons (pv 2) (pa_cons (pv 3) pa_nil)))))))), ?_⟩
  refine ⟨Nat.zero_le _, fun l H1 nl S1 e1 => ?_⟩
  have eu1 := S1 _ _ eu
  refine ⟨.int s, rfl, .ref u, rfl, u, rfl, ⟨_, SqT.of eu1⟩, for_tup (K := K) (a := u) (xs := ws.map V.int) (fun i σ H' => (∃ y4 y5, σ = [some (.int s), some (.ref u), some (.ref l), some (.int (fin s (ws.take i))), y4, y5]) ∧ Same H H' ∧ H' u = some (.tup (ws.map V.int)) ∧ H' l = some (.lst ((sds s (ws.take i)).map V.str)))
    ⟨⟨none, none, rfl⟩, S1, eu1, e1⟩ (fun i σ H' _ hP => SqT.of hP.2.2.1) (fun i x σ H' hx hP => ?_) (fun σ H' hP => ?_)⟩
  · obtain ⟨⟨y4, y5, rfl⟩, S, eu', el⟩ := hP
    obtain ⟨m, _, rfl, hm⟩ := item_int hx
    have hi : i < ws.length := (List.getElem?_eq_some_iff.mp hm).1
    refine ⟨_, rfl, .int m, rfl, _, m, rfl, fun p H2 np S2 e2 => ?_⟩
    refine ⟨p, _, rfl, SqT.of e2, rfl, _, _, rfl, _, _, rfl, rfl, ?_⟩
    have el2 := S2 _ _ el
    refine ⟨.ref l, rfl, .inl ⟨rfl, _, SqL.of el2⟩, _, rfl, l, _, _, rfl, rfl, el2, szl (by rw [List.length_map, sds_len, List.length_take]; omega), ?_⟩
    have et : ws.take (i + 1) = ws.take i ++ [m] := by rw [List.take_add_one, hm]; rfl
    rw [et, fin_snoc, sds_snoc, List.map_append]
    have nlu : u ≠ l := ne_of eu' el (fun z => nomatch z)
    refine ⟨⟨_, _, rfl⟩, Same.of_upd (S.trans S2) nl, ?_, upd_same⟩
    rw [upd_ne nlu]
    exact S2 _ _ eu'
  · obtain ⟨⟨y4, y5, rfl⟩, S, eu', el⟩ := hP
    rw [List.length_map, List.take_length] at *
    refine ⟨_, rfl, _, rfl, (by show 2 ≤ sizeLine; decide), fun p H2 np S2 e2 => ?_⟩
    have el2 := S2 _ _ el
    exact q p l H2 (S.free np) nl (ne_of e2 el2 (fun z => nomatch z)) (S.trans S2) el2 e2
abbrev LV_spots : Nat := 1
def sp_spots : Sp := fun vs H Q _ => ∃ (p : Addr) (f l : Int), vs = [.ref p] ∧ H p = some (.tup [.int f, .int l]) ∧ Q (.int ((l - f) / 2 + 1)) H
theorem ok_spots {f : Addr} {fd : FuncData} (F : Fun K "spots" "spots" s_spots f fd) (Z : Bl mg) : FnOk P w K mg base CX0 LV_spots f fd P_spots sp_spots := by
  refine F.ok sc_spots (fun vs H Q E h => ?_) (fun cdv A outer s H vs Q E hr h => ?_)
  · obtain ⟨p, f, l, rfl, _⟩ := h
    rfl
  obtain ⟨p, f, l, rfl, e, q⟩ := h
  refine ⟨_, (pss_cons (ps_asg (pv 0) (pg_tup rfl (pgs_cons (pg_name (i := 1) sc_spots.nd rfl (Or.inl rfl)) (pgs_cons (pg_name (i := 2) sc_spots.nd rfl (Or.inl rfl)) pgs_nil))))
    (pss_one (ps_ret (pe_op op_add (pe_op op_fdivW (pe_op op_sub (pv 2) (pv 1)) pe_int) pe_int)))), ?_⟩
  exact ⟨.ref p, rfl, p, _, rfl, SqT.of e, rfl, _, _, rfl, _, _, rfl, rfl, _, rfl, _, rfl, _, _, rfl, rfl, _, _, rfl, rfl, wide_div (b := 62) (by decide) (by decide) (by decide) (by decide), _, _, rfl, rfl, q⟩
abbrev LV_parts : Nat := 1
def sp_parts : Sp := fun vs H Q _ => ∃ (p : Addr) (f l m : Int), vs = [.ref p, .int m] ∧ H p = some (.tup [.int f, .int l]) ∧ Q (.bl (decide (f < 2 * m ∧ 2 * m < l))) H
theorem ok_parts {f : Addr} {fd : FuncData} (F : Fun K "parts" "parts" s_parts f fd) (Z : Bl mg) : FnOk P w K mg base CX0 LV_parts f fd P_parts sp_parts := by
  refine F.ok sc_parts (fun vs H Q E h => ?_) (fun cdv A outer s H vs Q E hr h => ?_)
  · obtain ⟨p, f, l, m, rfl, _⟩ := h
    rfl
  obtain ⟨p, f, l, m, rfl, e, q⟩ := h
  refine ⟨_, (pss_cons (ps_asg (pv 0) (pg_tup rfl (pgs_cons (pg_name (i := 2) sc_parts.nd rfl (Or.inl rfl)) (pgs_cons (pg_name (i := 3) sc_parts.nd rfl (Or.inl rfl)) pgs_nil))))
    (pss_one (ps_ret (pe_chain op_lt op_lt (pv 2) (pe_op op_mul pe_int (pv 1)) (pv 3))))), ?_⟩
  refine ⟨.ref p, rfl, p, _, rfl, SqT.of e, rfl, _, _, rfl, _, _, rfl, rfl, .int f, rfl, .int m, rfl, _, _, rfl, rfl, .inl ⟨by decide, by decide⟩, _, _, rfl, rfl, _, rfl, ite2 (fun c => ?_) (fun c => ?_)⟩
  · refine ⟨.int l, rfl, _, _, rfl, rfl, ?_⟩
    have c1 := of_decide_eq_true c
    have e2 : decide (f < 2 * m ∧ 2 * m < l) = decide (2 * m < l) := by
      by_cases h : 2 * m < l
      · rw [decide_eq_true h, decide_eq_true ⟨c1, h⟩]
      · rw [decide_eq_false h, decide_eq_false fun z => h z.2]
    rw [e2] at q
    exact q
  · have c1 : ¬ f < 2 * m := fun z => c (decide_eq_true z)
    rw [decide_eq_false fun z => c1 z.1] at q
    exact q
abbrev LV_folded : Nat := 2
def sp_folded : Sp := fun vs H Q _ => ∃ (p : Addr) (f l m : Int), vs = [.ref p, .int m] ∧ H p = some (.tup [.int f, .int l]) ∧
  ∀ (p' : Addr) (H' : Hp), H p' = none → Same H H' → H' p' = some (.tup [.int (fo f l m).1, .int (fo f l m).2]) → Q (.ref p') H'
theorem ok_folded {f : Addr} {fd : FuncData} (F : Fun K "folded" "folded" s_folded f fd) (Z : Bl mg) (G_parts : Kn P w K mg base "parts" P_parts LV_parts sp_parts) : FnOk P w K mg base CX0 LV_folded f fd P_folded sp_folded := by
  refine F.ok sc_folded (fun vs H Q E h => ?_) (fun cdv A outer s H vs Q E hr h => ?_)
  · obtain ⟨p, f, l, m, rfl, _⟩ := h
    rfl
  obtain ⟨p, f, l, m, rfl, e, q⟩ := h
  refine ⟨_, (pss_cons (ps_asg (pv 0) (pg_tup rfl (pgs_cons (pg_name (i := 2) sc_folded.nd rfl (Or.inl rfl)) (pgs_cons (pg_name (i := 3) sc_folded.nd rfl (Or.inl rfl)) pgs_nil))))
    (pss_cons (ps_set (i := 4) sc_folded.nd rfl (Or.inl rfl) (pe_op op_mul pe_int (pv 1)))
    (pss_cons (ps_if (pt_val (pe_own G_parts (hr.mono (by decide)) (by rfl) (pa_cons (pv 0) (pa_cons (pv 1) pa_nil)))) (pss_one (ps_ret (pe_tupN (pa_cons pe_int (pa_cons (pe_callB (call_max2 rfl) (by rfl) Z.max (by decide +kernel) (pa_cons (pe_op op_sub (pv 4) (pv 2)) (pa_cons (pe_op op_sub (pv 3) (pv 4)) pa_nil))) pa_nil))))) pss_nil)
    (pss_cons (ps_if (pt_cmpR op_lt (pv 4) (pv 2) (nomark _)) (pss_one (ps_ret (pe_tupN (pa_cons (pe_op op_sub (pv 2) (pv 4)) (pa_cons (pe_op op_sub (pv 3) (pv 4)) pa_nil))))) pss_nil)
    (pss_one (ps_ret (pe_tupN (pa_cons (pe_op op_sub (pv 4) (pv 3)) (pa_cons (pe_op op_sub (pv 4) (pv 2)) pa_nil))))))))), ?_⟩
  refine ⟨.ref p, rfl, p, _, rfl, SqT.of e, rfl, _, _, rfl, _, _, rfl, rfl, .int m, rfl, _, _, rfl, rfl, .inl ⟨by decide, by decide⟩, .ref p, rfl, .int m, rfl, p, f, l, m, rfl, e, _, rfl, ite2 (fun c => ?_) (fun c => ?_)⟩
  · have c1 := of_decide_eq_true c
    refine ⟨_, rfl, .int f, rfl, _, _, rfl, rfl, .int l, rfl, _, rfl, _, _, rfl, rfl, _, _, rfl, (by show 2 ≤ sizeLine; decide), fun p' H' np S e' => q p' H' np S ?_⟩
    unfold fo
    rw [if_pos c1]
    exact e'
  · have c1 : ¬ (f < 2 * m ∧ 2 * m < l) := fun z => c (decide_eq_true z)
    refine ⟨_, rfl, .int f, rfl, _, _, rfl, rfl, _, rfl, ite2 (fun d => ?_) (fun d => ?_)⟩
    · have d1 := of_decide_eq_true d
      refine ⟨.int f, rfl, _, rfl, _, _, rfl, rfl, .int l, rfl, _, rfl, _, _, rfl, rfl, (by show 2 ≤ sizeLine; decide), fun p' H' np S e' => q p' H' np S ?_⟩
      unfold fo
      rw [if_neg c1, if_pos d1]
      exact e'
    · have d1 : ¬ 2 * m < f := fun z => d (decide_eq_true z)
      refine ⟨_, rfl, .int l, rfl, _, _, rfl, rfl, _, rfl, .int f, rfl, _, _, rfl, rfl, (by show 2 ≤ sizeLine; decide), fun p' H' np S e' => q p' H' np S ?_⟩
      unfold fo
      rw [if_neg c1, if_neg d1]
      exact e'
abbrev LV_behind : Nat := 3
def sp_behind : Sp := fun vs H Q _ => ∃ (p q : Addr) (r : Int × Int) (ws : List Int), vs = [.ref p, .ref q] ∧ H p = some (.tup [.int r.1, .int r.2]) ∧ H q = some (.tup (ws.map V.int)) ∧
  ∀ (p' : Addr) (H' : Hp), Same H H' → H' p' = some (.tup [.int (be r ws).1, .int (be r ws).2]) → Q (.ref p') H'
theorem ok_behind {f : Addr} {fd : FuncData} (F : Fun K "behind" "behind" s_behind f fd) (Z : Bl mg) (G_folded : Kn P w K mg base "folded" P_folded LV_folded sp_folded) : FnOk P w K mg base CX0 LV_behind f fd P_behind sp_behind := by
  refine F.ok sc_behind (fun vs H Q E h => ?_) (fun cdv A outer s H vs Q E hr h => ?_)
  · obtain ⟨p, q, r, ws, rfl, _⟩ := h
    rfl
  obtain ⟨p, u, r, ws, rfl, e, eu, q⟩ := h
  refine ⟨_, (pss_cons (ps_set (i := 2) sc_behind.nd rfl (Or.inl rfl) (pv 0))
    (pss_cons (ps_for PassesOwn.never rfl (pi_tup (pv 1)) (pg_name (i := 3) sc_behind.nd rfl (Or.inl rfl))
    (pss_one (ps_set (i := 2) sc_behind.nd rfl (Or.inl rfl) (pe_own G_folded (hr.mono (by decide)) (by rfl) (pa_cons (pv 2) (pa_cons (pv 3) pa_nil))))))
    (pss_one (ps_ret (pv 2))))), ?_⟩
  refine ⟨.ref p, rfl, .ref u, rfl, u, rfl, ⟨_, SqT.of eu⟩, for_tup (K := K) (a := u) (xs := ws.map V.int) (fun i σ H' => ∃ p' y, σ = [some (.ref p), some (.ref u), some (.ref p'), y] ∧ Same H H' ∧ H' p' = some (.tup [.int (be r (ws.take i)).1, .int (be r (ws.take i)).2]))
    ⟨p, none, rfl, Same.refl _, e⟩ (fun i σ H' _ hP => ?_) (fun i x σ H' hx hP => ?_) (fun σ H' hP => ?_)⟩
  · obtain ⟨_, _, _, S, _⟩ := hP
    exact SqT.of (S _ _ eu)
  · obtain ⟨p', y, rfl, S, e'⟩ := hP
    obtain ⟨m, _, rfl, hm⟩ := item_int hx
    refine ⟨.ref p', rfl, .int m, rfl, p', _, _, m, rfl, e', fun p2 H2 np S2 e2 => ?_⟩
    refine ⟨p2, _, rfl, S.trans S2, ?_⟩
    rw [List.take_add_one, hm]
    show H2 p2 = some (.tup [.int (be r (ws.take i ++ [m])).1, .int (be r (ws.take i ++ [m])).2])
    rw [be_snoc]
    exact e2
  · obtain ⟨p', y, rfl, S, e'⟩ := hP
    rw [List.length_map, List.take_length] at e'
    exact ⟨_, rfl, q p' H' S e'⟩
abbrev LV_is_within : Nat := 1
def sp_is_within : Sp := fun vs H Q _ => ∃ (p u : Addr) (a b c d : Int), vs = [.ref p, .ref u] ∧ H p = some (.tup [.int a, .int b]) ∧ H u = some (.tup [.int c, .int d]) ∧ Q (.bl (decide (c ≤ a ∧ b ≤ d))) H
theorem ok_is_within {f : Addr} {fd : FuncData} (F : Fun K "is_within" "is_within" s_is_within f fd) (Z : Bl mg) : FnOk P w K mg base CX0 LV_is_within f fd P_is_within sp_is_within := by
  refine F.ok sc_is_within (fun vs H Q E h => ?_) (fun cdv A outer s H vs Q E hr h => ?_)
  · obtain ⟨p, u, a, b, c, d, rfl, _⟩ := h
    rfl
  obtain ⟨p, u, a, b, c, d, rfl, ep, eu, q⟩ := h
  refine ⟨_, (pss_one (ps_ret (pe_and (pe_cmpR op_le (pe_ix (ixs (K := K)) (pv 1) pe_int (fun _ _ => rfl)) (pe_ix (ixs (K := K)) (pv 0) pe_int (fun _ _ => rfl)) (nomark _)) (pe_one (pe_cmpR op_le (pe_ix (ixs (K := K)) (pv 0) pe_int (fun _ _ => rfl)) (pe_ix (ixs (K := K)) (pv 1) pe_int (fun _ _ => rfl)) (nomark _)))))), ?_⟩
  refine ⟨.ref u, rfl, .inr (.inl ⟨u, _, 0, _, rfl, rfl, SqT.of eu, rfl, .ref p, rfl, .inr (.inl ⟨p, _, 0, _, rfl, rfl, SqT.of ep, rfl, _, _, rfl, rfl, _, rfl, ite2 (fun k => ?_) (fun k => ?_)⟩)⟩)⟩
  · have k1 := of_decide_eq_true k
    refine ⟨.ref p, rfl, .inr (.inl ⟨p, _, 1, _, rfl, rfl, SqT.of ep, rfl, .ref u, rfl, .inr (.inl ⟨u, _, 1, _, rfl, rfl, SqT.of eu, rfl, _, _, rfl, rfl, ?_⟩)⟩)⟩
    have e : decide (c ≤ a ∧ b ≤ d) = decide (b ≤ d) := decide_eq_decide.mpr ⟨fun z => z.2, fun z => ⟨k1, z⟩⟩
    rw [e] at q
    exact q
  · have k1 : ¬ c ≤ a := fun z => k (decide_eq_true z)
    rw [decide_eq_false fun z => k1 z.1] at q
    exact q
abbrev LV_is_size_in : Nat := 2
def sp_is_size_in : Sp := fun vs H Q _ => ∃ (s : Int) (p : Addr) (r : Int × Int), vs = [.int s, .ref p] ∧ H p = some (.tup [.int r.1, .int r.2]) ∧ ∀ H', Same H H' → Q (.bl (decide (r.1 ≤ szz s ∧ szz s ≤ r.2))) H'
theorem ok_is_size_in {f : Addr} {fd : FuncData} (F : Fun K "is_size_in" "is_size_in" s_is_size_in f fd) (Z : Bl mg) (G_is_within : Kn P w K mg base "is_within" P_is_within LV_is_within sp_is_within) : FnOk P w K mg base CX0 LV_is_size_in f fd P_is_size_in sp_is_size_in := by
  refine F.ok sc_is_size_in (fun vs H Q E h => ?_) (fun cdv A outer s H vs Q E hr h => ?_)
  · obtain ⟨s, p, r, rfl, _⟩ := h
    rfl
  obtain ⟨s, p, r, rfl, ep, q⟩ := h
  refine ⟨_, (pss_cons (ps_set (i := 2) sc_is_size_in.nd rfl (Or.inl rfl) (pe_callB call_abs (by rfl) Z.abs (by decide +kernel) (pa_cons (pv 0) pa_nil)))
    (pss_one (ps_ret (pe_own G_is_within (hr.mono (by decide)) (by rfl) (pa_cons (pe_tupN (pa_cons (pv 2) (pa_cons (pv 2) pa_nil))) (pa_cons (pv 1) pa_nil)))))), ?_⟩
  refine ⟨.int s, rfl, _, rfl, _, rfl, _, rfl, (by show 2 ≤ sizeLine; decide), fun p1 H1 np1 S1 e1 => ?_⟩
  exact ⟨.ref p, rfl, p1, p, szz s, szz s, r.1, r.2, rfl, e1, S1 _ _ ep, q H1 S1⟩
abbrev LV_runs_to : Nat := 4
def sp_runs_to : Sp := fun vs H Q _ => ∃ (u : Addr) (ws : List Int), vs = [.ref u] ∧ GoodW ws ∧ WOk ws ∧ H u = some (.tup (ws.map V.int)) ∧ mx ws < 40000 ∧
  ∀ (l : Addr) (us : List V) (H' : Hp), H l = none → Same H H' → H' l = some (.lst us) → DtA H' 1 us (rnD ws (stN ws)) → Q (.ref l) H'
theorem ok_runs_to {f : Addr} {fd : FuncData} (F : Fun K "runs_to" "runs_to" s_runs_to f fd) (Z : Bl mg) (G_behind : Kn P w K mg base "behind" P_behind LV_behind sp_behind) : FnOk P w K mg base CX0 LV_runs_to f fd P_runs_to sp_runs_to := by
  refine F.ok sc_runs_to (fun vs H Q E h => ?_) (fun cdv A outer s H vs Q E hr h => ?_)
  · obtain ⟨u, ws, rfl, _⟩ := h
    rfl
  obtain ⟨u, ws, rfl, g, wk, eu, hmx, q⟩ := h
  refine ⟨_, (pss_cons (ps_set (i := 1) sc_runs_to.nd rfl (Or.inl rfl) (pe_tupN (pa_cons pe_int (pa_cons (pe_op op_sub (pe_op op_mul pe_int (pe_callB (cr_maxT (K := K) rfl) (by rfl) Z.max (by decide +kernel) (pa_cons (pv 0) pa_nil))) pe_int) pa_nil))))
    (pss_cons (ps_set (i := 2) sc_runs_to.nd rfl (Or.inl rfl) (pe_lstN (pa_cons (pv 1) pa_nil)))
    (pss_cons (ps_set (i := 3) sc_runs_to.nd rfl (Or.inl rfl) (pe_own G_behind (hr.mono (by decide)) (by rfl) (pa_cons (pv 1) (pa_cons (pv 0) pa_nil))))
    (pss_cons (ps_while PassesOwn.never (pt_cmpR (neD (K := K) hr.units) (pv 3) (pv 1) (nomark _))
    (pss_cons (ps_expr (pe_bm PySem.F.plainAttrs_list PySem.F.slot_list_append PySem.F.type_list_append mt_append (pv 2) (pa_cons (pv 3) pa_nil)))
    (pss_cons (ps_set (i := 1) sc_runs_to.nd rfl (Or.inl rfl) (pv 3))
    (pss_one (ps_set (i := 3) sc_runs_to.nd rfl (Or.inl rfl) (pe_own G_behind (hr.mono (by decide)) (by rfl) (pa_cons (pv 1) (pa_cons (pv 0) pa_nil))))))))
    (pss_one (ps_ret (pv 2))))))), ?_⟩
  refine ⟨.ref u, rfl, u, ws, rfl, SqT.of eu, List.length_pos_iff.mpr g.1, fun m hm1 hm2 => ?_⟩
  have em := mx_is g hm1 hm2
  subst em
  refine ⟨_, _, rfl, rfl, .inl ⟨by decide, by decide⟩, _, _, rfl, rfl, (by show 2 ≤ sizeLine; decide), fun p1 H1 np1 S1 e1 => ?_⟩
  refine ⟨.ref p1, rfl, (by show 1 ≤ sizeLine; decide), fun l H2 nl S2 el => ?_⟩
  refine ⟨.ref p1, rfl, .ref u, rfl, p1, u, rn ws 0, ws, rfl, S2 _ _ e1, S2 _ _ (S1 _ _ eu), fun p3 H3 S3 e3 => ?_⟩
  refine ⟨fun m σ H' => ∃ (i : Nat) (pn pm : Addr) (us : List V), σ = [some (.ref u), some (.ref pn), some (.ref l), some (.ref pm)] ∧ m = rw_ ws i ∧ (∀ j, j < i → rn ws (j + 1) ≠ rn ws j) ∧ Same H H' ∧ H' pn = some (.tup [.int (rn ws i).1, .int (rn ws i).2]) ∧ H' pm = some (.tup [.int (rn ws (i + 1)).1, .int (rn ws (i + 1)).2]) ∧ H' l = some (.lst us) ∧ DtA H' 1 us (rnD ws i) ∧ i + rw_ ws i ≤ 80000,
    ⟨_, 0, p1, p3, [.ref p1], rfl, rfl, (fun j hj => absurd hj (Nat.not_lt_zero _)), S1.trans (S2.trans S3), S3 _ _ (S2 _ _ e1), e3, S3 _ _ el, .cons (dtRun (S3 _ _ (S2 _ _ e1))) .nil, ?_⟩, fun m σ H' hW => ?_⟩
  · have := mx_pos g
    show 0 + ((2 * mx ws - 1) - 1).toNat ≤ 80000
    omega
  obtain ⟨i, pn, pm, us, rfl, rfl, hlt, S, en, em, el', hD, hb⟩ := hW
  refine ⟨.ref pm, rfl, .ref pn, rfl, runD (rn ws (i + 1)), runD (rn ws i), .tup (SqT.of em) (.cons (.int _) (.cons (.int _) .nil)), .tup (SqT.of en) (.cons (.int _) (.cons (.int _) .nil)), Sh.ok (n := 1) (.tup (.cons (.int _) (.cons (.int _) .nil))), Sh.ok (n := 1) (.tup (.cons (.int _) (.cons (.int _) .nil))), _, rfl, ?_⟩
  rw [eqv_run]
  by_cases c : rn ws (i + 1) = rn ws i
  · refine iteNS c ?_
    have hi : i = stN ws := last_is g ⟨c, hlt⟩
    subst hi
    have nlH : H l = none := S1.free nl
    exact ⟨_, rfl, q l us H' nlH S el' hD⟩
  · refine iteN c ?_
    have dec := rw_lt g c
    have S0 := S
    refine ⟨fun σ2 H2 => ∃ (pn pm : Addr) (us : List V), σ2 = [some (.ref u), some (.ref pn), some (.ref l), some (.ref pm)] ∧ Same H H2 ∧ H2 pn = some (.tup [.int (rn ws (i + 1)).1, .int (rn ws (i + 1)).2]) ∧ H2 pm = some (.tup [.int (rn ws (i + 2)).1, .int (rn ws (i + 2)).2]) ∧ H2 l = some (.lst us) ∧ DtA H2 1 us (rnD ws (i + 1)), fun σ2 H2 hN => ?_, ?_⟩
    · obtain ⟨pn, pm, us, rfl, S, en, em, el', hD⟩ := hN
      refine ⟨_, dec, i + 1, pn, pm, us, rfl, rfl, fun j hj => ?_, S, en, em, el', hD, by omega⟩
      by_cases e : j = i
      · subst e
        exact c
      · exact hlt j (by omega)
    · have hlen : us.length = i + 1 := by
        rw [hD.len]
        unfold rnD
        rw [List.length_map, List.length_map, List.length_range]
      refine ⟨.ref l, rfl, .inl ⟨rfl, _, SqL.of el'⟩, .ref pm, rfl, l, _, _, rfl, rfl, el', szl (by omega), ?_⟩
      have npm : pm ≠ l := ne_of em el' (fun z => nomatch z)
      have nul : u ≠ l := ne_of (S _ _ eu) el' (fun z => nomatch z)
      have S4 : Same H (upd H' l (.lst (us ++ [.ref pm]))) := Same.of_upd S (S1.free nl)
      have em4 : upd H' l (.lst (us ++ [.ref pm])) pm = some (.tup [.int (rn ws (i + 1)).1, .int (rn ws (i + 1)).2]) := by
        rw [upd_ne npm]
        exact em
      have hD4 : DtA (upd H' l (.lst (us ++ [.ref pm]))) 1 (us ++ [.ref pm]) (rnD ws (i + 1)) := by
        rw [rnD_succ]
        exact dtA_snoc (dtRuns_upd el' _ hD) (dtRun em4)
      have el4 : upd H' l (.lst (us ++ [.ref pm])) l = some (.lst (us ++ [.ref pm])) := upd_same
      generalize upd H' l (.lst (us ++ [.ref pm])) = H4 at S4 em4 hD4 el4 ⊢
      refine ⟨.ref pm, rfl, .ref pm, rfl, .ref u, rfl, pm, u, rn ws (i + 1), ws, rfl, em4, S4 _ _ eu, fun p5 H5 S5 e5 => ?_⟩
      exact ⟨pm, p5, us ++ [.ref pm], rfl, S4.trans S5, S5 _ _ em4, e5, S5 _ _ el4, hD4.same S5⟩
abbrev LV_staying : Nat := 5
def sp_staying : Sp := fun vs H Q _ => ∃ (u : Addr) (ws : List Int), vs = [.ref u] ∧ GoodW ws ∧ WOk ws ∧ H u = some (.tup (ws.map V.int)) ∧ mx ws < 40000 ∧
  ∀ (p : Addr) (H' : Hp), Same H H' → H' p = some (.tup [.int (stS ws).1, .int (stS ws).2]) → Q (.ref p) H'
theorem ok_staying {f : Addr} {fd : FuncData} (F : Fun K "staying" "staying" s_staying f fd) (Z : Bl mg) (G_runs_to : Kn P w K mg base "runs_to" P_runs_to LV_runs_to sp_runs_to) : FnOk P w K mg base CX0 LV_staying f fd P_staying sp_staying := by
  refine F.ok sc_staying (fun vs H Q E h => ?_) (fun cdv A outer s H vs Q E hr h => ?_)
  · obtain ⟨u, ws, rfl, _⟩ := h
    rfl
  obtain ⟨u, ws, rfl, g, wk, eu, hmx, q⟩ := h
  refine ⟨_, (pss_one (ps_ret (pe_ix (ixs (K := K)) (pe_own G_runs_to (hr.mono (by decide)) (by rfl) (pa_cons (pv 0) pa_nil)) (pe_un un_neg pe_int) (fun _ _ => rfl)))), ?_⟩
  refine ⟨.ref u, rfl, u, ws, rfl, g, wk, eu, hmx, fun l us H1 nl S1 el hD => ?_⟩
  have hl : ∃ vs v, us = vs ++ [v] ∧ ∃ p, v = .ref p ∧ H1 p = some (.tup [.int (stS ws).1, .int (stS ws).2]) := by
    have hD' : DtA H1 1 us (((List.range (stN ws)).map (rn ws)).map runD ++ [runD (rn ws (stN ws))]) := by
      have e : rnD ws (stN ws) = ((List.range (stN ws)).map (rn ws)).map runD ++ [runD (rn ws (stN ws))] := by
        unfold rnD
        rw [List.range_succ, List.map_append, List.map_append]
        rfl
      rw [← e]
      exact hD
    obtain ⟨vs, v, e, _, k⟩ := dtA_last hD'
    exact ⟨vs, v, e, dtRun_get k⟩
  obtain ⟨vs, v, rfl, p, rfl, ep⟩ := hl
  exact ⟨_, rfl, .inl ⟨l, _, -1, _, rfl, rfl, SqL.of el, atI_last _ _, q p H1 S1 ep⟩⟩
abbrev LV_length : Nat := 6
def sp_length : Sp := fun vs H Q _ => ∃ (u : Addr) (ws : List Int), vs = [.ref u] ∧ WOk ws ∧ H u = some (.tup (ws.map V.int)) ∧ mx ws < 40000 ∧
  ∀ (H' : Hp), Same H H' → Q (.int (lenOf ws)) H'
theorem ok_length {f : Addr} {fd : FuncData} (F : Fun K "length" "length" s_length f fd) (Z : Bl mg) (G_falls : Kn P w K mg base "falls" P_falls LV_falls sp_falls) (G_staying : Kn P w K mg base "staying" P_staying LV_staying sp_staying) : FnOk P w K mg base CX0 LV_length f fd P_length sp_length := by
  refine F.ok sc_length (fun vs H Q E h => ?_) (fun cdv A outer s H vs Q E hr h => ?_)
  · obtain ⟨u, ws, rfl, _⟩ := h
    rfl
  obtain ⟨u, ws, rfl, wk, eu, hmx, q⟩ := h
  refine ⟨_, (pss_cons (ps_if (pt_not (pt_truth (pv 0) (by intro _; rfl))) (pss_one (ps_ret pe_int)) pss_nil)
    (pss_cons (ps_set (i := 1) sc_length.nd rfl (Or.inl rfl) (pe_ix (ixs (K := K)) (pe_own G_staying (hr.mono (by decide)) (by rfl) (pa_cons (pv 0) pa_nil)) pe_int (fun _ _ => rfl)))
    (pss_cons (ps_if (pt_cmpR op_eq (pe_ix (ixs (K := K)) (pe_own G_falls (hr.mono (by decide)) (by rfl) (pa_cons (pv 1) (pa_cons (pv 0) pa_nil))) pe_int (fun _ _ => rfl)) (pv 1) (nomark _)) (pss_one (ps_ret pe_int)) pss_nil)
    (pss_one (ps_ret pe_int))))), ?_⟩
  refine ⟨.ref u, rfl, !(ws.map V.int).isEmpty, .inr (.inl ⟨_, SqT.of eu, rfl⟩), ?_⟩
  by_cases c : ws = []
  · subst c
    have e : lenOf [] = 1 := if_pos rfl
    rw [e] at q
    exact q H (Same.refl _)
  · have e : lenOf ws = lenW ws := if_neg c
    have ee : (ws.map V.int).isEmpty = false := by
      cases ws with
      | nil => exact absurd rfl c
      | cons x xs => rfl
    rw [ee]
    have g := wk.good c
    refine ⟨.ref u, rfl, u, ws, rfl, g, wk, eu, hmx, fun p1 H1 S1 e1 => ?_⟩
    refine .inr (.inl ⟨p1, _, 0, _, rfl, rfl, SqT.of e1, rfl, ?_⟩)
    refine ⟨_, rfl, .ref u, rfl, (stS ws).1, u, ws, rfl, S1 _ _ eu, wk.2.1, fun p2 l2 H2 np2 nl2 n2 S2 el2 ep2 => ?_⟩
    refine .inr (.inl ⟨p2, _, 1, _, rfl, rfl, SqT.of ep2, rfl, _, rfl, rfl, _, rfl, ite2 (fun k => ?_) (fun k => ?_)⟩)
    · have k1 : fin (stS ws).1 ws = (stS ws).1 := V.int.inj (of_decide_eq_true k)
      have e2 : lenW ws = 1 := if_pos k1
      rw [e, e2] at q
      exact q H2 (S1.trans S2)
    · have k1 : ¬ fin (stS ws).1 ws = (stS ws).1 := fun z => k (decide_eq_true (congrArg V.int z))
      have e2 : lenW ws = 2 := if_neg k1
      rw [e, e2] at q
      exact q H2 (S1.trans S2)
abbrev LV_far_rounds : Nat := 1
def sp_far_rounds : Sp := fun vs H Q _ => ∃ (s : Int) (u : Addr) (ws : List Int), vs = [.int s, .ref u] ∧ GoodW ws ∧ WOk ws ∧ H u = some (.tup (ws.map V.int)) ∧ Q (.int (far ws s)) H
theorem ok_far_rounds {f : Addr} {fd : FuncData} (F : Fun K "far_rounds" "far_rounds" s_far_rounds f fd) (Z : Bl mg) : FnOk P w K mg base CX0 LV_far_rounds f fd P_far_rounds sp_far_rounds := by
  refine F.ok sc_far_rounds (fun vs H Q E h => ?_) (fun cdv A outer s H vs Q E hr h => ?_)
  · obtain ⟨s, u, ws, rfl, _⟩ := h
    rfl
  obtain ⟨s, u, ws, rfl, g, wk, eu, q⟩ := h
  refine ⟨_, (pss_one (ps_ret (pe_op op_fdivW (pe_op op_sub (pe_callB call_abs (by rfl) Z.abs (by decide +kernel) (pa_cons (pv 0) pa_nil)) pe_int) (pe_op op_mul pe_int (pe_callB (cr_sumT (K := K) rfl) (by rfl) Z.sum (by decide +kernel) (pa_cons (pv 1) pa_nil)))))), ?_⟩
  have sp : 0 < 2 * ws.sum := by
    have := sum_pos ws g.2
    have : 0 < ws.length := List.length_pos_iff.mpr g.1
    omega
  have := wk.2.2
  exact ⟨.int s, rfl, _, rfl, _, _, rfl, rfl, .ref u, rfl, u, ws, rfl, SqT.of eu, _, _, rfl, rfl, .inl ⟨by decide, by decide⟩, _, _, rfl, rfl, wide_div (b := 62) sp (by omega) (by decide) (by decide), q⟩
abbrev LV_drawn_near : Nat := 1
def sp_drawn_near : Sp := fun vs H Q _ => ∃ (s : Int) (u : Addr) (ws : List Int) (n : Int), vs = [.int s, .ref u, .int n] ∧ GoodW ws ∧ WOk ws ∧ H u = some (.tup (ws.map V.int)) ∧ Q (.int (dn ws s n)) H
theorem ok_drawn_near {f : Addr} {fd : FuncData} (F : Fun K "drawn_near" "drawn_near" s_drawn_near f fd) (Z : Bl mg) : FnOk P w K mg base CX0 LV_drawn_near f fd P_drawn_near sp_drawn_near := by
  refine F.ok sc_drawn_near (fun vs H Q E h => ?_) (fun cdv A outer s H vs Q E hr h => ?_)
  · obtain ⟨s, u, ws, n, rfl, _⟩ := h
    rfl
  obtain ⟨s, u, ws, n, rfl, g, wk, eu, q⟩ := h
  refine ⟨_, (pss_cons (ps_set (i := 3) sc_drawn_near.nd rfl (Or.inl rfl) (pe_op op_mul (pe_op op_mul pe_int (pe_callB (cr_sumT (K := K) rfl) (by rfl) Z.sum (by decide +kernel) (pa_cons (pv 1) pa_nil))) (pv 2)))
    (pss_cons (ps_if (pt_cmpR op_lt (pv 0) pe_int (nomark _)) (pss_one (ps_ret (pe_op op_add (pv 0) (pv 3)))) pss_nil)
    (pss_one (ps_ret (pe_op op_sub (pv 0) (pv 3)))))), ?_⟩
  have := wk.2.2
  have := sum_nn ws g.2
  refine ⟨.ref u, rfl, u, ws, rfl, SqT.of eu, _, _, rfl, rfl, .inl ⟨by decide, by decide⟩, .int n, rfl, _, _, rfl, rfl, .inl ⟨by omega, by omega⟩, .int s, rfl, _, _, rfl, rfl, _, rfl, ite2 (fun c => ?_) (fun c => ?_)⟩
  · have e : dn ws s n = s + 2 * ws.sum * n := if_pos (of_decide_eq_true c)
    rw [e] at q
    exact ⟨_, rfl, _, rfl, _, _, rfl, rfl, q⟩
  · have e : dn ws s n = s - 2 * ws.sum * n := if_neg fun z => c (decide_eq_true z)
    rw [e] at q
    exact ⟨_, rfl, _, rfl, _, _, rfl, rfl, q⟩
abbrev LV_settled_from : Nat := 6
def sp_settled_from : Sp := fun vs H Q _ => ∃ (s : Int) (u : Addr) (ws : List Int), vs = [.int s, .ref u] ∧ s % 2 = 1 ∧ WOk ws ∧ H u = some (.tup (ws.map V.int)) ∧ mx ws < 40000 ∧
  ∀ (H' : Hp), Same H H' → Q (.int (setOf ws s)) H'
theorem ok_settled_from {f : Addr} {fd : FuncData} (F : Fun K "settled_from" "settled_from" s_settled_from f fd) (Z : Bl mg) (G_falls : Kn P w K mg base "falls" P_falls LV_falls sp_falls) (G_is_size_in : Kn P w K mg base "is_size_in" P_is_size_in LV_is_size_in sp_is_size_in) (G_staying : Kn P w K mg base "staying" P_staying LV_staying sp_staying) (G_far_rounds : Kn P w K mg base "far_rounds" P_far_rounds LV_far_rounds sp_far_rounds) (G_drawn_near : Kn P w K mg base "drawn_near" P_drawn_near LV_drawn_near sp_drawn_near) : FnOk P w K mg base CX0 LV_settled_from f fd P_settled_from sp_settled_from := by
  refine F.ok sc_settled_from (fun vs H Q E h => ?_) (fun cdv A outer s H vs Q E hr h => ?_)
  · obtain ⟨s, u, ws, rfl, _⟩ := h
    rfl
  obtain ⟨s, u, ws, rfl, ho, wk, eu, hmx, q⟩ := h
  refine ⟨_, (pss_cons (ps_if (pt_not (pt_truth (pv 1) (by intro _; rfl))) (pss_one (ps_ret pe_int)) pss_nil)
    (pss_cons (ps_set (i := 2) sc_settled_from.nd rfl (Or.inl rfl) (pe_own G_far_rounds (hr.mono (by decide)) (by rfl) (pa_cons (pv 0) (pa_cons (pv 1) pa_nil))))
    (pss_cons (ps_set (i := 3) sc_settled_from.nd rfl (Or.inl rfl) (pe_own G_drawn_near (hr.mono (by decide)) (by rfl) (pa_cons (pv 0) (pa_cons (pv 1) (pa_cons (pv 2) pa_nil)))))
    (pss_cons (ps_set (i := 4) sc_settled_from.nd rfl (Or.inl rfl) (pe_own G_staying (hr.mono (by decide)) (by rfl) (pa_cons (pv 1) pa_nil)))
    (pss_cons (ps_while PassesOwn.never (pt_not (pt_val (pe_own G_is_size_in (hr.mono (by decide)) (by rfl) (pa_cons (pv 3) (pa_cons (pv 4) pa_nil)))))
    (pss_cons (ps_set (i := 3) sc_settled_from.nd rfl (Or.inl rfl) (pe_ix (ixs (K := K)) (pe_own G_falls (hr.mono (by decide)) (by rfl) (pa_cons (pv 3) (pa_cons (pv 1) pa_nil))) pe_int (fun _ _ => rfl)))
    (pss_one (ps_aug (i := 2) sc_settled_from.nd rfl (Or.inl rfl) pe_int ip_add))))
    (pss_one (ps_ret (pv 2)))))))), ?_⟩
  refine ⟨.ref u, rfl, !(ws.map V.int).isEmpty, .inr (.inl ⟨_, SqT.of eu, rfl⟩), ?_⟩
  by_cases c : ws = []
  · subst c
    have e : setOf [] s = 0 := if_pos rfl
    rw [e] at q
    exact q H (Same.refl _)
  · have e : setOf ws s = setN ws s := if_neg c
    rw [e] at q
    have ee : (ws.map V.int).isEmpty = false := by
      cases ws with
      | nil => exact absurd rfl c
      | cons x xs => rfl
    rw [ee]
    have g := wk.good c
    have st := setN_is g ho
    have f0 := far_nn g ho
    refine ⟨.int s, rfl, .ref u, rfl, s, u, ws, rfl, g, wk, eu, ?_⟩
    refine ⟨.int s, rfl, .ref u, rfl, _, rfl, s, u, ws, far ws s, rfl, g, wk, eu, ?_⟩
    refine ⟨.ref u, rfl, u, ws, rfl, g, wk, eu, hmx, fun p1 H1 S1 e1 => ?_⟩
    have f1 := (itr_far g ho (far ws s).toNat (by omega)).1
    have ef : (((far ws s).toNat : Nat) : Int) = far ws s := by omega
    rw [ef] at f1
    have hle : (far ws s).toNat ≤ setN ws s := Nat.le_of_not_lt fun z => not_early g ho (by omega) st.1
    refine ⟨fun m σ H' => ∃ i : Nat, σ = [some (.int s), some (.ref u), some (.int i), some (.int (itr ws i s)), some (.ref p1)] ∧ m = setN ws s - i ∧ i ≤ setN ws s ∧ Same H1 H', ⟨_, (far ws s).toNat, ?_, rfl, hle, Same.refl _⟩, fun m σ H' hW => ?_⟩
    · rw [f1, ef]
      rfl
    obtain ⟨i, rfl, rfl, hi, S⟩ := hW
    refine ⟨_, rfl, .ref p1, rfl, itr ws i s, p1, stS ws, rfl, S _ _ e1, fun H2 S2 => ⟨_, rfl, ?_⟩⟩
    by_cases k : i = setN ws s
    · subst k
      rw [decide_eq_true (show (stS ws).1 ≤ szz (itr ws (setN ws s) s) ∧ szz (itr ws (setN ws s) s) ≤ (stS ws).2 from st.1)]
      exact ⟨_, rfl, q H2 (S1.trans (S.trans S2))⟩
    · have hlt : i < setN ws s := by omega
      rw [decide_eq_false (show ¬ ((stS ws).1 ≤ szz (itr ws i s) ∧ szz (itr ws i s) ≤ (stS ws).2) from st.2 i hlt)]
      refine ⟨fun σ2 H3 => σ2 = [some (.int s), some (.ref u), some (.int (i + 1 : Nat)), some (.int (itr ws (i + 1) s)), some (.ref p1)] ∧ Same H1 H3, fun σ2 H3 hN => ?_, ?_⟩
      · exact ⟨setN ws s - (i + 1), by omega, i + 1, hN.1, rfl, hlt, hN.2⟩
      · refine ⟨_, rfl, .ref u, rfl, itr ws i s, u, ws, rfl, S2 _ _ (S _ _ (S1 _ _ eu)), wk.2.1, fun p4 l4 H4 np4 nl4 n4 S4 el4 ep4 => ?_⟩
        refine .inr (.inl ⟨p4, _, 1, _, rfl, rfl, SqT.of ep4, rfl, ?_⟩)
        refine ⟨_, rfl, _, _, rfl, rfl, ?_, S.trans (S2.trans S4)⟩
        rw [itr_succ]
        rfl
abbrev LV_fewer_rounds : Nat := 7
def sp_fewer_rounds : Sp := fun vs H Q _ => ∃ (s : Int) (u : Addr) (ws : List Int) (n : Nat), vs = [.int s, .ref u, .int n] ∧ s % 2 = 1 ∧ GoodW ws ∧ WOk ws ∧ H u = some (.tup (ws.map V.int)) ∧ mx ws < 40000 ∧
  ∀ (k : Nat) (H' : Hp), k ≤ n → itr ws k s = itr ws n s → Same H H' → Q (.int k) H'
theorem ok_fewer_rounds {f : Addr} {fd : FuncData} (F : Fun K "fewer_rounds" "fewer_rounds" s_fewer_rounds f fd) (Z : Bl mg) (G_length : Kn P w K mg base "length" P_length LV_length sp_length) (G_settled_from : Kn P w K mg base "settled_from" P_settled_from LV_settled_from sp_settled_from) : FnOk P w K mg base CX0 LV_fewer_rounds f fd P_fewer_rounds sp_fewer_rounds := by
  refine F.ok sc_fewer_rounds (fun vs H Q E h => ?_) (fun cdv A outer s H vs Q E hr h => ?_)
  · obtain ⟨s, u, ws, n, rfl, _⟩ := h
    rfl
  obtain ⟨s, u, ws, n, rfl, ho, g, wk, eu, hmx, q⟩ := h
  refine ⟨_, (pss_cons (ps_set (i := 3) sc_fewer_rounds.nd rfl (Or.inl rfl) (pe_own G_settled_from (hr.mono (by decide)) (by rfl) (pa_cons (pv 0) (pa_cons (pv 1) pa_nil))))
    (pss_cons (ps_if (pt_cmpR op_le (pv 2) (pv 3) (nomark _)) (pss_one (ps_ret (pv 2))) pss_nil)
    (pss_one (ps_ret (pe_op op_add (pv 3) (pe_op op_mod (pe_op op_sub (pv 2) (pv 3)) (pe_own G_length (hr.mono (by decide)) (by rfl) (pa_cons (pv 1) pa_nil)))))))), ?_⟩
  refine ⟨.int s, rfl, .ref u, rfl, s, u, ws, rfl, ho, wk, eu, hmx, fun H1 S1 => ?_⟩
  have e : setOf ws s = setN ws s := if_neg g.1
  have st := setN_is g ho
  rw [e]
  refine ⟨_, rfl, _, rfl, _, _, rfl, rfl, _, rfl, ite2 (fun c => ?_) (fun c => ?_)⟩
  · exact ⟨_, rfl, q n H1 (Nat.le_refl _) rfl S1⟩
  · have c1 : ¬ (n : Int) ≤ (setN ws s : Int) := fun z => c (decide_eq_true z)
    refine ⟨_, rfl, _, rfl, _, rfl, _, _, rfl, rfl, .ref u, rfl, u, ws, rfl, wk, S1 _ _ eu, hmx, fun H2 S2 => ?_⟩
    have el : lenOf ws = lenW ws := if_neg g.1
    have l12 := lenW_12 ws
    rw [el]
    refine ⟨_, _, rfl, rfl, (by show 0 < lenW ws; omega), _, _, rfl, rfl, ?_⟩
    have hk : ((n : Int) - (setN ws s : Int)) = (((n - setN ws s : Nat)) : Int) := by omega
    have pr := itr_per g ho st.1 (n - setN ws s)
    have e1 : setN ws s + (n - setN ws s) = n := by omega
    rw [e1] at pr
    have m1 : 0 ≤ ((n - setN ws s : Nat) : Int) % lenW ws := Int.emod_nonneg _ (by omega)
    have m2 : ((n - setN ws s : Nat) : Int) % lenW ws < lenW ws := Int.emod_lt_of_pos _ (by omega)
    have r := q (setN ws s + (((n - setN ws s : Nat) : Int) % lenW ws).toNat) H2 (by omega) pr.symm (S1.trans S2)
    have e2 : (((setN ws s + (((n - setN ws s : Nat) : Int) % lenW ws).toNat : Nat)) : Int) = (setN ws s : Int) + ((n : Int) - (setN ws s : Int)) % lenW ws := by
      rw [hk]
      omega
    rw [e2] at r
    exact r
abbrev LV_standing_of_round : Nat := 8
def sp_standing_of_round : Sp := fun vs H Q _ => ∃ (s : Int) (u : Addr) (ws : List Int) (n : Nat), vs = [.int s, .ref u, .int n] ∧ s % 2 = 1 ∧ GoodW ws ∧ WOk ws ∧ H u = some (.tup (ws.map V.int)) ∧ mx ws < 40000 ∧ n < 2305843009213693952 ∧
  ∀ (H' : Hp), Same H H' → Q (.int (itr ws n s)) H'
theorem ok_standing_of_round {f : Addr} {fd : FuncData} (F : Fun K "standing_of_round" "standing_of_round" s_standing_of_round f fd) (Z : Bl mg) (G_falls : Kn P w K mg base "falls" P_falls LV_falls sp_falls) (G_far_rounds : Kn P w K mg base "far_rounds" P_far_rounds LV_far_rounds sp_far_rounds) (G_drawn_near : Kn P w K mg base "drawn_near" P_drawn_near LV_drawn_near sp_drawn_near) (G_fewer_rounds : Kn P w K mg base "fewer_rounds" P_fewer_rounds LV_fewer_rounds sp_fewer_rounds) : FnOk P w K mg base CX0 LV_standing_of_round f fd P_standing_of_round sp_standing_of_round := by
  refine F.ok sc_standing_of_round (fun vs H Q E h => ?_) (fun cdv A outer s H vs Q E hr h => ?_)
  · obtain ⟨s, u, ws, n, rfl, _⟩ := h
    rfl
  obtain ⟨s, u, ws, n, rfl, ho, g, wk, eu, hmx, hn, q⟩ := h
  refine ⟨_, (pss_cons (ps_set (i := 3) sc_standing_of_round.nd rfl (Or.inl rfl) (pe_own G_fewer_rounds (hr.mono (by decide)) (by rfl) (pa_cons (pv 0) (pa_cons (pv 1) (pa_cons (pv 2) pa_nil)))))
    (pss_cons (ps_set (i := 4) sc_standing_of_round.nd rfl (Or.inl rfl) (pe_callB (call_min2 rfl) (by rfl) Z.min (by decide +kernel) (pa_cons (pv 3) (pa_cons (pe_own G_far_rounds (hr.mono (by decide)) (by rfl) (pa_cons (pv 0) (pa_cons (pv 1) pa_nil))) pa_nil))))
    (pss_cons (ps_set (i := 5) sc_standing_of_round.nd rfl (Or.inl rfl) (pe_own G_drawn_near (hr.mono (by decide)) (by rfl) (pa_cons (pv 0) (pa_cons (pv 1) (pa_cons (pv 4) pa_nil)))))
    (pss_cons (ps_for PassesOwn.never rfl (pi_range1 (by rfl) Z.range (pa_cons (pe_op op_sub (pv 3) (pv 4)) pa_nil)) (pg_name (i := 6) sc_standing_of_round.nd rfl (Or.inl rfl))
    (pss_one (ps_set (i := 5) sc_standing_of_round.nd rfl (Or.inl rfl) (pe_ix (ixs (K := K)) (pe_own G_falls (hr.mono (by decide)) (by rfl) (pa_cons (pv 5) (pa_cons (pv 1) pa_nil))) pe_int (fun _ _ => rfl)))))
    (pss_one (ps_ret (pv 5))))))), ?_⟩
  refine ⟨.int s, rfl, .ref u, rfl, .int n, rfl, s, u, ws, n, rfl, ho, g, wk, eu, hmx, fun k H1 hk ek S1 => ?_⟩
  have f0 := far_nn g ho
  have eu1 := S1 _ _ eu
  refine ⟨_, rfl, .int s, rfl, .ref u, rfl, s, u, ws, rfl, g, wk, eu1, _, _, rfl, ?_⟩
  obtain ⟨j, hj, hj1, hj2⟩ : ∃ j : Nat, (if far ws s < (k : Int) then far ws s else (k : Int)) = (j : Int) ∧ j ≤ k ∧ (j : Int) ≤ far ws s := by
    by_cases c : far ws s < (k : Int)
    · exact ⟨(far ws s).toNat, by rw [if_pos c]; omega, by omega, by omega⟩
    · exact ⟨k, by rw [if_neg c], Nat.le_refl _, by omega⟩
  rw [hj]
  refine ⟨.int s, rfl, .ref u, rfl, _, rfl, s, u, ws, (j : Int), rfl, g, wk, eu1, ?_⟩
  have fj := (itr_far g ho j hj2).1
  rw [← fj]
  refine ⟨_, rfl, _, rfl, _, _, rfl, rfl, _, rfl, by omega, by omega, for_range (lo := 0) (n := _) (fun i σ H' => (∃ z, σ = [some (.int s), some (.ref u), some (.int n), some (.int k), some (.int j), some (.int (itr ws (j + i) s)), z]) ∧ Same H1 H')
    ⟨⟨none, rfl⟩, Same.refl _⟩ (fun i σ H' hi hP => ?_) (fun σ H' hP => ?_)⟩
  · obtain ⟨⟨z, rfl⟩, S⟩ := hP
    refine ⟨_, rfl, .ref u, rfl, _, u, ws, rfl, S _ _ eu1, wk.2.1, fun p4 l4 H4 np4 nl4 n4 S4 el4 ep4 => ?_⟩
    refine .inr (.inl ⟨p4, _, 1, _, rfl, rfl, SqT.of ep4, rfl, ⟨some (.int (0 + (i : Nat))), ?_⟩, S.trans S4⟩)
    rw [← itr_succ]
    rfl
  · obtain ⟨⟨z, rfl⟩, S⟩ := hP
    have e1 : j + ((k : Int) - (j : Int)).toNat = k := by omega
    have r := q H' (S1.trans S)
    rw [← ek] at r
    refine ⟨_, rfl, ?_⟩
    rw [e1]
    exact r
abbrev LV_standing_at : Nat := 9
theorem cut_take {ws : List Int} {n : Nat} (h : n ≤ ws.length) : cutV (ws.map V.int) none (some (n : Int)) = (ws.take n).map V.int := by
  rw [cut_map, HT.sIx_none, HT.sIx_nat]
  unfold cutI
  rw [List.drop_zero, Nat.sub_zero, Nat.min_eq_left h]
theorem cut_part {ws : List Int} {n : Nat} (h : n < ws.length) : ¬ (HT.sIx (ws.map V.int).length 0 none = 0 ∧ HT.sIx (ws.map V.int).length (ws.map V.int).length (some (n : Int)) = (ws.map V.int).length) := fun z => by
  have z2 := z.2
  rw [HT.sIx_nat, List.length_map] at z2
  omega
def sp_standing_at : Sp := fun vs H Q _ => ∃ (s : Int) (u : Addr) (ws : List Int) (many : Int), vs = [.int s, .ref u, .int many] ∧ s % 2 = 1 ∧ WOk ws ∧ H u = some (.tup (ws.map V.int)) ∧ mx ws < 40000 ∧ 0 ≤ many ∧ many < 2305843009213693952 ∧
  ∀ (H' : Hp), Same H H' → Q (.int (atW ws s many)) H'
theorem ok_standing_at {f : Addr} {fd : FuncData} (F : Fun K "standing_at" "standing_at" s_standing_at f fd) (Z : Bl mg) (G_falls : Kn P w K mg base "falls" P_falls LV_falls sp_falls) (G_standing_of_round : Kn P w K mg base "standing_of_round" P_standing_of_round LV_standing_of_round sp_standing_of_round) : FnOk P w K mg base CX0 LV_standing_at f fd P_standing_at sp_standing_at := by
  refine F.ok sc_standing_at (fun vs H Q E h => ?_) (fun cdv A outer s H vs Q E hr h => ?_)
  · obtain ⟨s, u, ws, n, rfl, _⟩ := h
    rfl
  obtain ⟨s, u, ws, many, rfl, ho, wk, eu, hmx, hm0, hm1, q⟩ := h
  refine ⟨_, (pss_cons (ps_if (pt_not (pt_truth (pv 1) (by intro _; rfl))) (pss_one (ps_ret (pv 0))) pss_nil)
    (pss_cons (ps_asg (pe_callB call_divmodN (by rfl) Z.divmod (by decide +kernel) (pa_cons (pv 2) (pa_cons (pe_callB (call_lenN (K := K)) (by rfl) Z.len (by decide +kernel) (pa_cons (pv 1) pa_nil)) pa_nil))) (pg_tup rfl (pgs_cons (pg_name (i := 3) sc_standing_at.nd rfl (Or.inl rfl)) (pgs_cons (pg_name (i := 4) sc_standing_at.nd rfl (Or.inl rfl)) pgs_nil))))
    (pss_one (ps_ret (pe_ix (ixs (K := K)) (pe_own G_falls (hr.mono (by decide)) (by rfl) (pa_cons (pe_own G_standing_of_round (hr.mono (by decide)) (by rfl) (pa_cons (pv 0) (pa_cons (pv 1) (pa_cons (pv 3) pa_nil)))) (pa_cons (pe_slice (sl_tupN (K := K)) (pv 1) po_none (po_some (pv 4))) pa_nil))) pe_int (fun _ _ => rfl)))))), ?_⟩
  refine ⟨.ref u, rfl, !(ws.map V.int).isEmpty, .inr (.inl ⟨_, SqT.of eu, rfl⟩), ?_⟩
  by_cases c : ws = []
  · subst c
    have e : atW [] s many = s := if_pos rfl
    rw [e] at q
    exact ⟨_, rfl, q H (Same.refl _)⟩
  · have e : atW ws s many = fin (itr ws (many / ws.length).toNat s) (ws.take (many % ws.length).toNat) := if_neg c
    rw [e] at q
    have ee : (ws.map V.int).isEmpty = false := by
      cases ws with
      | nil => exact absurd rfl c
      | cons x xs => rfl
    rw [ee]
    have g := wk.good c
    have hl : 0 < ws.length := List.length_pos_iff.mpr c
    have hl2 := wk.2.1
    refine ⟨_, rfl, .ref u, rfl, u, _, rfl, .inr (SqT.of eu), _, _, rfl, ?_, fun p1 H1 np1 S1 e1 => ?_⟩
    · rw [List.length_map]
      exact ⟨by omega, by omega⟩
    rw [List.length_map] at e1
    have d1 : 0 ≤ many / (ws.length : Int) := Int.ediv_nonneg hm0 (by omega)
    have d2 : many / (ws.length : Int) ≤ many := Int.ediv_le_self _ hm0
    have m1 : 0 ≤ many % (ws.length : Int) := Int.emod_nonneg _ (by omega)
    have m2 : many % (ws.length : Int) < (ws.length : Int) := Int.emod_lt_of_pos _ (by omega)
    obtain ⟨a, ha⟩ : ∃ a : Nat, many / (ws.length : Int) = (a : Int) := ⟨(many / (ws.length : Int)).toNat, by omega⟩
    obtain ⟨b, hb⟩ : ∃ b : Nat, many % (ws.length : Int) = (b : Int) := ⟨(many % (ws.length : Int)).toNat, by omega⟩
    rw [ha, hb] at e1 q
    refine ⟨p1, _, rfl, SqT.of e1, rfl, _, _, rfl, _, _, rfl, rfl, ?_⟩
    refine ⟨.int s, rfl, .ref u, rfl, _, rfl, s, u, ws, a, rfl, ho, g, wk, S1 _ _ eu, hmx, by omega, fun H2 S2 => ?_⟩
    refine ⟨.ref u, rfl, .int b, rfl, (b : Int), rfl, u, _, rfl, SqT.of (S2 _ _ (S1 _ _ eu)), cut_part (by omega), fun p3 H3 np3 S3 e3 => ?_⟩
    rw [cut_take (by omega)] at e3
    refine ⟨_, p3, ws.take b, rfl, e3, (wk.take b).2.1, fun p4 l4 H4 np4 nl4 n4 S4 el4 ep4 => ?_⟩
    exact .inr (.inl ⟨p4, _, 1, _, rfl, rfl, SqT.of ep4, rfl, q H4 (S1.trans (S2.trans (S3.trans S4)))⟩)
abbrev LV_have_met : Nat := 10
def sp_have_met : Sp := fun vs H Q _ => ∃ (s u : Int) (p : Addr) (ws : List Int) (n : Nat), vs = [.int s, .int u, .ref p, .int (n : Int)] ∧ s % 2 = 1 ∧ u % 2 = 1 ∧ WOk ws ∧ mx ws < 40000 ∧ H p = some (.tup (ws.map V.int)) ∧ n < 2305843009213693952 ∧ ∀ (H' : Hp), Same H H' → (∀ b : Bool, (b = true ↔ metAt ws s u n) → Q (.bl b) H')
theorem ok_have_met {f : Addr} {fd : FuncData} (F : Fun K "have_met" "have_met" s_have_met f fd) (Z : Bl mg) (G_standing_at : Kn P w K mg base "standing_at" P_standing_at LV_standing_at sp_standing_at) : FnOk P w K mg base CX0 LV_have_met f fd P_have_met sp_have_met := by
  refine F.ok sc_have_met (fun vs H Q E h => ?_) (fun cdv A outer s H vs Q E hr h => ?_)
  · obtain ⟨s, u, p, ws, n, rfl, _⟩ := h
    rfl
  obtain ⟨s, u, p, ws, n, rfl, hs, hu, wk, hmx, ep, hn, q⟩ := h
  refine ⟨_, (pss_one (ps_ret (pe_cmpR op_eq (pe_callB call_abs (by rfl) Z.abs (by decide +kernel) (pa_cons (pe_own G_standing_at (hr.mono (by decide)) (by rfl) (pa_cons (pv 0) (pa_cons (pv 2) (pa_cons (pv 3) pa_nil)))) pa_nil)) (pe_callB call_abs (by rfl) Z.abs (by decide +kernel) (pa_cons (pe_own G_standing_at (hr.mono (by decide)) (by rfl) (pa_cons (pv 1) (pa_cons (pv 2) (pa_cons (pv 3) pa_nil)))) pa_nil)) (nomark _)))), ?_⟩
  refine ⟨_, rfl, _, rfl, _, rfl, s, p, ws, (n : Int), rfl, hs, wk, ep, hmx, by omega, by omega, fun H1 S1 => ⟨_, rfl, ?_⟩⟩
  refine ⟨_, rfl, _, rfl, _, rfl, u, p, ws, (n : Int), rfl, hu, wk, S1 _ _ ep, hmx, by omega, by omega, fun H2 S2 => ⟨_, rfl, rfl, ?_⟩⟩
  refine q H2 (S1.trans S2) _ ⟨fun z => ?_, fun z => ?_⟩
  · exact V.int.inj (of_decide_eq_true z)
  · exact decide_eq_true (congrArg V.int z)
abbrev LV_both_settled : Nat := 7
def sp_both_settled : Sp := fun vs H Q _ => ∃ (s u : Int) (p : Addr) (ws : List Int), vs = [.int s, .int u, .ref p] ∧ s % 2 = 1 ∧ u % 2 = 1 ∧ WOk ws ∧ mx ws < 40000 ∧ H p = some (.tup (ws.map V.int)) ∧ ∀ (H' : Hp), Same H H' → Q (.int (bothN ws s u : Int)) H'
theorem ok_both_settled {f : Addr} {fd : FuncData} (F : Fun K "both_settled" "both_settled" s_both_settled f fd) (Z : Bl mg) (G_settled_from : Kn P w K mg base "settled_from" P_settled_from LV_settled_from sp_settled_from) : FnOk P w K mg base CX0 LV_both_settled f fd P_both_settled sp_both_settled := by
  refine F.ok sc_both_settled (fun vs H Q E h => ?_) (fun cdv A outer s H vs Q E hr h => ?_)
  · obtain ⟨s, u, p, ws, rfl, _⟩ := h
    rfl
  obtain ⟨s, u, p, ws, rfl, hs, hu, wk, hmx, ep, q⟩ := h
  refine ⟨_, (pss_one (ps_ret (pe_callB (call_max2 rfl) (by rfl) Z.max (by decide +kernel) (pa_cons (pe_own G_settled_from (hr.mono (by decide)) (by rfl) (pa_cons (pv 0) (pa_cons (pv 2) pa_nil))) (pa_cons (pe_own G_settled_from (hr.mono (by decide)) (by rfl) (pa_cons (pv 1) (pa_cons (pv 2) pa_nil))) pa_nil))))), ?_⟩
  refine ⟨_, rfl, _, rfl, s, p, ws, rfl, hs, wk, ep, hmx, fun H1 S1 => ?_⟩
  refine ⟨_, rfl, _, rfl, u, p, ws, rfl, hu, wk, S1 _ _ ep, hmx, fun H2 S2 => ⟨_, _, rfl, ?_⟩⟩
  have e : (if (setOf ws u : Int) > (setOf ws s : Int) then (setOf ws u : Int) else (setOf ws s : Int)) = (bothN ws s u : Int) := by
    unfold bothN
    split <;> omega
  rw [e]
  exact q H2 (S1.trans S2)
abbrev LV_fewest_grains : Nat := 11
def sp_fewest_grains : Sp := fun vs H Q _ => ∃ (s u : Int) (p : Addr) (ws : List Int) (E : Nat), vs = [.int s, .int u, .ref p, .int (E : Int)] ∧ s % 2 = 1 ∧ u % 2 = 1 ∧ WOk ws ∧ mx ws < 40000 ∧ H p = some (.tup (ws.map V.int)) ∧ E < 2305843009213693952 ∧ metAt ws s u E ∧ ∀ (n : Nat) (H' : Hp), Same H H' → n ≤ E → IsFst ws s u (some n) → Q (.int (n : Int)) H'
theorem ok_fewest_grains {f : Addr} {fd : FuncData} (F : Fun K "fewest_grains" "fewest_grains" s_fewest_grains f fd) (Z : Bl mg) (G_have_met : Kn P w K mg base "have_met" P_have_met LV_have_met sp_have_met) : FnOk P w K mg base CX0 LV_fewest_grains f fd P_fewest_grains sp_fewest_grains := by
  refine F.ok sc_fewest_grains (fun vs H Q E h => ?_) (fun cdv A outer s H vs Q E hr h => ?_)
  · obtain ⟨s, u, p, ws, E, rfl, _⟩ := h
    rfl
  obtain ⟨s, u, p, ws, En, rfl, hs, hu, wk, hmx, ep, hE, hmet, q⟩ := h
  refine ⟨_, (pss_cons (ps_set (i := 4) sc_fewest_grains.nd rfl (Or.inl rfl) pe_int)
    (pss_cons (ps_set (i := 5) sc_fewest_grains.nd rfl (Or.inl rfl) (pv 3))
    (pss_cons (ps_while PassesOwn.never (pt_cmpR op_lt (pv 4) (pv 5) (nomark _))
    (pss_cons (ps_set (i := 6) sc_fewest_grains.nd rfl (Or.inl rfl) (pe_op op_fdivW (pe_op op_add (pv 4) (pv 5)) pe_int))
    (pss_one (ps_if (pt_val (pe_own G_have_met (hr.mono (by decide)) (by rfl) (pa_cons (pv 0) (pa_cons (pv 1) (pa_cons (pv 2) (pa_cons (pv 6) pa_nil)))))) (pss_one (ps_set (i := 5) sc_fewest_grains.nd rfl (Or.inl rfl) (pv 6))) (pss_one (ps_set (i := 4) sc_fewest_grains.nd rfl (Or.inl rfl) (pe_op op_add (pv 6) pe_int)))))))
    (pss_one (ps_ret (pv 4)))))), ?_⟩
  refine ⟨_, rfl, ?_⟩
  refine ⟨fun m σ H' => ∃ (lo hi : Nat) (y : Option V), σ = [some (.int s), some (.int u), some (.ref p), some (.int (En : Int)), some (.int (lo : Int)), some (.int (hi : Int)), y] ∧ m = hi - lo ∧ lo ≤ hi ∧ hi ≤ En ∧ metAt ws s u hi ∧ (∀ k, k < lo → ¬ metAt ws s u k) ∧ Same H H',
    ⟨_, 0, En, none, rfl, rfl, Nat.zero_le _, Nat.le_refl _, hmet, (fun k hk => absurd hk (Nat.not_lt_zero _)), Same.refl _⟩, fun m σ H1 hW => ?_⟩
  obtain ⟨lo, hi, y, rfl, rfl, h1, h2, h3, h4, S1⟩ := hW
  refine ⟨_, rfl, _, rfl, _, _, rfl, rfl, _, rfl, ite2 (fun c => ?_) (fun c => ?_)⟩
  · have c1 : (lo : Int) < (hi : Int) := of_decide_eq_true c
    refine ⟨fun σ2 H2 => ∃ (lo' hi' : Nat) (y : Option V), σ2 = [some (.int s), some (.int u), some (.ref p), some (.int (En : Int)), some (.int (lo' : Int)), some (.int (hi' : Int)), y] ∧ hi' - lo' < hi - lo ∧ lo' ≤ hi' ∧ hi' ≤ En ∧ metAt ws s u hi' ∧ (∀ k, k < lo' → ¬ metAt ws s u k) ∧ Same H H2, fun σ2 H2 hN => ?_, ?_⟩
    · obtain ⟨lo', hi', y', rfl, d, r⟩ := hN
      exact ⟨hi' - lo', d, lo', hi', y', rfl, rfl, r⟩
    refine ⟨_, rfl, _, rfl, _, _, rfl, rfl, _, _, rfl, rfl, wide_div (b := 62) (by decide) (by decide) (by decide) (by decide), ?_⟩
    have em : V.int (((lo : Int) + (hi : Int)) / 2) = V.int (((lo + hi) / 2 : Nat) : Int) := congrArg V.int (by omega)
    refine ⟨_, rfl, _, rfl, _, rfl, _, rfl, s, u, p, ws, (lo + hi) / 2, congrArg (fun v => [V.int s, V.int u, V.ref p, v]) em, hs, hu, wk, hmx, S1 _ _ ep, by omega, fun H2 S2 b hb => ?_⟩
    refine ⟨_, rfl, ?_⟩
    cases b with
    | true =>
      refine ⟨_, rfl, lo, (lo + hi) / 2, some (.int (((lo + hi) / 2 : Nat) : Int)), ?_, by omega, by omega, by omega, hb.mp rfl, h4, S1.trans S2⟩
      rw [← em]
      rfl
    | false =>
      refine ⟨_, rfl, _, _, rfl, rfl, (lo + hi) / 2 + 1, hi, some (.int (((lo + hi) / 2 : Nat) : Int)), ?_, by omega, by omega, by omega, h3, fun k hk z => ?_, S1.trans S2⟩
      · have e2 : V.int (((lo : Int) + (hi : Int)) / 2 + 1) = V.int (((lo + hi) / 2 + 1 : Nat) : Int) := congrArg V.int (by omega)
        rw [← em, ← e2]
        rfl
      · have := hb.mpr (met_mono hs hu z (by omega))
        cases this
  · have c1 : ¬ (lo : Int) < (hi : Int) := fun z => c (decide_eq_true z)
    have e : lo = hi := by omega
    subst e
    exact ⟨_, rfl, q lo H1 S1 h2 ⟨h3, h4⟩⟩
abbrev LV_meeting : Nat := 12
def sp_meeting : Sp := fun vs H Q _ => ∃ (s u : Int) (p : Addr) (ws : List Int), vs = [.int s, .int u, .ref p] ∧ s % 2 = 1 ∧ u % 2 = 1 ∧ szz s ≤ 100000000000 ∧ szz u ≤ 100000000000 ∧ WOk ws ∧ mx ws < 40000 ∧ H p = some (.tup (ws.map V.int)) ∧ ∀ (o : Option Nat) (p' : Addr) (H' : Hp), IsFst ws s u o → (∀ n, o = some n → n ≤ enoughN ws s u) → Same H H' → H' p' = some (.tup (mtV ws s u o)) → Q (.ref p') H'
theorem ok_meeting {f : Addr} {fd : FuncData} (F : Fun K "meeting" "meeting" s_meeting f fd) (Z : Bl mg) (G_standing_at : Kn P w K mg base "standing_at" P_standing_at LV_standing_at sp_standing_at) (G_have_met : Kn P w K mg base "have_met" P_have_met LV_have_met sp_have_met) (G_both_settled : Kn P w K mg base "both_settled" P_both_settled LV_both_settled sp_both_settled) (G_fewest_grains : Kn P w K mg base "fewest_grains" P_fewest_grains LV_fewest_grains sp_fewest_grains) : FnOk P w K mg base CX0 LV_meeting f fd P_meeting sp_meeting := by
  refine F.ok sc_meeting (fun vs H Q E h => ?_) (fun cdv A outer s H vs Q E hr h => ?_)
  · obtain ⟨s, u, p, ws, rfl, _⟩ := h
    rfl
  obtain ⟨s, u, p, ws, rfl, hs, hu, bs, bu, wk, hmx, ep, q⟩ := h
  refine ⟨_, (pss_cons (ps_set (i := 3) sc_meeting.nd rfl (Or.inl rfl) (pe_op op_mul (pe_own G_both_settled (hr.mono (by decide)) (by rfl) (pa_cons (pv 0) (pa_cons (pv 1) (pa_cons (pv 2) pa_nil)))) (pe_callB (call_lenN (K := K)) (by rfl) Z.len (by decide +kernel) (pa_cons (pv 2) pa_nil))))
    (pss_cons (ps_if (pt_not (pt_val (pe_own G_have_met (hr.mono (by decide)) (by rfl) (pa_cons (pv 0) (pa_cons (pv 1) (pa_cons (pv 2) (pa_cons (pv 3) pa_nil))))))) (pss_one (ps_ret (pe_tupN (pa_cons pe_str pa_nil)))) pss_nil)
    (pss_cons (ps_set (i := 4) sc_meeting.nd rfl (Or.inl rfl) (pe_own G_fewest_grains (hr.mono (by decide)) (by rfl) (pa_cons (pv 0) (pa_cons (pv 1) (pa_cons (pv 2) (pa_cons (pv 3) pa_nil))))))
    (pss_cons (ps_if (pt_cmpR op_eq (pe_own G_standing_at (hr.mono (by decide)) (by rfl) (pa_cons (pv 0) (pa_cons (pv 2) (pa_cons (pv 4) pa_nil)))) (pe_own G_standing_at (hr.mono (by decide)) (by rfl) (pa_cons (pv 1) (pa_cons (pv 2) (pa_cons (pv 4) pa_nil)))) (nomark _)) (pss_one (ps_ret (pe_tupN (pa_cons pe_str (pa_cons (pv 4) pa_nil))))) pss_nil)
    (pss_one (ps_ret (pe_tupN (pa_cons pe_str (pa_cons (pv 4) pa_nil))))))))), ?_⟩
  have lm : (ws.map V.int).length = ws.length := List.length_map ..
  have hb1 : ∀ {x : Int}, x % 2 = 1 → szz x ≤ 100000000000 → setOf ws x ≤ 200000000000 := fun {x} hx hb => by
    by_cases c : ws = []
    · have : setOf ws x = 0 := if_pos c
      omega
    · have e : setOf ws x = setN ws x := if_neg c
      have := setN_le (wk.good c) hx
      omega
  have hbb : bothN ws s u ≤ 200000000000 := by
    unfold bothN
    have a := hb1 hs bs
    have b := hb1 hu bu
    omega
  have hEn : enoughN ws s u ≤ 200000000000 * 1000 := Nat.mul_le_mul hbb wk.2.1
  refine ⟨_, rfl, _, rfl, _, rfl, s, u, p, ws, rfl, hs, hu, wk, hmx, ep, fun H1 S1 => ?_⟩
  have ep1 := S1 _ _ ep
  refine ⟨_, rfl, p, _, rfl, .inr (SqT.of ep1), _, _, rfl, rfl, .inl ⟨by omega, by omega⟩, ?_⟩
  have eE : V.int ((bothN ws s u : Int) * ((ws.map V.int).length : Int)) = V.int (enoughN ws s u : Int) := by
    rw [lm]
    unfold enoughN
    rw [Int.natCast_mul]
  refine ⟨_, rfl, _, rfl, _, rfl, _, rfl, s, u, p, ws, enoughN ws s u, congrArg (fun v => [V.int s, V.int u, V.ref p, v]) eE, hs, hu, wk, hmx, ep1, by omega, fun H2 S2 b hb => ?_⟩
  refine ⟨_, rfl, ?_⟩
  have ep2 := S2 _ _ ep1
  cases b with
  | false =>
    have hn : ∀ n, ¬ metAt ws s u n := fun n z => by
      have := hb.mpr (met_enough wk.1 hs hu z)
      cases this
    exact ⟨(by show 1 ≤ sizeLine; decide), fun p3 H3 np3 S3 e3 => q none p3 H3 hn (fun n z => nomatch z) (S1.trans (S2.trans S3)) e3⟩
  | true =>
    refine ⟨_, rfl, _, rfl, _, rfl, _, rfl, s, u, p, ws, enoughN ws s u, congrArg (fun v => [V.int s, V.int u, V.ref p, v]) eE, hs, hu, wk, hmx, ep2, by omega, hb.mp rfl, fun n H3 S3 hn hF => ?_⟩
    have ep3 := S3 _ _ ep2
    refine ⟨_, rfl, _, rfl, _, rfl, s, p, ws, (n : Int), rfl, hs, wk, ep3, hmx, by omega, by omega, fun H4 S4 => ?_⟩
    refine ⟨_, rfl, _, rfl, _, rfl, u, p, ws, (n : Int), rfl, hu, wk, S4 _ _ ep3, hmx, by omega, by omega, fun H5 S5 => ⟨rfl, _, rfl, ite2 (fun c => ?_) (fun c => ?_)⟩⟩
    · have c1 : atW ws s (n : Int) = atW ws u (n : Int) := V.int.inj (of_decide_eq_true c)
      refine ⟨_, rfl, (by show 2 ≤ sizeLine; decide), fun p6 H6 np6 S6 e6 => q (some n) p6 H6 hF (fun m z => by cases z; exact hn) (S1.trans (S2.trans (S3.trans (S4.trans (S5.trans S6))))) ?_⟩
      show H6 p6 = some (.tup [V.str (if atW ws s (n : Int) = atW ws u (n : Int) then "one" else "mirrored"), V.int (n : Int)])
      rw [if_pos c1]
      exact e6
    · have c1 : ¬ atW ws s (n : Int) = atW ws u (n : Int) := fun z => c (decide_eq_true (congrArg V.int z))
      refine ⟨_, rfl, (by show 2 ≤ sizeLine; decide), fun p6 H6 np6 S6 e6 => q (some n) p6 H6 hF (fun m z => by cases z; exact hn) (S1.trans (S2.trans (S3.trans (S4.trans (S5.trans S6))))) ?_⟩
      show H6 p6 = some (.tup [V.str (if atW ws s (n : Int) = atW ws u (n : Int) then "one" else "mirrored"), V.int (n : Int)])
      rw [if_neg c1]
      exact e6
abbrev LV_l_tape : Nat := 1
def sp_l_tape : Sp := fun vs H Q _ => ∃ (a : Addr) (ns : List Int) (k : Int), vs = [.ref a, .int k] ∧ H a = some (.lst (ns.map V.int)) ∧ 0 ≤ k ∧ k ≤ 63 ∧
  ∀ (t : Addr) (H' : Hp), H t = none → Same H H' → Tp 1000000000 H' t → Q (.ref t) H'
theorem ok_l_tape {f : Addr} {fd : FuncData} (F : Fun K "_law_tape" "_law_tape" s_l_tape f fd) (Z : Bl mg) : FnOk P w K mg base CX0 LV_l_tape f fd P_l_tape sp_l_tape := by
  refine F.ok sc_l_tape (fun vs H Q E h => ?_) (fun cdv A outer s H vs Q E hr h => ?_)
  · obtain ⟨a, ns, k, rfl, _⟩ := h
    rfl
  obtain ⟨a, ns, k, rfl, ha, hk, hk2, q⟩ := h
  have fin : ∀ c : Int, ∀ (t : Addr) (H' : Hp), H t = none → Same H H' → H' t = some (.lst [.int ((if c < 0 then -c else c) * (if decide ((10 : Int) ^ (Int.toNat 18) ≤ (if c < 0 then -c else c)) = true then 1 else 0)), .int (c % 2305843009213693951 + 39373 * k + 17), .int 0]) → Q (.ref t) H' := fun c t H' nt S e => by
    have h1 : 0 ≤ c % 2305843009213693951 := Int.emod_nonneg _ (by decide)
    have h2 : c % 2305843009213693951 < 2305843009213693951 := Int.emod_lt_of_pos _ (by decide)
    refine q t H' nt S ⟨_, _, _, e, Int.mul_nonneg (by split <;> omega) (by split <;> omega), by omega, by omega, by omega, by omega⟩
  refine ⟨_, (pss_cons (ps_set (i := 2) sc_l_tape.nd rfl (Or.inl rfl) (pe_ifExp (pt_cmpR op_lt (pv 1) (pe_callB (call_lenN (K := K)) (by rfl) Z.len (by decide +kernel) (pa_cons (pv 0) pa_nil)) (nomark _)) (pe_ix (ixs (K := K)) (pv 0) (pv 1) (fun _ _ => rfl)) pe_int))
    (pss_one (ps_ret (pe_lstN (pa_cons (pe_op op_mul (pe_callB call_abs (by rfl) Z.abs (by decide +kernel) (pa_cons (pv 2) pa_nil)) (pe_callTy call_int1 (by rfl) Z.int (by decide +kernel) (pa_cons (pe_cmpR op_ge (pe_callB call_abs (by rfl) Z.abs (by decide +kernel) (pa_cons (pv 2) pa_nil)) (pe_op op_pow pe_int pe_int) (nomark _)) pa_nil))) (pa_cons (pe_op op_add (pe_op op_add (pe_op op_mod (pv 2) pe_int) (pe_op op_mul pe_int (pv 1))) pe_int) (pa_cons pe_int pa_nil))))))), ?_⟩
  refine ⟨.int k, rfl, .ref a, rfl, a, _, rfl, .inl (SqL.of ha), _, _, rfl, rfl, _, rfl, ite2 (fun c => ?_) (fun c => ?_)⟩
  · have c1 := of_decide_eq_true c
    rw [List.length_map] at c1
    obtain ⟨v, _, hv⟩ := pick (xs := ns) hk c1
    refine ⟨.ref a, rfl, .int k, rfl, .inl ⟨a, _, k, .int v, rfl, rfl, SqL.of ha, hv, ?_⟩⟩
    refine ⟨_, rfl, _, rfl, _, rfl, _, rfl, _, _, rfl, rfl, ⟨by decide, by decide, by decide⟩, _, _, rfl, rfl, .inr ⟨_, rfl, _, _, rfl, rfl, .inr small01, _, rfl, _, _, rfl, rfl, (by show (0 : Int) < 2305843009213693951; decide), _, rfl, _, _, rfl, rfl, .inl ⟨by decide, by decide⟩, _, _, rfl, rfl, _, _, rfl, rfl, (by show 3 ≤ sizeLine; decide), fun t H' nt S e => fin v t H' nt S e⟩⟩
  · refine ⟨_, rfl, _, rfl, _, rfl, _, rfl, _, _, rfl, rfl, ⟨by decide, by decide, by decide⟩, _, _, rfl, rfl, .inr ⟨_, rfl, _, _, rfl, rfl, .inr small01, _, rfl, _, _, rfl, rfl, (by show (0 : Int) < 2305843009213693951; decide), _, rfl, _, _, rfl, rfl, .inl ⟨by decide, by decide⟩, _, _, rfl, rfl, _, _, rfl, rfl, (by show 3 ≤ sizeLine; decide), fun t H' nt S e => fin 0 t H' nt S e⟩⟩
abbrev LV_l_draw : Nat := 1
def sp_l_draw : Sp := fun vs H Q _ => ∃ (t : Addr) (n : Int) (b : Nat), vs = [.ref t, .int n] ∧ 0 < n ∧ n < 4611686018427387904 ∧ Tp (b + 1) H t ∧
  ∀ (i : Int) (H' : Hp), 0 ≤ i → i < n → Un t H H' → Tp b H' t → Q (.int i) H'
theorem ok_l_draw {f : Addr} {fd : FuncData} (F : Fun K "_law_draw" "_law_draw" s_l_draw f fd) (Z : Bl mg) : FnOk P w K mg base CX0 LV_l_draw f fd P_l_draw sp_l_draw := by
  refine F.ok sc_l_draw (fun vs H Q E h => ?_) (fun cdv A outer s H vs Q E hr h => ?_)
  · obtain ⟨t, n, b, rfl, _⟩ := h
    rfl
  obtain ⟨t, n, b, rfl, hn, hn2, ⟨x, y, z, hT, hx, hy, hy2, hz, hz2⟩, q⟩ := h
  refine ⟨_, (pss_cons (ps_if (pt_cmpR op_gt (pe_ix (ixs (K := K)) (pv 0) pe_int (fun _ _ => rfl)) pe_int (nomark _)) (pss_cons (ps_set (i := 2) sc_l_draw.nd rfl (Or.inl rfl) (pe_op op_mod (pe_ix (ixs (K := K)) (pv 0) pe_int (fun _ _ => rfl)) (pv 1)))
    (pss_cons (ps_asg (pe_op op_fdivW (pe_ix (ixs (K := K)) (pv 0) pe_int (fun _ _ => rfl)) (pv 1)) (pg_sub (pv 0) pe_int set_list))
    (pss_one (ps_ret (pv 2))))) pss_nil)
    (pss_cons (ps_asg (pe_op op_add (pe_ix (ixs (K := K)) (pv 0) pe_int (fun _ _ => rfl)) pe_int) (pg_sub (pv 0) pe_int set_list))
    (pss_cons (ps_set (i := 3) sc_l_draw.nd rfl (Or.inl rfl) (pe_op op_mod (pe_op op_pow (pe_op op_add (pe_ix (ixs (K := K)) (pv 0) pe_int (fun _ _ => rfl)) (pe_op op_mul pe_int (pe_ix (ixs (K := K)) (pv 0) pe_int (fun _ _ => rfl)))) pe_int) pe_int))
    (pss_cons (ps_set (i := 4) sc_l_draw.nd rfl (Or.inl rfl) (pe_op op_mod (pe_op op_mul (pe_op op_add (pv 3) (pe_ix (ixs (K := K)) (pv 0) pe_int (fun _ _ => rfl))) (pe_op op_add (pe_op op_add (pe_op op_mod (pv 3) pe_int) pe_int) (pe_ix (ixs (K := K)) (pv 0) pe_int (fun _ _ => rfl)))) pe_int))
    (pss_cons (ps_set (i := 5) sc_l_draw.nd rfl (Or.inl rfl) (pe_op op_mod (pe_op op_add (pe_op op_add (pe_op op_fdivW (pe_ix (ixs (K := K)) (pv 0) pe_int (fun _ _ => rfl)) pe_int) (pe_op op_mul (pv 4) pe_int)) (pe_ix (ixs (K := K)) (pv 0) pe_int (fun _ _ => rfl))) pe_int))
    (pss_one (ps_ret (pe_op op_mod (pe_op op_fdivW (pe_op op_mod (pe_op op_add (pe_op op_add (pe_op op_mul (pv 4) pe_int) (pe_op op_mul (pv 5) pe_int)) (pv 3)) pe_int) pe_int) (pv 1))))))))), ?_⟩
  refine ⟨.ref t, rfl, .inl ⟨t, _, 0, .int x, rfl, rfl, SqL.of hT, rfl, _, _, rfl, rfl, _, rfl, ite2 (fun c => ?_) (fun c => ?_)⟩⟩
  · refine ⟨.ref t, rfl, .inl ⟨t, _, 0, .int x, rfl, rfl, SqL.of hT, rfl, .int n, rfl, _, _, rfl, rfl, hn, ?_⟩⟩
    refine ⟨.ref t, rfl, .inl ⟨t, _, 0, .int x, rfl, rfl, SqL.of hT, rfl, .int n, rfl, _, _, rfl, rfl, wide_div (b := 62) hn (by omega) (by decide) (by decide), .ref t, rfl, t, _, 0, 0, rfl, rfl, hT, rfl, ?_⟩⟩
    refine ⟨_, rfl, q _ _ (Int.emod_nonneg _ (by omega)) (Int.emod_lt_of_pos _ hn) Un.upd ⟨x / n, y, z, upd_same, Int.ediv_nonneg hx (by omega), hy, hy2, hz, by omega⟩⟩
  · refine ⟨.ref t, rfl, .inl ⟨t, _, 2, .int z, rfl, rfl, SqL.of hT, rfl, _, _, rfl, rfl, .ref t, rfl, t, _, 2, 2, rfl, rfl, hT, rfl, ?_⟩⟩
    have e1 : upd H t (.lst [.int x, .int y, .int (z + 1)]) t = some (.lst [.int x, .int y, .int (z + 1)]) := upd_same
    refine ⟨.ref t, rfl, .inl ⟨t, _, 1, .int y, rfl, rfl, SqL.of e1, rfl, .ref t, rfl, .inl ⟨t, _, 2, .int (z + 1), rfl, rfl, SqL.of e1, rfl, _, _, rfl, rfl, .inl ⟨by decide, by decide⟩, _, _, rfl, rfl, _, _, rfl, rfl, ⟨by decide, by decide, by omega⟩, _, _, rfl, rfl, (by show (0 : Int) < 2147483647; decide), ?_⟩⟩⟩
    have ho1 : 0 ≤ (y + 39373 * (z + 1)) ^ (Int.toNat 5) % 2147483647 := Int.emod_nonneg _ (by decide)
    have ho2 : (y + 39373 * (z + 1)) ^ (Int.toNat 5) % 2147483647 < 2147483647 := Int.emod_lt_of_pos _ (by decide)
    generalize (y + 39373 * (z + 1)) ^ (Int.toNat 5) % 2147483647 = once at ho1 ho2 ⊢
    refine ⟨_, rfl, .ref t, rfl, .inl ⟨t, _, 2, .int (z + 1), rfl, rfl, SqL.of e1, rfl, _, _, rfl, rfl, _, rfl, _, _, rfl, rfl, (by show (0 : Int) < 40009; decide), _, _, rfl, rfl, .ref t, rfl, .inl ⟨t, _, 2, .int (z + 1), rfl, rfl, SqL.of e1, rfl, _, _, rfl, rfl, _, _, rfl, rfl, .inl ⟨by omega, by omega⟩, _, _, rfl, rfl, (by show (0 : Int) < 2147483629; decide), ?_⟩⟩⟩
    have ht1 : 0 ≤ (once + (z + 1)) * (once % 40009 + 7 + (z + 1)) % 2147483629 := Int.emod_nonneg _ (by decide)
    have ht2 : (once + (z + 1)) * (once % 40009 + 7 + (z + 1)) % 2147483629 < 2147483629 := Int.emod_lt_of_pos _ (by decide)
    generalize (once + (z + 1)) * (once % 40009 + 7 + (z + 1)) % 2147483629 = twice at ht1 ht2 ⊢
    refine ⟨.ref t, rfl, .inl ⟨t, _, 1, .int y, rfl, rfl, SqL.of e1, rfl, _, _, rfl, rfl, wide_div (b := 62) (by decide) (by decide) (by decide) (by decide), _, rfl, _, _, rfl, rfl, .inl ⟨by omega, by omega⟩, _, _, rfl, rfl, .ref t, rfl, .inl ⟨t, _, 2, .int (z + 1), rfl, rfl, SqL.of e1, rfl, _, _, rfl, rfl, _, _, rfl, rfl, (by show (0 : Int) < 2305843009213693951; decide), ?_⟩⟩⟩
    have hw1 : 0 ≤ (y / 2147483647 + twice * 40009 + (z + 1)) % 2305843009213693951 := Int.emod_nonneg _ (by decide)
    have hw2 : (y / 2147483647 + twice * 40009 + (z + 1)) % 2305843009213693951 < 2305843009213693951 := Int.emod_lt_of_pos _ (by decide)
    generalize (y / 2147483647 + twice * 40009 + (z + 1)) % 2305843009213693951 = wide at hw1 hw2 ⊢
    refine ⟨_, rfl, _, _, rfl, rfl, .inl ⟨by omega, by omega⟩, _, rfl, _, _, rfl, rfl, .inl ⟨by omega, by omega⟩, _, _, rfl, rfl, _, rfl, _, _, rfl, rfl, _, _, rfl, rfl, (by show (0 : Int) < 2305843009213693921; decide), _, _, rfl, rfl, wide_div (b := 62) (by decide) (by decide) (by decide) (by decide), _, rfl, _, _, rfl, rfl, hn, ?_⟩
    exact q _ _ (Int.emod_nonneg _ (by omega)) (Int.emod_lt_of_pos _ hn) Un.upd ⟨x, y, z + 1, e1, hx, hy, hy2, by omega, by omega⟩
abbrev LV_l_folded : Nat := 1
def sp_l_folded (K : PySem.W.Frag) : Sp := fun vs H Q _ => ∃ (a : Addr) (ns : List Int) (m : Nat), vs = [.ref a, .int (m : Int)] ∧ SqL K H a (ns.map V.int) ∧ ns.length ≤ 63 ∧ 1 ≤ m ∧ m ≤ 63 ∧
  ∀ (p : Addr) (cs : List Int) (H' : Hp), H p = none → Same H H' → H' p = some (.lst (cs.map V.int)) → cs.length ≤ m → Q (.ref p) H'
theorem ok_l_folded {f : Addr} {fd : FuncData} (F : Fun K "_law_folded" "_law_folded" s_l_folded f fd) (Z : Bl mg) : FnOk P w K mg base CX0 LV_l_folded f fd P_l_folded (sp_l_folded K) := by
  refine F.ok sc_l_folded (fun vs H Q E h => ?_) (fun cdv A outer s H vs Q E hr h => ?_)
  · obtain ⟨a, ns, k, rfl, _⟩ := h
    rfl
  obtain ⟨a, ns, m, rfl, ha, hl, hm, hm2, q⟩ := h
  refine ⟨_, (pss_cons (ps_set (i := 2) sc_l_folded.nd rfl (Or.inl rfl) (pe_callTy (call_listN (K := K)) (by rfl) Z.list (by decide +kernel) (pa_cons (pe_slice (sl_listN (K := K)) (pv 0) po_none (po_some (pv 1))) pa_nil)))
    (pss_cons (ps_for PassesOwn.never rfl (pi_enum (by rfl) Z.enumerate (pa_cons (pe_slice (sl_listN (K := K)) (pv 0) (po_some (pv 1)) (po_some pe_int)) pa_nil)) (pg_tup rfl (pgs_cons (pg_name (i := 3) sc_l_folded.nd rfl (Or.inl rfl)) (pgs_cons (pg_name (i := 4) sc_l_folded.nd rfl (Or.inl rfl)) pgs_nil)))
    (pss_one (ps_asg (pe_op op_add (pe_ix (ixs (K := K)) (pv 2) (pe_op op_mod (pv 3) (pv 1)) (fun _ _ => rfl)) (pe_op op_mul (pv 4) (pe_op op_add (pv 3) pe_int))) (pg_sub (pv 2) (pe_op op_mod (pv 3) (pv 1)) set_list))))
    (pss_one (ps_ret (pv 2))))), ?_⟩
  refine ⟨.ref a, rfl, .int m, rfl, m, rfl, a, _, rfl, ha, fun p1 H1 np1 S1 e1 => ?_⟩
  refine ⟨p1, _, rfl, .inl (SqL.of e1), fun p2 H2 np2 S2 e2 => ?_⟩
  rw [cut_map, HT.sIx_none, HT.sIx_nat] at e2
  refine ⟨.ref a, rfl, .int m, rfl, m, rfl, 63, rfl, a, _, rfl, S2.seq (S1.seq ha), fun p3 H3 np3 S3 e3 => ?_⟩
  refine ⟨p3, _, rfl, SqL.of e3, ?_⟩
  have e3' := e3
  rw [cut_map] at e3'
  have h63 : HT.sIx ns.length ns.length (some 63) = min 63 ns.length := HT.sIx_nat _ _ 63
  rw [HT.sIx_nat, h63] at e3'
  have np2H : H p2 = none := S1.free np2
  have n32 : p3 ≠ p2 := fun e => by
    rw [e] at np3
    rw [np3] at e2
    cases e2
  rw [cut_map, HT.sIx_nat, h63] at *
  refine for_it (walk_enum (xs := (cutI ns (min m ns.length) (min 63 ns.length)).map V.int)) (fun i σ H' => ∃ y3 y4 cs, σ = [some (.ref a), some (.int m), some (.ref p2), y3, y4] ∧ cs.length = min m ns.length ∧ H' p2 = some (.lst (cs.map V.int)) ∧ Same H H' ∧ H' p3 = some (.lst ((cutI ns (min m ns.length) (min 63 ns.length)).map V.int)))
    ⟨none, none, cutI ns 0 (min m ns.length), rfl, ?_, ?_, ?_, e3⟩ (fun i σ H' _ hP => ?_) (fun i x σ H4 H5 hi hP hY => ?_) (fun σ H' hP => ?_)
  · unfold cutI
    rw [List.length_take, List.length_drop]
    omega
  · exact S3 _ _ e2
  · exact S1.trans (S2.trans S3)
  · obtain ⟨_, _, _, _, _, _, _, e⟩ := hP
    exact SqL.of e
  · obtain ⟨y3, y4, cs, rfl, hc, e4, S4, e5⟩ := hP
    obtain ⟨T, x1, x2, rfl, nT, rfl, f1, f2⟩ := hY
    obtain ⟨v, _, rfl, hv⟩ := item_int f2
    have f1 : (V.int (i : Nat)) = x1 := Option.some.inj f1
    subst f1
    have hlt : m < ns.length := by
      rw [List.length_map] at hi
      unfold cutI at hi
      rw [List.length_take, List.length_drop] at hi
      omega
    have hcl : cs.length = m := by omega
    have hmi : 0 ≤ ((i : Nat) : Int) % (m : Int) := Int.emod_nonneg _ (by omega)
    have hmi2 : ((i : Nat) : Int) % (m : Int) < (m : Int) := Int.emod_lt_of_pos _ (by omega)
    obtain ⟨c, _, hc2⟩ := pick (xs := cs) (i := ((i : Nat) : Int) % (m : Int)) hmi (by omega)
    have nT2 : p2 ≠ T := ne_of_none e4 nT
    have nT3 : p3 ≠ T := ne_of_none e5 nT
    have e4' : upd H4 T (.tup [.int (i : Nat), .int v]) p2 = some (.lst (cs.map V.int)) := by rw [upd_ne nT2]; exact e4
    obtain ⟨j, hj⟩ : ∃ j : Nat, ((i : Nat) : Int) % (m : Int) = (j : Int) := ⟨(((i : Nat) : Int) % (m : Int)).toNat, by omega⟩
    have hi60 : (i : Int) < 100 := by
      rw [List.length_map] at hi
      unfold cutI at hi
      rw [List.length_take, List.length_drop] at hi
      omega
    refine ⟨T, _, rfl, SqT.of upd_same, rfl, _, _, rfl, _, _, rfl, rfl, ?_⟩
    refine ⟨.ref p2, rfl, .int (i : Nat), rfl, .int m, rfl, _, _, rfl, rfl, (by show (0 : Int) < m; omega), .inl ⟨p2, _, _, .int c, rfl, rfl, SqL.of e4', hc2, .int v, rfl, .int (i : Nat), rfl, _, _, rfl, rfl, _, _, rfl, rfl, .inr ⟨by omega, by omega⟩, _, _, rfl, rfl, ?_⟩⟩
    refine ⟨.ref p2, rfl, .int (i : Nat), rfl, .int m, rfl, _, _, rfl, rfl, (by show (0 : Int) < m; omega), p2, _, _, j, rfl, rfl, e4', ?_, ?_⟩
    · rw [hj]
      exact Evl.ixN_nat (by rw [List.length_map]; omega)
    · refine ⟨_, _, cs.set j (c + v * ((i : Nat) + 2)), rfl, by rw [List.length_set]; exact hc, ?_, ?_, ?_⟩
      · rw [upd_same, List.map_set]
      · exact Same.of_upd (Same.of_upd S4 (S4.free nT)) np2H
      · rw [upd_ne n32, upd_ne nT3]
        exact e5
  · obtain ⟨y3, y4, cs, rfl, hc, e4, S4, e5⟩ := hP
    exact ⟨_, rfl, q p2 cs _ np2H S4 e4 (by omega)⟩
abbrev LV_l_weight : Nat := 2
def sp_l_weight : Sp := fun vs H Q _ => ∃ (t : Addr) (m : Int) (b : Nat), vs = [.ref t, .int m] ∧ 1 ≤ m ∧ m < 4611686018427387904 ∧ Tp (b + 3) H t ∧
  ∀ (i : Int) (H' : Hp), 1 ≤ i → i ≤ m → Un t H H' → Tp b H' t → Q (.int i) H'
theorem ok_l_weight {f : Addr} {fd : FuncData} (F : Fun K "_law_weight" "_law_weight" s_l_weight f fd) (Z : Bl mg) (G_l_draw : Kn P w K mg base "_law_draw" P_l_draw LV_l_draw sp_l_draw) : FnOk P w K mg base CX0 LV_l_weight f fd P_l_weight sp_l_weight := by
  refine F.ok sc_l_weight (fun vs H Q E h => ?_) (fun cdv A outer s H vs Q E hr h => ?_)
  · obtain ⟨t, n, b, rfl, _⟩ := h
    rfl
  obtain ⟨t, m, b, rfl, hm, hm2, hT, q⟩ := h
  refine ⟨_, (pss_one (ps_ret (pe_ix (ixs (K := K)) (pe_lstN (pa_cons (pe_op op_add pe_int (pe_own G_l_draw (hr.mono (by decide)) (by rfl) (pa_cons (pv 0) (pa_cons (pv 1) pa_nil)))) (pa_cons (pe_op op_add pe_int (pe_own G_l_draw (hr.mono (by decide)) (by rfl) (pa_cons (pv 0) (pa_cons (pe_callB (call_min2 rfl) (by rfl) Z.min (by decide +kernel) (pa_cons pe_int (pa_cons (pv 1) pa_nil))) pa_nil)))) (pa_cons (pv 1) (pa_cons pe_int pa_nil))))) (pe_own G_l_draw (hr.mono (by decide)) (by rfl) (pa_cons (pv 0) (pa_cons pe_int pa_nil))) (fun _ _ => rfl)))), ?_⟩
  refine ⟨.ref t, rfl, .int m, rfl, t, m, b + 2, rfl, by omega, by omega, hT, fun i1 H1 a1 b1 U1 T1 => ?_⟩
  refine ⟨_, _, rfl, rfl, .ref t, rfl, .int m, rfl, _, _, rfl, t, _, b + 1, rfl, (by split <;> omega), (by split <;> omega), T1, fun i2 H2 a2 b2 U2 T2 => ?_⟩
  refine ⟨_, _, rfl, rfl, .int m, rfl, (by show 4 ≤ sizeLine; decide), fun p H3 np S3 e3 => ?_⟩
  refine ⟨.ref t, rfl, t, 4, b, rfl, by decide, by decide, T2.same S3, fun i3 H4 a4 b4 U4 T4 => ?_⟩
  have e4 := U4 _ _ (T2.nn np) e3
  have U : Un t H H4 := U1.trans (U2.trans ((Un.same S3).trans U4))
  have h3 : i3 = 0 ∨ i3 = 1 ∨ i3 = 2 ∨ i3 = 3 := by omega
  have hb2 : i2 < m := by
    revert b2
    split <;> intro b2 <;> omega
  rcases h3 with rfl | rfl | rfl | rfl
  · exact .inl ⟨p, _, _, _, rfl, rfl, SqL.of e4, rfl, q _ _ (by omega) (by omega) U T4⟩
  · exact .inl ⟨p, _, _, _, rfl, rfl, SqL.of e4, rfl, q _ _ (by omega) (by omega) U T4⟩
  · exact .inl ⟨p, _, _, _, rfl, rfl, SqL.of e4, rfl, q _ _ (by omega) (by omega) U T4⟩
  · exact .inl ⟨p, _, _, _, rfl, rfl, SqL.of e4, rfl, q _ _ (by omega) (by omega) U T4⟩
abbrev LV_l_fallen : Nat := 1
def sp_l_fallen : Sp := fun vs H Q _ => ∃ (s : Int) (u : Addr) (ws : List Int), vs = [.int s, .ref u] ∧ s % 2 = 1 ∧ H u = some (.tup (ws.map V.int)) ∧ ws.length ≤ 1000 ∧
  ∀ (p l : Addr) (H' : Hp), H p = none → H l = none → p ≠ l → Same H H' → H' l = some (.lst ((sdi s ws).map V.int)) → H' p = some (.tup [.ref l, .int (fin s ws)]) → Q (.ref p) H'
theorem ok_l_fallen {f : Addr} {fd : FuncData} (F : Fun K "_law_fallen" "_law_fallen" s_l_fallen f fd) (Z : Bl mg) : FnOk P w K mg base CX0 LV_l_fallen f fd P_l_fallen sp_l_fallen := by
  refine F.ok sc_l_fallen (fun vs H Q E h => ?_) (fun cdv A outer s H vs Q E hr h => ?_)
  · obtain ⟨s, u, ws, rfl, _⟩ := h
    rfl
  obtain ⟨s, u, ws, rfl, ho, eu, hlen, q⟩ := h
  refine ⟨_, (pss_cons (ps_set (i := 2) sc_l_fallen.nd rfl (Or.inl rfl) (pe_lstN pa_nil))
    (pss_cons (ps_for PassesOwn.never rfl (pi_tup (pv 1)) (pg_name (i := 3) sc_l_fallen.nd rfl (Or.inl rfl))
    (pss_cons (ps_expr (pe_bm PySem.F.plainAttrs_list PySem.F.slot_list_append PySem.F.type_list_append mt_append (pv 2) (pa_cons (pe_callTy call_int1 (by rfl) Z.int (by decide +kernel) (pa_cons (pe_cmpR op_gt (pv 0) pe_int (nomark _)) pa_nil)) pa_nil)))
    (pss_one (ps_set (i := 0) sc_l_fallen.nd rfl (Or.inl rfl) (pe_op op_add (pv 0) (pe_op op_mul (pe_op op_mul pe_int (pv 3)) (pe_op op_sub pe_int (pe_op op_mul pe_int (pe_ix (ixs (K := K)) (pv 2) (pe_un un_neg pe_int) (fun _ _ => rfl))))))))))
    (pss_one (ps_ret (pe_tupN (pa_cons (pv 2) (pa_cons (pv 0) pa_nil))))))), ?_⟩
  refine ⟨Nat.zero_le _, fun l H1 nl S1 e1 => ?_⟩
  have eu1 := S1 _ _ eu
  refine ⟨.ref u, rfl, u, rfl, ⟨_, SqT.of eu1⟩, for_tup (K := K) (a := u) (xs := ws.map V.int) (fun i σ H' => (∃ y3, σ = [some (.int (fin s (ws.take i))), some (.ref u), some (.ref l), y3]) ∧ Same H H' ∧ H' u = some (.tup (ws.map V.int)) ∧ H' l = some (.lst ((sdi s (ws.take i)).map V.int)))
    ⟨⟨none, rfl⟩, S1, eu1, e1⟩ (fun i σ H' _ hP => SqT.of hP.2.2.1) (fun i x σ H' hx hP => ?_) (fun σ H' hP => ?_)⟩
  · obtain ⟨⟨y3, rfl⟩, S, eu', el⟩ := hP
    obtain ⟨m, _, rfl, hm⟩ := item_int hx
    have hi : i < ws.length := (List.getElem?_eq_some_iff.mp hm).1
    have hodd := fin_odd (ws.take i) s ho
    have et : ws.take (i + 1) = ws.take i ++ [m] := by rw [List.take_add_one, hm]; rfl
    have hsd : (if decide (0 < fin s (ws.take i)) = true then (1 : Int) else 0) = sdn (fin s (ws.take i)) := by
      unfold sdn
      by_cases c : 0 < fin s (ws.take i)
      · rw [decide_eq_true c, if_pos rfl, if_pos c]
      · rw [decide_eq_false c, if_neg (by decide), if_neg c]
    have nlu : u ≠ l := ne_of eu' el (fun z => nomatch z)
    refine ⟨.ref l, rfl, .inl ⟨rfl, _, SqL.of el⟩, _, rfl, _, _, rfl, rfl, .inr ⟨_, rfl, l, _, _, rfl, rfl, el, szl (by rw [List.length_map, sdi_len, List.length_take]; omega), ?_⟩⟩
    have el2 : upd H' l (.lst ((sdi s (ws.take i)).map V.int ++ [.int (if decide (0 < fin s (ws.take i)) = true then (1 : Int) else 0)])) l = some (.lst ((sdi s (ws.take i)).map V.int ++ [.int (if decide (0 < fin s (ws.take i)) = true then (1 : Int) else 0)])) := upd_same
    refine ⟨_, rfl, _, rfl, _, _, rfl, rfl, .inl ⟨by decide, by decide⟩, .ref l, rfl, _, rfl, .inl ⟨l, _, -1, _, rfl, rfl, SqL.of el2, atI_last _ _, _, _, rfl, rfl, .inl ⟨by decide, by decide⟩, _, _, rfl, rfl, _, _, rfl, rfl, .inr ?_, _, _, rfl, rfl, ?_⟩⟩
    · constructor <;> split <;> decide
    · refine ⟨⟨some (.int m), ?_⟩, Same.of_upd S nl, ?_, ?_⟩
      · rw [et, fin_snoc, ← st1_sdn hodd, ← hsd]
        rfl
      · rw [upd_ne nlu]
        exact eu'
      · rw [upd_same, et, sdi_snoc, List.map_append, hsd]
        rfl
  · obtain ⟨⟨y3, rfl⟩, S, eu', el⟩ := hP
    rw [List.length_map, List.take_length] at *
    refine ⟨_, rfl, _, rfl, (by show 2 ≤ sizeLine; decide), fun p H2 np S2 e2 => ?_⟩
    have el2 := S2 _ _ el
    exact q p l H2 (S.free np) nl (ne_of e2 el2 (fun z => nomatch z)) (S.trans S2) el2 e2
end
section
variable {P : Program} {w : World} {K : PySem.W.Frag} {mg : Str → Option Value} {base : Heap}
abbrev LV_apart_paper : Nat := 13
def sp_apart_paper : Sp := fun vs H Q _ => ∃ (s u : Int) (p : Addr) (ws : List Int), vs = [.int s, .int u, .ref p] ∧ s % 2 = 1 ∧ u % 2 = 1 ∧ szz s ≤ 100000000000 ∧ szz u ≤ 100000000000 ∧ WOk ws ∧ ws ≠ [] ∧ mx ws < 40000 ∧ H p = some (.tup (ws.map V.int)) ∧
  (∀ (n : Nat) (H' : Hp), IsFst ws s u (some n) → Same H H' → Q .non H') ∧
  ∀ (a r : Addr) (H' : Hp), IsFst ws s u none → Same H H' → H' a = some (.tup [.int (bothN ws s u : Int), .ref r]) → H' r = some (.tup [.int (stS ws).1, .int (stS ws).2]) → Q (.ref a) H'
theorem ok_apart_paper {f : Addr} {fd : FuncData} (F : Fun K "apart_paper" "apart_paper" s_apart_paper f fd) (Z : Bl mg) (G_staying : Kn P w K mg base "staying" P_staying LV_staying sp_staying) (G_both_settled : Kn P w K mg base "both_settled" P_both_settled LV_both_settled sp_both_settled) (G_meeting : Kn P w K mg base "meeting" P_meeting LV_meeting sp_meeting) : FnOk P w K mg base CX0 LV_apart_paper f fd P_apart_paper sp_apart_paper := by
  refine F.ok sc_apart_paper (fun vs H Q E h => ?_) (fun cdv A outer s H vs Q E hr h => ?_)
  · obtain ⟨s, u, p, ws, rfl, _⟩ := h
    rfl
  obtain ⟨s, u, p, ws, rfl, hs, hu, bs, bu, wk, hne, hmx, ep, qn, qa⟩ := h
  refine ⟨_, (pss_cons (ps_if (pt_cmpR (neD (K := K) hr.units) (pe_own G_meeting (hr.mono (by decide)) (by rfl) (pa_cons (pv 0) (pa_cons (pv 1) (pa_cons (pv 2) pa_nil)))) (pe_tupN (pa_cons pe_str pa_nil)) (nomark _)) (pss_one (ps_ret pe_non)) pss_nil)
    (pss_cons (ps_if (pt_not (pt_truth (pv 2) (by intro _; rfl))) (pss_cons (ps_set (i := 3) sc_apart_paper.nd rfl (Or.inl rfl) (pe_callB cr_sorted (by rfl) Z.sorted (by decide +kernel) (pa_cons (pe_lstN (pa_cons (pe_callB call_abs (by rfl) Z.abs (by decide +kernel) (pa_cons (pv 0) pa_nil)) (pa_cons (pe_callB call_abs (by rfl) Z.abs (by decide +kernel) (pa_cons (pv 1) pa_nil)) pa_nil))) pa_nil)))
    (pss_one (ps_ret (pe_tupN (pa_cons pe_int (pa_cons (pe_tupN (pa_cons (pe_ix (ixs (K := K)) (pv 3) pe_int (fun _ _ => rfl)) (pa_cons (pe_ix (ixs (K := K)) (pv 3) pe_int (fun _ _ => rfl)) pa_nil))) pa_nil)))))) pss_nil)
    (pss_one (ps_ret (pe_tupN (pa_cons (pe_own G_both_settled (hr.mono (by decide)) (by rfl) (pa_cons (pv 0) (pa_cons (pv 1) (pa_cons (pv 2) pa_nil)))) (pa_cons (pe_own G_staying (hr.mono (by decide)) (by rfl) (pa_cons (pv 2) pa_nil)) pa_nil))))))), ?_⟩
  refine ⟨_, rfl, _, rfl, _, rfl, s, u, p, ws, rfl, hs, hu, bs, bu, wk, hmx, ep, fun o p1 H1 hF _ S1 e1 => ?_⟩
  refine ⟨(by show 1 ≤ sizeLine; decide), fun p2 H2 np2 S2 e2 => ?_⟩
  refine ⟨.tuple (mtD ws s u o), .tuple [.str "apart"], .tup (SqT.of (S2 _ _ e1)) (dtDpA (mt_dt ws s u o (n := 1))), .tup (SqT.of e2) (.cons (.str _) .nil), Sh.ok (n := 2) (.tup (mt_ok ws s u o)), Sh.ok (n := 1) (.tup (.cons (.str (by decide +kernel)) .nil)), _, rfl, ?_⟩
  rw [apart_eqv]
  cases o with
  | some n => exact qn n H2 hF (S1.trans S2)
  | none =>
    have ep2 := S2 _ _ (S1 _ _ ep)
    have ee : (ws.map V.int).isEmpty = false := by
      cases ws with
      | nil => exact absurd rfl hne
      | cons x xs => rfl
    refine ⟨.ref p, rfl, !(ws.map V.int).isEmpty, .inr (.inl ⟨_, SqT.of ep2, rfl⟩), ?_⟩
    rw [ee]
    refine ⟨_, rfl, _, rfl, _, rfl, s, u, p, ws, rfl, hs, hu, wk, hmx, ep2, fun H3 S3 => ?_⟩
    refine ⟨_, rfl, p, ws, rfl, wk.good hne, wk, S3 _ _ ep2, hmx, fun p4 H4 S4 e4 => ?_⟩
    refine ⟨(by show 2 ≤ sizeLine; decide), fun p5 H5 np5 S5 e5 => ?_⟩
    exact qa p5 p4 H5 hF (S1.trans (S2.trans (S3.trans (S4.trans S5)))) e5 (S5 _ _ e4)
abbrev LV_l_word : Nat := 3
def sp_l_word : Sp := fun vs H Q _ => ∃ (t : Addr) (c b : Nat) (hi : Int), vs = [.ref t, .int c, .int hi] ∧ 1 ≤ hi ∧ hi ≤ 24 ∧ 1 ≤ c ∧ c ≤ 100 ∧ Tp (b + (3 * c + 10)) H t ∧
  ∀ (p : Addr) (ws : List Int) (H' : Hp), Row ws c → Un t H H' → Tp b H' t → H' p = some (.tup (ws.map V.int)) → Q (.ref p) H'
theorem ok_l_word {f : Addr} {fd : FuncData} (F : Fun K "_law_word" "_law_word" s_l_word f fd) (Z : Bl mg) (G_l_draw : Kn P w K mg base "_law_draw" P_l_draw LV_l_draw sp_l_draw) (G_l_weight : Kn P w K mg base "_law_weight" P_l_weight LV_l_weight sp_l_weight) : FnOk P w K mg base CX0 LV_l_word f fd P_l_word sp_l_word := by
  refine F.ok sc_l_word (fun vs H Q E h => ?_) (fun cdv A outer s H vs Q E hr h => ?_)
  · obtain ⟨t, c, b, hi, rfl, _⟩ := h
    rfl
  obtain ⟨t, c, b, hi, rfl, hi1, hi2, hc1, hc2, hT, q⟩ := h
  refine ⟨_, (pss_cons (ps_par (i := 3) (j := 4) (by rfl) sc_l_word.nd rfl rfl (by decide) rfl rfl (pa_cons (pe_op op_add pe_int (pe_own G_l_draw (hr.mono (by decide)) (by rfl) (pa_cons (pv 0) (pa_cons (pv 1) pa_nil)))) (pa_cons (pe_own G_l_draw (hr.mono (by decide)) (by rfl) (pa_cons (pv 0) (pa_cons pe_int pa_nil))) pa_nil)) (by rfl))
    (pss_cons (ps_set (i := 5) sc_l_word.nd rfl (Or.inr rfl) (pe_lcN (own := [("_law_k", 6)]) (g := (gName 6)) (tt := tYes) (by rfl) sc_l_word.nd (pi_range1 (by rfl) Z.range (pa_cons (pe_ix (ixs (K := K)) (pe_lstN (pa_cons (pv 3) (pa_cons (pv 3) (pa_cons (pv 3) (pa_cons (pv 3) (pa_cons pe_int (pa_cons pe_int pa_nil))))))) (pv 4) (fun _ _ => rfl)) pa_nil)) (blkOk_by (own := [("_law_k", 6)]) (N := N_l_word) (sc := defScope s_l_word) (by decide +kernel)) (fun _ _ _ _ _ => (pg_name (i := 6) sc_l_word.nd rfl (Or.inl rfl))) (fun _ _ _ _ _ => pts_nil) (fun _ _ _ _ _ => (pe_own G_l_weight (hr.mono (by decide)) (by rfl) (pa_cons (pv 0) (pa_cons (pv 2) pa_nil))))))
    (pss_one (ps_ret (pe_callTy (call_tupleN (K := K)) (by rfl) Z.tuple (by decide +kernel) (pa_cons (pe_lcN (own := [("_law_k", 6)]) (g := (gName 6)) (tt := tYes) (by rfl) sc_l_word.nd (pi_range1 (by rfl) Z.range (pa_cons (pv 3) pa_nil)) (blkOk_by (own := [("_law_k", 6)]) (N := N_l_word) (sc := defScope s_l_word) (by decide +kernel)) (fun _ _ _ _ _ => (pg_name (i := 6) sc_l_word.nd rfl (Or.inl rfl))) (fun _ _ _ _ _ => pts_nil) (fun _ _ _ _ _ => (pe_ix (ixs (K := K)) (pv 5) (pe_op op_mod (pv 6) (pe_callB (call_lenN (K := K)) (by rfl) Z.len (by decide +kernel) (pa_cons (pv 5) pa_nil))) (fun _ _ => rfl)))) pa_nil)))))), ?_⟩
  refine ⟨.ref t, rfl, .int c, rfl, t, c, b + (3 * c + 9), rfl, by omega, by omega, hT, fun i1 H1 a1 b1 U1 T1 => ?_⟩
  refine ⟨_, _, rfl, rfl, .ref t, rfl, t, 6, b + (3 * c + 8), rfl, by decide, by decide, T1, fun i2 H2 a2 b2 U2 T2 => ?_⟩
  refine ⟨_, _, rfl, ?_⟩
  refine ⟨_, rfl, _, rfl, _, rfl, _, rfl, (by show 6 ≤ sizeLine; decide), fun p3 H3 np3 S3 e3 => ?_⟩
  obtain ⟨n, hn, hp⟩ := pick (xs := [1 + i1, 1 + i1, 1 + i1, 1 + i1, 1, 2]) a2 b2
  have hn' : n = 1 + i1 ∨ n = 1 ∨ n = 2 := by
    have : n = 1 + i1 ∨ n = 1 + i1 ∨ n = 1 + i1 ∨ n = 1 + i1 ∨ n = 1 ∨ n = 2 := by simpa using hn
    omega
  refine ⟨_, rfl, .inl ⟨p3, _, _, _, rfl, rfl, SqL.of e3, hp, n, rfl, by omega, by omega, lcDraw (t := t) (m := hi) (c := b) ((T2.same S3).le (by omega)) (by omega) (fun _ => rfl) (fun j H' b T R k => ⟨.ref t, rfl, .int hi, rfl, t, hi, b, rfl, by omega, by omega, T, k⟩) (fun D us H5 hl hw nD U5 T5 eD => ?_)⟩⟩
  have hpos : 0 < us.length := by omega
  refine ⟨_, rfl, 1 + i1, rfl, by omega, by omega, lcRanF (f := fun k => us.getD (k % us.length) 0) (by omega) (fun _ => rfl) (fun k hk H' R S r => ?_) (fun D6 H6 nD6 S6 eD6 => ?_)⟩
  · have eD' := S _ _ eD
    have hm : k % us.length < us.length := Nat.mod_lt _ hpos
    have e1 : ((0 : Int) + (k : Int)) % (((us.map V.int).length : Nat) : Int) = ((k % us.length : Nat) : Int) := by
      rw [List.length_map, Int.zero_add]
      omega
    have hat : atI (us.map V.int) (((0 : Int) + (k : Int)) % (((us.map V.int).length : Nat) : Int)) = some (.int (us.getD (k % us.length) 0)) := by
      rw [e1]
      refine atI_nat ?_
      rw [List.getElem?_map, List.getElem?_eq_getElem hm, List.getD_eq_getElem?_getD, List.getElem?_eq_getElem hm]
      rfl
    exact ⟨.ref D, rfl, _, rfl, .ref D, rfl, D, _, rfl, .inl (SqL.of eD'), _, _, rfl, rfl, (by show (0 : Int) < (((us.map V.int).length : Nat) : Int); rw [List.length_map]; omega), .inl ⟨D, _, _, _, rfl, rfl, SqL.of eD', hat, r H' (Same.refl _)⟩⟩
  · refine ⟨D6, _, rfl, SqL.of eD6, fun p7 H7 np7 S7 e7 => ?_⟩
    refine q p7 _ H7 ⟨?_, ?_, fun x hx => ?_⟩ (U1.trans (U2.trans ((Un.same S3).trans (U5.trans (Un.same (S6.trans S7)))))) (T5.same (S6.trans S7)) e7
    · intro z
      have z2 := congrArg List.length z
      rw [List.length_map, List.length_range] at z2
      simp at z2
      omega
    · rw [List.length_map, List.length_range]
      omega
    · obtain ⟨k, _, rfl⟩ := List.mem_map.mp hx
      have hm : k % us.length < us.length := Nat.mod_lt _ hpos
      have e2 : us.getD (k % us.length) 0 = us[k % us.length] := by
        rw [List.getD_eq_getElem?_getD, List.getElem?_eq_getElem hm]
        rfl
      rw [e2]
      have hz := hw _ (List.getElem_mem hm)
      exact ⟨hz.1, Int.le_trans hz.2 hi2⟩
abbrev LV_l_led : Nat := 1
theorem fz_snoc : ∀ (us : List Int) (x m : Int), fz x (us ++ [m]) = szz (fz x us - 2 * m)
  | [], _, _ => rfl
  | _ :: us, _, m => fz_snoc us _ m
def sp_l_led : Sp := fun vs H Q _ => ∃ (a u : Addr) (xs ws : List Int), vs = [.ref a, .ref u] ∧ xs.length ≤ 1000 ∧ ws.length ≤ 1000 ∧ H a = some (.lst (xs.map V.int)) ∧ H u = some (.tup (ws.map V.int)) ∧
  ∀ (p : Addr) (H' : Hp), Same H H' → H' p = some (.lst ((xs.map fun x => fz x ws).map V.int)) → Q (.ref p) H'
theorem ok_l_led {f : Addr} {fd : FuncData} (F : Fun K "_law_led" "_law_led" s_l_led f fd) (Z : Bl mg) : FnOk P w K mg base CX0 LV_l_led f fd P_l_led sp_l_led := by
  refine F.ok sc_l_led (fun vs H Q E h => ?_) (fun cdv A outer s H vs Q E hr h => ?_)
  · obtain ⟨a, u, xs, ws, rfl, _⟩ := h
    rfl
  obtain ⟨a, u, xs, ws, rfl, hx, hw, ea, eu, q⟩ := h
  refine ⟨_, (pss_cons (ps_set (i := 2) sc_l_led.nd rfl (Or.inl rfl) (pe_lstN pa_nil))
    (pss_cons (ps_for PassesOwn.never rfl (pi_list (pv 0)) (pg_name (i := 3) sc_l_led.nd rfl (Or.inl rfl))
    (pss_cons (ps_for PassesOwn.never rfl (pi_tup (pv 1)) (pg_name (i := 4) sc_l_led.nd rfl (Or.inl rfl))
    (pss_one (ps_set (i := 3) sc_l_led.nd rfl (Or.inl rfl) (pe_callB call_abs (by rfl) Z.abs (by decide +kernel) (pa_cons (pe_op op_sub (pv 3) (pe_op op_mul pe_int (pv 4))) pa_nil)))))
    (pss_one (ps_expr (pe_bm PySem.F.plainAttrs_list PySem.F.slot_list_append PySem.F.type_list_append mt_append (pv 2) (pa_cons (pv 3) pa_nil))))))
    (pss_one (ps_ret (pv 2))))), ?_⟩
  refine ⟨Nat.zero_le _, fun l H1 nl S1 e1 => ?_⟩
  have ea1 := S1 _ _ ea
  refine ⟨.ref a, rfl, a, rfl, ⟨_, SqL.of ea1⟩, for_list (K := K) (a := a) (xs := xs.map V.int) (fun i σ H' => (∃ y3 y4, σ = [some (.ref a), some (.ref u), some (.ref l), y3, y4]) ∧ Same H H' ∧ H' l = some (.lst (((xs.take i).map fun x => fz x ws).map V.int)))
    ⟨⟨none, none, rfl⟩, S1, e1⟩ (fun i σ H' _ hP => SqL.of (hP.2.1 _ _ ea)) (fun i x σ H' hx' hP => ?_) (fun σ H' hP => ?_)⟩
  · obtain ⟨⟨y3, y4, rfl⟩, S, el⟩ := hP
    obtain ⟨x, _, rfl, hxm⟩ := item_int hx'
    have hi : i < xs.length := (List.getElem?_eq_some_iff.mp hxm).1
    have eu' := S _ _ eu
    refine ⟨.ref u, rfl, u, rfl, ⟨_, SqT.of eu'⟩, for_tup (K := K) (a := u) (xs := ws.map V.int) (fun j σ H2 => (∃ y4, σ = [some (.ref a), some (.ref u), some (.ref l), some (.int (fz x (ws.take j))), y4]) ∧ H2 = H')
      ⟨⟨y4, rfl⟩, rfl⟩ (fun j σ H2 _ hP => by rw [hP.2]; exact SqT.of eu') (fun j w σ H2 hw' hP => ?_) (fun σ H2 hP => ?_)⟩
    · obtain ⟨⟨y4, rfl⟩, rfl⟩ := hP
      obtain ⟨m, _, rfl, hm⟩ := item_int hw'
      have et : ws.take (j + 1) = ws.take j ++ [m] := by rw [List.take_add_one, hm]; rfl
      refine ⟨_, rfl, _, rfl, _, _, rfl, rfl, .inl ⟨by decide, by decide⟩, _, _, rfl, rfl, _, rfl, ⟨some (.int m), ?_⟩, rfl⟩
      rw [et, fz_snoc]
      rfl
    · obtain ⟨⟨y4, rfl⟩, rfl⟩ := hP
      rw [List.length_map, List.take_length] at *
      have et : xs.take (i + 1) = xs.take i ++ [x] := by rw [List.take_add_one, hxm]; rfl
      refine ⟨.ref l, rfl, .inl ⟨rfl, _, SqL.of el⟩, _, rfl, l, _, _, rfl, rfl, el, szl (by rw [List.length_map, List.length_map, List.length_take]; omega), ?_⟩
      refine ⟨⟨_, _, rfl⟩, Same.of_upd S nl, ?_⟩
      rw [upd_same, et, List.map_append, List.map_append]
      rfl
  · obtain ⟨⟨y3, y4, rfl⟩, S, el⟩ := hP
    rw [List.length_map, List.take_length] at el
    exact ⟨_, rfl, q l H' S el⟩
abbrev LV_l_staying : Nat := 2
theorem rn_after {ws : List Int} (g : GoodW ws) : ∀ k : Nat, rn ws (stN ws + k) = stS ws
  | 0 => rfl
  | k + 1 => by
    show be (rn ws (stN ws + k)) ws = stS ws
    rw [rn_after g k, stS_fix g]
def sp_l_staying : Sp := fun vs H Q _ => ∃ (u : Addr) (ws : List Int), vs = [.ref u] ∧ Row ws 12 ∧ H u = some (.tup (ws.map V.int)) ∧
  ∀ (p : Addr) (H' : Hp), H p = none → Same H H' → H' p = some (.lst ((runL (stS ws)).map V.int)) → Q (.ref p) H'
theorem ok_l_staying {f : Addr} {fd : FuncData} (F : Fun K "_law_staying" "_law_staying" s_l_staying f fd) (Z : Bl mg) (G_l_led : Kn P w K mg base "_law_led" P_l_led LV_l_led sp_l_led) : FnOk P w K mg base CX0 LV_l_staying f fd P_l_staying sp_l_staying := by
  refine F.ok sc_l_staying (fun vs H Q E h => ?_) (fun cdv A outer s H vs Q E hr h => ?_)
  · obtain ⟨u, ws, rfl, _⟩ := h
    rfl
  obtain ⟨u, ws, rfl, hrow, eu, q⟩ := h
  refine ⟨_, (pss_cons (ps_set (i := 1) sc_l_staying.nd rfl (Or.inl rfl) (pe_listRg2 rfl (by rfl) Z.list (by rfl) Z.range (pa_cons pe_int (pa_cons (pe_op op_mul pe_int (pe_callB (cr_maxT (K := K) rfl) (by rfl) Z.max (by decide +kernel) (pa_cons (pv 0) pa_nil))) (pa_cons pe_int pa_nil)))))
    (pss_cons (ps_for PassesOwn.never rfl (pi_range1 (by rfl) Z.range (pa_cons (pe_callB (cr_maxT (K := K) rfl) (by rfl) Z.max (by decide +kernel) (pa_cons (pv 0) pa_nil)) pa_nil)) (pg_name (i := 2) sc_l_staying.nd rfl (Or.inl rfl))
    (pss_one (ps_set (i := 1) sc_l_staying.nd rfl (Or.inl rfl) (pe_callB (cr_sortSet (w := w) rfl) (by rfl) Z.sorted (by decide +kernel) (pa_cons (pe_callTy (cr_setL (K := K) (w := w) rfl) (by rfl) Z.set (by decide +kernel) (pa_cons (pe_own G_l_led (hr.mono (by decide)) (by rfl) (pa_cons (pv 1) (pa_cons (pv 0) pa_nil))) pa_nil)) pa_nil)))))
    (pss_one (ps_ret (pv 1))))), ?_⟩
  have g := hrow.good
  have hmx := hrow.mx
  have hl12 := hrow.2.1
  have hp := mx_pos g
  have hst := stN_lt g
  refine ⟨.ref u, rfl, u, ws, rfl, SqT.of eu, List.length_pos_iff.mpr g.1, fun m hm1 hm2 => ?_⟩
  have em := mx_is g hm1 hm2
  subst em
  refine ⟨_, _, rfl, rfl, .inl ⟨by decide, by decide⟩, _, _, rfl, by omega, by omega, by omega, by omega, fun p1 H1 np1 S1 e1 => ?_⟩
  have e1' : H1 p1 = some (.lst ((runL (rn ws 0)).map V.int)) := by
    have : rg2 1 (2 * mx ws) = runL (rn ws 0) := by
      show rg2 1 (2 * mx ws) = rg2 1 (2 * mx ws - 1 + 1)
      rw [Int.sub_add_cancel]
    rw [← this]
    exact e1
  refine ⟨.ref u, rfl, u, ws, rfl, SqT.of (S1 _ _ eu), List.length_pos_iff.mpr g.1, fun m hm3 hm4 => ?_⟩
  have em := mx_is g hm3 hm4
  subst em
  refine ⟨mx ws, rfl, by omega, by omega, for_range (lo := 0) (n := _) (fun i σ H' => (∃ (p : Addr) (y2 : Option V), σ = [some (.ref u), some (.ref p), y2] ∧ H' p = some (.lst ((runL (rn ws i)).map V.int)) ∧ H p = none) ∧ Same H H')
    ⟨⟨p1, none, rfl, e1', np1⟩, S1⟩ (fun i σ H' hi hP => ?_) (fun σ H' hP => ?_)⟩
  · obtain ⟨⟨p, y2, rfl, e, np0⟩, S⟩ := hP
    have o := rn_odds g i
    have o2 : Odds (be (rn ws i) ws).1 (be (rn ws i) ws).2 := rn_odds g (i + 1)
    have hlen : ∀ j, ((runL (rn ws j)).length : Int) ≤ mx ws := fun j => by
      rw [runL_len (rn_odds g j)]
      have h0 : (rn ws j).2 ≤ 2 * mx ws - 1 := by
        induction j with
        | zero => exact Int.le_refl _
        | succ j ih => exact Int.le_trans (rn_in g j).2.2.2.1 ih
      have h1 := (rn_odds g j).2.2.1
      omega
    refine ⟨.ref p, rfl, .ref u, rfl, p, u, runL (rn ws i), ws, rfl, (by have := hlen i; omega), by omega, e, S _ _ eu, fun p2 H2 S2 e2 => ?_⟩
    refine ⟨p2, _, rfl, SqL.of e2, (by rw [List.length_map]; have := hlen i; omega), fun p3 c H3 np3 S3 e3 few => ⟨p3, _, c, rfl, e3, ?_, fun ns p4 H4 asc mem _ np4 S4 e4 => ?_⟩⟩
    · have := few (runL (rn ws (i + 1))) fun x hx => by
        obtain ⟨y, hy, rfl⟩ := List.mem_map.mp hx
        exact (fz_mem ws _ o g.2 _).mp ⟨y, hy, rfl⟩
      have := hlen (i + 1)
      omega
    · have en : ns = runL (rn ws (i + 1)) := asc_ext asc (rg2_asc _ _) fun k => (mem k).trans (decide_eq_true_iff.trans (List.mem_map.trans (fz_mem ws _ o g.2 k)))
      subst en
      exact ⟨⟨p4, _, rfl, e4, (S.trans (S2.trans S3)).free np4⟩, S.trans (S2.trans (S3.trans S4))⟩
  · obtain ⟨⟨p, y2, rfl, e, np0⟩, S⟩ := hP
    have en : rn ws (mx ws).toNat = stS ws := by
      have := rn_after g ((mx ws).toNat - stN ws)
      rwa [show stN ws + ((mx ws).toNat - stN ws) = (mx ws).toNat by omega] at this
    rw [en] at e
    exact ⟨_, rfl, q p H' np0 S e⟩
abbrev LV_l_behind : Nat := 2
def sp_l_behind : Sp := fun vs H Q _ => ∃ (s : Int) (u : Addr) (ws : List Int) (n : Nat), vs = [.int s, .ref u, .int (n : Int)] ∧ s % 2 = 1 ∧ GoodW ws ∧ ws.length ≤ 12 ∧ n ≤ 100000 ∧ H u = some (.tup (ws.map V.int)) ∧
  ∀ (H' : Hp), Same H H' → Q (.int (atW ws s (n : Int))) H'
theorem ok_l_behind {f : Addr} {fd : FuncData} (F : Fun K "_law_behind" "_law_behind" s_l_behind f fd) (Z : Bl mg) (G_l_fallen : Kn P w K mg base "_law_fallen" P_l_fallen LV_l_fallen sp_l_fallen) : FnOk P w K mg base CX0 LV_l_behind f fd P_l_behind sp_l_behind := by
  refine F.ok sc_l_behind (fun vs H Q E h => ?_) (fun cdv A outer s H vs Q E hr h => ?_)
  · obtain ⟨s, u, ws, n, rfl, _⟩ := h
    rfl
  obtain ⟨s, u, ws, n, rfl, ho, g, hl12, hn, eu, q⟩ := h
  refine ⟨_, (pss_cons (ps_par (i := 3) (j := 4) (by rfl) sc_l_behind.nd rfl rfl (by decide) rfl rfl (pa_cons (pe_cut (pe_op op_fdivW (pv 2) (pe_callB (call_lenN (K := K)) (by rfl) Z.len (by decide +kernel) (pa_cons (pv 1) pa_nil)))) (pa_cons (pe_cut (pe_op op_mod (pv 2) (pe_callB (call_lenN (K := K)) (by rfl) Z.len (by decide +kernel) (pa_cons (pv 1) pa_nil)))) pa_nil)) (by rfl))
    (pss_cons (ps_for PassesOwn.never rfl (pi_range1 (by rfl) Z.range (pa_cons (pv 3) pa_nil)) (pg_name (i := 5) sc_l_behind.nd rfl (Or.inl rfl))
    (pss_one (ps_set (i := 0) sc_l_behind.nd rfl (Or.inl rfl) (pe_ix (ixs (K := K)) (pe_own G_l_fallen (hr.mono (by decide)) (by rfl) (pa_cons (pv 0) (pa_cons (pv 1) pa_nil))) pe_int (fun _ _ => rfl)))))
    (pss_one (ps_ret (pe_ix (ixs (K := K)) (pe_own G_l_fallen (hr.mono (by decide)) (by rfl) (pa_cons (pv 0) (pa_cons (pe_slice (sl_tupN (K := K)) (pv 1) po_none (po_some (pv 4))) pa_nil))) pe_int (fun _ _ => rfl)))))), ?_⟩
  have lm : (ws.map V.int).length = ws.length := List.length_map ..
  have hl : 0 < ws.length := List.length_pos_iff.mpr g.1
  have e : atW ws s (n : Int) = fin (itr ws ((n : Int) / ws.length).toNat s) (ws.take ((n : Int) % ws.length).toNat) := if_neg g.1
  rw [e] at q
  have d1 : 0 ≤ (n : Int) / (ws.length : Int) := Int.ediv_nonneg (by omega) (by omega)
  have d2 : (n : Int) / (ws.length : Int) ≤ n := Int.ediv_le_self _ (by omega)
  have m1 : 0 ≤ (n : Int) % (ws.length : Int) := Int.emod_nonneg _ (by omega)
  have m2 : (n : Int) % (ws.length : Int) < (ws.length : Int) := Int.emod_lt_of_pos _ (by omega)
  obtain ⟨a, ha⟩ : ∃ a : Nat, (n : Int) / (ws.length : Int) = (a : Int) := ⟨((n : Int) / (ws.length : Int)).toNat, by omega⟩
  obtain ⟨b, hb⟩ : ∃ b : Nat, (n : Int) % (ws.length : Int) = (b : Int) := ⟨((n : Int) % (ws.length : Int)).toNat, by omega⟩
  rw [ha, hb] at q
  refine ⟨fun v H' => v = .int (a : Int) ∧ H = H', ?_, fun v H' hR => ?_⟩
  · refine ⟨_, rfl, _, rfl, u, _, rfl, .inr (SqT.of eu), _, _, rfl, rfl, wide_div (b := 62) (by rw [lm]; omega) (by rw [lm]; omega) (by decide) (by decide), ?_, rfl⟩
    exact congrArg V.int (by rw [lm]; exact ha)
  obtain ⟨rfl, rfl⟩ := hR
  refine ⟨fun v H' => v = .int (b : Int) ∧ H = H', ?_, fun v H' hR => ?_⟩
  · refine ⟨_, rfl, _, rfl, u, _, rfl, .inr (SqT.of eu), _, _, rfl, rfl, (by rw [lm]; show (0 : Int) < _; omega), ?_, rfl⟩
    exact congrArg V.int (by rw [lm]; exact hb)
  obtain ⟨rfl, rfl⟩ := hR
  refine ⟨_, _, rfl, ?_⟩
  refine ⟨_, rfl, (a : Int), rfl, by omega, by omega, for_range (lo := 0) (n := _) (fun i σ H' => (∃ y5, σ = [some (.int (itr ws i s)), some (.ref u), some (.int (n : Int)), some (.int (a : Int)), some (.int (b : Int)), y5]) ∧ Same H H') ⟨⟨none, rfl⟩, Same.refl _⟩ (fun i σ H1 hi hP => ?_) (fun σ H1 hP => ?_)⟩
  · obtain ⟨⟨y5, rfl⟩, S1⟩ := hP
    refine ⟨_, rfl, _, rfl, itr ws i s, u, ws, rfl, itr_odd ws i s ho, S1 _ _ eu, by omega, fun pb lb HB npb nlb neb SB elb epb => ?_⟩
    exact .inr (.inl ⟨pb, _, 1, _, rfl, rfl, SqT.of epb, rfl, ⟨_, by rw [itr_succ]; rfl⟩, S1.trans SB⟩)
  · obtain ⟨⟨y5, rfl⟩, S1⟩ := hP
    have en : ((a : Int)).toNat = a := by omega
    rw [en] at *
    refine ⟨_, rfl, _, rfl, _, rfl, (b : Int), rfl, u, _, rfl, SqT.of (S1 _ _ eu), cut_part (by omega), fun p3 H3 np3 S3 e3 => ?_⟩
    rw [cut_take (by omega)] at e3
    refine ⟨_, p3, ws.take b, rfl, itr_odd ws a s ho, e3, (by rw [List.length_take]; omega), fun p4 l4 H4 np4 nl4 n4 S4 el4 ep4 => ?_⟩
    exact .inr (.inl ⟨p4, _, 1, _, rfl, rfl, SqT.of ep4, rfl, q H4 (S1.trans (S3.trans S4))⟩)
abbrev LV_l_pair_right : Nat := 3
noncomputable def behV (ws : List Int) (n : Nat) : V → V
  | .int s => .int (atW ws s (n : Int))
  | v => v
noncomputable def behZ (ws : List Int) (n : Nat) : V → V
  | .int s => .int (szz (atW ws s (n : Int)))
  | v => v
def sp_l_pair_right : Sp := fun vs H Q _ => ∃ (s v : Int) (u t e : Addr) (ws : List Int) (E1 E2 : Int) (o : Option Nat), vs = [.int s, .int v, .ref u, .ref t, .ref e] ∧ s % 2 = 1 ∧ v % 2 = 1 ∧ GoodW ws ∧ ws.length ≤ 12 ∧ H u = some (.tup (ws.map V.int)) ∧ H t = some (.tup (mtV ws s v o)) ∧ H e = some (.tup [.int E1, .int E2]) ∧ IsFst ws s v o ∧ (∀ n, o = some n → n ≤ 100000) ∧ (o = none ↔ E1 ≠ E2) ∧
  ∀ (H' : Hp), Same H H' → Q (.bl true) H'
theorem ok_l_pair_right {f : Addr} {fd : FuncData} (F : Fun K "_law_pair_right" "_law_pair_right" s_l_pair_right f fd) (Z : Bl mg) (G_l_behind : Kn P w K mg base "_law_behind" P_l_behind LV_l_behind sp_l_behind) : FnOk P w K mg base CX0 LV_l_pair_right f fd P_l_pair_right sp_l_pair_right := by
  refine F.ok sc_l_pair_right (fun vs H Q E h => ?_) (fun cdv A outer s H vs Q E hr h => ?_)
  · obtain ⟨s, v, u, t, e, ws, E1, E2, o, rfl, _⟩ := h
    rfl
  obtain ⟨s, v, u, t, e, ws, E1, E2, o, rfl, hs, hv, g, hl12, eu, et, ee, hF, hn, hE, q⟩ := h
  refine ⟨_, (pss_cons (ps_if (pt_cut (pt_cmpR op_ne (pe_cmpR (eqD (K := K) hr.units) (pv 3) (pe_tupN (pa_cons pe_str pa_nil)) (nomark _)) (pe_cmpR op_ne (pe_ix (ixs (K := K)) (pv 4) pe_int (fun _ _ => rfl)) (pe_ix (ixs (K := K)) (pv 4) pe_int (fun _ _ => rfl)) (nomark _)) (nomark _))) (pss_one (ps_ret pe_bl)) pss_nil)
    (pss_cons (ps_if (pt_cut (pt_cmpR (eqD (K := K) hr.units) (pv 3) (pe_tupN (pa_cons pe_str pa_nil)) (nomark _))) (pss_one (ps_ret pe_bl)) pss_nil)
    (pss_cons (ps_asg (pe_lcN (own := [("_law_standing", 8)]) (g := (gName 8)) (tt := tYes) (by rfl) sc_l_pair_right.nd (pi_tup (pe_tupN (pa_cons (pv 0) (pa_cons (pv 1) pa_nil)))) (blkOk_by (own := [("_law_standing", 8)]) (N := N_l_pair_right) (sc := defScope s_l_pair_right) (by decide +kernel)) (fun _ _ _ _ _ => (pg_name (i := 8) sc_l_pair_right.nd rfl (Or.inl rfl))) (fun _ _ _ _ _ => pts_nil) (fun _ _ _ _ _ => (pe_own G_l_behind (hr.mono (by decide)) (by rfl) (pa_cons (pv 8) (pa_cons (pv 2) (pa_cons (pe_ix (ixs (K := K)) (pv 3) pe_int (fun _ _ => rfl)) pa_nil)))))) (pg_unlN (K := K) rfl (pgs_cons (pg_name (i := 5) sc_l_pair_right.nd rfl (Or.inl rfl)) (pgs_cons (pg_name (i := 6) sc_l_pair_right.nd rfl (Or.inl rfl)) pgs_nil))))
    (pss_cons (ps_if (pt_cmpR op_ne (pv 5) (pe_cut (pe_ifExp (pt_cmpR op_eq (pe_ix (ixs (K := K)) (pv 3) pe_int (fun _ _ => rfl)) pe_str (nomark _)) (pv 6) (pe_op op_sub pe_int (pv 6)))) (nomark _)) (pss_one (ps_ret pe_bl)) pss_nil)
    (pss_cons (ps_if (pt_cmpR op_eq (pe_ix (ixs (K := K)) (pv 3) pe_int (fun _ _ => rfl)) pe_int (nomark _)) (pss_one (ps_ret (pe_cmpR op_eq (pe_callB call_abs (by rfl) Z.abs (by decide +kernel) (pa_cons (pv 0) pa_nil)) (pe_callB call_abs (by rfl) Z.abs (by decide +kernel) (pa_cons (pv 1) pa_nil)) (nomark _)))) pss_nil)
    (pss_cons (ps_setLcN (i := 7) (own := [("_law_standing", 8)]) (g := (gName 8)) (tt := tYes) (by rfl) sc_l_pair_right.nd rfl rfl (sw_true rfl rfl rfl (by decide +kernel)) (pi_tup (pe_tupN (pa_cons (pv 0) (pa_cons (pv 1) pa_nil)))) (blkOk_by (own := [("_law_standing", 8)]) (N := N_l_pair_right) (sc := defScope s_l_pair_right) (by decide +kernel)) (fun _ _ _ _ _ => (pg_name (i := 8) sc_l_pair_right.nd rfl (Or.inl rfl))) (fun _ _ _ _ _ => pts_nil) (fun _ _ _ _ _ => (pe_callB call_abs (by rfl) Z.abs (by decide +kernel) (pa_cons (pe_own G_l_behind (hr.mono (by decide)) (by rfl) (pa_cons (pv 8) (pa_cons (pv 2) (pa_cons (pe_op op_sub (pe_ix (ixs (K := K)) (pv 3) pe_int (fun _ _ => rfl)) pe_int) pa_nil)))) pa_nil))))
    (pss_one (ps_ret (pe_cmpR op_ne (pe_ix (ixs (K := K)) (pv 7) pe_int (fun _ _ => rfl)) (pe_ix (ixs (K := K)) (pv 7) pe_int (fun _ _ => rfl)) (nomark _)))))))))), ?_⟩
  have hap : ∀ {H1 : Hp}, Same H H1 → ∀ {z : Addr} {R : V → Hp → Prop}, H1 z = some (.tup [.str "apart"]) → R (.bl o.isNone) H1 → rEqD K (.ref t) (.ref z) H1 R := fun {H1} S1 {z} {R} ez r => by
    refine ⟨.tuple (mtD ws s v o), .tuple [.str "apart"], .tup (SqT.of (S1 _ _ et)) (dtDpA (mt_dt ws s v o (n := 1))), .tup (SqT.of ez) (.cons (.str _) .nil), Sh.ok (n := 2) (.tup (mt_ok ws s v o)), Sh.ok (n := 1) (.tup (.cons (.str (by decide +kernel)) .nil)), ?_⟩
    rw [apart_eqv]
    exact r
  refine ⟨fun b H' => b = false ∧ Same H H', ?_, fun b H1 hR => ?_⟩
  · refine ⟨_, rfl, (by show 1 ≤ sizeLine; decide), fun z H1 nz S1 ez => hap S1 ez ?_⟩
    refine ⟨_, rfl, .inr (.inl ⟨e, _, 0, _, rfl, rfl, SqT.of (S1 _ _ ee), rfl, _, rfl, .inr (.inl ⟨e, _, 1, _, rfl, rfl, SqT.of (S1 _ _ ee), rfl, rfl, rfl, _, rfl, ?_, S1⟩)⟩)⟩
    by_cases c : E1 = E2
    · subst c
      cases o with
      | none => exact absurd rfl (hE.mp rfl)
      | some n => simp
    · have : o = none := hE.mpr c
      subst this
      simp [c]
  obtain ⟨rfl, S1⟩ := hR
  refine ⟨fun b H' => b = o.isNone ∧ Same H H', ?_, fun b H2 hR => ?_⟩
  · exact ⟨_, rfl, (by show 1 ≤ sizeLine; decide), fun z H2 nz S2 ez => hap (S1.trans S2) ez ⟨_, rfl, rfl, S1.trans S2⟩⟩
  obtain ⟨rfl, S2⟩ := hR
  cases o with
  | none => exact q H2 S2
  | some n =>
    have hn' := hn n rfl
    have et2 := S2 _ _ et
    refine ⟨_, rfl, _, rfl, (by show 2 ≤ sizeLine; decide), fun z HZ nz SZ ez => ?_⟩
    refine ⟨z, rfl, ⟨_, SqT.of ez⟩, lcMapTV (f := behV ws n) ez (by show 2 ≤ 1000; decide) (fun _ => rfl) (fun x hx H' R' S' k => ?_) (fun D2 HM nD2 SM eD2 => ?_)⟩
    · have hx' : x = .int s ∨ x = .int v := by simpa using hx
      have et' := S' _ _ (SZ _ _ et2)
      have eu' := S' _ _ (SZ _ _ (S2 _ _ eu))
      rcases hx' with rfl | rfl
      · exact ⟨_, rfl, _, rfl, _, rfl, .inr (.inl ⟨t, _, 1, _, rfl, rfl, SqT.of et', rfl, s, u, ws, n, rfl, hs, g, hl12, hn', eu', k⟩)⟩
      · exact ⟨_, rfl, _, rfl, _, rfl, .inr (.inl ⟨t, _, 1, _, rfl, rfl, SqT.of et', rfl, v, u, ws, n, rfl, hv, g, hl12, hn', eu', k⟩)⟩
    have eD3 : HM D2 = some (.lst [.int (atW ws s (n : Int)), .int (atW ws v (n : Int))]) := eD2
    have SM0 := S2.trans (SZ.trans SM)
    have etM := SM0 _ _ et
    have euM := SM0 _ _ eu
    refine ⟨D2, _, rfl, SqL.of eD3, rfl, _, _, rfl, _, _, rfl, rfl, ?_⟩
    refine ⟨_, rfl, ?_⟩
    refine ⟨fun x H' => x = .int (atW ws s (n : Int)) ∧ HM = H', ?_, fun x H' hR => ?_⟩
    · refine ⟨_, rfl, .inr (.inl ⟨t, _, 0, _, rfl, rfl, SqT.of etM, rfl, rfl, _, rfl, ite2 (fun c => ?_) (fun c => ?_)⟩)⟩
      · have c1 : (if atW ws s (n : Int) = atW ws v (n : Int) then ("one" : Str) else "mirrored") = "one" := V.str.inj (of_decide_eq_true c)
        by_cases d : atW ws s (n : Int) = atW ws v (n : Int)
        · exact ⟨_, rfl, congrArg V.int d.symm, rfl⟩
        · rw [if_neg d] at c1
          exact absurd c1 (by decide)
      · have d : ¬ atW ws s (n : Int) = atW ws v (n : Int) := fun z => c (by
          rw [if_pos z]
          decide)
        refine ⟨_, rfl, _, _, rfl, rfl, ?_, rfl⟩
        rcases szz_eq hF.1 with z | z
        · exact absurd z d
        · exact congrArg V.int z.symm
    obtain ⟨rfl, rfl⟩ := hR
    refine ⟨rfl, _, rfl, iteNS rfl ?_⟩
    refine ⟨_, rfl, .inr (.inl ⟨t, _, 1, _, rfl, rfl, SqT.of etM, rfl, rfl, _, rfl, ite2 (fun c => ?_) (fun c => ?_)⟩)⟩
    · have c1 : (n : Int) = 0 := V.int.inj (of_decide_eq_true c)
      have c2 : n = 0 := by omega
      subst c2
      have h0 := hF.1
      unfold metAt at h0
      rw [at_zero, at_zero] at h0
      refine ⟨_, rfl, _, rfl, _, rfl, _, rfl, rfl, ?_⟩
      have h1 : V.int (if s < 0 then -s else s) = V.int (if v < 0 then -v else v) := congrArg V.int h0
      rw [decide_eq_true h1]
      exact q HM SM0
    · have c1 : n ≠ 0 := fun z => c (by subst z; rfl)
      obtain ⟨k, rfl⟩ : ∃ k, n = k + 1 := ⟨n - 1, by omega⟩
      have hk : V.int (((k + 1 : Nat) : Int) - 1) = V.int (k : Int) := congrArg V.int (by omega)
      refine ⟨_, rfl, _, rfl, (by show 2 ≤ sizeLine; decide), fun z2 HY nz2 SY ez2 => ?_⟩
      refine ⟨z2, rfl, ⟨_, SqT.of ez2⟩, lcMapTV (f := behZ ws k) ez2 (by show 2 ≤ 1000; decide) (fun _ => rfl) (fun x hx H' R' S' kk => ?_) (fun D3 HN nD3 SN eD5 => ?_)⟩
      · have hx' : x = .int s ∨ x = .int v := by simpa using hx
        have et' := S' _ _ (SY _ _ etM)
        have eu' := S' _ _ (SY _ _ euM)
        rcases hx' with rfl | rfl
        · exact ⟨_, rfl, _, rfl, _, rfl, .inr (.inl ⟨t, _, 1, _, rfl, rfl, SqT.of et', rfl, _, _, rfl, rfl, s, u, ws, k, congrArg (fun w => [V.int s, V.ref u, w]) hk, hs, g, hl12, by omega, eu', fun H9 S9 => ⟨_, rfl, kk H9 S9⟩⟩)⟩
        · exact ⟨_, rfl, _, rfl, _, rfl, .inr (.inl ⟨t, _, 1, _, rfl, rfl, SqT.of et', rfl, _, _, rfl, rfl, v, u, ws, k, congrArg (fun w => [V.int v, V.ref u, w]) hk, hv, g, hl12, by omega, eu', fun H9 S9 => ⟨_, rfl, kk H9 S9⟩⟩)⟩
      have eD6 : HN D3 = some (.lst [.int (szz (atW ws s (k : Int))), .int (szz (atW ws v (k : Int)))]) := eD5
      refine ⟨_, rfl, .inl ⟨D3, _, 0, _, rfl, rfl, SqL.of eD6, rfl, _, rfl, .inl ⟨D3, _, 1, _, rfl, rfl, SqL.of eD6, rfl, rfl, ?_⟩⟩⟩
      have hno := hF.2 k (by omega)
      rw [decide_eq_false (fun z => hno (V.int.inj z))]
      exact q HN (SM0.trans (SY.trans SN))
abbrev LV_l_slow_right : Nat := 14
/-! ### the word of a weight and one less -/
theorem mm_near {M x : Int} (ho : x % 2 = 1) (h1 : 1 ≤ x) (h2 : x < 2 * M) : fin x [M, M - 1] = x - 2 := by
  show st1 (st1 x M) (M - 1) = x - 2
  unfold st1
  rw [if_neg (show ¬ x < 0 by omega), if_pos (show x - 2 * M < 0 by omega)]
  omega
theorem mm_far {M x : Int} (hM : 2 ≤ M) (h : 2 * M < x) : fin x [M, M - 1] = x - 2 * (2 * M - 1) := by
  show st1 (st1 x M) (M - 1) = _
  unfold st1
  rw [if_neg (show ¬ x < 0 by omega), if_neg (show ¬ x - 2 * M < 0 by omega)]
  omega
theorem mm_one {M : Int} (hM : 2 ≤ M) : fin (-1) [M, M - 1] = 1 := by
  show st1 (st1 (-1) M) (M - 1) = 1
  unfold st1
  rw [if_pos (show (-1 : Int) < 0 by decide), if_neg (show ¬ -1 + 2 * M < 0 by omega)]
  omega
def knM (M z : Int) (k n : Nat) : Int := if n < k then z + 2 * (2 * M - 1) * ((k : Int) - n) else if (n : Int) - k ≤ (z - 1) / 2 then z - 2 * ((n : Int) - k) else if ((n : Int) - k - (z - 1) / 2) % 2 = 0 then 1 else -1
theorem mm_itr {M z : Int} (hM : 2 ≤ M) (ho : z % 2 = 1) (h1 : 1 ≤ z) (h2 : z < 2 * M) (k : Nat) : ∀ n : Nat, itr [M, M - 1] n (z + 2 * (2 * M - 1) * k) = knM M z k n
  | 0 => by
    show z + 2 * (2 * M - 1) * (k : Int) = knM M z k 0
    unfold knM
    by_cases c : 0 < k
    · rw [if_pos c]
      simp
    · have : k = 0 := by omega
      subst this
      rw [if_neg c, if_pos (by omega)]
      simp
  | n + 1 => by
    rw [itr_succ, mm_itr hM ho h1 h2 k n]
    unfold knM
    by_cases c : n < k
    · rw [if_pos c]
      have e : 2 * (2 * M - 1) * ((k : Int) - n) = 2 * (2 * M - 1) * ((k : Int) - ((n + 1 : Nat) : Int)) + 2 * (2 * M - 1) := by
        have : (k : Int) - n = ((k : Int) - ((n + 1 : Nat) : Int)) + 1 := by omega
        rw [this, Int.mul_add, Int.mul_one]
      have p : 0 ≤ 2 * (2 * M - 1) * ((k : Int) - ((n + 1 : Nat) : Int)) := Int.mul_nonneg (by omega) (by omega)
      rw [e]
      by_cases d : n + 1 < k
      · rw [if_pos d]
        generalize 2 * (2 * M - 1) * ((k : Int) - ((n + 1 : Nat) : Int)) = P at *
        rw [mm_far hM (by omega)]
        omega
      · rw [if_neg d, if_pos (by omega)]
        have : (k : Int) - ((n + 1 : Nat) : Int) = 0 := by omega
        rw [this, Int.mul_zero, mm_far hM (by omega)]
        omega
    · rw [if_neg c, if_neg (show ¬ n + 1 < k by omega)]
      by_cases d : (n : Int) - k ≤ (z - 1) / 2
      · rw [if_pos d, mm_near (by omega) (by omega) (by omega)]
        by_cases f : ((n + 1 : Nat) : Int) - k ≤ (z - 1) / 2
        · rw [if_pos f]
          omega
        · rw [if_neg f, if_neg (by omega)]
          omega
      · rw [if_neg d, if_neg (show ¬ ((n + 1 : Nat) : Int) - k ≤ (z - 1) / 2 by omega)]
        by_cases f : ((n : Int) - k - (z - 1) / 2) % 2 = 0
        · rw [if_pos f, if_neg (by omega), mm_near (by decide) (by decide) (by omega)]
          rfl
        · rw [if_neg f, if_pos (by omega), mm_one hM]
theorem mm_good {M : Int} (hM : 2 ≤ M) : GoodW [M, M - 1] := by
  refine ⟨by simp, fun x hx => ?_⟩
  have : x = M ∨ x = M - 1 := by simpa using hx
  omega
theorem mm_mx {M : Int} (hM : 2 ≤ M) : mx [M, M - 1] = M := by
  show max M (max (M - 1) 0) = M
  omega
theorem slow_itr {M : Int} (hM : 2 ≤ M) {z g : Int} (ho : z % 2 = 1) (h1 : 1 ≤ z) (h2 : z < 2 * M) (hg : g = 1 ∨ g = -1) (n : Nat) : itr [M, M - 1] n (z * g) = knM M z 0 n * g := by
  have h := mm_itr hM ho h1 h2 0 n
  rw [show z + 2 * (2 * M - 1) * ((0 : Nat) : Int) = z by simp] at h
  rcases hg with rfl | rfl
  · rw [Int.mul_one, Int.mul_one]
    exact h
  · rw [Int.mul_neg_one, Int.mul_neg_one, show -z = 0 - z by omega, itr_mir _ _ _ ho, h]
    omega
theorem sgn_odd {z g : Int} (ho : z % 2 = 1) (hg : g = 1 ∨ g = -1) : (z * g) % 2 = 1 := by
  rcases hg with rfl | rfl
  · rw [Int.mul_one]
    exact ho
  · rw [Int.mul_neg_one]
    omega
theorem sgn_szz {z g : Int} (hg : g = 1 ∨ g = -1) : szz (z * g) = szz z := by
  rcases hg with rfl | rfl
  · rw [Int.mul_one]
  · rw [Int.mul_neg_one, show -z = 0 - z by omega, szz_mir]
theorem slow_fst {M : Int} (hM : 2 ≤ M) {a b : Nat} (hab : a < b) (hb : (b : Int) ≤ M - 1) {g h : Int} (hg : g = 1 ∨ g = -1) (hh : h = 1 ∨ h = -1) :
    IsFst [M, M - 1] ((2 * (a : Int) + 1) * g) ((2 * (b : Int) + 1) * h) (some (2 * b)) ∧ (atW [M, M - 1] ((2 * (a : Int) + 1) * g) ((2 * b : Nat) : Int) = atW [M, M - 1] ((2 * (b : Int) + 1) * h) ((2 * b : Nat) : Int) ↔ ((b : Int) - a + (if g = h then 0 else 1)) % 2 = 0) := by
  have gd := mm_good hM
  have o1 : (2 * (a : Int) + 1) % 2 = 1 := by omega
  have o2 : (2 * (b : Int) + 1) % 2 = 1 := by omega
  have ea : ∀ (x : Int) (n : Nat), atW [M, M - 1] x ((2 * n : Nat) : Int) = itr [M, M - 1] n x := fun x n => by
    have := at_mul gd.1 x n
    rw [← this]
    congr 1
    show ((2 * n : Nat) : Int) = (n : Int) * 2
    omega
  have k1 : knM M (2 * (a : Int) + 1) 0 b = if ((b : Int) - a) % 2 = 0 then 1 else -1 := by
    unfold knM
    rw [if_neg (Nat.not_lt_zero _), if_neg (by omega)]
    have e : (b : Int) - ((0 : Nat) : Int) - (2 * (a : Int) + 1 - 1) / 2 = (b : Int) - a := by omega
    rw [e]
  have k2 : knM M (2 * (b : Int) + 1) 0 b = 1 := by
    unfold knM
    rw [if_neg (Nat.not_lt_zero _), if_pos (by omega)]
    omega
  have s1 := slow_itr hM o1 (by omega) (by omega) hg
  have s2 := slow_itr hM o2 (by omega) (by omega) hh
  have hs := sgn_odd o1 hg
  have hu := sgn_odd o2 hh
  have met : metAt [M, M - 1] ((2 * (a : Int) + 1) * g) ((2 * (b : Int) + 1) * h) (2 * b) := by
    unfold metAt
    rw [ea, ea, s1, s2, k1, k2, sgn_szz hg, sgn_szz hh]
    split <;> rfl
  refine ⟨⟨met, fun m hm z => ?_⟩, ?_⟩
  · obtain ⟨c, rfl⟩ : ∃ c, b = c + 1 := ⟨b - 1, by omega⟩
    have z2 := met_mono hs hu z (show m ≤ 2 * c + 1 by omega)
    obtain ⟨w, hw, hgr, _⟩ := grow gd.1 (2 * c)
    have ew : w = M := by
      have e : (2 * c) % ([M, M - 1] : List Int).length = 0 := by show (2 * c) % 2 = 0; omega
      rw [e] at hw
      exact (Option.some.inj hw).symm
    subst ew
    unfold metAt at z2
    rw [hgr, hgr, ea, ea, s1, s2, szz_st1 (by rw [← s1]; exact itr_odd _ _ _ hs), szz_st1 (by rw [← s2]; exact itr_odd _ _ _ hu), sgn_szz hg, sgn_szz hh] at z2
    have k3 : knM w (2 * ((c + 1 : Nat) : Int) + 1) 0 c = 3 := by
      unfold knM
      rw [if_neg (Nat.not_lt_zero _), if_pos (by omega)]
      omega
    have k4 : szz (knM w (2 * (a : Int) + 1) 0 c) = 1 := by
      unfold knM
      rw [if_neg (Nat.not_lt_zero _)]
      split
      · have : (2 * (a : Int) + 1 - 2 * ((c : Int) - ((0 : Nat) : Int))) = 1 := by omega
        rw [this]
        rfl
      · split <;> rfl
    rw [k3, k4] at z2
    have z3 : szz (1 - 2 * w) = szz (3 - 2 * w) := z2
    unfold szz at z3
    rw [if_pos (by omega), if_pos (by omega)] at z3
    omega
  · rw [ea, ea, s1, s2, k1, k2, Int.one_mul]
    rcases hg with rfl | rfl <;> rcases hh with rfl | rfl <;> (split <;> simp <;> omega)
def sp_l_slow_right : Sp := fun vs H Q _ => ∃ (t : Addr) (b : Nat), vs = [.ref t] ∧ Tp (b + 10) H t ∧ ∀ (H' : Hp), Un t H H' → Tp b H' t → Q (.bl true) H'
theorem ok_l_slow_right {f : Addr} {fd : FuncData} (F : Fun K "_law_slow_right" "_law_slow_right" s_l_slow_right f fd) (Z : Bl mg) (G_meeting : Kn P w K mg base "meeting" P_meeting LV_meeting sp_meeting) (G_apart_paper : Kn P w K mg base "apart_paper" P_apart_paper LV_apart_paper sp_apart_paper) (G_l_draw : Kn P w K mg base "_law_draw" P_l_draw LV_l_draw sp_l_draw) : FnOk P w K mg base CX0 LV_l_slow_right f fd P_l_slow_right sp_l_slow_right := by
  refine F.ok sc_l_slow_right (fun vs H Q E h => ?_) (fun cdv A outer s H vs Q E hr h => ?_)
  · obtain ⟨t, b, rfl, _⟩ := h
    rfl
  obtain ⟨t, b, rfl, hT, q⟩ := h
  refine ⟨_, (pss_cons (ps_set (i := 1) sc_l_slow_right.nd rfl (Or.inl rfl) (pe_cut (pe_op op_add pe_int (pe_own G_l_draw (hr.mono (by decide)) (by rfl) (pa_cons (pv 0) (pa_cons pe_int pa_nil))))))
    (pss_cons (ps_asg (pe_callB (sortL (K := K)) (by rfl) Z.sorted (by decide +kernel) (pa_cons (pe_lstN (pa_cons (pe_own G_l_draw (hr.mono (by decide)) (by rfl) (pa_cons (pv 0) (pa_cons (pv 1) pa_nil))) (pa_cons (pe_own G_l_draw (hr.mono (by decide)) (by rfl) (pa_cons (pv 0) (pa_cons (pv 1) pa_nil))) pa_nil))) pa_nil)) (pg_unlN (K := K) rfl (pgs_cons (pg_name (i := 2) sc_l_slow_right.nd rfl (Or.inl rfl)) (pgs_cons (pg_name (i := 3) sc_l_slow_right.nd rfl (Or.inl rfl)) pgs_nil))))
    (Evl.pss_cut (ps_if (pt_cmpR op_eq (pv 2) (pv 3) (nomark _)) (pss_one (ps_par (i := 2) (j := 3) (by rfl) sc_l_slow_right.nd rfl rfl (by decide) rfl rfl (pa_cons pe_int (pa_cons (pe_callB (call_max2 rfl) (by rfl) Z.max (by decide +kernel) (pa_cons pe_int (pa_cons (pv 3) pa_nil))) pa_nil)) (by rfl))) pss_nil)
    (pss_cons (ps_setLcN (i := 4) (own := [("_law_turn", 9)]) (g := (gName 9)) (tt := tYes) (by rfl) sc_l_slow_right.nd rfl rfl (sw_true rfl rfl rfl (by decide +kernel)) (pi_range1 (by rfl) Z.range (pa_cons pe_int pa_nil)) (blkOk_by (own := [("_law_turn", 9)]) (N := N_l_slow_right) (sc := defScope s_l_slow_right) (by decide +kernel)) (fun _ _ _ _ _ => (pg_name (i := 9) sc_l_slow_right.nd rfl (Or.inl rfl))) (fun _ _ _ _ _ => pts_nil) (fun _ _ _ _ _ => (pe_ix (ixs (K := K)) (pe_lstN (pa_cons pe_int (pa_cons (pe_un un_neg pe_int) pa_nil))) (pe_own G_l_draw (hr.mono (by decide)) (by rfl) (pa_cons (pv 0) (pa_cons pe_int pa_nil))) (fun _ _ => rfl))))
    (pss_cons (ps_set (i := 5) sc_l_slow_right.nd rfl (Or.inl rfl) (pe_tupN (pa_cons (pv 1) (pa_cons (pe_op op_sub (pv 1) pe_int) pa_nil))))
    (pss_cons (ps_par (i := 6) (j := 7) (by rfl) sc_l_slow_right.nd rfl rfl (by decide) rfl rfl (pa_cons (pe_cut (pe_op op_mul (pe_op op_add (pe_op op_mul pe_int (pv 2)) pe_int) (pe_ix (ixs (K := K)) (pv 4) pe_int (fun _ _ => rfl)))) (pa_cons (pe_cut (pe_op op_mul (pe_op op_add (pe_op op_mul pe_int (pv 3)) pe_int) (pe_ix (ixs (K := K)) (pv 4) pe_int (fun _ _ => rfl)))) pa_nil)) (by rfl))
    (pss_cons (ps_set (i := 8) sc_l_slow_right.nd rfl (Or.inl rfl) (pe_tupN (pa_cons (pe_cut (pe_ix (ixs (K := K)) (pe_lstN (pa_cons pe_str (pa_cons pe_str pa_nil))) (pe_op op_mod (pe_op op_add (pe_op op_sub (pv 3) (pv 2)) (pe_callTy call_int1 (by rfl) Z.int (by decide +kernel) (pa_cons (pe_cmpR op_ne (pe_ix (ixs (K := K)) (pv 4) pe_int (fun _ _ => rfl)) (pe_ix (ixs (K := K)) (pv 4) pe_int (fun _ _ => rfl)) (nomark _)) pa_nil))) pe_int) (fun _ _ => rfl))) (pa_cons (pe_op op_mul pe_int (pv 3)) pa_nil))))
    (pss_cons (ps_if (PW.pt (pw_or (pt_cmpR (neD (K := K) hr.units) (pe_own G_meeting (hr.mono (by decide)) (by rfl) (pa_cons (pv 6) (pa_cons (pv 7) (pa_cons (pv 5) pa_nil)))) (pv 8) (nomark _)) (pw_or1 (pt_cmpR (neD (K := K) hr.units) (pe_own G_meeting (hr.mono (by decide)) (by rfl) (pa_cons (pv 7) (pa_cons (pv 6) (pa_cons (pv 5) pa_nil)))) (pv 8) (nomark _))))) (pss_one (ps_ret pe_bl)) pss_nil)
    (pss_one (ps_ret (pe_cmpR op_isN (pe_own G_apart_paper (hr.mono (by decide)) (by rfl) (pa_cons (pv 6) (pa_cons (pv 7) (pa_cons (pv 5) pa_nil)))) pe_non (nomark _)))))))))))), ?_⟩
  refine ⟨fun v H' => ∃ M : Int, v = .int M ∧ 2 ≤ M ∧ M ≤ 24 ∧ Un t H H' ∧ Tp (b + 9) H' t, ?_, fun v H1 hR => ?_⟩
  · exact ⟨.ref t, rfl, t, 23, b + 9, rfl, by decide, by decide, hT, fun i0 H1 a0 b0 U1 T1 => ⟨_, _, rfl, rfl, 2 + i0, rfl, by omega, by omega, U1, T1⟩⟩
  obtain ⟨M, rfl, hM, hM2, U1, T1⟩ := hR
  refine ⟨.ref t, rfl, _, rfl, t, M, b + 8, rfl, by omega, by omega, T1, fun d1 H2 a1 b1 U2 T2 => ?_⟩
  refine ⟨.ref t, rfl, _, rfl, t, M, b + 7, rfl, by omega, by omega, T2, fun d2 H3 a2 b2 U3 T3 => ?_⟩
  refine ⟨(by show 2 ≤ sizeLine; decide), fun p4 H4 np4 S4 e4 => ?_⟩
  refine ⟨p4, [d1, d2], rfl, SqL.of e4, (by show 2 < 64; decide), fun ns pn H5 perm asc npn S5 en => ?_⟩
  obtain ⟨x, y, rfl⟩ : ∃ x y, ns = [x, y] := by
    have hl := perm.length_eq
    match ns, hl with
    | [x, y], _ => exact ⟨x, y, rfl⟩
  have hx : x = d1 ∨ x = d2 := by simpa using perm.mem_iff.mp (List.mem_cons_self ..)
  have hy : y = d1 ∨ y = d2 := by simpa using perm.mem_iff.mp (List.mem_cons_of_mem _ (List.mem_cons_self ..))
  have hxy : x ≤ y := (List.pairwise_cons.mp asc).1 y (List.mem_cons_self ..)
  refine ⟨pn, _, rfl, SqL.of en, rfl, _, _, rfl, _, _, rfl, rfl, ?_⟩
  have U5 : Un t H H5 := U1.trans (U2.trans (U3.trans (Un.same (S4.trans S5))))
  have T5 : Tp (b + 7) H5 t := T3.same (S4.trans S5)
  refine ⟨fun σ' H' => H' = H5 ∧ ∃ (sm g : Nat) (y4 y5 y6 y7 y8 y9 : Option V), sm < g ∧ (g : Int) ≤ M - 1 ∧ σ' = [some (.ref t), some (.int M), some (.int (sm : Int)), some (.int (g : Int)), y4, y5, y6, y7, y8, y9], ?_, fun σ' H' hR => ?_⟩
  · refine ⟨_, rfl, _, rfl, rfl, _, rfl, ite2 (fun c => ?_) (fun c => ?_)⟩
    · have c1 : x = y := V.int.inj (of_decide_eq_true c)
      refine ⟨_, rfl, _, _, rfl, _, _, rfl, rfl, 0, (if y > 1 then y else 1).toNat, none, none, none, none, none, none, ?_, ?_, ?_⟩
      · split <;> omega
      · split <;> omega
      · have e : (((if y > 1 then y else 1).toNat : Nat) : Int) = if y > 1 then y else 1 := by split <;> omega
        rw [e]
        rfl
    · have c1 : ¬ x = y := fun z => c (decide_eq_true (congrArg V.int z))
      refine ⟨rfl, x.toNat, y.toNat, none, none, none, none, none, none, by omega, by omega, ?_⟩
      rw [show ((x.toNat : Nat) : Int) = x by omega, show ((y.toNat : Nat) : Int) = y by omega]
      rfl
  obtain ⟨rfl, sm, g, y4, y5, y6, y7, y8, y9, hsg, hgM, rfl⟩ := hR
  refine ⟨2, rfl, by decide, by decide, lcDrawP (t := t) (p := fun v => v = 1 ∨ v = -1) (n := 2) (d := 1) (c := b + 5) T5 (by decide) (fun _ => rfl) (fun i H' c U T R k => ?_) (fun D ss H6 hl hs nD U6 T6 eD => ?_)⟩
  · refine ⟨_, rfl, (by show 2 ≤ sizeLine; decide), fun p7 H7 np7 S7 e7 => ?_⟩
    refine ⟨.ref t, rfl, t, 2, c, rfl, by decide, by decide, T.same S7, fun d H8 a8 b8 U8 T8 => ?_⟩
    have hd : d = 0 ∨ d = 1 := by omega
    have e8 := U8 _ _ (T.nn np7) e7
    rcases hd with rfl | rfl
    · exact .inl ⟨p7, _, _, _, rfl, rfl, SqL.of e8, rfl, k 1 H8 (.inl rfl) ((Un.same S7).trans U8) T8⟩
    · exact .inl ⟨p7, _, _, _, rfl, rfl, SqL.of e8, rfl, k (-1) H8 (.inr rfl) ((Un.same S7).trans U8) T8⟩
  obtain ⟨g1, g2, rfl⟩ : ∃ x y, ss = [x, y] := by
    match ss, hl with
    | [x, y], _ => exact ⟨x, y, rfl⟩
  have hg1 := hs g1 (List.mem_cons_self ..)
  have hg2 := hs g2 (List.mem_cons_of_mem _ (List.mem_cons_self ..))
  have eD : H6 D = some (.lst [.int g1, .int g2]) := eD
  refine ⟨_, rfl, _, rfl, _, _, rfl, rfl, (by show 2 ≤ sizeLine; decide), fun u H7 nu S7 eu => ?_⟩
  have eu : H7 u = some (.tup (([M, M - 1] : List Int).map V.int)) := eu
  have eD7 := S7 _ _ eD
  have bd : ∀ {x : Int}, (x = 1 ∨ x = -1) → -(2 ^ 64) < x ∧ x < 2 ^ 64 := fun h => by
    rcases h with rfl | rfl <;> decide
  refine ⟨fun v H' => v = .int ((2 * (sm : Int) + 1) * g1) ∧ H7 = H', ?_, fun v H' hR => ?_⟩
  · exact ⟨_, rfl, _, _, rfl, rfl, .inl ⟨by decide, by decide⟩, _, _, rfl, rfl, _, rfl, .inl ⟨D, _, 0, _, rfl, rfl, SqL.of eD7, rfl, _, _, rfl, rfl, .inr (bd hg1), rfl, rfl⟩⟩
  obtain ⟨rfl, rfl⟩ := hR
  refine ⟨fun v H' => v = .int ((2 * (g : Int) + 1) * g2) ∧ H7 = H', ?_, fun v H' hR => ?_⟩
  · exact ⟨_, rfl, _, _, rfl, rfl, .inl ⟨by decide, by decide⟩, _, _, rfl, rfl, _, rfl, .inl ⟨D, _, 1, _, rfl, rfl, SqL.of eD7, rfl, _, _, rfl, rfl, .inr (bd hg2), rfl, rfl⟩⟩
  obtain ⟨rfl, rfl⟩ := hR
  refine ⟨_, _, rfl, ?_⟩
  have o1 : (2 * (sm : Int) + 1) % 2 = 1 := by omega
  have o2 : (2 * (g : Int) + 1) % 2 = 1 := by omega
  have hs1 := sgn_odd o1 hg1
  have hs2 := sgn_odd o2 hg2
  have z1 : szz ((2 * (sm : Int) + 1) * g1) ≤ 100000000000 := by
    rw [sgn_szz hg1]
    unfold szz
    split <;> omega
  have z2 : szz ((2 * (g : Int) + 1) * g2) ≤ 100000000000 := by
    rw [sgn_szz hg2]
    unfold szz
    split <;> omega
  obtain ⟨hF, hpar⟩ := slow_fst hM hsg hgM hg1 hg2
  have gd := mm_good hM
  have wk : WOk [M, M - 1] := ⟨gd.2, (by show 2 ≤ 1000; decide), by show M + (M - 1 + 0) < 1099511627776; omega⟩
  have hmx : mx [M, M - 1] < 40000 := by
    rw [mm_mx hM]
    omega
  generalize (2 * (sm : Int) + 1) * g1 = s at hF hpar hs1 z1 ⊢
  generalize (2 * (g : Int) + 1) * g2 = v at hF hpar hs2 z2 ⊢
  refine ⟨fun x H' => x = .str (if atW [M, M - 1] s ((2 * g : Nat) : Int) = atW [M, M - 1] v ((2 * g : Nat) : Int) then "one" else "mirrored") ∧ Same H7 H', ?_, fun x H8 hR => ?_⟩
  · refine ⟨(by show 2 ≤ sizeLine; decide), fun p8 H8 np8 S8 e8 => ?_⟩
    have eD8 := S8 _ _ eD7
    refine ⟨_, rfl, _, rfl, _, _, rfl, rfl, _, rfl, .inl ⟨D, _, 0, _, rfl, rfl, SqL.of eD8, rfl, _, rfl, .inl ⟨D, _, 1, _, rfl, rfl, SqL.of eD8, rfl, rfl, .inr ⟨_, rfl, _, _, rfl, rfl, _, _, rfl, rfl, (by show (0 : Int) < 2; decide), ?_⟩⟩⟩⟩
    have ei : (if (!decide (V.int g1 = V.int g2)) = true then (1 : Int) else 0) = if g1 = g2 then 0 else 1 := by
      by_cases c : g1 = g2
      · subst c
        simp
      · have : ¬ V.int g1 = V.int g2 := fun z => c (V.int.inj z)
        simp [c, this]
    rw [ei]
    show rIx K (.ref p8) (.int (((g : Int) - sm + (if g1 = g2 then 0 else 1)) % 2)) H8 _
    by_cases c : ((g : Int) - sm + (if g1 = g2 then 0 else 1)) % 2 = 0
    · rw [c, if_pos (hpar.mpr c)]
      exact .inl ⟨p8, _, 0, _, rfl, rfl, SqL.of e8, rfl, rfl, S8⟩
    · rw [show ((g : Int) - sm + (if g1 = g2 then 0 else 1)) % 2 = 1 by omega, if_neg (fun z => c (hpar.mp z))]
      exact .inl ⟨p8, _, 1, _, rfl, rfl, SqL.of e8, rfl, rfl, S8⟩
  obtain ⟨rfl, S8⟩ := hR
  refine ⟨_, rfl, _, _, rfl, rfl, .inl ⟨by decide, by decide⟩, (by show 2 ≤ sizeLine; decide), fun du H9 ndu S9 edu => ?_⟩
  have eg : (2 : Int) * (g : Int) = ((2 * g : Nat) : Int) := by omega
  have edu : H9 du = some (.tup (mtV [M, M - 1] s v (some (2 * g)))) := by
    exact edu.trans (congrArg (fun z => some (HO.tup [V.str (if atW [M, M - 1] s ((2 * g : Nat) : Int) = atW [M, M - 1] v ((2 * g : Nat) : Int) then "one" else "mirrored"), V.int z])) eg)
  have eu9 := S9 _ _ (S8 _ _ eu)
  refine ⟨_, rfl, _, rfl, _, rfl, s, v, u, [M, M - 1], rfl, hs1, hs2, z1, z2, wk, hmx, eu9, fun o p1 HA hF1 _ SA e1 => ?_⟩
  have eo := fst_uniq hF1 hF
  subst eo
  have eqv : PyData.eqv (.tuple (mtD [M, M - 1] s v (some (2 * g)))) (.tuple (mtD [M, M - 1] s v (some (2 * g)))) = true := SeqAt.eqv_refl _ (SeqAt.canLay_of_shaped (Sh.ok (n := 2) (.tup (mt_ok [M, M - 1] s v _))))
  have dp : ∀ {H' : Hp} {a : Addr}, H' a = some (.tup (mtV [M, M - 1] s v (some (2 * g)))) → Dp K H' (.ref a) (.tuple (mtD [M, M - 1] s v (some (2 * g)))) := fun e => .tup (SqT.of e) (dtDpA (mt_dt [M, M - 1] s v _ (n := 1)))
  have sh : SeqAt.shaped (.tuple (mtD [M, M - 1] s v (some (2 * g)))) = true := Sh.ok (n := 2) (.tup (mt_ok [M, M - 1] s v _))
  refine ⟨_, rfl, _, _, dp e1, dp (SA _ _ edu), sh, sh, ?_⟩
  rw [eqv]
  refine ⟨_, rfl, ?_⟩
  refine ⟨_, rfl, _, rfl, _, rfl, v, s, u, [M, M - 1], rfl, hs2, hs1, z2, z1, wk, hmx, SA _ _ eu9, fun o p2 HB hF2 _ SB e2 => ?_⟩
  have eo := fst_uniq (met_sym hF2) hF
  subst eo
  rw [mtV_sym] at e2
  refine ⟨_, rfl, _, _, dp e2, dp (SB _ _ (SA _ _ edu)), sh, sh, ?_⟩
  rw [eqv]
  refine ⟨_, rfl, ?_⟩
  have SAB := S8.trans (S9.trans (SA.trans SB))
  refine ⟨_, rfl, _, rfl, _, rfl, s, v, u, [M, M - 1], rfl, hs1, hs2, z1, z2, wk, gd.1, hmx, SAB _ _ eu, fun n HH hFn SH => ?_, fun a r HH hFn SH ea er => ?_⟩
  · refine ⟨rfl, ?_⟩
    show Q (V.bl (decide (V.non = V.non))) HH
    rw [decide_eq_true rfl]
    exact q HH (U5.trans (U6.trans (Un.same (S7.trans (SAB.trans SH))))) ((T6.same (S7.trans (SAB.trans SH))).le (by omega))
  · exact absurd hF.1 (hFn _)
abbrev LV_l_right : Nat := 13
theorem met_trans {ws : List Int} {a b c : Int} {n : Nat} (h : metAt ws a b n) (k : metAt ws b c n) : metAt ws a c n := Eq.trans h k
theorem met_symm {ws : List Int} {a b : Int} {n : Nat} (h : metAt ws a b n) : metAt ws b a n := Eq.symm h
/-- of three starts the later meeting of two is that of the other two, too -/
theorem fst_ultra {ws : List Int} {a b c : Int} (ha : a % 2 = 1) (hb : b % 2 = 1) (hc : c % 2 = 1) {n m : Nat} {o : Option Nat} (h1 : IsFst ws a b (some n)) (h2 : IsFst ws b c (some m)) (h3 : IsFst ws a c o) : ∃ k, o = some k ∧ k ≤ max n m := by
  have h := met_trans (met_mono ha hb h1.1 (Nat.le_max_left n m)) (met_mono hb hc h2.1 (Nat.le_max_right n m))
  cases o with
  | none => exact absurd h (h3 _)
  | some k => exact ⟨k, rfl, Nat.le_of_not_lt fun z => h3.2 _ z h⟩
def whenL : List (Option Nat) → List Int
  | [] => []
  | some n :: os => (n : Int) :: whenL os
  | none :: os => whenL os
theorem whenL_app (os ps : List (Option Nat)) : whenL (os ++ ps) = whenL os ++ whenL ps := by
  induction os with
  | nil => rfl
  | cons o os ih =>
    cases o with
    | none => exact ih
    | some n => exact congrArg ((n : Int) :: ·) ih
theorem whenL_len (os : List (Option Nat)) : (whenL os).length ≤ os.length := by
  induction os with
  | nil => exact Nat.le_refl _
  | cons o os ih =>
    cases o with
    | none => exact Nat.le_succ_of_le ih
    | some n => exact Nat.succ_le_succ ih
theorem perm_sum : ∀ {xs ys : List Int}, xs.Perm ys → xs.sum = ys.sum := fun h => by
  induction h with
  | nil => rfl
  | cons x _ ih => simp [ih]
  | swap x y l => simp; omega
  | trans _ _ i1 i2 => exact i1.trans i2
theorem nodup_le : ∀ {A B : List Int}, A.Nodup → (∀ x ∈ A, x ∈ B) → A.length ≤ B.length
  | [], _, _, _ => Nat.zero_le _
  | a :: A, B, nd, sub => by
    obtain ⟨n1, n2⟩ := List.nodup_cons.mp nd
    have ha := sub a (List.mem_cons_self ..)
    have hp := List.length_pos_of_mem ha
    have ih := nodup_le (B := B.erase a) n2 fun x hx => (List.mem_erase_of_ne fun z : x = a => n1 (by rw [← z]; exact hx)).mpr (sub x (List.mem_cons_of_mem _ hx))
    rw [List.length_erase_of_mem ha] at ih
    rw [List.length_cons]
    omega
theorem three_two {x y z a c : Int} (h : c ≤ a) (hx : x = a ∨ x = c) (hy : y = a ∨ y = c) (hz : z = a ∨ z = c) (h1 : x ≤ y) (h2 : y ≤ z) (hs : x + y + z = 2 * a + c) : y = z := by omega
/-- what is told of three starts -/
theorem three_ok {ws : List Int} {a b c : Int} (ha : a % 2 = 1) (hb : b % 2 = 1) (hc : c % 2 = 1) {o1 o2 o3 : Option Nat} (h1 : IsFst ws a b o1) (h2 : IsFst ws b c o2) (h3 : IsFst ws a c o3) {ns : List Int} (perm : ns.Perm (whenL [o1, o2, o3])) (asc : ns.Pairwise (· ≤ ·)) :
    ns.length ≠ 2 ∧ (ns.length = 3 → ∃ x y, ns = [x, y, y]) := by
  have hl := perm.length_eq
  match o1, o2, o3, h1, h2, h3 with
  | none, none, none, _, _, _ => rw [hl]; exact ⟨by decide, fun z => absurd z (by decide)⟩
  | none, none, some _, _, _, _ => rw [hl]; exact ⟨(by show 1 ≠ 2; decide), fun z => absurd z (by show ¬ 1 = 3; decide)⟩
  | none, some _, none, _, _, _ => rw [hl]; exact ⟨(by show 1 ≠ 2; decide), fun z => absurd z (by show ¬ 1 = 3; decide)⟩
  | some _, none, none, _, _, _ => rw [hl]; exact ⟨(by show 1 ≠ 2; decide), fun z => absurd z (by show ¬ 1 = 3; decide)⟩
  | some n, some m, none, h1, h2, h3 =>
    obtain ⟨k, e, _⟩ := fst_ultra ha hb hc h1 h2 h3
    cases e
  | some n, none, some m, h1, h2, h3 =>
    obtain ⟨k, e, _⟩ := fst_ultra hb ha hc (met_sym h1) h3 h2
    cases e
  | none, some n, some m, h1, h2, h3 =>
    obtain ⟨k, e, _⟩ := fst_ultra ha hc hb h3 (met_sym h2) h1
    cases e
  | some n, some m, some k, h1, h2, h3 =>
    rw [hl]
    refine ⟨(by show 3 ≠ 2; decide), fun _ => ?_⟩
    obtain ⟨k1, e1, u1⟩ := fst_ultra ha hb hc h1 h2 h3
    obtain ⟨k2, e2, u2⟩ := fst_ultra hb ha hc (met_sym h1) h3 h2
    obtain ⟨k3, e3, u3⟩ := fst_ultra ha hc hb h3 (met_sym h2) h1
    cases e1
    cases e2
    cases e3
    have hl3 : ns.length = 3 := hl
    obtain ⟨x, y, z, rfl⟩ : ∃ x y z, ns = [x, y, z] := by
      match ns, hl3 with
      | [x, y, z], _ => exact ⟨x, y, z, rfl⟩
    have hp : [x, y, z].Perm [(n : Int), (m : Int), (k : Int)] := perm
    have hsum : x + y + z = n + m + k := by
      have := perm_sum hp
      simp at this
      omega
    have hx : x = n ∨ x = m ∨ x = k := by simpa using hp.mem_iff.mp (List.mem_cons_self ..)
    have hy : y = n ∨ y = m ∨ y = k := by simpa using hp.mem_iff.mp (List.mem_cons_of_mem _ (List.mem_cons_self ..))
    have hz : z = n ∨ z = m ∨ z = k := by simpa using hp.mem_iff.mp (List.mem_cons_of_mem _ (List.mem_cons_of_mem _ (List.mem_cons_self ..)))
    obtain ⟨p1, p2⟩ := List.pairwise_cons.mp asc
    have xy := p1 y (List.mem_cons_self ..)
    have yz := (List.pairwise_cons.mp p2).1 z (List.mem_cons_self ..)
    have e : y = z := by
      by_cases c1 : n = m
      · exact three_two (a := n) (c := k) (by omega) (by omega) (by omega) (by omega) xy yz (by omega)
      · by_cases c2 : m = k
        · exact three_two (a := m) (c := n) (by omega) (by omega) (by omega) (by omega) xy yz (by omega)
        · exact three_two (a := n) (c := m) (by omega) (by omega) (by omega) (by omega) xy yz (by omega)
    exact ⟨x, y, by rw [e]⟩
/-- what is told so far -/
def ToldAt (H : Hp) (kvs : List (List Key × V)) (ws : List Int) (f : Nat → Int) (j i : Nat) : Prop := ∃ (q : Addr) (o : Option Nat), valV kvs [Sum.inl (j : Int), Sum.inl (i : Int)] = some (.ref q) ∧ H q = some (.tup (mtV ws (f i) (f j) o)) ∧ IsFst ws (f i) (f j) o
theorem ToldAt.un {H H' : Hp} {d : Addr} {kvs : List (List Key × V)} {ws : List Int} {f : Nat → Int} {j i : Nat} (U : Un d H H') (hd : ∀ xs, H d ≠ some (.tup xs)) (h : ToldAt H kvs ws f j i) : ToldAt H' kvs ws f j i := by
  obtain ⟨q, o, h1, h2, h3⟩ := h
  exact ⟨q, o, h1, U _ _ (fun z => hd _ (by rw [← z]; exact h2)) h2, h3⟩
theorem ToldAt.put {H : Hp} {kvs : List (List Key × V)} {ws : List Int} {f : Nat → Int} {j i j' i' : Nat} {v : V} (ne : ¬ (j' = j ∧ i' = i)) (h : ToldAt H kvs ws f j' i') : ToldAt H (putK kvs [Sum.inl (j : Int), Sum.inl (i : Int)] v) ws f j' i' := by
  obtain ⟨q, o, h1, h2, h3⟩ := h
  refine ⟨q, o, ?_, h2, h3⟩
  rw [valV_put, if_neg (fun z => ne ?_)]
  · exact h1
  · have z1 : (Sum.inl (j' : Int) : Key) = Sum.inl (j : Int) := (List.cons.inj z).1
    have z2 : (Sum.inl (i' : Int) : Key) = Sum.inl (i : Int) := (List.cons.inj (List.cons.inj z).2).1
    have := Sum.inl.inj z1
    have := Sum.inl.inj z2
    omega
def DoneT (I J j i : Nat) : Prop := j < i ∧ (i < I ∨ i = I ∧ j < J)
theorem end_met {ws : List Int} (g : GoodW ws) {s u : Int} (hs : s % 2 = 1) (hu : u % 2 = 1) (bs : szz s < 2 * mx ws) (bu : szz u < 2 * mx ws) {N : Nat} (hN : N = (mx ws).toNat * ws.length) {o : Option Nat} (h : IsFst ws s u o) :
    o = none ↔ szz (atW ws s (N : Int)) ≠ szz (atW ws u (N : Int)) := by
  have hst := stN_lt g
  have hp := mx_pos g
  have e1 : ∀ x, setOf ws x = setN ws x := fun x => if_neg g.1
  have hb : bothN ws s u ≤ (mx ws).toNat := by
    unfold bothN
    rw [e1, e1]
    have a := setN_small g hs bs
    have b := setN_small g hu bu
    omega
  have hle : enoughN ws s u ≤ N := by
    rw [hN]
    exact Nat.mul_le_mul_right _ hb
  constructor
  · intro z
    subst z
    exact h N
  · intro z
    cases o with
    | none => rfl
    | some n => exact absurd (met_mono hs hu (met_enough g.2 hs hu h.1) hle) z
theorem end_le {ws : List Int} (g : GoodW ws) {s u : Int} (hs : s % 2 = 1) (hu : u % 2 = 1) (bs : szz s < 2 * mx ws) (bu : szz u < 2 * mx ws) : enoughN ws s u ≤ (mx ws).toNat * ws.length := by
  have hst := stN_lt g
  have hp := mx_pos g
  have e1 : ∀ x, setOf ws x = setN ws x := fun x => if_neg g.1
  refine Nat.mul_le_mul_right _ ?_
  unfold bothN
  rw [e1, e1]
  have a := setN_small g hs bs
  have b := setN_small g hu bu
  omega
def sp_l_right : Sp := fun vs H Q _ => ∃ (t : Addr) (b : Nat), vs = [.ref t] ∧ Tp (b + 100) H t ∧ ∀ (H' : Hp), Un t H H' → Tp b H' t → Q (.bl true) H'
theorem ok_l_right {f : Addr} {fd : FuncData} (F : Fun K "_law_right" "_law_right" s_l_right f fd) (Z : Bl mg) (G_spots : Kn P w K mg base "spots" P_spots LV_spots sp_spots) (G_staying : Kn P w K mg base "staying" P_staying LV_staying sp_staying) (G_length : Kn P w K mg base "length" P_length LV_length sp_length) (G_meeting : Kn P w K mg base "meeting" P_meeting LV_meeting sp_meeting) (G_l_draw : Kn P w K mg base "_law_draw" P_l_draw LV_l_draw sp_l_draw) (G_l_word : Kn P w K mg base "_law_word" P_l_word LV_l_word sp_l_word) (G_l_staying : Kn P w K mg base "_law_staying" P_l_staying LV_l_staying sp_l_staying) (G_l_behind : Kn P w K mg base "_law_behind" P_l_behind LV_l_behind sp_l_behind) (G_l_pair_right : Kn P w K mg base "_law_pair_right" P_l_pair_right LV_l_pair_right sp_l_pair_right) : FnOk P w K mg base CX0 LV_l_right f fd P_l_right sp_l_right := by
  refine F.ok sc_l_right (fun vs H Q E h => ?_) (fun cdv A outer s H vs Q E hr h => ?_)
  · obtain ⟨t, b, rfl, _⟩ := h
    rfl
  obtain ⟨t, b, rfl, hT, q⟩ := h
  refine ⟨_, (pss_cons (ps_set (i := 1) sc_l_right.nd rfl (Or.inr rfl) (pe_own G_l_word (hr.mono (by decide)) (by rfl) (pa_cons (pv 0) (pa_cons pe_int (pa_cons (pe_op op_add pe_int (pe_own G_l_draw (hr.mono (by decide)) (by rfl) (pa_cons (pv 0) (pa_cons pe_int pa_nil)))) pa_nil)))))
    (pss_cons (ps_set (i := 2) sc_l_right.nd rfl (Or.inr rfl) (pe_callB (cr_maxT (K := K) rfl) (by rfl) Z.max (by decide +kernel) (pa_cons (pv 1) pa_nil)))
    (pss_cons (ps_setLcN (i := 3) (own := [("_law_size", 14)]) (g := (gName 14)) (tt := tYes) (by rfl) sc_l_right.nd rfl rfl (sw_true rfl rfl rfl (by decide +kernel)) (pi_range3 (by rfl) Z.range (pa_cons pe_int (pa_cons (pe_op op_mul pe_int (pv 2)) (pa_cons pe_int pa_nil)))) (blkOk_by (own := [("_law_size", 14)]) (N := N_l_right) (sc := defScope s_l_right) (by decide +kernel)) (fun _ _ _ _ _ => (pg_name (i := 14) sc_l_right.nd rfl (Or.inl rfl))) (fun _ _ _ _ _ => pts_nil) (fun _ _ _ _ _ => (pe_op op_mul (pv 14) (pe_ix (ixs (K := K)) (pe_lstN (pa_cons pe_int (pa_cons (pe_un un_neg pe_int) pa_nil))) (pe_own G_l_draw (hr.mono (by decide)) (by rfl) (pa_cons (pv 0) (pa_cons pe_int pa_nil))) (fun _ _ => rfl)))))
    (pss_cons (ps_par (i := 4) (j := 5) (by rfl) sc_l_right.nd rfl rfl (by decide) rfl rfl (pa_cons (pe_lcN (own := [("_law_standing", 15)]) (g := (gName 15)) (tt := tYes) (by rfl) sc_l_right.nd (pi_list (pv 3)) (blkOk_by (own := [("_law_standing", 15)]) (N := N_l_right) (sc := defScope s_l_right) (by decide +kernel)) (fun _ _ _ _ _ => (pg_name (i := 15) sc_l_right.nd rfl (Or.inl rfl))) (fun _ _ _ _ _ => pts_nil) (fun _ _ _ _ _ => (pe_callB call_abs (by rfl) Z.abs (by decide +kernel) (pa_cons (pe_own G_l_behind (hr.mono (by decide)) (by rfl) (pa_cons (pv 15) (pa_cons (pv 1) (pa_cons (pe_op op_mul (pv 2) (pe_callB (call_lenN (K := K)) (by rfl) Z.len (by decide +kernel) (pa_cons (pv 1) pa_nil))) pa_nil)))) pa_nil)))) (pa_cons pe_dnewTN pa_nil)) (by rfl))
    (pss_cons (ps_for PassesOwn.never rfl (pi_enum (by rfl) Z.enumerate (pa_cons (pv 3) pa_nil)) (pg_tup rfl (pgs_cons (pg_name (i := 6) sc_l_right.nd rfl (Or.inl rfl)) (pgs_cons (pg_name (i := 7) sc_l_right.nd rfl (Or.inl rfl)) pgs_nil)))
    (pss_one (ps_for PassesOwn.never rfl (pi_range1 (by rfl) Z.range (pa_cons (pv 6) pa_nil)) (pg_name (i := 8) sc_l_right.nd rfl (Or.inl rfl))
    (pss_cons (ps_dput (hu_of hr) (pv 5) (pe_tupN (pa_cons (pv 8) (pa_cons (pv 6) pa_nil))) (pe_own G_meeting (hr.mono (by decide)) (by rfl) (pa_cons (pv 7) (pa_cons (pe_ix (ixs (K := K)) (pv 3) (pv 8) (fun _ _ => rfl)) (pa_cons (pv 1) pa_nil)))) rfl)
    (pss_one (ps_if (pt_not (pt_val (pe_own G_l_pair_right (hr.mono (by decide)) (by rfl) (pa_cons (pv 7) (pa_cons (pe_ix (ixs (K := K)) (pv 3) (pv 8) (fun _ _ => rfl)) (pa_cons (pv 1) (pa_cons (pe_dget (hu_of hr) (pv 5) (pe_tupN (pa_cons (pv 8) (pa_cons (pv 6) pa_nil))) (fun _ _ => rfl)) (pa_cons (pe_tupN (pa_cons (pe_ix (ixs (K := K)) (pv 4) (pv 6) (fun _ _ => rfl)) (pa_cons (pe_ix (ixs (K := K)) (pv 4) (pv 8) (fun _ _ => rfl)) pa_nil))) pa_nil)))))))) (pss_one (ps_ret pe_bl)) pss_nil))))))
    (pss_cons (ps_for PassesOwn.never rfl (pi_range2 (by rfl) Z.range (pa_cons pe_int (pa_cons (pe_callB (call_lenN (K := K)) (by rfl) Z.len (by decide +kernel) (pa_cons (pv 3) pa_nil)) pa_nil))) (pg_name (i := 6) sc_l_right.nd rfl (Or.inl rfl))
    (pss_cons (ps_set (i := 9) sc_l_right.nd rfl (Or.inl rfl) (pe_lstN (pa_cons (pe_dget (hu_of hr) (pv 5) (pe_tupN (pa_cons (pe_op op_sub (pv 6) pe_int) (pa_cons (pe_op op_sub (pv 6) pe_int) pa_nil))) (fun _ _ => rfl)) (pa_cons (pe_dget (hu_of hr) (pv 5) (pe_tupN (pa_cons (pe_op op_sub (pv 6) pe_int) (pa_cons (pv 6) pa_nil))) (fun _ _ => rfl)) (pa_cons (pe_dget (hu_of hr) (pv 5) (pe_tupN (pa_cons (pe_op op_sub (pv 6) pe_int) (pa_cons (pv 6) pa_nil))) (fun _ _ => rfl)) pa_nil)))))
    (pss_cons (ps_set (i := 10) sc_l_right.nd rfl (Or.inl rfl) (pe_callB (sortL (K := K)) (by rfl) Z.sorted (by decide +kernel) (pa_cons (pe_lcN (own := [("_law_one", 7)]) (g := (gName 7)) (by rfl) sc_l_right.nd (pi_list (pv 9)) (blkOk_by (own := [("_law_one", 7)]) (N := N_l_right) (sc := defScope s_l_right) (by decide +kernel)) (fun _ _ _ _ _ => (pg_name (i := 7) sc_l_right.nd rfl (Or.inl rfl))) (fun _ _ _ _ _ => (pts_one (pt_cmpR (neD (K := K) hr.units) (pv 7) (pe_tupN (pa_cons pe_str pa_nil)) (nomark _)))) (fun _ _ _ _ _ => (pe_ix (ixs (K := K)) (pv 7) pe_int (fun _ _ => rfl)))) pa_nil)))
    (pss_one (ps_if (pt_cut (PW.pt (pw_or (pt_cmpR op_eq (pe_callB (call_lenN (K := K)) (by rfl) Z.len (by decide +kernel) (pa_cons (pv 10) pa_nil)) pe_int (nomark _)) (pw_or1 (PW.pt (pw_and (pt_cmpR op_eq (pe_callB (call_lenN (K := K)) (by rfl) Z.len (by decide +kernel) (pa_cons (pv 10) pa_nil)) pe_int (nomark _)) (pw_and1 (pt_cmpR op_ne (pe_ix (ixs (K := K)) (pv 10) pe_int (fun _ _ => rfl)) (pe_ix (ixs (K := K)) (pv 10) pe_int (fun _ _ => rfl)) (nomark _))))))))) (pss_one (ps_ret pe_bl)) pss_nil)))))
    (pss_cons (ps_par (i := 11) (j := 12) (by rfl) sc_l_right.nd rfl rfl (by decide) rfl rfl (pa_cons (pe_own G_staying (hr.mono (by decide)) (by rfl) (pa_cons (pv 1) pa_nil)) (pa_cons (pe_own G_l_staying (hr.mono (by decide)) (by rfl) (pa_cons (pv 1) pa_nil)) pa_nil)) (by rfl))
    (pss_cons (ps_if (PW.pt (pw_or (pt_cmpR (neD (K := K) hr.units) (pv 11) (pe_tupN (pa_cons (pe_ix (ixs (K := K)) (pv 12) pe_int (fun _ _ => rfl)) (pa_cons (pe_ix (ixs (K := K)) (pv 12) (pe_un un_neg pe_int) (fun _ _ => rfl)) pa_nil))) (nomark _)) (pw_or (pt_cmpR op_ne (pe_own G_spots (hr.mono (by decide)) (by rfl) (pa_cons (pv 11) pa_nil)) (pe_callB (cr_lenSet (w := w)) (by rfl) Z.len (by decide +kernel) (pa_cons (pe_callTy (cr_setX (K := K) (w := w) rfl) (by rfl) Z.set (by decide +kernel) (pa_cons (pv 4) pa_nil)) pa_nil)) (nomark _)) (pw_or1 (pt_cmpR (neD (K := K) hr.units) (pe_callB (cr_sortSet (w := w) rfl) (by rfl) Z.sorted (by decide +kernel) (pa_cons (pe_callTy (cr_setX (K := K) (w := w) rfl) (by rfl) Z.set (by decide +kernel) (pa_cons (pv 4) pa_nil)) pa_nil)) (pv 12) (nomark _)))))) (pss_one (ps_ret pe_bl)) pss_nil)
    (pss_cons (ps_set (i := 13) sc_l_right.nd rfl (Or.inl rfl) (pe_cut (pe_cmpR op_eq (pe_own G_l_behind (hr.mono (by decide)) (by rfl) (pa_cons (pe_ix (ixs (K := K)) (pv 12) pe_int (fun _ _ => rfl)) (pa_cons (pv 1) (pa_cons (pe_callB (call_lenN (K := K)) (by rfl) Z.len (by decide +kernel) (pa_cons (pv 1) pa_nil)) pa_nil)))) (pe_ix (ixs (K := K)) (pv 12) pe_int (fun _ _ => rfl)) (nomark _))))
    (pss_one (ps_ret (pe_cmpR op_eq (pe_own G_length (hr.mono (by decide)) (by rfl) (pa_cons (pv 1) pa_nil)) (pe_op op_sub pe_int (pe_callTy call_int1 (by rfl) Z.int (by decide +kernel) (pa_cons (pv 13) pa_nil))) (nomark _))))))))))))), ?_⟩
  refine ⟨.ref t, rfl, .ref t, rfl, t, 12, b + 99, rfl, by decide, by decide, hT, fun i1 H1 a1 b1 U1 T1 => ⟨_, _, rfl, rfl, ?_⟩⟩
  refine ⟨t, 8, b + 60, 1 + i1, rfl, by omega, by omega, by decide, by decide, T1.le (by omega), fun p ws H2 hrow U2 T2 ep => ?_⟩
  have g := hrow.good
  have wk := hrow.wok (by decide)
  have hmx := hrow.mx
  have hmp := mx_pos g
  have hl := List.length_pos_iff.mpr g.1
  have hl8 := hrow.2.1
  have lm : (ws.map V.int).length = ws.length := List.length_map ..
  refine ⟨.ref p, rfl, p, ws, rfl, SqT.of ep, hl, fun m hm1 hm2 => ?_⟩
  have em := mx_is g hm1 hm2
  subst em
  obtain ⟨M, hM⟩ : ∃ M : Nat, mx ws = (M : Int) := ⟨(mx ws).toNat, by omega⟩
  have hM24 : M ≤ 24 := by omega
  have hM1 : 1 ≤ M := by omega
  have hMt : (mx ws).toNat = M := by omega
  have nn : ((2 * mx ws - 1 + 1) / 2).toNat = M := by omega
  have rg := rgC_two (a := 1) (b := 2 * mx ws) (by decide) (by decide) (by omega) (by omega)
  rw [nn] at rg
  refine ⟨_, rfl, _, _, rfl, rfl, .inl ⟨by decide, by decide⟩, 1, 2 * mx ws, 2, M, rfl, rg, fun D nD => ?_⟩
  have nDt : D ≠ t := T2.nn nD
  refine lc_it (walk_rangeC (lo := 1) (c := 2) (n := M)) (fun i H' => ∃ ss : List Int, ss.length = i ∧ (∀ (k : Nat) (x : Int), ss[k]? = some x → x % 2 = 1 ∧ szz x = 2 * (k : Int) + 1) ∧ H' D = some (.lst (ss.map V.int)) ∧ Un t H2 H' ∧ Tp (b + 60 - i) H' t)
    ⟨[], rfl, (fun k x e => by simp at e), upd_same, Un.same (same_upd nD), (T2.same (same_upd nD)).le (by omega)⟩ (fun _ _ _ _ => trivial) (fun i x H3 H3' hi hP hY => ?_) (fun H3 hP => ?_)
  · obtain ⟨rfl, rfl⟩ := hY
    obtain ⟨ss, hsl, hss, eD, U3, T3⟩ := hP
    refine ⟨rfl, _, rfl, _, rfl, (by show 2 ≤ sizeLine; decide), fun p4 H4 np4 S4 e4 => ?_⟩
    refine ⟨.ref t, rfl, t, 2, b + 60 - (i + 1), rfl, by decide, by decide, (T3.same S4).le (by omega), fun d H5 a5 b5 U5 T5 => ?_⟩
    have e5 := U5 _ _ (T3.nn np4) e4
    have eD5 := U5 _ _ nDt (S4 _ _ eD)
    have hfin : ∀ v : Int, v = (1 + (i : Int) * 2) ∨ v = -(1 + (i : Int) * 2) → ∃ acc, H5 D = some (.lst acc) ∧ acc.length < sizeLine ∧ ∃ ss : List Int, ss.length = i + 1 ∧ (∀ (k : Nat) (x : Int), ss[k]? = some x → x % 2 = 1 ∧ szz x = 2 * (k : Int) + 1) ∧ upd H5 D (.lst (acc ++ [.int v])) D = some (.lst (ss.map V.int)) ∧ Un t H2 (upd H5 D (.lst (acc ++ [.int v]))) ∧ Tp (b + 60 - (i + 1)) (upd H5 D (.lst (acc ++ [.int v]))) t := fun v hv => by
      refine ⟨_, eD5, szl (by rw [List.length_map]; omega), ss ++ [v], by rw [List.length_append, hsl]; rfl, fun k x e => ?_, ?_, ?_, ?_⟩
      · rcases Nat.lt_or_ge k ss.length with c | c
        · rw [List.getElem?_append_left c] at e
          exact hss k x e
        · rw [List.getElem?_append_right c] at e
          have hk : k - ss.length = 0 := by
            rcases Nat.eq_zero_or_pos (k - ss.length) with z | z
            · exact z
            · rw [List.getElem?_eq_none (by show 1 ≤ _; omega)] at e
              cases e
          rw [hk] at e
          have ex : v = x := Option.some.inj e
          subst ex
          refine ⟨by omega, ?_⟩
          unfold szz
          split <;> omega
      · rw [upd_same, List.map_append]
        rfl
      · exact fun a o n ea => by
          rw [upd_ne (ne_of_none ea nD)]
          exact U5 a o n (S4 _ _ (U3 a o n ea))
      · obtain ⟨x, y, z, et, r⟩ := T5
        exact ⟨x, y, z, by rw [upd_ne nDt.symm]; exact et, r⟩
    have hd : d = 0 ∨ d = 1 := by omega
    rcases hd with rfl | rfl
    · refine .inl ⟨p4, _, _, _, rfl, rfl, SqL.of e5, rfl, _, _, rfl, rfl, .inr ⟨by decide, by decide⟩, hfin _ (.inl (Int.mul_one _))⟩
    · refine .inl ⟨p4, _, _, _, rfl, rfl, SqL.of e5, rfl, _, _, rfl, rfl, .inr ⟨by decide, by decide⟩, hfin _ (.inr (Int.mul_neg_one _))⟩
  obtain ⟨ss, hsl, hss, eD, U3, T3⟩ := hP
  have npt : p ≠ t := T2.ne ep
  have ep3 := U3 _ _ npt ep
  -- the starts by number
  have hf : ∃ f : Nat → Int, ∀ k, k < M → ss[k]? = some (f k) ∧ f k % 2 = 1 ∧ szz (f k) = 2 * (k : Int) + 1 := by
    refine ⟨fun k => ss.getD k 0, fun k hk => ?_⟩
    have hk' : k < ss.length := by omega
    have e : ss[k]? = some (ss.getD k 0) := by
      rw [List.getD_eq_getElem?_getD, List.getElem?_eq_getElem hk']
      rfl
    exact ⟨e, hss k _ e⟩
  obtain ⟨f, hf⟩ := hf
  have hN : M * ws.length ≤ 24 * 8 := Nat.mul_le_mul hM24 hl8
  have hNe : M * ws.length = (mx ws).toNat * ws.length := by rw [hMt]
  have hfb : ∀ k, k < M → szz (f k) < 2 * mx ws := fun k hk => by
    have := (hf k hk).2.2
    omega
  -- the ends
  refine ⟨_, rfl, D, rfl, ⟨_, SqL.of eD⟩, lcMapI (f := fun s => szz (atW ws s ((M * ws.length : Nat) : Int))) eD (by omega) (fun _ => rfl) (fun s hs H' R S k => ?_) (fun E H4 nE S4 eE => ?_)⟩
  · obtain ⟨k', hk', e'⟩ := List.mem_iff_getElem.mp hs
    have ho : s % 2 = 1 := (hss k' s (by rw [List.getElem?_eq_getElem hk', e'])).1
    have ep' := S _ _ ep3
    have ev : V.int (mx ws * ((ws.map V.int).length : Int)) = V.int ((M * ws.length : Nat) : Int) := by
      rw [lm, hM, Int.natCast_mul]
    refine ⟨_, rfl, _, rfl, _, rfl, _, rfl, p, _, rfl, .inr (SqT.of ep'), _, _, rfl, rfl, .inl ⟨by omega, by omega⟩, s, p, ws, M * ws.length, congrArg (fun v => [V.int s, V.ref p, v]) ev, ho, g, by omega, by omega, ep', fun H9 S9 => ⟨_, rfl, k H9 S9⟩⟩
  refine fun d H5 nd S5 ed => ⟨_, _, rfl, ?_⟩
  have S35 := S4.trans S5
  have ep5 := S35 _ _ ep3
  have eD5 := S35 _ _ eD
  have eE5 := S5 _ _ eE
  have npd : p ≠ d := ne_of_none (S4 _ _ ep3) nd
  have nDd : D ≠ d := ne_of_none (S4 _ _ eD) nd
  have nEd : E ≠ d := ne_of_none eE nd
  have hE : ∀ k, k < M → atI ((ss.map fun s => szz (atW ws s ((M * ws.length : Nat) : Int))).map V.int) (k : Int) = some (.int (szz (atW ws (f k) ((M * ws.length : Nat) : Int)))) := fun k hk => atI_nat (by
    rw [List.getElem?_map, List.getElem?_map, (hf k hk).1]
    rfl)
  have hS : ∀ k, k < M → atI (ss.map V.int) (k : Int) = some (.int (f k)) := fun k hk => atI_nat (by
    rw [List.getElem?_map, (hf k hk).1]
    rfl)
  have hdT : ∀ {H' : Hp} {kvs : List (List Key × V)}, H' d = some (.dT kvs) → ∀ xs, H' d ≠ some (.tup xs) := fun e xs z => by
    rw [e] at z
    cases z
  have lss : (ss.map V.int).length = M := by rw [List.length_map, hsl]
  refine ⟨_, rfl, D, _, rfl, SqL.of eD5, for_it (walk_enum (K := K) (a := D) (xs := ss.map V.int)) (fun i σ H' => (∃ y6 y7 y8 y9 y10 y11 y12 y13 y14 y15, σ = [some (.ref t), some (.ref p), some (.int (mx ws)), some (.ref D), some (.ref E), some (.ref d), y6, y7, y8, y9, y10, y11, y12, y13, y14, y15]) ∧ Un d H5 H' ∧ ∃ kvs, H' d = some (.dT kvs) ∧ kvs.length ≤ 24 * i ∧ ∀ j k, DoneT i 0 j k → ToldAt H' kvs ws f j k)
    ⟨⟨_, _, _, _, _, _, _, _, _, _, rfl⟩, Un.refl _ _, [], ed, Nat.zero_le _, fun j k h => by
      have := h.1
      have := h.2
      omega⟩ (fun i σ H' _ hP => SqL.of (hP.2.1 _ _ nDd eD5)) (fun i x σ H6 H7 hi hP hY => ?_) (fun σ H6 hP => ?_)⟩
  · obtain ⟨⟨y6, y7, y8, y9, y10, y11, y12, y13, y14, y15, rfl⟩, U6, kvs, ed6, hkl, hkv⟩ := hP
    obtain ⟨T, x1, x2, rfl, nT, rfl, f1, f2⟩ := hY
    have hiM : i < M := by omega
    have f1 : (V.int (i : Nat)) = x1 := Option.some.inj f1
    subst f1
    have f2 : (ss.map V.int)[i]? = some x2 := f2
    rw [List.getElem?_map, (hf i hiM).1] at f2
    have f2 : V.int (f i) = x2 := Option.some.inj f2
    subst f2
    refine ⟨T, _, rfl, SqT.of upd_same, rfl, _, _, rfl, _, _, rfl, rfl, ?_⟩
    have U7 : Un d H5 (upd H6 T (.tup [.int (i : Nat), .int (f i)])) := U6.trans (Un.same (same_upd nT))
    have ed7 : upd H6 T (.tup [.int (i : Nat), .int (f i)]) d = some (.dT kvs) := by
      rw [upd_ne (ne_of_none ed6 nT)]
      exact ed6
    have hkv7 : ∀ j k, DoneT i 0 j k → ToldAt (upd H6 T (.tup [.int (i : Nat), .int (f i)])) kvs ws f j k := fun j k h => (hkv j k h).un (Un.same (same_upd nT)) (hdT ed6)
    generalize upd H6 T (.tup [.int (i : Nat), .int (f i)]) = H7 at U7 ed7 hkv7 ⊢
    refine ⟨_, rfl, (i : Int), rfl, by omega, by omega, for_range (lo := 0) (n := _) (fun j σ H' => (∃ y8 y9 y10 y11 y12 y13 y14 y15, σ = [some (.ref t), some (.ref p), some (.int (mx ws)), some (.ref D), some (.ref E), some (.ref d), some (.int (i : Nat)), some (.int (f i)), y8, y9, y10, y11, y12, y13, y14, y15]) ∧ Un d H5 H' ∧ ∃ kvs, H' d = some (.dT kvs) ∧ kvs.length ≤ 24 * i + j ∧ ∀ j' k, DoneT i j j' k → ToldAt H' kvs ws f j' k)
      ⟨⟨_, _, _, _, _, _, _, _, rfl⟩, U7, kvs, ed7, hkl, hkv7⟩ (fun j σ H8 hj hP => ?_) (fun σ H8 hP => ?_)⟩
    · obtain ⟨⟨y8, y9, y10, y11, y12, y13, y14, y15, rfl⟩, U8, kvs, ed8, hkl, hkv⟩ := hP
      have hji : j < i := by omega
      have hjM : j < M := by omega
      have ej : (0 : Int) + (j : Int) = (j : Int) := Int.zero_add _
      have ep8 := U8 _ _ npd ep5
      have eD8 := U8 _ _ nDd eD5
      have eE8 := U8 _ _ nEd eE5
      obtain ⟨_, fo1, _⟩ := hf i hiM
      obtain ⟨_, fo2, _⟩ := hf j hjM
      have fb1 := hfb i hiM
      have fb2 := hfb j hjM
      refine ⟨_, rfl, _, rfl, _, rfl, .inl ⟨D, _, _, _, rfl, rfl, SqL.of eD8, (by rw [ej]; exact hS j hjM), _, rfl, f i, f j, p, ws, rfl, fo1, fo2, by omega, by omega, wk, by omega, ep8, fun o pm H9 hF hoe S9 e9 => ?_⟩⟩
      refine ⟨_, rfl, _, rfl, _, rfl, (by show 2 ≤ sizeLine; decide), fun pk HA npk SA ek => ?_⟩
      have S8A := S9.trans SA
      have edA := S8A _ _ ed8
      have ek' : HA pk = some (.tup (([Sum.inl (j : Int), Sum.inl (i : Int)] : List Key).map kV)) := by
        rw [ek, ej]
        rfl
      refine ⟨d, _, rfl, DPut.t edA ek' (szl (by omega)), ?_⟩
      have hlen : (putK kvs [Sum.inl (j : Int), Sum.inl (i : Int)] (.ref pm)).length ≤ 24 * i + (j + 1) := by
        have := length_putK kvs [Sum.inl (j : Int), Sum.inl (i : Int)] (.ref pm)
        omega
      have UB : Un d H5 (upd HA d (.dT (putK kvs [Sum.inl (j : Int), Sum.inl (i : Int)] (.ref pm)))) := U8.trans ((Un.same S8A).trans Un.upd)
      have U8B : Un d H8 (upd HA d (.dT (putK kvs [Sum.inl (j : Int), Sum.inl (i : Int)] (.ref pm)))) := (Un.same S8A).trans Un.upd
      have npmd : pm ≠ d := ne_of e9 (S9 _ _ ed8) (fun z => nomatch z)
      have epm : upd HA d (.dT (putK kvs [Sum.inl (j : Int), Sum.inl (i : Int)] (.ref pm))) pm = some (.tup (mtV ws (f i) (f j) o)) := by
        rw [upd_ne npmd]
        exact SA _ _ e9
      have edB : upd HA d (.dT (putK kvs [Sum.inl (j : Int), Sum.inl (i : Int)] (.ref pm))) d = some (.dT (putK kvs [Sum.inl (j : Int), Sum.inl (i : Int)] (.ref pm))) := upd_same
      generalize upd HA d (.dT (putK kvs [Sum.inl (j : Int), Sum.inl (i : Int)] (.ref pm))) = HB at UB U8B epm edB ⊢
      have epB := UB _ _ npd ep5
      have eDB := UB _ _ nDd eD5
      have eEB := UB _ _ nEd eE5
      refine ⟨_, rfl, _, rfl, _, rfl, .inl ⟨D, _, _, _, rfl, rfl, SqL.of eDB, (by rw [ej]; exact hS j hjM), _, rfl, ?_⟩⟩
      refine ⟨_, rfl, _, rfl, _, rfl, (by show 2 ≤ sizeLine; decide), fun pk2 HC npk2 SC ek2 => ?_⟩
      have ek2' : HC pk2 = some (.tup (([Sum.inl (j : Int), Sum.inl (i : Int)] : List Key).map kV)) := by
        rw [ek2, ej]
        rfl
      have hget : DGet HC d (.ref pk2) (some (.ref pm)) := by
        have h9 := DGet.t (k := [Sum.inl (j : Int), Sum.inl (i : Int)]) (SC _ _ edB) ek2'
        rw [valV_put, if_pos rfl] at h9
        exact h9
      refine ⟨d, _, rfl, hget, ?_⟩
      have eEC := SC _ _ eEB
      refine ⟨_, rfl, _, rfl, .inl ⟨E, _, _, _, rfl, rfl, SqL.of eEC, hE i hiM, _, rfl, _, rfl, .inl ⟨E, _, _, _, rfl, rfl, SqL.of eEC, (by rw [ej]; exact hE j hjM), (by show 2 ≤ sizeLine; decide), fun pe HD npe SD ee => ?_⟩⟩⟩
      have SCD := SC.trans SD
      refine ⟨f i, f j, p, pm, pe, ws, _, _, o, rfl, fo1, fo2, g, by omega, SCD _ _ epB, SCD _ _ epm, ee, hF, fun n z => ?_, end_met g fo1 fo2 fb1 fb2 hNe hF, fun HE SE => ⟨_, rfl, ?_⟩⟩
      · have := hoe n z
        have := end_le g fo1 fo2 fb1 fb2
        rw [hMt] at this
        omega
      have SBE := SCD.trans SE
      refine ⟨⟨_, _, _, _, _, _, _, _, rfl⟩, UB.trans (Un.same SBE), _, SBE _ _ edB, hlen, fun j' k h => ?_⟩
      by_cases c : j' = j ∧ k = i
      · obtain ⟨rfl, rfl⟩ := c
        exact ⟨pm, o, by rw [valV_put, if_pos rfl], SBE _ _ epm, hF⟩
      · have h' : DoneT i j j' k := ⟨h.1, by
          rcases h.2 with z | z
          · exact .inl z
          · exact .inr ⟨z.1, by omega⟩⟩
        exact ((hkv j' k h').un (U8B.trans (Un.same SBE)) (hdT ed8)).put c
    · obtain ⟨⟨y8, y9, y10, y11, y12, y13, y14, y15, rfl⟩, U8, kvs, ed8, hkl, hkv⟩ := hP
      have en : ((i : Int)).toNat = i := by omega
      rw [en] at hkv hkl
      refine ⟨⟨_, _, _, _, _, _, _, _, _, _, rfl⟩, U8, kvs, ed8, by omega, fun j k h => hkv j k ⟨h.1, ?_⟩⟩
      have := h.1
      have := h.2
      by_cases c : k < i
      · exact .inl c
      · exact .inr ⟨by omega, by omega⟩
  obtain ⟨⟨y6, y7, y8, y9, y10, y11, y12, y13, y14, y15, rfl⟩, U6, kvs, ed6, hkl, hkv⟩ := hP
  rw [lss] at hkv hkl
  have ep6 := U6 _ _ npd ep5
  have eD6 := U6 _ _ nDd eD5
  have eE6 := U6 _ _ nEd eE5
  have hkv' : ∀ {H' : Hp}, Same H6 H' → ∀ j k, j < k → k < M → ∃ (q : Addr) (o : Option Nat), valV kvs [Sum.inl (j : Int), Sum.inl (k : Int)] = some (.ref q) ∧ H' q = some (.tup (mtV ws (f k) (f j) o)) ∧ IsFst ws (f k) (f j) o := fun S j k h1 h2 => by
    obtain ⟨q, o, x1, x2, x3⟩ := hkv j k ⟨h1, .inl h2⟩
    exact ⟨q, o, x1, S _ _ x2, x3⟩
  -- three by three
  refine ⟨_, rfl, D, _, rfl, .inl (SqL.of eD6), 2, (M : Int), (by rw [lss]), ⟨by decide, by decide, by omega, by omega⟩, for_range (lo := 2) (n := _) (fun i σ H' => (∃ y6 y7 y8 y9 y10 y11 y12 y13 y14 y15, σ = [some (.ref t), some (.ref p), some (.int (mx ws)), some (.ref D), some (.ref E), some (.ref d), y6, y7, y8, y9, y10, y11, y12, y13, y14, y15]) ∧ Same H6 H') ⟨⟨_, _, _, _, _, _, _, _, _, _, rfl⟩, Same.refl _⟩ (fun i σ H7 hi hP => ?_) (fun σ H7 hP => ?_)⟩
  · obtain ⟨⟨y6, y7, y8, y9, y10, y11, y12, y13, y14, y15, rfl⟩, S7⟩ := hP
    have hi2 : i + 2 < M := by omega
    have ed7 := S7 _ _ ed6
    have k1 : (2 : Int) + (i : Int) - 2 = (i : Int) := by omega
    have k2 : (2 : Int) + (i : Int) - 1 = ((i + 1 : Nat) : Int) := by omega
    have k3 : (2 : Int) + (i : Int) = ((i + 2 : Nat) : Int) := by omega
    have key : ∀ {H' : Hp} {pk : Addr} {a b : Int} {j k : Nat}, a = (j : Int) → b = (k : Int) → H' pk = some (.tup [.int a, .int b]) → H' pk = some (.tup (([Sum.inl (j : Int), Sum.inl (k : Int)] : List Key).map kV)) := fun ea eb e => by
      rw [e, ea, eb]
      rfl
    have get : ∀ {H' : Hp} {pk qq : Addr} {j k : Nat}, H' d = some (.dT kvs) → H' pk = some (.tup (([Sum.inl (j : Int), Sum.inl (k : Int)] : List Key).map kV)) → valV kvs [Sum.inl (j : Int), Sum.inl (k : Int)] = some (.ref qq) → DGet H' d (.ref pk) (some (.ref qq)) := fun e ek ev => by
      have h9 := DGet.t e ek
      rw [ev] at h9
      exact h9
    obtain ⟨q1, o1, v1, e1, F1⟩ := hkv' S7 i (i + 1) (by omega) (by omega)
    obtain ⟨q2, o2, v2, e2, F2⟩ := hkv' S7 (i + 1) (i + 2) (by omega) (by omega)
    obtain ⟨q3, o3, v3, e3, F3⟩ := hkv' S7 i (i + 2) (by omega) (by omega)
    refine ⟨_, rfl, _, rfl, _, _, rfl, rfl, _, rfl, _, _, rfl, rfl, (by show 2 ≤ sizeLine; decide), fun pk1 HA _ SA ek1 => ⟨d, _, rfl, get (SA _ _ ed7) (key k1 k2 ek1) v1, ?_⟩⟩
    refine ⟨_, rfl, _, rfl, _, _, rfl, rfl, _, rfl, (by show 2 ≤ sizeLine; decide), fun pk2 HB _ SB ek2 => ⟨d, _, rfl, get (SB _ _ (SA _ _ ed7)) (key k2 k3 ek2) v2, ?_⟩⟩
    refine ⟨_, rfl, _, rfl, _, _, rfl, rfl, _, rfl, (by show 2 ≤ sizeLine; decide), fun pk3 HC _ SC ek3 => ⟨d, _, rfl, get (SC _ _ (SB _ _ (SA _ _ ed7))) (key k1 k3 ek3) v3, ?_⟩⟩
    refine ⟨(by show 3 ≤ sizeLine; decide), fun ps HD nps SD es => ?_⟩
    have S7D := SA.trans (SB.trans (SC.trans SD))
    have hat : ∀ (j : Nat) (x : V), ([.ref q1, .ref q2, .ref q3] : List V)[j]? = some x → ∃ (qq : Addr) (o : Option Nat) (s u : Int), x = .ref qq ∧ ([o1, o2, o3] : List (Option Nat))[j]? = some o ∧ HD qq = some (.tup (mtV ws s u o)) := fun j x e => by
      match j, e with
      | 0, e => exact ⟨q1, o1, _, _, (Option.some.inj e).symm, rfl, S7D _ _ e1⟩
      | 1, e => exact ⟨q2, o2, _, _, (Option.some.inj e).symm, rfl, S7D _ _ e2⟩
      | 2, e => exact ⟨q3, o3, _, _, (Option.some.inj e).symm, rfl, S7D _ _ e3⟩
    refine ⟨_, rfl, ps, rfl, ⟨_, SqL.of es⟩, fun W nW => ?_⟩
    refine lc_list (K := K) (a := ps) (xs := [.ref q1, .ref q2, .ref q3]) (fun j H' => Same HD H' ∧ H' W = some (.lst ((whenL (([o1, o2, o3] : List (Option Nat)).take j)).map V.int))) ⟨same_upd nW, upd_same⟩ (fun j H' _ hP => SqL.of (hP.1 _ _ es)) (fun j x HE hx hP => ?_) (fun HE hP => ?_)
    · obtain ⟨SE, eW⟩ := hP
      obtain ⟨qq, o, s, u, rfl, ho, eq⟩ := hat j x hx
      have hj3 : j < 3 := (List.getElem?_eq_some_iff.mp hx).1
      have etk : whenL (([o1, o2, o3] : List (Option Nat)).take (j + 1)) = whenL (([o1, o2, o3] : List (Option Nat)).take j) ++ whenL [o] := by
        rw [List.take_add_one, ho, whenL_app]
        rfl
      refine ⟨rfl, _, rfl, (by show 1 ≤ sizeLine; decide), fun z HF nz SF ez => ?_⟩
      refine ⟨.tuple (mtD ws s u o), .tuple [.str "apart"], .tup (SqT.of (SF _ _ (SE _ _ eq))) (dtDpA (mt_dt ws s u o (n := 1))), .tup (SqT.of ez) (.cons (.str _) .nil), Sh.ok (n := 2) (.tup (mt_ok ws s u o)), Sh.ok (n := 1) (.tup (.cons (.str (by decide +kernel)) .nil)), ?_⟩
      rw [apart_eqv]
      cases o with
      | none =>
        refine ⟨_, rfl, SE.trans SF, ?_⟩
        rw [etk]
        show HF W = some (.lst ((whenL _ ++ []).map V.int))
        rw [List.append_nil]
        exact SF _ _ eW
      | some n =>
        refine ⟨_, rfl, _, rfl, .inr (.inl ⟨qq, _, 1, _, rfl, rfl, SqT.of (SF _ _ (SE _ _ eq)), rfl, _, SF _ _ eW, szl ?_, Same.of_upd (SE.trans SF) nW, ?_⟩)⟩
        · rw [List.length_map]
          have := whenL_len (([o1, o2, o3] : List (Option Nat)).take j)
          rw [List.length_take] at this
          omega
        · rw [upd_same, etk, List.map_append]
          rfl
    obtain ⟨SE, eW⟩ := hP
    have eW : HE W = some (.lst ((whenL [o1, o2, o3]).map V.int)) := eW
    refine ⟨W, whenL [o1, o2, o3], rfl, SqL.of eW, ?_, fun ns pn HF perm asc npn SF en => ?_⟩
    · have := whenL_len [o1, o2, o3]
      exact Nat.lt_of_le_of_lt this (by show 3 < 64; decide)
    obtain ⟨ok2, ok3⟩ := three_ok (hf i (by omega)).2.1 (hf (i + 1) (by omega)).2.1 (hf (i + 2) (by omega)).2.1 (met_sym F1) (met_sym F2) (met_sym F3) perm asc
    have lns : (ns.map V.int).length = ns.length := List.length_map ..
    refine ⟨fun b H' => b = false ∧ HF = H', ?_, fun b H' hR => ?_⟩
    · refine ⟨_, rfl, pn, _, rfl, .inl (SqL.of en), rfl, _, rfl, iteDN (fun z => ok2 (by have := V.int.inj z; omega)) ?_⟩
      by_cases c : ns.length = 3
      · obtain ⟨x, y, rfl⟩ := ok3 c
        refine ⟨_, rfl, pn, _, rfl, .inl (SqL.of en), rfl, _, rfl, iteD rfl ?_⟩
        exact ⟨_, rfl, .inl ⟨pn, _, 1, _, rfl, rfl, SqL.of en, rfl, _, rfl, .inl ⟨pn, _, 2, _, rfl, rfl, SqL.of en, rfl, rfl, _, rfl, by simp, rfl⟩⟩⟩
      · exact ⟨_, rfl, pn, _, rfl, .inl (SqL.of en), rfl, _, rfl, iteDN (fun z => c (by have := V.int.inj z; omega)) ⟨rfl, rfl⟩⟩
    obtain ⟨rfl, rfl⟩ := hR
    exact ⟨⟨_, _, _, _, _, _, _, _, _, _, rfl⟩, S7.trans (S7D.trans (SE.trans SF))⟩
  obtain ⟨⟨y6, y7, y8, y9, y10, y11, y12, y13, y14, y15, rfl⟩, S7⟩ := hP
  have ep7 := S7 _ _ ep6
  have eE7 := S7 _ _ eE6
  have ho := stS_odds g
  have hends : ∀ x, x ∈ (ss.map fun s => szz (atW ws s ((M * ws.length : Nat) : Int))) ↔ x ∈ runL (stS ws) := fun x => by
    have hrn : rn ws M = stS ws := by
      have hst := stN_lt g
      have := rn_after g (M - stN ws)
      rwa [show stN ws + (M - stN ws) = M by omega] at this
    have ea : ∀ s : Int, atW ws s ((M * ws.length : Nat) : Int) = itr ws M s := fun s => by
      rw [Int.natCast_mul]
      exact at_mul g.1 s M
    have mir : ∀ {s : Int}, s % 2 = 1 → szz (itr ws M s) = szz (itr ws M (szz s)) := fun {s} hs => by
      by_cases c : s < 0
      · have : szz s = 0 - s := by
          unfold szz
          rw [if_pos c]
          omega
        rw [this, itr_mir _ _ _ hs, szz_mir]
      · have : szz s = s := if_neg c
        rw [this]
    rw [← hrn, ← itr_mem g M x, List.mem_map]
    have o0 := rn_odds g 0
    constructor
    · rintro ⟨s, hs, rfl⟩
      obtain ⟨k', hk', e'⟩ := List.mem_iff_getElem.mp hs
      have h9 := hss k' s (by rw [List.getElem?_eq_getElem hk', e'])
      refine ⟨szz s, (runL_mem o0).mpr ⟨⟨?_, ?_⟩, ?_⟩, ?_⟩
      · show 1 ≤ szz s
        omega
      · show szz s ≤ 2 * mx ws - 1
        omega
      · omega
      · rw [ea, mir h9.1]
    · rintro ⟨y, hy, rfl⟩
      obtain ⟨⟨y1, y2⟩, y3⟩ := (runL_mem o0).mp hy
      have y1 : 1 ≤ y := y1
      have y2 : y ≤ 2 * mx ws - 1 := y2
      obtain ⟨k, hk⟩ : ∃ k : Nat, y = 2 * (k : Int) + 1 := ⟨(y / 2).toNat, by omega⟩
      obtain ⟨f1, f2, f3⟩ := hf k (by omega)
      refine ⟨f k, List.mem_of_getElem? f1, ?_⟩
      rw [ea, mir f2, f3, hk]
  have hel : (ss.map fun s => szz (atW ws s ((M * ws.length : Nat) : Int))).length ≤ 1000 := by
    rw [List.length_map]
    omega
  have hrow12 : Row ws 12 := ⟨hrow.1, by omega, hrow.2.2⟩
  refine ⟨_, rfl, p, ws, rfl, g, wk, ep7, by omega, fun pr H8 S8 er => ?_⟩
  refine ⟨_, rfl, p, ws, rfl, hrow12, S8 _ _ ep7, fun pl H9 npl S9 el => ⟨_, _, rfl, ?_⟩⟩
  have er9 := S9 _ _ er
  refine ⟨_, rfl, _, rfl, .inl ⟨pl, _, 0, _, rfl, rfl, SqL.of el, runL_first ho, _, rfl, _, rfl, .inl ⟨pl, _, -1, _, rfl, rfl, SqL.of el, runL_last ho, (by show 2 ≤ sizeLine; decide), fun pz HA npz SA ez => ?_⟩⟩⟩
  refine ⟨runD (stS ws), runD (stS ws), dtDp (dtRun (n := 0) (SA _ _ er9)), dtDp (dtRun (n := 0) ez), rfl, rfl, ?_⟩
  rw [eqv_run, decide_eq_true rfl]
  refine ⟨_, rfl, ?_⟩
  have S7A := S8.trans (S9.trans SA)
  have eEA := S7A _ _ eE7
  refine ⟨_, rfl, pr, _, _, rfl, SA _ _ er9, _, rfl, E, _, rfl, SqL.of eEA, hel, fun pS Dd HB npS SB eS ndD mem => ⟨pS, _, _, rfl, eS, rfl, _, rfl, ?_⟩⟩
  have hDl : (Dd.length : Int) = ((stS ws).2 - (stS ws).1) / 2 + 1 := by
    rw [← runL_len ho]
    have hnd : (runL (stS ws)).Nodup := (rg2_asc _ _).imp fun h => by omega
    have a := nodup_le ndD (B := runL (stS ws)) fun x hx => (hends x).mp ((mem x).mp hx)
    have b := nodup_le hnd (B := Dd) fun x hx => (mem x).mpr ((hends x).mpr hx)
    omega
  refine iteNS (congrArg V.int hDl.symm) ?_
  have eEB := SB _ _ eEA
  have elB := SB _ _ (SA _ _ el)
  refine ⟨_, rfl, E, _, rfl, SqL.of eEB, hel, fun pS2 Dd2 HC npS2 SC eS2 nd2 mem2 => ⟨pS2, _, _, rfl, eS2, ?_, fun ns pn HD asc memn _ npn SD en => ?_⟩⟩
  · have a := nodup_le nd2 (B := runL (stS ws)) fun x hx => (hends x).mp ((mem2 x).mp hx)
    have b := runL_len ho
    have := stS_le g
    have := ho.2.2.1
    omega
  have en2 : ns = runL (stS ws) := asc_ext asc (rg2_asc _ _) fun k => (memn k).trans (decide_eq_true_iff.trans (hends k))
  subst en2
  have elD := SD _ _ (SC _ _ elB)
  refine ⟨_, rfl, .list ((runL (stS ws)).map PyData.int), .list ((runL (stS ws)).map PyData.int), .lst (SqL.of en) (dpInts _), .lst (SqL.of elD) (dpInts _), Sh.ok (n := 1) (.list (.map _ fun x _ => .int _)), Sh.ok (n := 1) (.list (.map _ fun x _ => .int _)), ?_⟩
  rw [SeqAt.eqv_refl _ (SeqAt.canLay_of_shaped (Sh.ok (n := 1) (.list (.map _ fun x _ => .int _))))]
  refine ⟨_, rfl, ?_⟩
  have S7D := S7A.trans (SB.trans (SC.trans SD))
  have epD := S7D _ _ ep7
  refine ⟨fun v H' => v = .bl (decide (lenW ws = 1)) ∧ Same HD H', ?_, fun v HE hR => ?_⟩
  · refine ⟨_, rfl, .inl ⟨pl, _, 0, _, rfl, rfl, SqL.of elD, runL_first ho, _, rfl, _, rfl, p, _, rfl, .inr (SqT.of epD), (stS ws).1, p, ws, ws.length, congrArg (fun n : Nat => [V.int (stS ws).1, V.ref p, V.int (n : Int)]) lm, ho.1, g, by omega, by omega, epD, fun HE SE => ?_⟩⟩
    refine ⟨_, rfl, .inl ⟨pl, _, 0, _, rfl, rfl, SqL.of (SE _ _ elD), runL_first ho, rfl, ?_, SE⟩⟩
    have ea : atW ws (stS ws).1 (ws.length : Int) = fin (stS ws).1 ws := by
      have := at_mul g.1 (stS ws).1 1
      rw [show ((1 : Nat) : Int) * (ws.length : Int) = (ws.length : Int) by omega] at this
      exact this
    rw [ea]
    unfold lenW
    by_cases c : fin (stS ws).1 ws = (stS ws).1
    · rw [if_pos c, c]
      simp
    · rw [if_neg c, decide_eq_false (fun z => c (V.int.inj z))]
      rfl
  obtain ⟨rfl, SE⟩ := hR
  refine ⟨_, rfl, p, ws, rfl, wk, SE _ _ epD, by omega, fun HF SF => ⟨_, rfl, .inr ⟨_, rfl, _, _, rfl, rfl, rfl, ?_⟩⟩⟩
  have eL : lenOf ws = lenW ws := if_neg g.1
  have hv : V.int (lenOf ws) = V.int (2 - (if decide (lenW ws = 1) = true then 1 else 0)) := by
    rw [eL]
    rcases lenW_12 ws with e | e <;> rw [e] <;> rfl
  rw [decide_eq_true hv]
  have SEnd : Same H6 HF := S7.trans (S7D.trans (SE.trans SF))
  have S3e : Same H3 HF := fun a o e => SEnd _ _ (U6 _ _ (ne_of_none (S4 _ _ e) nd) (S35 _ _ e))
  exact q HF (U1.trans (U2.trans (U3.trans (Un.same S3e)))) ((T3.same S3e).le (by omega))
abbrev LV_law : Nat := 15
def spLaw (K : PySem.W.Frag) : Sp := fun vs H Q _ => ∃ (a : Addr) (ns : List Int), vs = [.ref a] ∧ SqL K H a (ns.map V.int) ∧ ns.length ≤ 63 ∧ ∀ H', Q (.bl true) H'
theorem ok_law {f : Addr} {fd : FuncData} (F : Fun K "law" "law" s_law f fd) (Z : Bl mg) (G_l_tape : Kn P w K mg base "_law_tape" P_l_tape LV_l_tape sp_l_tape) (G_l_folded : Kn P w K mg base "_law_folded" P_l_folded LV_l_folded (sp_l_folded K)) (G_l_slow_right : Kn P w K mg base "_law_slow_right" P_l_slow_right LV_l_slow_right sp_l_slow_right) (G_l_right : Kn P w K mg base "_law_right" P_l_right LV_l_right sp_l_right) : FnOk P w K mg base CX0 LV_law f fd P_law (spLaw K) := by
  refine F.ok sc_law (fun vs H Q E h => ?_) (fun cdv A outer s H vs Q E hr h => ?_)
  · obtain ⟨a, ns, rfl, _⟩ := h
    rfl
  obtain ⟨a, ns, rfl, ha, hl, q⟩ := h
  refine ⟨_, (pss_cons (ps_set (i := 1) sc_law.nd rfl (Or.inl rfl) (pe_own G_l_folded (hr.mono (by decide)) (by rfl) (pa_cons (pv 0) (pa_cons pe_int pa_nil))))
    (pss_cons (ps_for PassesOwn.never rfl (pi_range1 (by rfl) Z.range (pa_cons (pe_callB (call_max2 rfl) (by rfl) Z.max (by decide +kernel) (pa_cons pe_int (pa_cons (pe_callB (call_lenN (K := K)) (by rfl) Z.len (by decide +kernel) (pa_cons (pv 1) pa_nil)) pa_nil))) pa_nil)) (pg_name (i := 2) sc_law.nd rfl (Or.inl rfl))
    (pss_cons (ps_set (i := 3) sc_law.nd rfl (Or.inl rfl) (pe_own G_l_tape (hr.mono (by decide)) (by rfl) (pa_cons (pv 1) (pa_cons (pv 2) pa_nil))))
    (pss_one (ps_if (PW.pt (pw_or (pt_not (pt_val (pe_own G_l_right (hr.mono (by decide)) (by rfl) (pa_cons (pv 3) pa_nil)))) (pw_or1 (pt_not (pt_val (pe_own G_l_slow_right (hr.mono (by decide)) (by rfl) (pa_cons (pv 3) pa_nil))))))) (pss_one (ps_ret pe_bl)) pss_nil))))
    (pss_one (ps_ret pe_bl)))), ?_⟩
  refine ⟨.ref a, rfl, a, ns, 3, rfl, ha, hl, by decide, by decide, fun p cs H1 np S1 e1 hc => ?_⟩
  refine ⟨.ref p, rfl, p, _, rfl, .inl (SqL.of e1), _, _, rfl, _, rfl, ?_⟩
  have hlen : (cs.map V.int).length ≤ 3 := by rw [List.length_map]; exact hc
  refine ⟨by split <;> omega, by split <;> omega, for_range (lo := 0) (n := _) (fun k σ H' => (∃ y2 y3, σ = [some (.ref a), some (.ref p), y2, y3]) ∧ Same H1 H') ⟨⟨none, none, rfl⟩, Same.refl _⟩ (fun j σ H' hj hP => ?_) (fun σ H' hP => ?_)⟩
  · obtain ⟨⟨y2, y3, rfl⟩, S⟩ := hP
    have hj4 : j < 3 := by
      revert hj
      split <;> intro hj <;> omega
    refine ⟨.ref p, rfl, _, rfl, p, cs, _, rfl, S _ _ e1, by omega, by omega, fun t H2 nt S2 T2 => ?_⟩
    refine ⟨_, rfl, t, 100, rfl, T2.le (by decide), fun H3 U3 T3 => ⟨_, rfl, ?_⟩⟩
    refine ⟨_, rfl, t, 10, rfl, T3.le (by decide), fun H4 U4 T4 => ⟨_, rfl, ?_⟩⟩
    exact ⟨⟨_, _, rfl⟩, S.trans ((U3.trans U4).fresh S2 nt)⟩
  · obtain ⟨⟨y2, y3, rfl⟩, S⟩ := hP
    exact q _
end
theorem all_mk {l : PySem.W.OpenLaw} {w : World} {K : PySem.W.Frag} {h : Heap} {mg : Str → Option Value} {fa f0 f1 f2 f3 f4 f5 f6 f7 f8 f9 f10 f11 f12 f13 f14 f15 f16 f17 f18 f19 f20 f21 f22 f23 f24 f25 f26 f27 f28 f29 f30 f31 f32 f33 f34 f35 : Addr} (X : K.In h) (G : h.Ns mainGlobals mg) (hfa : mg "law" = some (.ref fa))
    {od0 an0 od1 an1 od2 an2 od3 an3 od4 an4 od5 an5 od6 an6 od7 an7 od8 an8 od9 an9 od10 an10 od11 an11 od12 an12 od13 an13 od14 an14 od15 an15 od16 an16 od17 an17 od18 an18 od19 an19 od20 an20 od21 an21 od22 an22 od23 an23 od24 an24 od25 an25 od26 an26 od27 an27 od28 an28 od29 an29 od30 an30 od31 an31 od32 an32 od33 an33 od34 an34 od35 an35 : Option Addr} {sl0 sl1 sl2 sl3 sl4 sl5 sl6 sl7 sl8 sl9 sl10 sl11 sl12 sl13 sl14 sl15 sl16 sl17 sl18 sl19 sl20 sl21 sl22 sl23 sl24 sl25 sl26 sl27 sl28 sl29 sl30 sl31 sl32 sl33 sl34 sl35 : Array (Option Value)} {oc0 kV0 dc0 pm0 cd0 ct0 oc1 kV1 dc1 pm1 cd1 ct1 oc2 kV2 dc2 pm2 cd2 ct2 oc3 kV3 dc3 pm3 cd3 ct3 oc4 kV4 dc4 pm4 cd4 ct4 oc5 kV5 dc5 pm5 cd5 ct5 oc6 kV6 dc6 pm6 cd6 ct6 oc7 kV7 dc7 pm7 cd7 ct7 oc8 kV8 dc8 pm8 cd8 ct8 oc9 kV9 dc9 pm9 cd9 ct9 oc10 kV10 dc10 pm10 cd10 ct10 oc11 kV11 dc11 pm11 cd11 ct11 oc12 kV12 dc12 pm12 cd12 ct12 oc13 kV13 dc13 pm13 cd13 ct13 oc14 kV14 dc14 pm14 cd14 ct14 oc15 kV15 dc15 pm15 cd15 ct15 oc16 kV16 dc16 pm16 cd16 ct16 oc17 kV17 dc17 pm17 cd17 ct17 oc18 kV18 dc18 pm18 cd18 ct18 oc19 kV19 dc19 pm19 cd19 ct19 oc20 kV20 dc20 pm20 cd20 ct20 oc21 kV21 dc21 pm21 cd21 ct21 oc22 kV22 dc22 pm22 cd22 ct22 oc23 kV23 dc23 pm23 cd23 ct23 oc24 kV24 dc24 pm24 cd24 ct24 oc25 kV25 dc25 pm25 cd25 ct25 oc26 kV26 dc26 pm26 cd26 ct26 oc27 kV27 dc27 pm27 cd27 ct27 oc28 kV28 dc28 pm28 cd28 ct28 oc29 kV29 dc29 pm29 cd29 ct29 oc30 kV30 dc30 pm30 cd30 ct30 oc31 kV31 dc31 pm31 cd31 ct31 oc32 kV32 dc32 pm32 cd32 ct32 oc33 kV33 dc33 pm33 cd33 ct33 oc34 kV34 dc34 pm34 cd34 ct34 oc35 kV35 dc35 pm35 cd35 ct35 : Value}
    (a0 : PySem.W.nsIn K mainGlobals "lighter" = some (some (.ref f0))) (l0 : K.lookup f0 = some ⟨oc0, od0, .func (PySem.W.fnOf "lighter" "lighter" (defArgs s_lighter) (defBody s_lighter) (defScope s_lighter) .none kV0 dc0 pm0 an0 cd0 ct0), sl0⟩) (c0 : PySem.W.codeIn K cd0 "lighter" = true) (k0 : PySem.W.keepIn K (.ref f0) = true)
    (a1 : PySem.W.nsIn K mainGlobals "fall" = some (some (.ref f1))) (l1 : K.lookup f1 = some ⟨oc1, od1, .func (PySem.W.fnOf "fall" "fall" (defArgs s_fall) (defBody s_fall) (defScope s_fall) .none kV1 dc1 pm1 an1 cd1 ct1), sl1⟩) (c1 : PySem.W.codeIn K cd1 "fall" = true) (k1 : PySem.W.keepIn K (.ref f1) = true)
    (a2 : PySem.W.nsIn K mainGlobals "falls" = some (some (.ref f2))) (l2 : K.lookup f2 = some ⟨oc2, od2, .func (PySem.W.fnOf "falls" "falls" (defArgs s_falls) (defBody s_falls) (defScope s_falls) .none kV2 dc2 pm2 an2 cd2 ct2), sl2⟩) (c2 : PySem.W.codeIn K cd2 "falls" = true) (k2 : PySem.W.keepIn K (.ref f2) = true)
    (a3 : PySem.W.nsIn K mainGlobals "spots" = some (some (.ref f3))) (l3 : K.lookup f3 = some ⟨oc3, od3, .func (PySem.W.fnOf "spots" "spots" (defArgs s_spots) (defBody s_spots) (defScope s_spots) .none kV3 dc3 pm3 an3 cd3 ct3), sl3⟩) (c3 : PySem.W.codeIn K cd3 "spots" = true) (k3 : PySem.W.keepIn K (.ref f3) = true)
    (a4 : PySem.W.nsIn K mainGlobals "parts" = some (some (.ref f4))) (l4 : K.lookup f4 = some ⟨oc4, od4, .func (PySem.W.fnOf "parts" "parts" (defArgs s_parts) (defBody s_parts) (defScope s_parts) .none kV4 dc4 pm4 an4 cd4 ct4), sl4⟩) (c4 : PySem.W.codeIn K cd4 "parts" = true) (k4 : PySem.W.keepIn K (.ref f4) = true)
    (a5 : PySem.W.nsIn K mainGlobals "folded" = some (some (.ref f5))) (l5 : K.lookup f5 = some ⟨oc5, od5, .func (PySem.W.fnOf "folded" "folded" (defArgs s_folded) (defBody s_folded) (defScope s_folded) .none kV5 dc5 pm5 an5 cd5 ct5), sl5⟩) (c5 : PySem.W.codeIn K cd5 "folded" = true) (k5 : PySem.W.keepIn K (.ref f5) = true)
    (a6 : PySem.W.nsIn K mainGlobals "behind" = some (some (.ref f6))) (l6 : K.lookup f6 = some ⟨oc6, od6, .func (PySem.W.fnOf "behind" "behind" (defArgs s_behind) (defBody s_behind) (defScope s_behind) .none kV6 dc6 pm6 an6 cd6 ct6), sl6⟩) (c6 : PySem.W.codeIn K cd6 "behind" = true) (k6 : PySem.W.keepIn K (.ref f6) = true)
    (a7 : PySem.W.nsIn K mainGlobals "is_within" = some (some (.ref f7))) (l7 : K.lookup f7 = some ⟨oc7, od7, .func (PySem.W.fnOf "is_within" "is_within" (defArgs s_is_within) (defBody s_is_within) (defScope s_is_within) .none kV7 dc7 pm7 an7 cd7 ct7), sl7⟩) (c7 : PySem.W.codeIn K cd7 "is_within" = true) (k7 : PySem.W.keepIn K (.ref f7) = true)
    (a8 : PySem.W.nsIn K mainGlobals "is_size_in" = some (some (.ref f8))) (l8 : K.lookup f8 = some ⟨oc8, od8, .func (PySem.W.fnOf "is_size_in" "is_size_in" (defArgs s_is_size_in) (defBody s_is_size_in) (defScope s_is_size_in) .none kV8 dc8 pm8 an8 cd8 ct8), sl8⟩) (c8 : PySem.W.codeIn K cd8 "is_size_in" = true) (k8 : PySem.W.keepIn K (.ref f8) = true)
    (a9 : PySem.W.nsIn K mainGlobals "runs_to" = some (some (.ref f9))) (l9 : K.lookup f9 = some ⟨oc9, od9, .func (PySem.W.fnOf "runs_to" "runs_to" (defArgs s_runs_to) (defBody s_runs_to) (defScope s_runs_to) .none kV9 dc9 pm9 an9 cd9 ct9), sl9⟩) (c9 : PySem.W.codeIn K cd9 "runs_to" = true) (k9 : PySem.W.keepIn K (.ref f9) = true)
    (a10 : PySem.W.nsIn K mainGlobals "staying" = some (some (.ref f10))) (l10 : K.lookup f10 = some ⟨oc10, od10, .func (PySem.W.fnOf "staying" "staying" (defArgs s_staying) (defBody s_staying) (defScope s_staying) .none kV10 dc10 pm10 an10 cd10 ct10), sl10⟩) (c10 : PySem.W.codeIn K cd10 "staying" = true) (k10 : PySem.W.keepIn K (.ref f10) = true)
    (a11 : PySem.W.nsIn K mainGlobals "length" = some (some (.ref f11))) (l11 : K.lookup f11 = some ⟨oc11, od11, .func (PySem.W.fnOf "length" "length" (defArgs s_length) (defBody s_length) (defScope s_length) .none kV11 dc11 pm11 an11 cd11 ct11), sl11⟩) (c11 : PySem.W.codeIn K cd11 "length" = true) (k11 : PySem.W.keepIn K (.ref f11) = true)
    (a12 : PySem.W.nsIn K mainGlobals "far_rounds" = some (some (.ref f12))) (l12 : K.lookup f12 = some ⟨oc12, od12, .func (PySem.W.fnOf "far_rounds" "far_rounds" (defArgs s_far_rounds) (defBody s_far_rounds) (defScope s_far_rounds) .none kV12 dc12 pm12 an12 cd12 ct12), sl12⟩) (c12 : PySem.W.codeIn K cd12 "far_rounds" = true) (k12 : PySem.W.keepIn K (.ref f12) = true)
    (a13 : PySem.W.nsIn K mainGlobals "drawn_near" = some (some (.ref f13))) (l13 : K.lookup f13 = some ⟨oc13, od13, .func (PySem.W.fnOf "drawn_near" "drawn_near" (defArgs s_drawn_near) (defBody s_drawn_near) (defScope s_drawn_near) .none kV13 dc13 pm13 an13 cd13 ct13), sl13⟩) (c13 : PySem.W.codeIn K cd13 "drawn_near" = true) (k13 : PySem.W.keepIn K (.ref f13) = true)
    (a14 : PySem.W.nsIn K mainGlobals "settled_from" = some (some (.ref f14))) (l14 : K.lookup f14 = some ⟨oc14, od14, .func (PySem.W.fnOf "settled_from" "settled_from" (defArgs s_settled_from) (defBody s_settled_from) (defScope s_settled_from) .none kV14 dc14 pm14 an14 cd14 ct14), sl14⟩) (c14 : PySem.W.codeIn K cd14 "settled_from" = true) (k14 : PySem.W.keepIn K (.ref f14) = true)
    (a15 : PySem.W.nsIn K mainGlobals "fewer_rounds" = some (some (.ref f15))) (l15 : K.lookup f15 = some ⟨oc15, od15, .func (PySem.W.fnOf "fewer_rounds" "fewer_rounds" (defArgs s_fewer_rounds) (defBody s_fewer_rounds) (defScope s_fewer_rounds) .none kV15 dc15 pm15 an15 cd15 ct15), sl15⟩) (c15 : PySem.W.codeIn K cd15 "fewer_rounds" = true) (k15 : PySem.W.keepIn K (.ref f15) = true)
    (a16 : PySem.W.nsIn K mainGlobals "standing_of_round" = some (some (.ref f16))) (l16 : K.lookup f16 = some ⟨oc16, od16, .func (PySem.W.fnOf "standing_of_round" "standing_of_round" (defArgs s_standing_of_round) (defBody s_standing_of_round) (defScope s_standing_of_round) .none kV16 dc16 pm16 an16 cd16 ct16), sl16⟩) (c16 : PySem.W.codeIn K cd16 "standing_of_round" = true) (k16 : PySem.W.keepIn K (.ref f16) = true)
    (a17 : PySem.W.nsIn K mainGlobals "standing_at" = some (some (.ref f17))) (l17 : K.lookup f17 = some ⟨oc17, od17, .func (PySem.W.fnOf "standing_at" "standing_at" (defArgs s_standing_at) (defBody s_standing_at) (defScope s_standing_at) .none kV17 dc17 pm17 an17 cd17 ct17), sl17⟩) (c17 : PySem.W.codeIn K cd17 "standing_at" = true) (k17 : PySem.W.keepIn K (.ref f17) = true)
    (a18 : PySem.W.nsIn K mainGlobals "have_met" = some (some (.ref f18))) (l18 : K.lookup f18 = some ⟨oc18, od18, .func (PySem.W.fnOf "have_met" "have_met" (defArgs s_have_met) (defBody s_have_met) (defScope s_have_met) .none kV18 dc18 pm18 an18 cd18 ct18), sl18⟩) (c18 : PySem.W.codeIn K cd18 "have_met" = true) (k18 : PySem.W.keepIn K (.ref f18) = true)
    (a19 : PySem.W.nsIn K mainGlobals "both_settled" = some (some (.ref f19))) (l19 : K.lookup f19 = some ⟨oc19, od19, .func (PySem.W.fnOf "both_settled" "both_settled" (defArgs s_both_settled) (defBody s_both_settled) (defScope s_both_settled) .none kV19 dc19 pm19 an19 cd19 ct19), sl19⟩) (c19 : PySem.W.codeIn K cd19 "both_settled" = true) (k19 : PySem.W.keepIn K (.ref f19) = true)
    (a20 : PySem.W.nsIn K mainGlobals "fewest_grains" = some (some (.ref f20))) (l20 : K.lookup f20 = some ⟨oc20, od20, .func (PySem.W.fnOf "fewest_grains" "fewest_grains" (defArgs s_fewest_grains) (defBody s_fewest_grains) (defScope s_fewest_grains) .none kV20 dc20 pm20 an20 cd20 ct20), sl20⟩) (c20 : PySem.W.codeIn K cd20 "fewest_grains" = true) (k20 : PySem.W.keepIn K (.ref f20) = true)
    (a21 : PySem.W.nsIn K mainGlobals "meeting" = some (some (.ref f21))) (l21 : K.lookup f21 = some ⟨oc21, od21, .func (PySem.W.fnOf "meeting" "meeting" (defArgs s_meeting) (defBody s_meeting) (defScope s_meeting) .none kV21 dc21 pm21 an21 cd21 ct21), sl21⟩) (c21 : PySem.W.codeIn K cd21 "meeting" = true) (k21 : PySem.W.keepIn K (.ref f21) = true)
    (a22 : PySem.W.nsIn K mainGlobals "apart_paper" = some (some (.ref f22))) (l22 : K.lookup f22 = some ⟨oc22, od22, .func (PySem.W.fnOf "apart_paper" "apart_paper" (defArgs s_apart_paper) (defBody s_apart_paper) (defScope s_apart_paper) .none kV22 dc22 pm22 an22 cd22 ct22), sl22⟩) (c22 : PySem.W.codeIn K cd22 "apart_paper" = true) (k22 : PySem.W.keepIn K (.ref f22) = true)
    (a23 : PySem.W.nsIn K mainGlobals "_law_tape" = some (some (.ref f23))) (l23 : K.lookup f23 = some ⟨oc23, od23, .func (PySem.W.fnOf "_law_tape" "_law_tape" (defArgs s_l_tape) (defBody s_l_tape) (defScope s_l_tape) .none kV23 dc23 pm23 an23 cd23 ct23), sl23⟩) (c23 : PySem.W.codeIn K cd23 "_law_tape" = true) (k23 : PySem.W.keepIn K (.ref f23) = true)
    (a24 : PySem.W.nsIn K mainGlobals "_law_draw" = some (some (.ref f24))) (l24 : K.lookup f24 = some ⟨oc24, od24, .func (PySem.W.fnOf "_law_draw" "_law_draw" (defArgs s_l_draw) (defBody s_l_draw) (defScope s_l_draw) .none kV24 dc24 pm24 an24 cd24 ct24), sl24⟩) (c24 : PySem.W.codeIn K cd24 "_law_draw" = true) (k24 : PySem.W.keepIn K (.ref f24) = true)
    (a25 : PySem.W.nsIn K mainGlobals "_law_folded" = some (some (.ref f25))) (l25 : K.lookup f25 = some ⟨oc25, od25, .func (PySem.W.fnOf "_law_folded" "_law_folded" (defArgs s_l_folded) (defBody s_l_folded) (defScope s_l_folded) .none kV25 dc25 pm25 an25 cd25 ct25), sl25⟩) (c25 : PySem.W.codeIn K cd25 "_law_folded" = true) (k25 : PySem.W.keepIn K (.ref f25) = true)
    (a26 : PySem.W.nsIn K mainGlobals "_law_weight" = some (some (.ref f26))) (l26 : K.lookup f26 = some ⟨oc26, od26, .func (PySem.W.fnOf "_law_weight" "_law_weight" (defArgs s_l_weight) (defBody s_l_weight) (defScope s_l_weight) .none kV26 dc26 pm26 an26 cd26 ct26), sl26⟩) (c26 : PySem.W.codeIn K cd26 "_law_weight" = true) (k26 : PySem.W.keepIn K (.ref f26) = true)
    (a27 : PySem.W.nsIn K mainGlobals "_law_word" = some (some (.ref f27))) (l27 : K.lookup f27 = some ⟨oc27, od27, .func (PySem.W.fnOf "_law_word" "_law_word" (defArgs s_l_word) (defBody s_l_word) (defScope s_l_word) .none kV27 dc27 pm27 an27 cd27 ct27), sl27⟩) (c27 : PySem.W.codeIn K cd27 "_law_word" = true) (k27 : PySem.W.keepIn K (.ref f27) = true)
    (a28 : PySem.W.nsIn K mainGlobals "_law_fallen" = some (some (.ref f28))) (l28 : K.lookup f28 = some ⟨oc28, od28, .func (PySem.W.fnOf "_law_fallen" "_law_fallen" (defArgs s_l_fallen) (defBody s_l_fallen) (defScope s_l_fallen) .none kV28 dc28 pm28 an28 cd28 ct28), sl28⟩) (c28 : PySem.W.codeIn K cd28 "_law_fallen" = true) (k28 : PySem.W.keepIn K (.ref f28) = true)
    (a29 : PySem.W.nsIn K mainGlobals "_law_led" = some (some (.ref f29))) (l29 : K.lookup f29 = some ⟨oc29, od29, .func (PySem.W.fnOf "_law_led" "_law_led" (defArgs s_l_led) (defBody s_l_led) (defScope s_l_led) .none kV29 dc29 pm29 an29 cd29 ct29), sl29⟩) (c29 : PySem.W.codeIn K cd29 "_law_led" = true) (k29 : PySem.W.keepIn K (.ref f29) = true)
    (a30 : PySem.W.nsIn K mainGlobals "_law_staying" = some (some (.ref f30))) (l30 : K.lookup f30 = some ⟨oc30, od30, .func (PySem.W.fnOf "_law_staying" "_law_staying" (defArgs s_l_staying) (defBody s_l_staying) (defScope s_l_staying) .none kV30 dc30 pm30 an30 cd30 ct30), sl30⟩) (c30 : PySem.W.codeIn K cd30 "_law_staying" = true) (k30 : PySem.W.keepIn K (.ref f30) = true)
    (a31 : PySem.W.nsIn K mainGlobals "_law_behind" = some (some (.ref f31))) (l31 : K.lookup f31 = some ⟨oc31, od31, .func (PySem.W.fnOf "_law_behind" "_law_behind" (defArgs s_l_behind) (defBody s_l_behind) (defScope s_l_behind) .none kV31 dc31 pm31 an31 cd31 ct31), sl31⟩) (c31 : PySem.W.codeIn K cd31 "_law_behind" = true) (k31 : PySem.W.keepIn K (.ref f31) = true)
    (a32 : PySem.W.nsIn K mainGlobals "_law_pair_right" = some (some (.ref f32))) (l32 : K.lookup f32 = some ⟨oc32, od32, .func (PySem.W.fnOf "_law_pair_right" "_law_pair_right" (defArgs s_l_pair_right) (defBody s_l_pair_right) (defScope s_l_pair_right) .none kV32 dc32 pm32 an32 cd32 ct32), sl32⟩) (c32 : PySem.W.codeIn K cd32 "_law_pair_right" = true) (k32 : PySem.W.keepIn K (.ref f32) = true)
    (a33 : PySem.W.nsIn K mainGlobals "_law_slow_right" = some (some (.ref f33))) (l33 : K.lookup f33 = some ⟨oc33, od33, .func (PySem.W.fnOf "_law_slow_right" "_law_slow_right" (defArgs s_l_slow_right) (defBody s_l_slow_right) (defScope s_l_slow_right) .none kV33 dc33 pm33 an33 cd33 ct33), sl33⟩) (c33 : PySem.W.codeIn K cd33 "_law_slow_right" = true) (k33 : PySem.W.keepIn K (.ref f33) = true)
    (a34 : PySem.W.nsIn K mainGlobals "_law_right" = some (some (.ref f34))) (l34 : K.lookup f34 = some ⟨oc34, od34, .func (PySem.W.fnOf "_law_right" "_law_right" (defArgs s_l_right) (defBody s_l_right) (defScope s_l_right) .none kV34 dc34 pm34 an34 cd34 ct34), sl34⟩) (c34 : PySem.W.codeIn K cd34 "_law_right" = true) (k34 : PySem.W.keepIn K (.ref f34) = true)
    (a35 : PySem.W.nsIn K mainGlobals "law" = some (some (.ref f35))) (l35 : K.lookup f35 = some ⟨oc35, od35, .func (PySem.W.fnOf "law" "law" (defArgs s_law) (defBody s_law) (defScope s_law) .none kV35 dc35 pm35 an35 cd35 ct35), sl35⟩) (c35 : PySem.W.codeIn K cd35 "law" = true) (k35 : PySem.W.keepIn K (.ref f35) = true)
    (z0 : PySem.W.nsIn K mainGlobals "abs" = some none)
    (z1 : PySem.W.nsIn K mainGlobals "divmod" = some none)
    (z2 : PySem.W.nsIn K mainGlobals "enumerate" = some none)
    (z3 : PySem.W.nsIn K mainGlobals "int" = some none)
    (z4 : PySem.W.nsIn K mainGlobals "len" = some none)
    (z5 : PySem.W.nsIn K mainGlobals "list" = some none)
    (z6 : PySem.W.nsIn K mainGlobals "max" = some none)
    (z7 : PySem.W.nsIn K mainGlobals "min" = some none)
    (z8 : PySem.W.nsIn K mainGlobals "range" = some none)
    (z9 : PySem.W.nsIn K mainGlobals "set" = some none)
    (z10 : PySem.W.nsIn K mainGlobals "sorted" = some none)
    (z11 : PySem.W.nsIn K mainGlobals "sum" = some none)
    (z12 : PySem.W.nsIn K mainGlobals "tuple" = some none)
    {tk0 : Tok} (y0 : PySem.W.nsIn K mainGlobals "LEFT" = some (some (.str "left" tk0)))
    {tk1 : Tok} (y1 : PySem.W.nsIn K mainGlobals "RIGHT" = some (some (.str "right" tk1)))
    : ∃ fd : FuncData, (∀ (s : Shared) (v : Value), BindsTo s fd ⟨[v], []⟩ [("_law_script", v)]) ∧ ∀ base : Heap, K.In base → base.Ns mainGlobals mg → FnOk l.prog w K mg base CX0 15 fa fd ["_law_script"] (spLaw K) := by
  have e := hfa.symm.trans (PySem.W.mg_of X G a35)
  cases e
  have Z : Bl mg := ⟨PySem.W.mg_none_of X G z0, PySem.W.mg_none_of X G z1, PySem.W.mg_none_of X G z2, PySem.W.mg_none_of X G z3, PySem.W.mg_none_of X G z4, PySem.W.mg_none_of X G z5, PySem.W.mg_none_of X G z6, PySem.W.mg_none_of X G z7, PySem.W.mg_none_of X G z8, PySem.W.mg_none_of X G z9, PySem.W.mg_none_of X G z10, PySem.W.mg_none_of X G z11, PySem.W.mg_none_of X G z12, ⟨_, PySem.W.mg_of X G y0⟩, ⟨_, PySem.W.mg_of X G y1⟩⟩
  have F0 := fun_mk (st := s_lighter) l0 c0 k0
  have b0 := F0.binds (ps := P_lighter) fun _ _ _ _ _ _ us hl => match us, hl with | [_], _ => rfl
  have F1 := fun_mk (st := s_fall) l1 c1 k1
  have b1 := F1.binds (ps := P_fall) fun _ _ _ _ _ _ us hl => match us, hl with | [_, _], _ => rfl
  have F2 := fun_mk (st := s_falls) l2 c2 k2
  have b2 := F2.binds (ps := P_falls) fun _ _ _ _ _ _ us hl => match us, hl with | [_, _], _ => rfl
  have F3 := fun_mk (st := s_spots) l3 c3 k3
  have b3 := F3.binds (ps := P_spots) fun _ _ _ _ _ _ us hl => match us, hl with | [_], _ => rfl
  have F4 := fun_mk (st := s_parts) l4 c4 k4
  have b4 := F4.binds (ps := P_parts) fun _ _ _ _ _ _ us hl => match us, hl with | [_, _], _ => rfl
  have F5 := fun_mk (st := s_folded) l5 c5 k5
  have b5 := F5.binds (ps := P_folded) fun _ _ _ _ _ _ us hl => match us, hl with | [_, _], _ => rfl
  have F6 := fun_mk (st := s_behind) l6 c6 k6
  have b6 := F6.binds (ps := P_behind) fun _ _ _ _ _ _ us hl => match us, hl with | [_, _], _ => rfl
  have F7 := fun_mk (st := s_is_within) l7 c7 k7
  have b7 := F7.binds (ps := P_is_within) fun _ _ _ _ _ _ us hl => match us, hl with | [_, _], _ => rfl
  have F8 := fun_mk (st := s_is_size_in) l8 c8 k8
  have b8 := F8.binds (ps := P_is_size_in) fun _ _ _ _ _ _ us hl => match us, hl with | [_, _], _ => rfl
  have F9 := fun_mk (st := s_runs_to) l9 c9 k9
  have b9 := F9.binds (ps := P_runs_to) fun _ _ _ _ _ _ us hl => match us, hl with | [_], _ => rfl
  have F10 := fun_mk (st := s_staying) l10 c10 k10
  have b10 := F10.binds (ps := P_staying) fun _ _ _ _ _ _ us hl => match us, hl with | [_], _ => rfl
  have F11 := fun_mk (st := s_length) l11 c11 k11
  have b11 := F11.binds (ps := P_length) fun _ _ _ _ _ _ us hl => match us, hl with | [_], _ => rfl
  have F12 := fun_mk (st := s_far_rounds) l12 c12 k12
  have b12 := F12.binds (ps := P_far_rounds) fun _ _ _ _ _ _ us hl => match us, hl with | [_, _], _ => rfl
  have F13 := fun_mk (st := s_drawn_near) l13 c13 k13
  have b13 := F13.binds (ps := P_drawn_near) fun _ _ _ _ _ _ us hl => match us, hl with | [_, _, _], _ => rfl
  have F14 := fun_mk (st := s_settled_from) l14 c14 k14
  have b14 := F14.binds (ps := P_settled_from) fun _ _ _ _ _ _ us hl => match us, hl with | [_, _], _ => rfl
  have F15 := fun_mk (st := s_fewer_rounds) l15 c15 k15
  have b15 := F15.binds (ps := P_fewer_rounds) fun _ _ _ _ _ _ us hl => match us, hl with | [_, _, _], _ => rfl
  have F16 := fun_mk (st := s_standing_of_round) l16 c16 k16
  have b16 := F16.binds (ps := P_standing_of_round) fun _ _ _ _ _ _ us hl => match us, hl with | [_, _, _], _ => rfl
  have F17 := fun_mk (st := s_standing_at) l17 c17 k17
  have b17 := F17.binds (ps := P_standing_at) fun _ _ _ _ _ _ us hl => match us, hl with | [_, _, _], _ => rfl
  have F18 := fun_mk (st := s_have_met) l18 c18 k18
  have b18 := F18.binds (ps := P_have_met) fun _ _ _ _ _ _ us hl => match us, hl with | [_, _, _, _], _ => rfl
  have F19 := fun_mk (st := s_both_settled) l19 c19 k19
  have b19 := F19.binds (ps := P_both_settled) fun _ _ _ _ _ _ us hl => match us, hl with | [_, _, _], _ => rfl
  have F20 := fun_mk (st := s_fewest_grains) l20 c20 k20
  have b20 := F20.binds (ps := P_fewest_grains) fun _ _ _ _ _ _ us hl => match us, hl with | [_, _, _, _], _ => rfl
  have F21 := fun_mk (st := s_meeting) l21 c21 k21
  have b21 := F21.binds (ps := P_meeting) fun _ _ _ _ _ _ us hl => match us, hl with | [_, _, _], _ => rfl
  have F22 := fun_mk (st := s_apart_paper) l22 c22 k22
  have b22 := F22.binds (ps := P_apart_paper) fun _ _ _ _ _ _ us hl => match us, hl with | [_, _, _], _ => rfl
  have F23 := fun_mk (st := s_l_tape) l23 c23 k23
  have b23 := F23.binds (ps := P_l_tape) fun _ _ _ _ _ _ us hl => match us, hl with | [_, _], _ => rfl
  have F24 := fun_mk (st := s_l_draw) l24 c24 k24
  have b24 := F24.binds (ps := P_l_draw) fun _ _ _ _ _ _ us hl => match us, hl with | [_, _], _ => rfl
  have F25 := fun_mk (st := s_l_folded) l25 c25 k25
  have b25 := F25.binds (ps := P_l_folded) fun _ _ _ _ _ _ us hl => match us, hl with | [_, _], _ => rfl
  have F26 := fun_mk (st := s_l_weight) l26 c26 k26
  have b26 := F26.binds (ps := P_l_weight) fun _ _ _ _ _ _ us hl => match us, hl with | [_, _], _ => rfl
  have F27 := fun_mk (st := s_l_word) l27 c27 k27
  have b27 := F27.binds (ps := P_l_word) fun _ _ _ _ _ _ us hl => match us, hl with | [_, _, _], _ => rfl
  have F28 := fun_mk (st := s_l_fallen) l28 c28 k28
  have b28 := F28.binds (ps := P_l_fallen) fun _ _ _ _ _ _ us hl => match us, hl with | [_, _], _ => rfl
  have F29 := fun_mk (st := s_l_led) l29 c29 k29
  have b29 := F29.binds (ps := P_l_led) fun _ _ _ _ _ _ us hl => match us, hl with | [_, _], _ => rfl
  have F30 := fun_mk (st := s_l_staying) l30 c30 k30
  have b30 := F30.binds (ps := P_l_staying) fun _ _ _ _ _ _ us hl => match us, hl with | [_], _ => rfl
  have F31 := fun_mk (st := s_l_behind) l31 c31 k31
  have b31 := F31.binds (ps := P_l_behind) fun _ _ _ _ _ _ us hl => match us, hl with | [_, _, _], _ => rfl
  have F32 := fun_mk (st := s_l_pair_right) l32 c32 k32
  have b32 := F32.binds (ps := P_l_pair_right) fun _ _ _ _ _ _ us hl => match us, hl with | [_, _, _, _, _], _ => rfl
  have F33 := fun_mk (st := s_l_slow_right) l33 c33 k33
  have b33 := F33.binds (ps := P_l_slow_right) fun _ _ _ _ _ _ us hl => match us, hl with | [_], _ => rfl
  have F34 := fun_mk (st := s_l_right) l34 c34 k34
  have b34 := F34.binds (ps := P_l_right) fun _ _ _ _ _ _ us hl => match us, hl with | [_], _ => rfl
  have F35 := fun_mk (st := s_law) l35 c35 k35
  refine ⟨PySem.W.fnOf "law" "law" (defArgs s_law) (defBody s_law) (defScope s_law) .none kV35 dc35 pm35 an35 cd35 ct35, fun s v => .of_eq rfl, fun base _ _ => ?_⟩
  have G_lighter := Kn.mk F0 (PySem.W.mg_of X G a0) b0 (ok_lighter (P := l.prog) (w := w) (base := base) F0 Z)
  have G_fall := Kn.mk F1 (PySem.W.mg_of X G a1) b1 (ok_fall (P := l.prog) (w := w) (base := base) F1 Z G_lighter)
  have G_falls := Kn.mk F2 (PySem.W.mg_of X G a2) b2 (ok_falls (P := l.prog) (w := w) (base := base) F2 Z G_fall)
  have G_spots := Kn.mk F3 (PySem.W.mg_of X G a3) b3 (ok_spots (P := l.prog) (w := w) (base := base) F3 Z)
  have G_parts := Kn.mk F4 (PySem.W.mg_of X G a4) b4 (ok_parts (P := l.prog) (w := w) (base := base) F4 Z)
  have G_folded := Kn.mk F5 (PySem.W.mg_of X G a5) b5 (ok_folded (P := l.prog) (w := w) (base := base) F5 Z G_parts)
  have G_behind := Kn.mk F6 (PySem.W.mg_of X G a6) b6 (ok_behind (P := l.prog) (w := w) (base := base) F6 Z G_folded)
  have G_is_within := Kn.mk F7 (PySem.W.mg_of X G a7) b7 (ok_is_within (P := l.prog) (w := w) (base := base) F7 Z)
  have G_is_size_in := Kn.mk F8 (PySem.W.mg_of X G a8) b8 (ok_is_size_in (P := l.prog) (w := w) (base := base) F8 Z G_is_within)
  have G_runs_to := Kn.mk F9 (PySem.W.mg_of X G a9) b9 (ok_runs_to (P := l.prog) (w := w) (base := base) F9 Z G_behind)
  have G_staying := Kn.mk F10 (PySem.W.mg_of X G a10) b10 (ok_staying (P := l.prog) (w := w) (base := base) F10 Z G_runs_to)
  have G_length := Kn.mk F11 (PySem.W.mg_of X G a11) b11 (ok_length (P := l.prog) (w := w) (base := base) F11 Z G_falls G_staying)
  have G_far_rounds := Kn.mk F12 (PySem.W.mg_of X G a12) b12 (ok_far_rounds (P := l.prog) (w := w) (base := base) F12 Z)
  have G_drawn_near := Kn.mk F13 (PySem.W.mg_of X G a13) b13 (ok_drawn_near (P := l.prog) (w := w) (base := base) F13 Z)
  have G_settled_from := Kn.mk F14 (PySem.W.mg_of X G a14) b14 (ok_settled_from (P := l.prog) (w := w) (base := base) F14 Z G_falls G_is_size_in G_staying G_far_rounds G_drawn_near)
  have G_fewer_rounds := Kn.mk F15 (PySem.W.mg_of X G a15) b15 (ok_fewer_rounds (P := l.prog) (w := w) (base := base) F15 Z G_length G_settled_from)
  have G_standing_of_round := Kn.mk F16 (PySem.W.mg_of X G a16) b16 (ok_standing_of_round (P := l.prog) (w := w) (base := base) F16 Z G_falls G_far_rounds G_drawn_near G_fewer_rounds)
  have G_standing_at := Kn.mk F17 (PySem.W.mg_of X G a17) b17 (ok_standing_at (P := l.prog) (w := w) (base := base) F17 Z G_falls G_standing_of_round)
  have G_have_met := Kn.mk F18 (PySem.W.mg_of X G a18) b18 (ok_have_met (P := l.prog) (w := w) (base := base) F18 Z G_standing_at)
  have G_both_settled := Kn.mk F19 (PySem.W.mg_of X G a19) b19 (ok_both_settled (P := l.prog) (w := w) (base := base) F19 Z G_settled_from)
  have G_fewest_grains := Kn.mk F20 (PySem.W.mg_of X G a20) b20 (ok_fewest_grains (P := l.prog) (w := w) (base := base) F20 Z G_have_met)
  have G_meeting := Kn.mk F21 (PySem.W.mg_of X G a21) b21 (ok_meeting (P := l.prog) (w := w) (base := base) F21 Z G_standing_at G_have_met G_both_settled G_fewest_grains)
  have G_apart_paper := Kn.mk F22 (PySem.W.mg_of X G a22) b22 (ok_apart_paper (P := l.prog) (w := w) (base := base) F22 Z G_staying G_both_settled G_meeting)
  have G_l_tape := Kn.mk F23 (PySem.W.mg_of X G a23) b23 (ok_l_tape (P := l.prog) (w := w) (base := base) F23 Z)
  have G_l_draw := Kn.mk F24 (PySem.W.mg_of X G a24) b24 (ok_l_draw (P := l.prog) (w := w) (base := base) F24 Z)
  have G_l_folded := Kn.mk F25 (PySem.W.mg_of X G a25) b25 (ok_l_folded (P := l.prog) (w := w) (base := base) F25 Z)
  have G_l_weight := Kn.mk F26 (PySem.W.mg_of X G a26) b26 (ok_l_weight (P := l.prog) (w := w) (base := base) F26 Z G_l_draw)
  have G_l_word := Kn.mk F27 (PySem.W.mg_of X G a27) b27 (ok_l_word (P := l.prog) (w := w) (base := base) F27 Z G_l_draw G_l_weight)
  have G_l_fallen := Kn.mk F28 (PySem.W.mg_of X G a28) b28 (ok_l_fallen (P := l.prog) (w := w) (base := base) F28 Z)
  have G_l_led := Kn.mk F29 (PySem.W.mg_of X G a29) b29 (ok_l_led (P := l.prog) (w := w) (base := base) F29 Z)
  have G_l_staying := Kn.mk F30 (PySem.W.mg_of X G a30) b30 (ok_l_staying (P := l.prog) (w := w) (base := base) F30 Z G_l_led)
  have G_l_behind := Kn.mk F31 (PySem.W.mg_of X G a31) b31 (ok_l_behind (P := l.prog) (w := w) (base := base) F31 Z G_l_fallen)
  have G_l_pair_right := Kn.mk F32 (PySem.W.mg_of X G a32) b32 (ok_l_pair_right (P := l.prog) (w := w) (base := base) F32 Z G_l_behind)
  have G_l_slow_right := Kn.mk F33 (PySem.W.mg_of X G a33) b33 (ok_l_slow_right (P := l.prog) (w := w) (base := base) F33 Z G_meeting G_apart_paper G_l_draw)
  have G_l_right := Kn.mk F34 (PySem.W.mg_of X G a34) b34 (ok_l_right (P := l.prog) (w := w) (base := base) F34 Z G_spots G_staying G_length G_meeting G_l_draw G_l_word G_l_staying G_l_behind G_l_pair_right)
  exact ok_law F35 Z G_l_tape G_l_folded G_l_slow_right G_l_right
end Pan
open PySem PySem.W PyProof.Rows
set_option maxRecDepth 100000 in
set_option maxHeartbeats 0 in
theorem PySem.Challenge.cw_panfalls_k29_whole_all_starts_of_a_word_holds : PySem.Challenge.rw_panfalls_k29_whole_all_starts_of_a_word.Holds := by
  w_on; o_law; k_head; (case hw => w_witness2)
  k_fill
  refine L2.walk_of (l := PySem.Challenge.rw_panfalls_k29_whole_all_starts_of_a_word) (n := 63) (k := 15) (x := "_law_script") (CX := fun _ => L2.CX0) (sp := fun w => Pan.spLaw _) rfl (by decide) rfl ⟨rfl, by decide, by decide⟩ (fun w h Y => PySem.W.kIn_of Y) ?F (fun _ _ a ns hl _ hS => ⟨a, ns, rfl, hS, hl, fun _ => rfl⟩) (fun _ _ _ _ _ h => h)
  case F =>
    intro w mg fa h KX G hmg
    refine' Pan.all_mk KX G hmg ?a0 ?l0 ?c0 ?k0 ?a1 ?l1 ?c1 ?k1 ?a2 ?l2 ?c2 ?k2 ?a3 ?l3 ?c3 ?k3 ?a4 ?l4 ?c4 ?k4 ?a5 ?l5 ?c5 ?k5 ?a6 ?l6 ?c6 ?k6 ?a7 ?l7 ?c7 ?k7 ?a8 ?l8 ?c8 ?k8 ?a9 ?l9 ?c9 ?k9 ?a10 ?l10 ?c10 ?k10 ?a11 ?l11 ?c11 ?k11 ?a12 ?l12 ?c12 ?k12 ?a13 ?l13 ?c13 ?k13 ?a14 ?l14 ?c14 ?k14 ?a15 ?l15 ?c15 ?k15 ?a16 ?l16 ?c16 ?k16 ?a17 ?l17 ?c17 ?k17 ?a18 ?l18 ?c18 ?k18 ?a19 ?l19 ?c19 ?k19 ?a20 ?l20 ?c20 ?k20 ?a21 ?l21 ?c21 ?k21 ?a22 ?l22 ?c22 ?k22 ?a23 ?l23 ?c23 ?k23 ?a24 ?l24 ?c24 ?k24 ?a25 ?l25 ?c25 ?k25 ?a26 ?l26 ?c26 ?k26 ?a27 ?l27 ?c27 ?k27 ?a28 ?l28 ?c28 ?k28 ?a29 ?l29 ?c29 ?k29 ?a30 ?l30 ?c30 ?k30 ?a31 ?l31 ?c31 ?k31 ?a32 ?l32 ?c32 ?k32 ?a33 ?l33 ?c33 ?k33 ?a34 ?l34 ?c34 ?k34 ?a35 ?l35 ?c35 ?k35 ?z0 ?z1 ?z2 ?z3 ?z4 ?z5 ?z6 ?z7 ?z8 ?z9 ?z10 ?z11 ?z12 ?y0 ?y1
    (case a0 => k_is)
    (case l0 => k_is)
    (case c0 => k_is)
    (case k0 => k_is)
    (case a1 => k_is)
    (case l1 => k_is)
    (case c1 => k_is)
    (case k1 => k_is)
    (case a2 => k_is)
    (case l2 => k_is)
    (case c2 => k_is)
    (case k2 => k_is)
    (case a3 => k_is)
    (case l3 => k_is)
    (case c3 => k_is)
    (case k3 => k_is)
    (case a4 => k_is)
    (case l4 => k_is)
    (case c4 => k_is)
    (case k4 => k_is)
    (case a5 => k_is)
    (case l5 => k_is)
    (case c5 => k_is)
    (case k5 => k_is)
    (case a6 => k_is)
    (case l6 => k_is)
    (case c6 => k_is)
    (case k6 => k_is)
    (case a7 => k_is)
    (case l7 => k_is)
    (case c7 => k_is)
    (case k7 => k_is)
    (case a8 => k_is)
    (case l8 => k_is)
    (case c8 => k_is)
    (case k8 => k_is)
    (case a9 => k_is)
    (case l9 => k_is)
    (case c9 => k_is)
    (case k9 => k_is)
    (case a10 => k_is)
    (case l10 => k_is)
    (case c10 => k_is)
    (case k10 => k_is)
    (case a11 => k_is)
    (case l11 => k_is)
    (case c11 => k_is)
    (case k11 => k_is)
    (case a12 => k_is)
    (case l12 => k_is)
    (case c12 => k_is)
    (case k12 => k_is)
    (case a13 => k_is)
    (case l13 => k_is)
    (case c13 => k_is)
    (case k13 => k_is)
    (case a14 => k_is)
    (case l14 => k_is)
    (case c14 => k_is)
    (case k14 => k_is)
    (case a15 => k_is)
    (case l15 => k_is)
    (case c15 => k_is)
    (case k15 => k_is)
    (case a16 => k_is)
    (case l16 => k_is)
    (case c16 => k_is)
    (case k16 => k_is)
    (case a17 => k_is)
    (case l17 => k_is)
    (case c17 => k_is)
    (case k17 => k_is)
    (case a18 => k_is)
    (case l18 => k_is)
    (case c18 => k_is)
    (case k18 => k_is)
    (case a19 => k_is)
    (case l19 => k_is)
    (case c19 => k_is)
    (case k19 => k_is)
    (case a20 => k_is)
    (case l20 => k_is)
    (case c20 => k_is)
    (case k20 => k_is)
    (case a21 => k_is)
    (case l21 => k_is)
    (case c21 => k_is)
    (case k21 => k_is)
    (case a22 => k_is)
    (case l22 => k_is)
    (case c22 => k_is)
    (case k22 => k_is)
    (case a23 => k_is)
    (case l23 => k_is)
    (case c23 => k_is)
    (case k23 => k_is)
    (case a24 => k_is)
    (case l24 => k_is)
    (case c24 => k_is)
    (case k24 => k_is)
    (case a25 => k_is)
    (case l25 => k_is)
    (case c25 => k_is)
    (case k25 => k_is)
    (case a26 => k_is)
    (case l26 => k_is)
    (case c26 => k_is)
    (case k26 => k_is)
    (case a27 => k_is)
    (case l27 => k_is)
    (case c27 => k_is)
    (case k27 => k_is)
    (case a28 => k_is)
    (case l28 => k_is)
    (case c28 => k_is)
    (case k28 => k_is)
    (case a29 => k_is)
    (case l29 => k_is)
    (case c29 => k_is)
    (case k29 => k_is)
    (case a30 => k_is)
    (case l30 => k_is)
    (case c30 => k_is)
    (case k30 => k_is)
    (case a31 => k_is)
    (case l31 => k_is)
    (case c31 => k_is)
    (case k31 => k_is)
    (case a32 => k_is)
    (case l32 => k_is)
    (case c32 => k_is)
    (case k32 => k_is)
    (case a33 => k_is)
    (case l33 => k_is)
    (case c33 => k_is)
    (case k33 => k_is)
    (case a34 => k_is)
    (case l34 => k_is)
    (case c34 => k_is)
    (case k34 => k_is)
    (case a35 => k_is)
    (case l35 => k_is)
    (case c35 => k_is)
    (case k35 => k_is)
    (case z0 => k_is)
    (case z1 => k_is)
    (case z2 => k_is)
    (case z3 => k_is)
    (case z4 => k_is)
    (case z5 => k_is)
    (case z6 => k_is)
    (case z7 => k_is)
    (case z8 => k_is)
    (case z9 => k_is)
    (case z10 => k_is)
    (case z11 => k_is)
    (case z12 => k_is)
    (case y0 => k_is)
    (case y1 => k_is)
