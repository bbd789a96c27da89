import PyProof.Rows.All
import Wide.All
import OpenK.AllK
import Wide.FinOn
import HandS.ForMost
import HandS.Wide
import HandS.Walk
import HandS.Evl
import HandS.Zip
import HandS.IsInst
import HandS.Style
import HandS.Defaults
import KE.GoesEnum
import KE.GoesZip
import KE.KTupSum
import HandS.NoneIn
import HandS.TupMul
import HandS.TupAny
import HandS.Set
import HandS.SetFor
import HandS.Strs
import HandS.Conv
import HandS.SortInts
import HandS.Deep
import KE.IntBitsLaws
import HandS.WideBits
import HandS.More
import HandS.SetKeys
import HandS.TupSets
import PyProof.ReprRoads
import KE.DataFind
import KE.KDictCopyH
import HandS.Sort
import HandS.TupLen
import HandS.TupLe
import HandS.DictComp
import HandS.SetBool
import PyProof.Rows.SortKeyStr
import PyProof.Rows.SortStr
import HandS.Exc
import HandS.ExcInit
import HandS.TryMany
import HandS.ExcField
import HandS.ExcOwn
import KE.KExcIs
import KE.KIsAll
import HandS.Text
import HandS.StrSplit
import HandS.FStr
import HandS.RaiseMore
import KE.KIntText
import PyProof.Rows.StrCut
import HandS.Nested
import HandS.EndTab
import HandS.EndOwn
import KE.KNestM
import KE.KxField
import KE.KDictZip
import PySem.Challenge.RW_panfalls_k77_words_and_nets_as_texts
set_option Elab.async false
set_option linter.all false
set_option maxRecDepth 100000
set_option maxHeartbeats 4000000
namespace Pan
open PySem PySem.Spec PyProof.Rows L2
noncomputable def Kn (P : Program) (w : World) (K : PySem.W.Frag) (mg : Str → Option Value) (base : Heap) (x : Str) (ps : List Str) (k : Nat) (sp : Sp) : Prop :=
  ∃ (f : Addr) (fd : FuncData), FnOk P w K mg base CX0 k f fd ps sp ∧ mg x = some (.ref f) ∧ PySem.W.keepIn K (.ref f) = true ∧ Binds K fd ps []
theorem pe_own {X : Cx} {x : Str} {ps : List Str} {k : Nat} {sp : Sp} {e : Expr} {es : List Expr} {t : TA} {p pos : Pos} (h : Kn X.prog X.w X.K X.mg X.base x ps k sp) (hr : Room k X.A) (hg : Gl X x) (ha : PA X (e :: es) t)
    (hdb : (x == ("__debug__" : Str)) = false := by decide) (he : starEach (e :: es) X.env = (false, eval e X.env) :: starEach es X.env := by rfl) (hpl : (backTo pos (starEach es X.env)).any (·.1) = false := by rfl) :
    PE X (.Call (.Name x p) (e :: es) [] pos) (tCall sp [] E0 t) := by
  obtain ⟨f, fd, F, m, kp, b⟩ := h
  exact pe_call F hr hg m kp b .nil pass0 ha hdb he hpl
theorem Kn.mk {P : Program} {w : World} {K : PySem.W.Frag} {mg : Str → Option Value} {base : Heap} {x : Str} {st : Stmt} {ps : List Str} {k : Nat} {sp : Sp} {f : Addr} {fd : FuncData} (F : Fun K x x st f fd) (m : mg x = some (.ref f)) (b : Binds K fd ps [])
    (ok : FnOk P w K mg base CX0 k f fd ps sp) : Kn P w K mg base x ps k sp := ⟨f, fd, ok, m, F.kp, b⟩
theorem same_upd {H : Hp} {p : Addr} {o : HO} (h : H p = none) : Same H (upd H p o) := fun b x e => by
  rw [upd_ne (ne_of_none e h)]
  exact e
noncomputable def Un (t : Addr) (H H' : Hp) : Prop := ∀ a o, a ≠ t → H a = some o → H' a = some o
theorem Un.refl (t : Addr) (H : Hp) : Un t H H := fun _ _ _ e => e
theorem Un.trans {t : Addr} {H H1 H2 : Hp} (a : Un t H H1) (b : Un t H1 H2) : Un t H H2 := fun c o n e => b c o n (a c o n e)
theorem Un.same {t : Addr} {H H' : Hp} (s : Same H H') : Un t H H' := fun c o _ e => s c o e
theorem Un.upd {t : Addr} {H : Hp} {o : HO} : Un t H (upd H t o) := fun c u n e => by rw [upd_ne n]; exact e
noncomputable def Tp (b : Nat) (H : Hp) (t : Addr) : Prop := ∃ x y z : Int, H t = some (.lst [.int x, .int y, .int z]) ∧ 0 ≤ x ∧ 0 ≤ y ∧ y < 4611686018427387904 ∧ 0 ≤ z ∧ z + b < 1099511627776
theorem Tp.same {b : Nat} {H H' : Hp} {t : Addr} (s : Same H H') (h : Tp b H t) : Tp b H' t := by
  obtain ⟨x, y, z, e, r⟩ := h
  exact ⟨x, y, z, s _ _ e, r⟩
theorem Tp.le {b c : Nat} {H : Hp} {t : Addr} (h : Tp b H t) (l : c ≤ b) : Tp c H t := by
  obtain ⟨x, y, z, e, h1, h2, h3, h4, h5⟩ := h
  exact ⟨x, y, z, e, h1, h2, h3, h4, by omega⟩
theorem Tp.ne {b : Nat} {H : Hp} {t p : Addr} (h : Tp b H t) {xs : List V} (e : H p = some (.tup xs)) : p ≠ t := by
  obtain ⟨x, y, z, e', _⟩ := h
  exact ne_of e e' (fun q => nomatch q)
theorem Tp.nn {b : Nat} {H : Hp} {t p : Addr} (h : Tp b H t) (e : H p = none) : p ≠ t := by
  obtain ⟨x, y, z, e', _⟩ := h
  exact (ne_of_none e' e).symm
theorem Un.fresh {t : Addr} {H H1 H2 : Hp} (U : Un t H1 H2) (S : Same H H1) (h : H t = none) : Same H H2 := fun a o e => U a o (ne_of_none e h) (S a o e)
theorem Same.of_upd {H H1 : Hp} {p : Addr} {o : HO} (S : Same H H1) (h : H p = none) : Same H (upd H1 p o) := fun a u e => by
  rw [upd_ne (ne_of_none e h)]
  exact S a u e
theorem iteD {c A B : Prop} [Decidable c] (hc : c) (h : A) : if decide c = true then A else B := by
  rw [if_pos (decide_eq_true hc)]
  exact h
theorem iteDN {c A B : Prop} [Decidable c] (hc : ¬ c) (h : B) : if decide c = true then A else B := by
  rw [if_neg (by simpa using hc)]
  exact h
theorem iteN {c A B : Prop} [Decidable c] (hc : ¬ c) (h : A) : if (!decide c) = true then A else B := by
  rw [decide_eq_false hc]
  exact iteT h
theorem pick {xs : List Int} {i : Int} (h0 : 0 ≤ i) (h1 : i < xs.length) : ∃ v, v ∈ xs ∧ atI (xs.map V.int) i = some (.int v) := by
  obtain ⟨j, rfl⟩ : ∃ j : Nat, i = (j : Int) := ⟨i.toNat, by omega⟩
  have hj : j < xs.length := by omega
  exact ⟨xs[j], List.getElem_mem hj, atI_nat (by rw [List.getElem?_map, List.getElem?_eq_getElem hj]; rfl)⟩
theorem item_int {xs : List Int} {i : Nat} {x : V} (h : (xs.map V.int)[i]? = some x) : ∃ v, v ∈ xs ∧ x = .int v ∧ xs[i]? = some v := by
  rw [List.getElem?_map] at h
  cases e : xs[i]? with
  | none => rw [e] at h; cases h
  | some v =>
    rw [e] at h
    exact ⟨v, List.mem_of_getElem? e, (Option.some.inj h).symm, rfl⟩
noncomputable def cutI (xs : List Int) (a b : Nat) : List Int := (xs.drop a).take (b - a)
theorem cut_map (ns : List Int) (lo hi : Option Int) : cutV (ns.map V.int) lo hi = (cutI ns (HT.sIx ns.length 0 lo) (HT.sIx ns.length ns.length hi)).map V.int := by
  unfold cutV cutI
  rw [List.length_map, List.map_take, List.map_drop]
theorem sz {n : Nat} (h : n ≤ 100000) : n ≤ sizeLine := Nat.le_trans h (by decide)
theorem szl {n : Nat} (h : n < 100000) : n < sizeLine := Nat.lt_of_lt_of_le h (by decide)
/-- a list of so many weights, drawn one by one -/
noncomputable def Drawn (t D : Addr) (H1 : Hp) (m : Int) (c : Nat) (i : Nat) (H' : Hp) : Prop :=
  ∃ ws : List Int, ws.length = i ∧ (∀ w ∈ ws, 1 ≤ w ∧ w ≤ m) ∧ H' D = some (.lst (ws.map V.int)) ∧ Un t H1 H' ∧ Tp c H' t
noncomputable def NewAt (H : Hp) (o : HO) (Q : VK) : Prop := ∀ p H', H p = none → Same H H' → H' p = some o → Q (.ref p) H'
theorem NewAt.upd {H : Hp} {o : HO} {Q : VK} (h : NewAt H o Q) {p : Addr} (np : H p = none) : Q (.ref p) (L2.upd H p o) := h p _ np (same_upd np) upd_same
noncomputable def clA (t : TA) : TA := fun σ H Q => ∃ R : List V → Hp → Prop, t σ H R ∧ ∀ vs H', R vs H' → Q vs H'
noncomputable def clE (t : TE) : TE := fun σ H Q => ∃ R : VK, t σ H R ∧ ∀ v H', R v H' → Q v H'
theorem paCl {X : Cx} {es : List Expr} {t : TA} (h : PA X es t) : PA X es (clA t) :=
  ⟨fun pos pins s σ H Q I ⟨R, hR, k⟩ => thn (h.run pos pins s σ H R I hR) fun us s' ⟨vs, H', I', r, q⟩ => ⟨vs, H', I', r, k vs H' q⟩⟩
theorem pe_cut {X : Cx} {e : Expr} {t : TE} (h : PE X e t) : PE X e (clE t) :=
  ⟨fun pins s σ H Q I ⟨R, hR, k⟩ => thn (h.run pins s σ H R I hR) fun us s' ⟨v, H', I', r, q⟩ => ⟨v, H', I', r, k v H' q⟩⟩
noncomputable def tTupN (t : TA) : TE := fun σ H Q => t σ H fun xs H1 => xs.length ≤ sizeLine ∧ NewAt H1 (.tup xs) Q
noncomputable def tLstN (t : TA) : TE := fun σ H Q => t σ H fun xs H1 => xs.length ≤ sizeLine ∧ NewAt H1 (.lst xs) Q
theorem pe_tupN {X : Cx} {es : List Expr} {t : TA} {x1 pos} (h : PA X es t) : PE X (.Tuple es x1 pos) (tTupN t) :=
  ⟨fun pins s σ H Q I hq => (pe_tup (paCl h)).run pins s σ H Q I ⟨_, hq, fun xs H1 z => ⟨z.1, fun p np => z.2.upd np⟩⟩⟩
theorem pe_lstN {X : Cx} {es : List Expr} {t : TA} {pos} (h : PA X es t) : PE X (.List es pos) (tLstN t) :=
  ⟨fun pins s σ H Q I hq => (pe_lst (paCl h)).run pins s σ H Q I ⟨_, hq, fun xs H1 z => ⟨z.1, fun p np => z.2.upd np⟩⟩⟩
noncomputable def rSlN (K : PySem.W.Frag) : V → Option Int → Option Int → Hp → VK → Prop := fun x lo hi H Q => ∃ a xs, x = .ref a ∧ SqL K H a xs ∧ NewAt H (.lst (cutV xs lo hi)) Q
theorem sl_listN {X : Cx} {K : PySem.W.Frag} (hK : X.K = K := by rfl) : SlR X (rSlN K) := fun pins s σ H x v vl vu lo hi sl Q I rx hs pl pu ⟨a, xs, e, hx, q⟩ =>
  sl_list pins s σ H x v vl vu lo hi sl Q I rx hs pl pu ⟨a, xs, e, by rw [hK]; exact hx, fun p np => q.upd np⟩
noncomputable def rListN (K : PySem.W.Frag) : List V → Hp → VK → Prop := fun xs H Q => ∃ p ys, xs = [.ref p] ∧ (SqL K H p ys ∨ SqT K H p ys) ∧ NewAt H (.lst ys) Q
theorem call_listN {X : Cx} {K : PySem.W.Frag} (hK : X.K = K := by rfl) : CallR X (.type "list") (rListN K) := fun pins s σ H xs us Q I r ⟨p, ys, e, h, q⟩ =>
  call_list_of pins s σ H xs us Q I r ⟨p, ys, e, by rw [hK]; exact h, fun l nl => q.upd nl⟩
noncomputable def rTupN (K : PySem.W.Frag) : List V → Hp → VK → Prop := fun xs H Q => ∃ p ys, xs = [.ref p] ∧ SqL K H p ys ∧ NewAt H (.tup ys) Q
theorem call_tupleN {X : Cx} {K : PySem.W.Frag} (hK : X.K = K := by rfl) : CallR X (.type "tuple") (rTupN K) := fun pins s σ H xs us Q I r ⟨p, ys, e, h, q⟩ =>
  call_tuple_of pins s σ H xs us Q I r ⟨p, ys, e, .inl ⟨by rw [hK]; exact h, fun l nl => q.upd nl⟩⟩
noncomputable def rLenN (K : PySem.W.Frag) : List V → Hp → VK → Prop := fun xs H Q => ∃ p ys, xs = [.ref p] ∧ (SqL K H p ys ∨ SqT K H p ys) ∧ Q (.int ys.length) H
theorem call_lenN {X : Cx} {K : PySem.W.Frag} (hK : X.K = K := by rfl) : CallR X (.builtin "len") (rLenN K) := fun pins s σ H xs us Q I r ⟨p, ys, e, h, q⟩ =>
  call_len_seq pins s σ H xs us Q I r ⟨p, ys, e, by rw [hK]; exact h, q⟩
theorem small01 {c : Prop} [Decidable c] : -(2 ^ 64) < (if c then (1 : Int) else 0) ∧ (if c then (1 : Int) else 0) < 2 ^ 64 := by
  split <;> decide
theorem pe_const {X : Cx} {x z : Str} {pos : Pos} (h : ∃ t, X.mg x = some (.str z t)) (hg : Gl X x) (hd : (x == ("__debug__" : Str)) = false := by decide) : PE X (.Name x pos) (tC (.str z)) := by
  obtain ⟨t, h⟩ := h
  exact pe_glob hg h ⟨t, rfl⟩ hd
noncomputable def Sh (n : Nat) (d : PyData) : Prop := d.canLay0 = true ∧ d.depth ≤ n
noncomputable def ShA (n : Nat) (ds : List PyData) : Prop := PyData.canLayAll0 ds = true ∧ PyData.depthAll ds ≤ n
theorem Sh.int {n : Nat} (i : Int) : Sh n (.int i) := ⟨rfl, Nat.zero_le _⟩
theorem ShA.nil {n : Nat} : ShA n [] := ⟨rfl, Nat.zero_le _⟩
theorem ShA.cons {n : Nat} {d : PyData} {ds : List PyData} (h : Sh n d) (k : ShA n ds) : ShA n (d :: ds) := by
  refine ⟨?_, ?_⟩
  · rw [PyData.canLayAll0, h.1, k.1]
    rfl
  · rw [PyData.depthAll]
    exact Nat.max_le.mpr ⟨h.2, k.2⟩
theorem ShA.map {α : Type} {n : Nat} {f : α → PyData} : ∀ (l : List α), (∀ x ∈ l, Sh n (f x)) → ShA n (l.map f)
  | [], _ => .nil
  | x :: l, h => .cons (h x (List.mem_cons_self ..)) (ShA.map l fun y hy => h y (List.mem_cons_of_mem _ hy))
theorem Sh.list {n : Nat} {ds : List PyData} (h : ShA n ds) : Sh (n + 1) (.list ds) := ⟨h.1, Nat.succ_le_succ h.2⟩
theorem Sh.tup {n : Nat} {ds : List PyData} (h : ShA n ds) : Sh (n + 1) (.tuple ds) := ⟨h.1, Nat.succ_le_succ h.2⟩
theorem Sh.ok {n : Nat} {d : PyData} (h : Sh n d) (hn : n ≤ 64 := by decide) : SeqAt.shaped d = true := by
  unfold SeqAt.shaped
  rw [h.1, decide_eq_true (Nat.le_trans h.2 hn)]
  rfl
theorem dpInts {K : PySem.W.Frag} {H : Hp} : ∀ ns : List Int, DpAll K H (ns.map V.int) (ns.map PyData.int)
  | [] => .nil
  | n :: ns => .cons (.int n) (dpInts ns)
noncomputable def LcGo (J : It) (g : TG) (tt : TT) (te : TE) (vs : List Nat) (σ : L2.St) (H1 : Hp) (Q : VK) : Prop := tLc (fun _ H R => R J H) g tt te vs σ H1 Q
noncomputable def tLcN (wi : TI) (g : TG) (tt : TT) (te : TE) (vs : List Nat) : TE := fun σ H Q => wi σ H fun J H1 => LcGo J g tt te vs σ H1 Q
theorem lcN_eq (wi : TI) (g : TG) (tt : TT) (te : TE) (vs : List Nat) : tLcN wi g tt te vs = tLc wi g tt te vs := rfl
theorem pe_lcN {X : Cx} {elt tg iter : Expr} {ifs : List Expr} {scope : Scope} {own : List (Str × Nat)} {pos : Pos} {wi : TI} {g : TG} {tt : TT} {te : TE} (hc : X.calm = true) (hN : X.N.Nodup) (hi : PI X tg iter wi) (ok : BlkOk X.N X.env.scope scope own)
    (hg : ∀ s H C cl fp, PG (X.blk s H scope (compEnvC scope cl C X.env) fp) tg g) (ht : ∀ s H C cl fp, PTs (X.blk s H scope (compEnvC scope cl C X.env) fp) ifs tt)
    (he : ∀ s H C cl fp, PE (X.blk s H scope (compEnvC scope cl C X.env) fp) elt te) (hs : ∀ x, foldedSetIterable iter X.env x = pure x := by intro _; rfl) :
    PE X (.ListComp elt [⟨tg, iter, ifs, 0⟩] scope pos) (tLcN wi g tt te (own.map (·.2))) := by
  rw [lcN_eq]
  exact pe_lc hc hN hi ok hg ht he hs
theorem ps_setLcN {X : Cx} {i : Nat} {y : Str} {py : Pos} {elt tg iter : Expr} {ifs : List Expr} {scope : Scope} {own : List (Str × Nat)} {pos spos : Pos} {wi : TI} {g : TG} {tt : TT} {te : TE} (hc : X.calm = true) (hN : X.N.Nodup) (hy : X.N[i]? = some y) (hyl : X.env.scope.names.lookup y = some .local)
    (hsw : swapsWith (.ListComp elt [⟨tg, iter, ifs, 0⟩] scope pos) (some (.Name y py)) spos.line X.env = pure true) (hi : PI X tg iter wi) (ok : BlkOk X.N X.env.scope scope own)
    (hg : ∀ s H C cl fp, PG (X.blk s H scope (compEnvC scope cl C X.env) fp) tg g) (ht : ∀ s H C cl fp, PTs (X.blk s H scope (compEnvC scope cl C X.env) fp) ifs tt)
    (he : ∀ s H C cl fp, PE (X.blk s H scope (compEnvC scope cl C X.env) fp) elt te) (hs : ∀ x, foldedSetIterable iter X.env x = pure x := by intro _; rfl) :
    PS X (.Assign [.Name y py] (.ListComp elt [⟨tg, iter, ifs, 0⟩] scope pos) spos) (tAsg (tLcN wi g tt te (own.map (·.2))) (gName i)) := by
  rw [lcN_eq]
  exact ps_setLc hc hN hy hyl hsw hi ok hg ht he hs
noncomputable def pgk {α : Type} (d : α) (perm : List Nat) (vs zs : List α) : List α := vs ++ perm.map fun i => zs.getD i d
theorem relGetD {zs : List V} {ws : List Value} (h : Vals zs ws) (i : Nat) : RelV (zs.getD i .non) (ws.getD i .none) := by
  rw [List.getD_eq_getElem?_getD, List.getD_eq_getElem?_getD]
  cases e : zs[i]? with
  | none =>
    rw [h.none_of e]
    rfl
  | some v =>
    obtain ⟨u, hu, r⟩ := h.get e
    rw [hu]
    exact r
theorem relMap {zs : List V} {ws : List Value} (h : Vals zs ws) : ∀ perm : List Nat, Vals (perm.map fun i => zs.getD i .non) (perm.map fun i => ws.getD i .none)
  | [] => .nil
  | i :: perm => .cons (relGetD h i) (relMap h perm)
noncomputable def KnK (P : Program) (w : World) (K : PySem.W.Frag) (mg : Str → Option Value) (base : Heap) (x : Str) (ps : List Str) (k : Nat) (sp : Sp) (n : Nat) (ks : List Str) (perm : List Nat) : Prop :=
  ∃ (f : Addr) (fd : FuncData), FnOk P w K mg base CX0 k f fd ps sp ∧ mg x = some (.ref f) ∧ PySem.W.keepIn K (.ref f) = true ∧ KBn K fd ps n ks (pgk .none perm) (pgk .non perm)
theorem KnK.mk {P : Program} {w : World} {K : PySem.W.Frag} {mg : Str → Option Value} {base : Heap} {x : Str} {st : Stmt} {ps ks : List Str} {k n : Nat} {perm : List Nat} {sp : Sp} {f : Addr} {fd : FuncData} (F : Fun K x x st f fd) (m : mg x = some (.ref f))
    (h : ∀ (kV doc pm : Value) (an : Option Addr) (cdv ct : Value) (us ws : List Value), us.length = n → ws.length = ks.length → bindArgs (PySem.W.fnOf x x (defArgs st) (defBody st) (defScope st) .none kV doc pm an cdv ct) ⟨us, ks.zip ws⟩ = pure (ps.zip (pgk .none perm us ws)))
    (ok : FnOk P w K mg base CX0 k f fd ps sp) : KnK P w K mg base x ps k sp n ks perm := by
  refine ⟨f, fd, ok, m, F.kp, ⟨?_, ?_⟩⟩
  · obtain ⟨oc, od, kV, doc, pm, an, cdv, ct, osl, rfl, lk, hcd⟩ := F.ex
    exact fun s us ws _ h1 h2 => .of_eq (h kV doc pm an cdv ct us ws h1 h2)
  · exact fun r rz => Vals.append r (relMap rz perm)
noncomputable def tCallK0 (m : Nat) (sp : Sp) (perm : List Nat) (tk : TA) : TE := fun σ H Q => tk σ H fun zs H2 => zs.length = m ∧ sp (pgk .non perm [] zs) H2 Q E0
theorem pe_ownK0 {X : Cx} {x : Str} {ps ks : List Str} {k : Nat} {perm : List Nat} {sp : Sp} {kws : List Keyword} {tk : TA} {p pos : Pos} (h : KnK X.prog X.w X.K X.mg X.base x ps k sp 0 ks perm) (hr : Room k X.A) (hg : Gl X x) (hkw : PK X kws tk)
    (hall : (backToKw pos (keywordEach kws X.env)).all (·.1.isSome) = true := by rfl) (hks : (backToKw pos (keywordEach kws X.env)).filterMap (·.1) = ks := by rfl) (hdb : (x == ("__debug__" : Str)) = false := by decide)
    (hpl : ((backTo pos (starEach [] X.env)).any (·.1) || (backToKw pos (keywordEach kws X.env)).any (·.1.isNone)) = false := by rfl) : PE X (.Call (.Name x p) [] kws pos) (tCallK0 ks.length sp perm tk) := by
  obtain ⟨f, fd, F, m, kp, b⟩ := h
  refine ⟨fun pins s σ H Q I hq => wpAny_Call_Name_kw (ld_glob I hg m ?_ hdb)⟩
  refine PySem.W.callWith_KW0 (h₀ := X.base) I.ok.mod.kin kp hall (thn (hkw.run pos pins s σ H _ I hq) fun ws s2 z2 => ?_) hpl
  obtain ⟨zs, H2, I2, rz, l2, q2⟩ := z2
  refine ⟨I2.kIn, ?_⟩
  rw [hks]
  exact run_fnN F hr b pass0 I2 .nil rz rfl l2 q2
theorem ixs {X : Cx} {K : PySem.W.Frag} (hK : X.K = K := by rfl) : IxR X (rIx K) := by
  subst hK
  exact ix_seq
theorem neD {X : Cx} {K : PySem.W.Frag} (hu : X.A.units + 64 < cLine) (hK : X.K = K := by rfl) : OpR X (compareOp .NotEq) (rNeD K) := by
  subst hK
  exact op_neD hu
theorem allL {X : Cx} {K : PySem.W.Frag} (hc : X.calm = true) (hK : X.K = K := by rfl) : CallR X (.builtin "all") (rAll K) := by
  subst hK
  exact cr_all hc
theorem isi1 {X : Cx} {K : PySem.W.Frag} (hK : X.K = K := by rfl) : CallR X (.builtin "isinstance") (rIsi K) := by
  subst hK
  exact call_isi
theorem isiN {X : Cx} {K : PySem.W.Frag} (hK : X.K = K := by rfl) : CallR X (.builtin "isinstance") (rIsiT K) := by
  subst hK
  exact call_isiT
noncomputable def rRepN : R2 := fun x y H Q => ∃ l k xs, x = .ref l ∧ y = .int k ∧ H l = some (.lst xs) ∧ -(2 ^ 63) ≤ k ∧ k < 2 ^ 63 ∧ xs.length * k.toNat ≤ sizeLine ∧ NewAt H (.lst (List.replicate k.toNat xs).flatten) Q
theorem opRepN {X : Cx} : OpR X (binaryOp .Mult) rRepN := fun pins s σ H x y v u Q I rx ry ⟨l, k, xs, e1, e2, h1, h2, h3, h4, q⟩ => op_rep pins s σ H x y v u Q I rx ry ⟨l, k, xs, e1, e2, h1, h2, h3, h4, fun p np => q.upd np⟩
end Pan
namespace Pan
open PySem PySem.Spec PyProof.Rows L2
noncomputable def fo (f l m : Int) : Int × Int := if f < 2 * m ∧ 2 * m < l then (1, if l - 2 * m > 2 * m - f then l - 2 * m else 2 * m - f) else if 2 * m < f then (f - 2 * m, l - 2 * m) else (2 * m - l, 2 * m - f)
noncomputable def be (r : Int × Int) (ws : List Int) : Int × Int := ws.foldl (fun r m => fo r.1 r.2 m) r
noncomputable def Odds (f l : Int) : Prop := f % 2 = 1 ∧ l % 2 = 1 ∧ 1 ≤ f ∧ f ≤ l
/-- a run within another one is taken within what that is taken to, below 2 M -/
noncomputable def In2 (M : Int) (r s : Int × Int) : Prop := Odds r.1 r.2 ∧ Odds s.1 s.2 ∧ r.1 ≤ s.1 ∧ s.2 ≤ r.2 ∧ r.2 ≤ 2 * M - 1
theorem Drawn.start {t D : Addr} {H1 : Hp} {m : Int} {c : Nat} (nD : H1 D = none) (T : Tp c H1 t) : Drawn t D H1 m c 0 (upd H1 D (.lst [])) :=
  ⟨[], rfl, (fun _ h => absurd h List.not_mem_nil), upd_same, Un.same (same_upd nD), T.same (same_upd nD)⟩
theorem Drawn.more {t D : Addr} {H1 H' H2 : Hp} {m v : Int} {c d i : Nat} (nD : H1 D = none) (T1 : Tp d H1 t) (h : ∃ ws : List Int, ws.length = i ∧ (∀ w ∈ ws, 1 ≤ w ∧ w ≤ m) ∧ H' D = some (.lst (ws.map V.int)) ∧ Un t H1 H') (h1 : 1 ≤ v) (h2 : v ≤ m) (U : Un t H' H2) (T : Tp c H2 t) (hi : i < 1000) :
    ∃ acc, H2 D = some (.lst acc) ∧ acc.length < sizeLine ∧ Drawn t D H1 m c (i + 1) (upd H2 D (.lst (acc ++ [.int v]))) := by
  obtain ⟨ws, hl, hw, e, U1⟩ := h
  have nt : D ≠ t := T1.nn nD
  refine ⟨_, U D _ nt e, szl (by rw [List.length_map]; omega), ws ++ [v], by rw [List.length_append, hl]; rfl, fun x hx => ?_, ?_, ?_, ?_⟩
  · rcases List.mem_append.mp hx with h | h
    · exact hw x h
    · have : x = v := by simpa using h
      subst this
      exact ⟨h1, h2⟩
  · rw [upd_same, List.map_append]
    rfl
  · exact fun a o n ea => by
      rw [upd_ne (ne_of_none ea nD)]
      exact U a o n (U1 a o n ea)
  · obtain ⟨x, y, z, et, r⟩ := T
    exact ⟨x, y, z, by rw [upd_ne nt.symm]; exact et, r⟩
noncomputable def sd (s : Int) : Str := if s < 0 then "left" else "right"
noncomputable def st1 (s m : Int) : Int := if s < 0 then s + 2 * m else s - 2 * m
noncomputable def fin (s : Int) (ws : List Int) : Int := ws.foldl st1 s
noncomputable def sds : Int → List Int → List Str
  | _, [] => []
  | s, m :: ws => sd s :: sds (st1 s m) ws
noncomputable def lfl : Int → List Int → List Int
  | _, [] => []
  | s, m :: ws => if s < 0 then m :: lfl (st1 s m) ws else lfl (st1 s m) ws
theorem lcDraw {t : Addr} {m : Int} {n c j : Nat} {te : TE} {vs : List Nat} {σ : L2.St} {H1 : Hp} {Q : VK} (T : Tp (c + 3 * n) H1 t) (hn : n ≤ 500) (hw : ∀ x, wipe ((wipe σ vs).set j (some x)) vs = wipe σ vs)
    (ht : ∀ (i : Nat) (H' : Hp) (b : Nat), Tp (b + 3) H' t → ∀ R : VK, (∀ (v : Int) (H2 : Hp), 1 ≤ v → v ≤ m → Un t H' H2 → Tp b H2 t → R (.int v) H2) → te ((wipe σ vs).set j (some (.int (0 + (i : Nat))))) H' R)
    (hd : ∀ (D : Addr) (ws : List Int) (H' : Hp), ws.length = n → (∀ x ∈ ws, 1 ≤ x ∧ x ≤ m) → H1 D = none → Un t H1 H' → Tp c H' t → H' D = some (.lst (ws.map V.int)) → Q (.ref D) H') : LcGo (Itr 0 n) (gName j) tYes te vs σ H1 Q := by
  intro D nD
  refine lc_range (lo := 0) (n := n) (fun i H' => Drawn t D H1 m (c + 3 * (n - i)) i H') (Drawn.start nD T) (fun i H' hi hP => ?_) (fun H' hP => ?_)
  · obtain ⟨ws, h1, h2, h3, h4, h5⟩ := hP
    refine ⟨hw _, ht i H' (c + 3 * (n - (i + 1))) (h5.le (by omega)) _ fun v H2 hv1 hv2 U T2 => ?_⟩
    exact Drawn.more nD T ⟨ws, h1, h2, h3, h4⟩ hv1 hv2 U T2 (by omega)
  · obtain ⟨ws, h1, h2, h3, h4, h5⟩ := hP
    exact hd D ws H' h1 h2 nD h4 (h5.le (by omega)) h3
noncomputable def oth (x : Str) : Str := if x = ("left" : Str) then "right" else "left"
mutual
inductive Dt (H : Hp) : Nat → V → PyData → Prop
  | non {n : Nat} : Dt H n .non .none
  | bl {n : Nat} (b : Bool) : Dt H n (.bl b) (.bool b)
  | int {n : Nat} (i : Int) : Dt H n (.int i) (.int i)
  | str {n : Nat} (x : Str) : Dt H n (.str x) (.str x)
  | lst {n : Nat} {a : Addr} {xs : List V} {ds : List PyData} : H a = some (.lst xs) → xs.length ≤ 50000 → DtA H n xs ds → Dt H (n + 1) (.ref a) (.list ds)
  | tup {n : Nat} {a : Addr} {xs : List V} {ds : List PyData} : H a = some (.tup xs) → xs.length ≤ 50000 → DtA H n xs ds → Dt H (n + 1) (.ref a) (.tuple ds)
inductive DtA (H : Hp) : Nat → List V → List PyData → Prop
  | nil {n : Nat} : DtA H n [] []
  | cons {n : Nat} {v : V} {vs : List V} {d : PyData} {ds : List PyData} : Dt H n v d → DtA H n vs ds → DtA H n (v :: vs) (d :: ds)
end
mutual
theorem Dt.same {H H' : Hp} (S : Same H H') : ∀ {n : Nat} {v : V} {d : PyData}, Dt H n v d → Dt H' n v d
  | _, _, _, .non => .non
  | _, _, _, .bl b => .bl b
  | _, _, _, .int i => .int i
  | _, _, _, .str x => .str x
  | _, _, _, .lst e z k => .lst (S _ _ e) z (k.same S)
  | _, _, _, .tup e z k => .tup (S _ _ e) z (k.same S)
theorem DtA.same {H H' : Hp} (S : Same H H') : ∀ {n : Nat} {vs : List V} {ds : List PyData}, DtA H n vs ds → DtA H' n vs ds
  | _, _, _, .nil => .nil
  | _, _, _, .cons h k => .cons (h.same S) (k.same S)
end
mutual
theorem Dt.up {H : Hp} : ∀ {n m : Nat} {v : V} {d : PyData}, Dt H n v d → n ≤ m → Dt H m v d
  | _, _, _, _, .non, _ => .non
  | _, _, _, _, .bl b, _ => .bl b
  | _, _, _, _, .int i, _ => .int i
  | _, _, _, _, .str x, _ => .str x
  | n + 1, m + 1, _, _, .lst e z k, h => .lst e z (k.up (Nat.le_of_succ_le_succ h))
  | n + 1, m + 1, _, _, .tup e z k, h => .tup e z (k.up (Nat.le_of_succ_le_succ h))
theorem DtA.up {H : Hp} : ∀ {n m : Nat} {vs : List V} {ds : List PyData}, DtA H n vs ds → n ≤ m → DtA H m vs ds
  | _, _, _, _, .nil, _ => .nil
  | _, _, _, _, .cons h k, l => .cons (h.up l) (k.up l)
end
theorem DtA.len {H : Hp} : ∀ {n : Nat} {vs : List V} {ds : List PyData}, DtA H n vs ds → vs.length = ds.length
  | _, _, _, .nil => rfl
  | _, _, _, .cons _ k => congrArg (· + 1) k.len
theorem DtA.two {H : Hp} : ∀ {n : Nat} {us vs : List V} {ds : List PyData} {i : Nat} {x y : V}, DtA H n us ds → DtA H n vs ds → us[i]? = some x → vs[i]? = some y → ∃ d, Dt H n x d ∧ Dt H n y d
  | _, _, _, _, _, _, _, .nil, .nil, h, _ => by cases h
  | _, _, _, _, 0, _, _, .cons h _, .cons k _, e, f => by
    cases e
    cases f
    exact ⟨_, h, k⟩
  | _, _, _, _, i + 1, _, _, .cons _ h, .cons _ k, e, f => DtA.two (i := i) h k (by simpa using e) (by simpa using f)
theorem dtInts {H : Hp} {n : Nat} : ∀ ns : List Int, DtA H n (ns.map V.int) (ns.map PyData.int)
  | [] => .nil
  | x :: ns => .cons (.int x) (dtInts ns)
theorem dtStrs {H : Hp} {n : Nat} : ∀ ns : List Str, DtA H n (ns.map V.str) (ns.map PyData.str)
  | [] => .nil
  | x :: ns => .cons (.str x) (dtStrs ns)
theorem kit2 {K : PySem.W.Frag} {t a b : String} {r s : Bool} (h : kitB t a = some r) (k : kitB t b = some s) : PySem.W.kitAny K (.type t) [.type a, .type b] = some (r || s) := by
  refine kitAny_cons (kit_ty h) (fun e => ?_) (fun e => ?_)
  · subst e
    refine kitAny_cons (kit_ty k) (fun e => ?_) (fun e => ?_)
    · subst e
      exact kitAny_nil
    · subst e
      rfl
  · subst e
    rfl
theorem walk_zipTT {K : PySem.W.Frag} {a b : Addr} {xs ys : List V} (hl : xs.length = ys.length) : Walk (RZ.ItzT K a b) xs.length (fun H => SqT K H a xs ∧ SqT K H b ys) (YPair (fun i => xs[i]?) (fun i => ys[i]?)) where
  goes := fun i H hi g => ⟨xs, ys, xs[i], ys[i]'(by omega), g.1, g.2, by simp [hi], by simp [show i < ys.length by omega]⟩
  stops := fun H g => ⟨xs, ys, g.1, g.2, .inl (Nat.le_refl _)⟩
  yields := fun i H v H' hi g y => by
    obtain ⟨T, x, z, h1, h2, h3, h4, h5⟩ := y
    exact ⟨T, x, z, h1, h2, h3, h4 xs g.1, h5 ys g.2⟩
noncomputable def spSame : Nat → Sp
  | 0 => fun _ _ _ _ => False
  | n + 1 => fun vs H Q _ => ∃ (x y : V) (d : PyData), vs = [x, y] ∧ Dt H n x d ∧ Dt H n y d ∧ ∀ H', Same H H' → Q (.bl true) H'
end Pan
namespace Pan
open PySem PySem.Spec PyProof.Rows L2
noncomputable def GoodW (ws : List Int) : Prop := ws ≠ [] ∧ ∀ x ∈ ws, 1 ≤ x
noncomputable def mx : List Int → Int
  | [] => 0
  | x :: ws => max x (mx ws)
noncomputable def szz (s : Int) : Int := if s < 0 then -s else s
noncomputable def InR (r : Int × Int) (x : Int) : Prop := r.1 ≤ x ∧ x ≤ r.2
noncomputable def Wh : Int × Int → List Int → Prop
  | _, [] => True
  | r, m :: ws => ¬ (r.1 < 2 * m ∧ 2 * m < r.2) ∧ Wh (fo r.1 r.2 m) ws
noncomputable def rn (ws : List Int) : Nat → Int × Int
  | 0 => (1, 2 * mx ws - 1)
  | n + 1 => be (rn ws n) ws
noncomputable def IsLast (ws : List Int) (n : Nat) : Prop := rn ws (n + 1) = rn ws n ∧ ∀ i, i < n → rn ws (i + 1) ≠ rn ws i
noncomputable def rw_ (ws : List Int) (n : Nat) : Nat := ((rn ws n).2 - (rn ws n).1).toNat
open Classical in
noncomputable def stN (ws : List Int) : Nat := if h : ∃ n, IsLast ws n then h.choose else 0
noncomputable def stS (ws : List Int) : Int × Int := rn ws (stN ws)
noncomputable def lenW (ws : List Int) : Int := if fin (stS ws).1 ws = (stS ws).1 then 1 else 2
noncomputable def itr (ws : List Int) : Nat → Int → Int
  | 0, s => s
  | n + 1, s => itr ws n (fin s ws)
noncomputable def dn (ws : List Int) (s n : Int) : Int := if s < 0 then s + 2 * ws.sum * n else s - 2 * ws.sum * n
noncomputable def far (ws : List Int) (s : Int) : Int := (szz s - 1) / (2 * ws.sum)
noncomputable def IsSet (ws : List Int) (s : Int) (n : Nat) : Prop := InR (stS ws) (szz (itr ws n s)) ∧ ∀ i, i < n → ¬ InR (stS ws) (szz (itr ws i s))
open Classical in
noncomputable def setN (ws : List Int) (s : Int) : Nat := if h : ∃ n, IsSet ws s n then h.choose else 0
noncomputable def rDivmodN : List V → Hp → VK → Prop := fun xs H Q => ∃ i j, xs = [.int i, .int j] ∧ CDiv i j ∧ NewAt H (.tup [.int (i / j), .int (i % j)]) Q
theorem call_divmodN {X : Cx} : CallR X (.builtin "divmod") rDivmodN := fun pins s σ H xs us Q I r ⟨i, j, e, c, q⟩ => call_divmod pins s σ H xs us Q I r ⟨i, j, e, c, fun p np => q.upd np⟩
noncomputable def WOk (ws : List Int) : Prop := (∀ x ∈ ws, 1 ≤ x) ∧ ws.length ≤ 1000 ∧ ws.sum < 1099511627776
noncomputable def runD (r : Int × Int) : PyData := .tuple [.int r.1, .int r.2]
theorem eqv_run (a b : Int × Int) : PyData.eqv (runD a) (runD b) = decide (a = b) := by
  obtain ⟨a1, a2⟩ := a
  obtain ⟨b1, b2⟩ := b
  unfold runD
  by_cases c : a1 = b1 ∧ a2 = b2
  · obtain ⟨rfl, rfl⟩ := c
    rw [decide_eq_true rfl]
    exact SeqAt.eqv_refl _ rfl
  · have n : ¬ (a1, a2) = (b1, b2) := fun z => c ⟨congrArg Prod.fst z, congrArg Prod.snd z⟩
    rw [decide_eq_false n]
    simp only [PyData.eqv, PyData.eqvAll, Bool.and_true]
    by_cases d : a1 = b1
    · have e : ¬ a2 = b2 := fun z => c ⟨d, z⟩
      simp [d, e]
    · simp [d]
theorem dtA_snoc {H : Hp} {n : Nat} : ∀ {vs : List V} {ds : List PyData} {v : V} {d : PyData}, DtA H n vs ds → Dt H n v d → DtA H n (vs ++ [v]) (ds ++ [d])
  | _, _, _, _, .nil, h => .cons h .nil
  | _, _, _, _, .cons a k, h => .cons a (dtA_snoc k h)
noncomputable def atW (ws : List Int) (s : Int) (many : Int) : Int := if ws = [] then s else fin (itr ws (many / ws.length).toNat s) (ws.take (many % ws.length).toNat)
theorem lcRanF {n j : Nat} {f : Nat → Int} {te : TE} {vs : List Nat} {σ : L2.St} {H1 : Hp} {Q : VK} (hn : n ≤ 1000) (hw : ∀ x, wipe ((wipe σ vs).set j (some x)) vs = wipe σ vs)
    (ht : ∀ (i : Nat), i < n → ∀ (H' : Hp) (R : VK), Same H1 H' → (∀ H2, Same H' H2 → R (.int (f i)) H2) → te ((wipe σ vs).set j (some (.int (0 + (i : Nat))))) H' R)
    (hd : ∀ (D : Addr) (H' : Hp), H1 D = none → Same H1 H' → H' D = some (.lst (((List.range n).map f).map V.int)) → Q (.ref D) H') : LcGo (Itr 0 n) (gName j) tYes te vs σ H1 Q := by
  intro D nD
  refine lc_range (lo := 0) (n := n) (fun i H' => Same H1 H' ∧ H' D = some (.lst (((List.range i).map f).map V.int))) ⟨same_upd nD, upd_same⟩ (fun i H' hi hP => ?_) (fun H' hP => hd D H' nD hP.1 hP.2)
  refine ⟨hw _, ht i hi H' _ hP.1 fun H2 S2 => ⟨_, S2 _ _ hP.2, szl (by rw [List.length_map, List.length_map, List.length_range]; omega), Same.of_upd (hP.1.trans S2) nD, ?_⟩⟩
  rw [upd_same, List.range_succ, List.map_append, List.map_append]
  rfl
/-- a word as the laws draw it -/
noncomputable def Row (ws : List Int) (c : Nat) : Prop := ws ≠ [] ∧ ws.length ≤ c ∧ ∀ x ∈ ws, 1 ≤ x ∧ x ≤ 24
end Pan
namespace Pan
open PySem PySem.Spec PyProof.Rows L2
theorem lcMapTV {K : PySem.W.Frag} {a : Addr} {xs : List V} {f : V → V} {j : Nat} {te : TE} {vs : List Nat} {σ : L2.St} {H1 : Hp} {Q : VK} (ea : H1 a = some (.tup xs)) (hl : xs.length ≤ 1000)
    (hw : ∀ x, wipe ((wipe σ vs).set j (some x)) vs = wipe σ vs) (ht : ∀ x ∈ xs, ∀ (H' : Hp) (R : VK), Same H1 H' → (∀ H2, Same H' H2 → R (f x) H2) → te ((wipe σ vs).set j (some x)) H' R)
    (hd : ∀ (D : Addr) (H' : Hp), H1 D = none → Same H1 H' → H' D = some (.lst (xs.map f)) → Q (.ref D) H') : LcGo (Itt K a) (gName j) tYes te vs σ H1 Q := by
  intro D nD
  refine lc_tup (K := K) (a := a) (xs := xs) (fun i H' => Same H1 H' ∧ H' D = some (.lst ((xs.take i).map f))) ⟨same_upd nD, upd_same⟩ (fun i H' _ hP => SqT.of (hP.1 _ _ ea)) (fun i x H' hx hP => ?_) (fun H' hP => ?_)
  · refine ⟨hw _, ht x (List.mem_of_getElem? hx) H' _ hP.1 fun H2 S2 => ⟨_, S2 _ _ hP.2, szl (by rw [List.length_map, List.length_take]; omega), Same.of_upd (hP.1.trans S2) nD, ?_⟩⟩
    rw [upd_same, List.take_add_one, hx, List.map_append]
    rfl
  · rw [List.take_length] at hP
    exact hd D H' nD hP.1 hP.2
noncomputable def rSlW : V → Option Int → Option Int → Hp → VK → Prop := fun x lo hi H Q => ∃ a xs, x = .ref a ∧ H a = some (.tup xs) ∧ ∀ p H', Same H H' → H' p = some (.tup (cutV xs lo hi)) → Q (.ref p) H'
theorem sl_tupW {X : Cx} : SlR X rSlW := fun pins s σ H x v vl vu lo hi sl Q I rx hs pl pu ⟨a, xs, e, hx, q⟩ =>
  sl_tupA pins s σ H x v vl vu lo hi sl Q I rx hs pl pu ⟨a, xs, e, SqT.of hx, fun z => q a H (Same.refl _) (by
    unfold cutV
    rw [z.1, z.2, List.drop_zero, Nat.sub_zero, List.take_length]
    exact hx), fun _ p np => q p _ (same_upd np) upd_same⟩
end Pan
namespace Pan
open PySem PySem.Spec PyProof.Rows L2
noncomputable abbrev eSet (b : Bool) : Obj := { cls := .type "set", dict := none, data := .set #[] 0 (.fresh 0 0 b) }
section
variable {P : Program} {w : World} {A : Around} {E : Value → Shared → Prop} {s : Shared}
theorem setOfList {a : Addr} {us : Array Value} (zs : List Int) {R : Value → Shared → Prop} (hA : A.handled = none) (ha : s.heap.IsList a us) (hi : IntsAre us.toList zs) (room : zs.length + 1 < scanBound)
    (k : ∀ (g : Heap) (tk c : Nat), SetR w g s.heap.objs.size (fun j => decide (j ∈ zs)) c → c ≤ zs.length → (∀ b o, s.heap.get? b = some o → g.get? b = some o) → R (.ref s.heap.objs.size) { s with heap := g, toks := tk }) :
    wpAny (model P w) A (call (.type "set") [.ref a]) R E s := by
  have eL : us.size = zs.length := by
    have z := IntsAre.length hi
    rwa [Array.length_toList] at z
  obtain ⟨c0, tl0, hmro0⟩ := F.called_set.mro
  have made0 := F.called_set.made
  have sub0 := F.called_set.sub
  refine wpAny_call (codeAny_of_tree (?_ : wpAny _ _ (callAny (.type "set") _) _ _ _))
  refine wpAny_pure ⟨Code.quiet_builtin _ (by decide +kernel), codeAny_builtin F.entry_type_call (?_)⟩
  rw [Around.under_plain (weight_type_call_type "set" [.ref a] []) rfl]
  have nt0 := F.called_set.notType
  have cc0 := F.called_set.canCreate
  have tc0 := F.typeCall_set_1 (.ref a)
  repeat (any_goals first | assumption | wp_step)
  refine codeAny_mono (code_set_led1 (.ref a) (E := E) (Q₁ := fun x t => x = .ref s.heap.objs.size ∧ t = { s with heap := s.heap.push (eSet (!w.params.followText "set-order")) }) ⟨rfl, rfl⟩) fun r t hr => ?_
  cases r with
  | error e => exact hr
  | ok fl =>
    cases fl with
    | ret x =>
      obtain ⟨rfl, rfl⟩ := hr
      have gS : (s.heap.push (eSet (!w.params.followText "set-order"))).get? s.heap.objs.size = some (eSet (!w.params.followText "set-order")) := Heap.get?_push_size _ rfl
      have tS : Shared.TypeIs { s with heap := s.heap.push (eSet (!w.params.followText "set-order")) } (.ref s.heap.objs.size) "set" := ⟨_, gS, rfl⟩
      have li0 := F.called_set.init.lookup
      have bi0 := F.called_set.init.bind (.ref s.heap.objs.size)
      repeat (any_goals first | assumption | wp_step)
      refine codeAny_mono (codeAny_call_builtin (R := wants (fun y t => y = .none ∧ ∃ g tk c, t = { s with heap := g, toks := tk } ∧ SetR w g s.heap.objs.size (fun j => decide (j ∈ zs)) c ∧ c ≤ zs.length ∧
          (∀ b o, s.heap.get? b = some o → g.get? b = some o)) E) F.called_set.init.plain F.entry_set_init (check_set_init_1 tS ?_)) fun y t hy => ?_
      · obtain ⟨ol, gl, cl, nl, dl⟩ := ha
        obtain ⟨oc, od, odt, osl⟩ := ol
        simp only at cl dl
        subst cl
        subst dl
        have gl' : (s.heap.push (eSet (!w.params.followText "set-order"))).get? a = some { cls := .type "list", dict := od, data := .seq us nl, slots := osl } := Heap.get?_push_of_some _ gl
        have s1 := F.sub_list_set
        have s2 := F.sub_list_frozenset
        have ne0 : (Value.type "list" == Value.type "dict") = false := by decide
        have il : (s.heap.push (eSet (!w.params.followText "set-order"))).IsList a us := ⟨_, gl', rfl, nl, rfl⟩
        unfold Builtin.«set.__init__» noKeywords Builtin.Frozenset.updateFrom
        generalize hPI : pyIter = PIv
        wp_walk
        subst hPI
        refine wpAny_pyIter_list il (wpAny_bind (wpAny_runValue ?_))
        have la : a < s.heap.objs.size := Heap.lt_size gl
        have h3 : A.in1.in1.in1.handled = none := by simp [hA]
        have nI : a ≠ (s.heap.push (eSet (!w.params.followText "set-order"))).objs.size := by
          rw [Heap.size_push]
          exact Nat.ne_of_lt (Nat.lt_succ_of_lt la)
        have nS : s.heap.objs.size ∉ [(s.heap.push (eSet (!w.params.followText "set-order"))).objs.size, a] := by
          rw [Heap.size_push]
          intro z
          rcases List.mem_cons.mp z with z | z
          · exact absurd z (Nat.ne_of_lt (Nat.lt_succ_self _))
          · exact absurd (List.mem_singleton.mp z) (Nat.ne_of_gt la)
        have vals : ∀ (i : Nat) (v : Value), us[i]? = some v → ∃ k t, zs[i]? = some k ∧ v = .int k t := fun i v hv => by
          have li : i < zs.length := by
            rw [← eL]
            exact (Array.getElem?_eq_some_iff.mp hv).1
          obtain ⟨t, e⟩ := PyProof.Rows.IntsAre.int_at hi i v (by rw [Array.getElem?_toList]; exact hv)
          refine ⟨zs[i], t, List.getElem?_eq_getElem li, ?_⟩
          rw [e, List.getD_eq_getElem?_getD, List.getElem?_eq_getElem li]
          rfl
        refine set_update_ints ((Walks.list h3 _ a nI us).toS) s.heap.objs.size nS zs eL room vals (us.size - 0) 0 _ (by omega) (Nat.zero_le _)
          ⟨⟨_, Heap.get?_push_size _ rfl, rfl, rfl⟩, il.push _⟩ ⟨0, Nat.le_refl 0, setR_new_at (Heap.get?_push_of_some _ gS)⟩ fun t c' mv hc' hS' => ?_
        obtain ⟨g, g2, d2, tk2, os2⟩ := t
        have eg : g2 = s.gens := mv.gens
        have ed : d2 = s.drawn := mv.drawn
        have eo : os2 = s.os := mv.os
        subst eg
        subst ed
        subst eo
        show wpAny _ _ _ _ _ _
        refine wpAny_pure (?_ : wpAny _ _ (ret Value.none) _ _ _)
        rw [eL] at hc'
        refine wpAny_pure ⟨rfl, g, tk2, c', rfl, hS', hc', fun b o e => ?_⟩
        have lb : b < s.heap.objs.size := Heap.lt_size e
        refine mv.heap b o (fun z => ?_) (Heap.get?_push_of_some _ (Heap.get?_push_of_some _ e))
        rcases List.mem_cons.mp z with z | z
        · exact absurd z (Nat.ne_of_lt lb)
        · have z2 := List.mem_singleton.mp z
          rw [Heap.size_push] at z2
          exact absurd z2 (Nat.ne_of_lt (Nat.lt_succ_of_lt lb))
      · cases y with
        | error e => exact hy
        | ok fl2 =>
          cases fl2 with
          | ret x2 =>
            obtain ⟨rfl, g, tk, c', rfl, hS', hc', hk'⟩ := hy
            repeat (any_goals first | assumption | wp_step)
            exact k _ _ _ hS' hc' hk'
          | _ => exact hy.elim
    | _ => exact hr.elim
end
noncomputable def rSetL (K : PySem.W.Frag) (w : World) : List V → Hp → VK → Prop := fun vs H Q => ∃ (a : Addr) (ns : List Int), vs = [V.ref a] ∧ SqL K H a (ns.map V.int) ∧ ns.length ≤ 1000 ∧
  ∀ (p : Addr) (c : Nat) (H' : Hp), H p = none → Same H H' → H' p = some (SetO w p (fun j => decide (j ∈ ns)) c) → (∀ D : List Int, (∀ x ∈ ns, x ∈ D) → c ≤ D.length) → Q (.ref p) H'
theorem nd_len : ∀ (l D : List Int), l.Nodup → (∀ x ∈ l, x ∈ D) → l.length ≤ D.length
  | [], _, _, _ => Nat.zero_le _
  | x :: l, D, h, k => by
    obtain ⟨h1, h2⟩ := List.nodup_cons.mp h
    have hx := k x (List.mem_cons_self ..)
    have a := nd_len l (D.erase x) h2 fun y hy => (List.mem_erase_of_ne (fun z : y = x => h1 (by rw [← z]; exact hy))).mpr (k y (List.mem_cons_of_mem _ hy))
    rw [List.length_erase_of_mem hx] at a
    have b := List.length_pos_of_mem hx
    rw [List.length_cons]
    omega
theorem setR_few {w : World} {h : Heap} {a : Addr} {ns : List Int} {c : Nat} (R : SetR w h a (fun j => decide (j ∈ ns)) c) (D : List Int) (hD : ∀ x ∈ ns, x ∈ D) : c ≤ D.length := by
  obtain ⟨o, es, ep, t, ho, hex, hd, g, nd, hm, hb, hf, hn, hr, hl⟩ := R
  have a := nd_len (es.toList.map keyOf) D nd fun x hx => hD x (of_decide_eq_true ((hm x).mpr hx))
  rw [List.length_map, Array.length_toList, hn] at a
  exact a
theorem cr_setL {X : Cx} {K : PySem.W.Frag} {w : World} (hc : X.calm = true) (hK : X.K = K := by rfl) (hw : X.w = w := by rfl) : CallR X (.type "set") (rSetL K w) := by
  subst hK hw
  intro pins s σ H vs us Q I r h
  obtain ⟨a, ns, rfl, hs, hl, q⟩ := h
  obtain ⟨its, rv, ⟨ol, nl, ho, hcl, hdn, hd⟩, hz⟩ := I.list hs
  rw [Vals.ref1 r]
  have il : s.heap.IsList a its.toArray := ⟨ol, ho, hcl, nl, hd⟩
  refine setOfList ns (I.ok.hd hc) il (by simpa using ints_of_vals rv) (by unfold scanBound; omega) fun g tk c R hc2 hk => ?_
  refine ⟨.ref s.heap.objs.size, upd H s.heap.objs.size (SetO X.w s.heap.objs.size (fun j => decide (j ∈ ns)) c), I.laid hk (Nat.le_refl _) (setO_new R), rfl, ?_⟩
  have nf := I.hok.fresh (Nat.le_refl s.heap.objs.size)
  exact q _ c _ nf (same_upd nf) upd_same (setR_few R)
theorem asc_ext : ∀ {xs ys : List Int}, xs.Pairwise (· < ·) → ys.Pairwise (· < ·) → (∀ k, k ∈ xs ↔ k ∈ ys) → xs = ys
  | [], [], _, _, _ => rfl
  | [], y :: ys, _, _, h => absurd ((h y).mpr (List.mem_cons_self ..)) List.not_mem_nil
  | x :: xs, [], _, _, h => absurd ((h x).mp (List.mem_cons_self ..)) List.not_mem_nil
  | x :: xs, y :: ys, hx, hy, h => by
    obtain ⟨a1, a2⟩ := List.pairwise_cons.mp hx
    obtain ⟨b1, b2⟩ := List.pairwise_cons.mp hy
    have e : x = y := by
      rcases List.mem_cons.mp ((h x).mp (List.mem_cons_self ..)) with e | e
      · exact e
      · rcases List.mem_cons.mp ((h y).mpr (List.mem_cons_self ..)) with f | f
        · exact f.symm
        · have := a1 y f
          have := b1 x e
          omega
    subst e
    have t := asc_ext a2 b2 fun k => by
      constructor
      · intro hk
        rcases List.mem_cons.mp ((h k).mp (List.mem_cons_of_mem _ hk)) with e | e
        · have := a1 k hk
          omega
        · exact e
      · intro hk
        rcases List.mem_cons.mp ((h k).mpr (List.mem_cons_of_mem _ hk)) with e | e
        · have := b1 k hk
          omega
        · exact e
    rw [t]
noncomputable def LsOf (H : Hp) (ps : List Addr) (f : Nat → List Int) : Prop := ∀ (j : Nat) (p : Addr), ps[j]? = some p → H p = some (.lst ((f j).map V.int))
end Pan
namespace Pan
open PySem PySem.Spec PyProof.Rows L2
theorem u65 {k : Nat} {A : Around} (r : Room k A) : A.units + 65 < cLine := by
  have := r.un
  omega
/-- a test whose ways come together -/
noncomputable def clT (t : TT) : TT := fun σ H Q => ∃ R : Bool → Hp → Prop, t σ H R ∧ ∀ b H', R b H' → Q b H'
theorem pt_cut {X : Cx} {e : Expr} {t : TT} (h : PT X e t) : PT X e (clT t) :=
  ⟨fun pins s σ H Q I ⟨R, hR, k⟩ => thn (h.run pins s σ H R I hR) fun b s' ⟨H', I', q⟩ => ⟨H', I', k b H' q⟩⟩
theorem DtA.at {H : Hp} : ∀ {n : Nat} {vs : List V} {ds : List PyData} {i : Nat} {v : V}, DtA H n vs ds → vs[i]? = some v → ∃ d, ds[i]? = some d ∧ Dt H n v d
  | _, _, _, _, _, .nil, h => by cases h
  | _, _, _, 0, _, .cons h _, e => by
    cases e
    exact ⟨_, rfl, h⟩
  | _, _, _, i + 1, _, .cons _ h, e => by
    obtain ⟨d, e1, e2⟩ := DtA.at (i := i) h (by simpa using e)
    exact ⟨d, by simpa using e1, e2⟩
theorem maxL {X : Cx} {K : PySem.W.Frag} (hc : X.calm = true) (hK : X.K = K := by rfl) : CallR X (.builtin "max") (rMax K) := by
  subst hK
  exact cr_max hc
noncomputable def tRevN (K : PySem.W.Frag) (te : TE) : TE := fun σ H Q => te σ H fun x H1 => ∃ a xs, x = .ref a ∧ SqL K H1 a xs ∧ NewAt H1 (.lst xs.reverse) Q
theorem pe_revN {X : Cx} {e : Expr} {te : TE} {k : Nat} {p1 p2 p3 pos : Pos} (he : PE X e te) : PE X (.Subscript e (.Slice none none (some (.UnaryOp .USub (.Constant (.int 1) k p1) p2)) p3) pos) (tRevN X.K te) :=
  ⟨fun pins s σ H Q I hq => (pe_revL (pe_cut he)).run pins s σ H Q I ⟨_, hq, fun x H1 ⟨a, xs, e1, e2, q⟩ => ⟨a, xs, e1, e2, fun p np => q.upd np⟩⟩⟩
noncomputable def rCatL : R2 := fun x y H Q => ∃ l b xs zs, x = .ref l ∧ y = .ref b ∧ H l = some (.lst xs) ∧ H b = some (.lst zs) ∧ xs.length + zs.length ≤ 100000 ∧ NewAt H (.lst (xs ++ zs)) Q
theorem op_catL {X : Cx} : OpR X (binaryOp .Add) rCatL := fun pins s σ H x y v u Q I rx ry ⟨l, b, xs, zs, e1, e2, h1, h2, h3, q⟩ => op_cat pins s σ H x y v u Q I rx ry ⟨l, b, xs, zs, e1, e2, h1, h2, sz h3, fun p np => q.upd np⟩
end Pan
namespace Pan
open PySem PySem.Spec PyProof.Rows L2
noncomputable def sp (r : Int × Int) : Int := (r.2 - r.1) / 2 + 1
end Pan
namespace Pan
open PySem PySem.Spec PyProof.Rows L2
theorem pe_constI {X : Cx} {x : Str} {z : Int} {pos : Pos} (h : ∃ t, X.mg x = some (.int z t)) (hg : Gl X x) (hd : (x == ("__debug__" : Str)) = false := by decide) : PE X (.Name x pos) (tC (.int z)) :=
  h.elim fun t k => pe_glob hg k ⟨t, rfl⟩ hd
end Pan
namespace Pan
open PySem PySem.Spec PyProof.Rows L2
inductive TO : PyData → Prop
  | non : TO .none
  | bl (b : Bool) : TO (.bool b)
  | int (i : Int) : TO (.int i)
  | str (x : Str) : TO (.str x)
  | tup {ds : List PyData} : (∀ d ∈ ds, TO d) → TO (.tuple ds)
theorem TO.two {a b : PyData} (h : TO a) (k : TO b) : TO (.tuple [a, b]) := .tup fun d hd => by
  rcases List.mem_cons.mp hd with rfl | hd
  · exact h
  · rcases List.mem_cons.mp hd with rfl | hd
    · exact k
    · exact absurd hd List.not_mem_nil
mutual
theorem dtTO {H : Hp} {l : Addr} {o : HO} {xs : List V} (hl : H l = some (.lst xs)) : ∀ {n : Nat} {v : V} {d : PyData}, Dt H n v d → TO d → Dt (upd H l o) n v d
  | _, _, _, .non, _ => .non
  | _, _, _, .bl b, _ => .bl b
  | _, _, _, .int b, _ => .int b
  | _, _, _, .str b, _ => .str b
  | _, _, _, .lst e z a, k => nomatch k
  | _, _, _, .tup e z a, k => .tup (by rw [upd_ne (ne_of e hl (fun z => nomatch z))]; exact e) z (dtTOA hl a (by cases k with | tup h => exact h))
theorem dtTOA {H : Hp} {l : Addr} {o : HO} {xs : List V} (hl : H l = some (.lst xs)) : ∀ {n : Nat} {vs : List V} {ds : List PyData}, DtA H n vs ds → (∀ d ∈ ds, TO d) → DtA (upd H l o) n vs ds
  | _, _, _, .nil, _ => .nil
  | _, _, _, .cons h t, k => .cons (dtTO hl h (k _ (List.mem_cons_self ..))) (dtTOA hl t fun d hd => k d (List.mem_cons_of_mem _ hd))
end
theorem Un.new {t p : Addr} {H H1 : Hp} {o : HO} (U : Un t H H1) (h : H p = none) : Un t H (L2.upd H1 p o) := fun b u nb e => by
  rw [upd_ne (ne_of_none e h)]
  exact U b u nb e
noncomputable def tDNewTN : TE := fun _ H Q => NewAt H (.dT []) Q
theorem pe_dnewTN {X : Cx} {pos : Pos} : PE X (.Dict [] [] pos) tDNewTN := ⟨fun pins s σ H Q I h => pe_dnewT.run pins s σ H Q I fun p np => h.upd np⟩
theorem valV_no {κ : Type} [DecidableEq κ] {kvs : List (κ × V)} {k : κ} (h : ∀ kv ∈ kvs, kv.1 ≠ k) : valV kvs k = none := by
  unfold valV
  rw [List.find?_eq_none.mpr fun kv hkv => by simpa using h kv hkv]
  rfl
end Pan
namespace Pan
open PySem PySem.Spec PyProof.Rows L2
structure FnOkG (P : Program) (w : World) (K : PySem.W.Frag) (mg : Str → Option Value) (base : Heap) (CX : CXT) (k : Nat) (f : Addr) (fd : FuncData) (ps : List Str) (sp : Sp) : Prop where
  lenG : ∀ vs H Q E, sp vs H Q E → vs.length = ps.length
  runG : ∀ (B : Around) (below : List Env) (t : Shared) (H : Hp) (args : Args) (us : List Value) (vs : List V) (Q : VK) (E : XK), Room k B → B.guards = some [] → Env0 P w K mg base B below t H → BindsTo t fd args (ps.zip us) → Vals vs us → sp vs H Q E →
    codeAny (model P w) B (.call (.ref f) args) (CR CX below P w H t Q E) t
structure Sw (n w : Nat) (d : PyData) : Prop where
  sh : d.showable = true
  nd : d.hasDict = false
  dp : d.depth ≤ n
  ls : d.leavesShort 13 = true
  wt : d.weight ≤ w
structure SwA (n w : Nat) (ds : List PyData) : Prop where
  sh : PyData.showableAll ds = true
  nd : PyData.hasDictAll ds = false
  dp : PyData.depthAll ds ≤ n
  ls : PyData.leavesShortAll 13 ds = true
  wt : PyData.weightAll ds ≤ w
mutual
theorem dtUn {H H' : Hp} {t : Addr} {xs : List V} (ht : H t = some (.lst xs)) (U : Un t H H') : ∀ {n : Nat} {v : V} {d : PyData}, Dt H n v d → TO d → Dt H' n v d
  | _, _, _, .non, _ => .non
  | _, _, _, .bl b, _ => .bl b
  | _, _, _, .int b, _ => .int b
  | _, _, _, .str b, _ => .str b
  | _, _, _, .lst e z a, k => nomatch k
  | _, _, _, .tup e z a, k => .tup (U _ _ (ne_of e ht (fun z => nomatch z)) e) z (dtUnA ht U a (by cases k with | tup h => exact h))
theorem dtUnA {H H' : Hp} {t : Addr} {xs : List V} (ht : H t = some (.lst xs)) (U : Un t H H') : ∀ {n : Nat} {vs : List V} {ds : List PyData}, DtA H n vs ds → (∀ d ∈ ds, TO d) → DtA H' n vs ds
  | _, _, _, .nil, _ => .nil
  | _, _, _, .cons h r, k => .cons (dtUn ht U h (k _ (List.mem_cons_self ..))) (dtUnA ht U r fun d hd => k d (List.mem_cons_of_mem _ hd))
end
end Pan
namespace Pan
open PySem PySem.Spec PyProof.Rows L2
noncomputable def isNumB : PyData → Bool
  | .int _ => true
  | _ => false
noncomputable def isIntB : PyData → Bool
  | .int _ | .bool _ => true
  | _ => false
noncomputable def isBolB : PyData → Bool
  | .bool _ => true
  | _ => false
noncomputable def isStrB : PyData → Bool
  | .str _ => true
  | _ => false
theorem isi_int {K : PySem.W.Frag} {H : Hp} {n : Nat} {v : V} {d : PyData} (h : Dt H n v d) : ∃ t u, ClsV (V.ty "int") u ∧ TyX K H v t ∧ PySem.W.kitOne K t u = some (isIntB d) := by
  cases h with
  | non => exact ⟨_, _, .ty _, .base .non, kit_ty (r := false) (by decide +kernel)⟩
  | bl b => exact ⟨_, _, .ty _, .base (.bl b), kit_ty (r := true) (by decide +kernel)⟩
  | int i => exact ⟨_, _, .ty _, .base (.int i), kit_ty (r := true) (by decide +kernel)⟩
  | str z => exact ⟨_, _, .ty _, .base (.str z), kit_ty (r := false) (by decide +kernel)⟩
  | lst e _ _ => exact ⟨_, _, .ty _, .base (.lst e), kit_ty (r := false) (by decide +kernel)⟩
  | tup e _ _ => exact ⟨_, _, .ty _, .base (.tup e), kit_ty (r := false) (by decide +kernel)⟩
theorem isi_bool {K : PySem.W.Frag} {H : Hp} {n : Nat} {v : V} {d : PyData} (h : Dt H n v d) : ∃ t u, ClsV (V.ty "bool") u ∧ TyX K H v t ∧ PySem.W.kitOne K t u = some (isBolB d) := by
  cases h with
  | non => exact ⟨_, _, .ty _, .base .non, kit_ty (r := false) (by decide +kernel)⟩
  | bl b => exact ⟨_, _, .ty _, .base (.bl b), kit_ty (r := true) (by decide +kernel)⟩
  | int i => exact ⟨_, _, .ty _, .base (.int i), kit_ty (r := false) (by decide +kernel)⟩
  | str z => exact ⟨_, _, .ty _, .base (.str z), kit_ty (r := false) (by decide +kernel)⟩
  | lst e _ _ => exact ⟨_, _, .ty _, .base (.lst e), kit_ty (r := false) (by decide +kernel)⟩
  | tup e _ _ => exact ⟨_, _, .ty _, .base (.tup e), kit_ty (r := false) (by decide +kernel)⟩
theorem isi_str {K : PySem.W.Frag} {H : Hp} {n : Nat} {v : V} {d : PyData} (h : Dt H n v d) : ∃ t u, ClsV (V.ty "str") u ∧ TyX K H v t ∧ PySem.W.kitOne K t u = some (isStrB d) := by
  cases h with
  | non => exact ⟨_, _, .ty _, .base .non, kit_ty (r := false) (by decide +kernel)⟩
  | bl b => exact ⟨_, _, .ty _, .base (.bl b), kit_ty (r := false) (by decide +kernel)⟩
  | int i => exact ⟨_, _, .ty _, .base (.int i), kit_ty (r := false) (by decide +kernel)⟩
  | str z => exact ⟨_, _, .ty _, .base (.str z), kit_ty (r := true) (by decide +kernel)⟩
  | lst e _ _ => exact ⟨_, _, .ty _, .base (.lst e), kit_ty (r := false) (by decide +kernel)⟩
  | tup e _ _ => exact ⟨_, _, .ty _, .base (.tup e), kit_ty (r := false) (by decide +kernel)⟩
theorem num_of (d : PyData) : (isIntB d && !isBolB d) = isNumB d := by
  cases d <;> rfl
noncomputable def TxtOk (d : PyData) : Prop := d.showable = true ∧ d.hasDict = false ∧ d.depth ≤ 60 ∧ d.shown.length ≤ sizeLine
/-- small enough to be shown: depth, and how many parts there are at most -/
structure Sm2 (n w : Nat) (d : PyData) : Prop where
  sh : d.showable = true
  nd : d.hasDict = false
  dp : d.depth ≤ n
  ls : d.leavesShort 30 = true
  wt : d.weight ≤ w
structure SmA (n w : Nat) (ds : List PyData) : Prop where
  sh : PyData.showableAll ds = true
  nd : PyData.hasDictAll ds = false
  dp : PyData.depthAll ds ≤ n
  ls : PyData.leavesShortAll 30 ds = true
  wt : PyData.weightAll ds ≤ w
mutual
noncomputable def intsLe (B : Nat) : PyData → Bool
  | .int i => decide (i.natAbs ≤ B)
  | .list xs | .tuple xs => intsLeAll B xs
  | _ => true
noncomputable def intsLeAll (B : Nat) : List PyData → Bool
  | [] => true
  | x :: xs => intsLe B x && intsLeAll B xs
end
structure Sm3 (B n w : Nat) (d : PyData) : Prop where
  ib : intsLe B d = true
  sh : d.showable = true
  nd : d.hasDict = false
  dp : d.depth ≤ n
  ls : d.leavesShort 30 = true
  wt : d.weight ≤ w
structure SmB (B n w : Nat) (ds : List PyData) : Prop where
  ib : intsLeAll B ds = true
  sh : PyData.showableAll ds = true
  nd : PyData.hasDictAll ds = false
  dp : PyData.depthAll ds ≤ n
  ls : PyData.leavesShortAll 30 ds = true
  wt : PyData.weightAll ds ≤ w
noncomputable def hd1 (t : Addr) (H : Hp) : Hp := fun a => if a = t then none else H a
theorem un_none {t : Addr} {H H' : Hp} (U : Un t H H') (ht : H' t ≠ none) : ∀ a, H' a = none → H a = none := fun a n => by
  cases e : H a with
  | none => rfl
  | some o =>
    by_cases c : a = t
    · rw [c] at n
      exact absurd n ht
    · rw [U a o c e] at n
      cases n
theorem Tp.has {b : Nat} {H : Hp} {t : Addr} (h : Tp b H t) : H t ≠ none := by
  obtain ⟨x, y, z, e, _⟩ := h
  rw [e]
  exact fun z => nomatch z
noncomputable def hs (A : List Addr) (H : Hp) : Hp := fun a => if a ∈ A then none else H a
/-- all of them are there -/
noncomputable def Ex (A : List Addr) (H : Hp) : Prop := ∀ a ∈ A, H a ≠ none
end Pan
namespace Pan
open PySem PySem.Spec PyProof.Rows L2
noncomputable def rMulS : R2 := fun x y H Q => ∃ (z : Str) (k : Int), x = .str z ∧ y = .int k ∧ (k = 0 ∨ k = 1) ∧ Q (.str (if k = 0 then Str.empty else z)) H
theorem op_mulS {X : Cx} : OpR X (binaryOp .Mult) rMulS := by
  intro pins s σ H x y v u Q I rx ry h
  obtain ⟨z, k, rfl, rfl, hk, q⟩ := h
  obtain ⟨t, rfl⟩ := rx
  obtain ⟨t', rfl⟩ := ry
  rcases hk with rfl | rfl
  · exact PySem.P.mul_str_none (by decide) (by decide) ⟨.str Str.empty, H, I.tok _, ⟨_, rfl⟩, q⟩
  · exact PySem.P.mul_str (by decide) (fun _ h => absurd h (by simp)) (fun _ h => absurd h (by simp)) (by
      rw [if_neg (by decide), if_pos (by simp)]
      exact ⟨.str z, H, I, ⟨_, rfl⟩, q⟩)
noncomputable def rRemD (K : PySem.W.Frag) : V → List V → Hp → VK → Prop := fun x xs H Q => ∃ (l : Addr) (us : List V) (y : V) (d : PyData) (ds : List PyData) (j : Nat), x = V.ref l ∧ xs = [y] ∧ H l = some (.lst us) ∧ DpAll K H us ds ∧ Dp K H y d ∧
  SeqAt.shaped (.list ds) = true ∧ SeqAt.shaped d = true ∧ (∃ z, ds[j]? = some z ∧ PyData.eqv z d = true) ∧ (∀ (m : Nat) (z' : PyData), m < j → ds[m]? = some z' → PyData.eqv z' d = false) ∧ Q .non (upd H l (.lst (us.eraseIdx j)))
theorem mt_removeD {X : Cx} {K : PySem.W.Frag} (hu : X.A.units + 65 < cLine) (hK : X.K = K := by rfl) : MtM X "list.remove" (rRemD K) := by
  subst hK
  intro pins s σ H x xs v us Q I rx rxs h
  obtain ⟨l, zs, y, d, ds, j, rfl, rfl, hH, hds, hy, sl, sd, ⟨z, hz, hzj⟩, hno, q⟩ := h
  cases rx
  obtain ⟨uy, rfl, ry⟩ := rxs.one
  obtain ⟨bs, r1⟩ := Dp.reads I d y uy hy ry
  obtain ⟨zz, its, n, r, hl, e⟩ := I.lstM hH
  have hxs : PyData.canLayAll0 ds = true := SeqAt.canLay_of_shaped sl
  have hroom : X.A.units + 1 + min (PyData.depthAll ds) d.depth < cLine := room_in_shaped sd hu
  obtain ⟨as, h4⟩ := Dp.readsAll I ds _ its hds r
  have hn : its.length = ds.length := SeqAt.ReadsAll.length ds its as h4
  have hmap : its.map (SeqAt.readOf s.heap) = ds := SeqAt.readsAll_map ds its as hxs h4
  have hvl := r.length
  obtain ⟨hjd, _⟩ := List.getElem?_eq_some_iff.mp hz
  have hjl : j < its.length := by omega
  have hj : j < its.toArray.size := by simpa using hjl
  have at_ : ∀ (m : Nat) (hm : m < its.toArray.size) (z' : PyData), ds[m]? = some z' → SeqAt.readOf s.heap its.toArray[m] = z' := by
    intro m hm z' hz'
    have hml : m < its.length := by simpa using hm
    rw [← hmap, List.getElem?_map, List.getElem?_eq_getElem hml] at hz'
    have e1 : SeqAt.readOf s.heap its[m] = z' := Option.some.inj (show some (SeqAt.readOf s.heap its[m]) = some z' from hz')
    simpa using e1
  refine call_meets PySem.F.slot_list_remove ⟨_, e, rfl⟩ PySem.F.entry_list_remove (PySem.F.args_list_remove_2 _ _)
    (SeqAt.list_removeAt l its.toArray n none #[] uy (fun u => PyData.eqv (SeqAt.readOf s.heap u) d) j hj ?_ ?_ (by rw [List.size_toArray]; omega)) ⟨e, SeqAt.items_eqAt (vs := its.toArray) (show ReadsAll s.heap its.toArray.toList ds as from by simpa using h4) r1 hxs (SeqAt.canLay_of_shaped sd) hroom, ?_⟩
  · show PyData.eqv (SeqAt.readOf s.heap its.toArray[j]) d = true
    rw [at_ j hj z hz]
    exact hzj
  · intro m hm hmj
    have hmd : m < ds.length := by omega
    have hz' : ds[m]? = some ds[m] := List.getElem?_eq_getElem hmd
    show PyData.eqv (SeqAt.readOf s.heap its.toArray[m]) d = false
    rw [at_ m hm _ hz']
    exact hno m _ hmj hz'
  · have rr := r.eraseIdx j
    refine ⟨.non, _, I.lset (its' := its.eraseIdx j) (t' := s.toks) hH e ?_ rr ?_, rfl, q⟩
    · show its.toArray.eraseIdxIfInBounds j = (its.eraseIdx j).toArray
      rw [List.eraseIdxIfInBounds_toArray]
    · have := List.length_eraseIdx_le zs j
      omega
noncomputable def valsO (p d : Addr) : HO := .ext fun h => h.IsValuesView p d
theorem valsO_new {P : Program} {w : World} {H : Hp} {h : Heap} {p d : Addr} (hv : h.IsValuesView p d) : ObjOk P w H h p (valsO p d) :=
  ⟨hv, let ⟨o, ho, _⟩ := hv; ⟨o, ho⟩, fun h1 h2 ⟨o, ho, r⟩ k => ⟨o, k o ho, r⟩⟩
theorem meetsVals {prog : Program} {w : World} {d : Addr} {es : Array DictEntry} {ep : Nat} (hd : (d == sysModules) = false) :
    MeetsIn prog w (Builtin.«dict.values» ⟨[.ref d], []⟩) (fun _ R s => s.heap.DictRaw d es ep ∧
      R (.ok (.ret (.ref s.heap.objs.size))) { s with heap := s.heap.push { cls := .type "dict_values", data := .fields #[.ref d] } }) :=
  .of_wp fun A R s ⟨hm, h⟩ => by
    refine wpAny_bind ?_
    unfold Builtin.Dict.noArgs
    refine wpAny_bind (wpAny_notOrdered_dict hm.typeIs ?_)
    show wpAny _ _ (pure d) _ _ s
    refine wpAny_pure ?_
    show wpAny _ _ (Builtin.Dict.showsAll d >>= _) _ _ s
    unfold Builtin.Dict.showsAll
    rw [if_neg (by rw [hd]; exact Bool.false_ne_true)]
    refine wpAny_bind (wpAny_pure ?_)
    exact wpAny_bind (wpAny_newObj_type (wpAny_pure ⟨_, rfl, h⟩))
/-- what a dict with tuple keys is, raw -/
theorem dt_raw {P : Program} {w : World} {H : Hp} {h : Heap} {a : Addr} {kvs : List (List Key × V)} (ok : HOk P w H h) (e : H a = some (.dT kvs)) : kvs.length ≤ sizeLine ∧ (a == sysModules) = false ∧
    ∃ es ep, h.DictRaw a es ep ∧ es.size = kvs.length ∧ ∀ (i : Nat) (v : V), kvs[i]?.map (·.2) = some v → ∃ hi : i < es.size, RelV v es[i].val := by
  obtain ⟨z, y, xs, r, o, es, ep, h1, h2, h3, h4, h5⟩ := (show ObjOk P w H h a (.dT kvs) from ok a _ e)
  have hl : xs.length = kvs.length := (Paired.length r).symm
  have hes : es.size = xs.length := by
    rw [← Array.length_toList, h4, List.length_map]
  refine ⟨z, y, es, ep, ⟨o, h1, h2, h3⟩, by omega, fun i v hv => ?_⟩
  have hi : i < kvs.length := by
    rcases Nat.lt_or_ge i kvs.length with c | c
    · exact c
    · rw [List.getElem?_eq_none c] at hv
      cases hv
  have key : ∀ {l : List (List Key × V)} {m : List (List Key × Addr × Value)}, Paired (fun (p : List Key × V) (q : List Key × Addr × Value) => p.1 = q.1 ∧ H q.2.1 = some (.tup (p.1.map kV)) ∧ RelV p.2 q.2.2) l m → ∀ (i : Nat) (v : V), l[i]?.map (·.2) = some v → ∃ q, m[i]? = some q ∧ RelV v q.2.2 := by
    intro l m k
    induction k with
    | nil => intro i v h; simp at h
    | @cons p q ps qs hq t ih =>
      intro i v h
      cases i with
      | zero =>
        have : p.2 = v := by simpa using h
        exact ⟨q, rfl, by rw [← this]; exact hq.2.2⟩
      | succ i => exact ih i v (by simpa using h)
  obtain ⟨q, hq, rq⟩ := key r i v hv
  have hi' : i < es.size := by omega
  refine ⟨hi', ?_⟩
  have e1 : es.toList[i]? = some (entryOfKey (tupleKind (mixKind P w)) q) := by rw [h4, List.getElem?_map, hq]; rfl
  have e2 : es[i] = entryOfKey (tupleKind (mixKind P w)) q := by
    have e3 : es.toList[i]? = some es[i] := by
      rw [List.getElem?_eq_getElem (by simpa using hi')]
      simp
    exact Option.some.inj (e3.symm.trans e1)
  rw [e2]
  exact rq
noncomputable def tVals (td : TE) : TE := fun σ H Q => td σ H fun x H1 => ∃ d kvs, x = .ref d ∧ H1 d = some (.dT kvs) ∧ ∀ p H', H1 p = none → Same H1 H' → H' p = some (valsO p d) → Q (.ref p) H'
theorem pe_vals {X : Cx} {e : Expr} {td : TE} {apos cpos : Pos} (he : PE X e td) (hbase : attributeBase e "values" X.env (eval e X.env) = eval e X.env := by rfl) (hline : (apos.endLine == cpos.line) = true := by rfl) : PE X (.Call (.Attribute e "values" apos) [] [] cpos) (tVals td) := by
  refine ⟨fun pins s σ H Q I h => ?_⟩
  refine wpAny_Call_method (T := "dict") (id := "dict.values") hbase rfl hline F.plainAttrs_dict F.slot_dict_values F.type_dict_values (thn (he.run pins s σ H _ I h) fun u s1 ⟨x, H1, I1, rx, d, kvs, ex, hd, q⟩ => ?_)
  subst ex
  obtain rfl : u = Value.ref d := rx
  obtain ⟨hz, hs, es, ep, raw, _, _⟩ := dt_raw I1.hok hd
  refine ⟨raw.typeIs, ?_, ?_⟩
  · intro a ea
    cases ea
    obtain ⟨o, ho, hx, _⟩ := raw
    exact ⟨o, ho, hx.2.1⟩
  show wpAny _ _ (callWith cpos (.builtin "dict.values") [.ref d] [] []) _ X.xe s1
  refine method_meetsIn F.slot_dict_values F.entry_dict_values rfl (PySem.evalArgs_none ⟨rfl, raw.typeIs, F.args_dict_values_1 _, _, meetsVals (es := es) (ep := ep) hs, raw, ?_⟩)
  have nf := I1.hok.fresh (Nat.le_refl s1.heap.objs.size)
  exact ⟨.ref s1.heap.objs.size, _, I1.laid (t' := s1.toks) (o := valsO s1.heap.objs.size d) (fun b ob z => Heap.get?_push_of_some _ z) (Nat.le_refl _) (valsO_new ⟨_, Heap.get?_push_size _ rfl, rfl, rfl⟩), rfl, q _ _ nf (same_upd nf) upd_same⟩
noncomputable def rSortVals : List V → Hp → VK → Prop := fun vs H Q => ∃ (p d : Addr) (kvs : List (List Key × V)) (ns : List Int), vs = [V.ref p] ∧ H p = some (valsO p d) ∧ H d = some (.dT kvs) ∧ kvs.map (·.2) = ns.map V.int ∧ ns.length < 64 ∧
  ∀ (ns' : List Int) (l : Addr) (H' : Hp), ns'.Perm ns → ns'.Pairwise (· ≤ ·) → H l = none → Same H H' → H' l = some (.lst (ns'.map V.int)) → Q (.ref l) H'
theorem cr_sortVals {X : Cx} (hcalm : X.calm = true) : CallR X (.builtin "sorted") rSortVals := by
  intro pins s σ H xs us Q I r q
  obtain ⟨p, d, kvs, ns, ex, hp, hd, hns, h64, q⟩ := q
  subst ex
  obtain ⟨u, eu, rx⟩ := vals1 r
  subst eu
  cases rx
  obtain ⟨hz, hs, es, ep, raw, hsz, hrel⟩ := dt_raw I.hok hd
  have hv : s.heap.IsValuesView p d := (show ObjOk X.prog X.w H s.heap p (valsO p d) from I.hok p _ hp).1
  have hl : es.size = ns.length := by
    have e := congrArg List.length hns
    rw [List.length_map, List.length_map] at e
    omega
  refine Calls.call_function_entry PyProof.Rows.kind_sorted PyProof.Rows.plain_sorted PyProof.Rows.entry_sorted (PyProof.Rows.args_sorted1 _) ?_
  unfold Builtin.«sorted»
  refine wpAny_bind (m := checkCount "sorted" 1 1 _) (wpAny_pure ?_)
  refine wpAny_bind (PySem.W.kdu_collect (A := X.A.in1) (KdlSrc.rawValues (r := p) (d := d) (es := es) (ep := ep)) (I.ok.hd hcalm) ⟨hv, raw⟩ (by rw [hl, sizeLine_eq]; omega) fun h' tk acc hk hacc => ?_)
  have hal : acc.toList.length = ns.length := by rw [Array.length_toList, hacc.1, hl]
  have hS : IntsAre acc.toList ns := ints_each hal fun j v e => by
    obtain ⟨hi, e1⟩ := hacc.2 j v (by rw [← Array.getElem?_toList]; exact e)
    have hjn : j < ns.length := by omega
    have e2 : kvs[j]?.map (·.2) = some (V.int ns[j]) := by
      have := congrArg (fun l : List V => l[j]?) hns
      simpa [List.getElem?_eq_getElem hjn] using this
    obtain ⟨_, rj⟩ := hrel j _ e2
    obtain ⟨t, et⟩ := rj
    exact ⟨ns[j], t, List.getElem?_eq_getElem hjn, by rw [e1, et]⟩
  have I1 : Inv X pins σ H { s with heap := h', toks := tk } := I.kept hk
  refine wpAny_bind (wpAny_newList ?_ (by rw [hal, sizeLine_eq]; omega))
  have hoL : (h'.push (seqObj "list" acc.toList.toArray 0)).get? h'.objs.size = some (seqObj "list" acc.toList.toArray 0) := Heap.get?_push_size _ rfl
  show wpAny _ _ _ _ _ { s with heap := h'.push (seqObj "list" acc.toList.toArray 0), toks := tk }
  refine wpAny_bind (wpAny_holding (wpAny_call_entry PyProof.Rows.slot_list_sort ⟨_, hoL, rfl⟩ PyProof.Rows.entry_list_sort
    (PyProof.Rows.list_sort_tree (s := { s with heap := h'.push (seqObj "list" acc.toList.toArray 0), toks := tk }) hoL hS (by rw [hal]; exact h64) fun out ys g1 g2 g3 => ⟨_, rfl, ?_⟩) (PyProof.Rows.args_list_sort _)))
  obtain ⟨e', he'⟩ := PyProof.Rows.sortedHeap_at (vs := acc.toList) (out := out) hoL
  have hlen : (ys.map V.int).length ≤ sizeLine := by
    rw [List.length_map, g2.length_eq]
    exact Nat.le_trans (Nat.le_of_lt h64) (by decide)
  have nf := I1.hok.fresh (Nat.le_refl h'.objs.size)
  refine wpAny_pure ⟨_, rfl, .ref h'.objs.size, upd H h'.objs.size (.lst (ys.map V.int)), I1.laid (t' := tk) (fun b u e => ?_) (Nat.le_refl _)
    (show ObjOk X.prog X.w _ _ _ (.lst (ys.map V.int)) from ⟨hlen, out.toList, e', vals_of_ints g1, by rw [Array.toArray_toList]; exact he'⟩), rfl, q ys _ _ g2 g3 nf (same_upd nf) upd_same⟩
  have hb : b < h'.objs.size := Heap.lt_size e
  rw [PyProof.Rows.sortedHeap_old (Nat.ne_of_lt hb) (by rw [size_push']; exact Nat.lt_succ_of_lt hb)]
  exact Heap.get?_push_of_some _ e
noncomputable def lettersS : Str := "abcdefghijklmnopqrstuvwxyz"
theorem letters_at : ∀ i : Nat, i < 26 → lettersS.cps.toList[i]? = some (97 + i) := by decide +kernel
theorem letters_ix {i : Int} (h0 : 0 ≤ i) (h1 : i < 26) : atI lettersS.cps.toList i = some (97 + i.toNat) := by
  obtain ⟨j, rfl⟩ : ∃ j : Nat, i = (j : Int) := ⟨i.toNat, by omega⟩
  exact atI_nat (letters_at j (by omega))
noncomputable def LetS (z : Str) : Prop := ∀ c ∈ z.cps.toList, 97 ≤ c ∧ c ≤ 122
noncomputable def NameOk (z : Str) : Prop := LetS z ∧ 1 ≤ z.length ∧ z.length ≤ 8
theorem LetS.app {a b : Str} (h : LetS a) (k : LetS b) : LetS (a ++ b) := fun c hc => by
  have hc' : c ∈ (a.cps ++ b.cps).toList := hc
  rw [Array.toList_append] at hc'
  rcases List.mem_append.mp hc' with z | z
  · exact h c z
  · exact k c z
theorem len_app (a b : Str) : (a ++ b).length = a.length + b.length := by
  show (a.cps ++ b.cps).size = _
  rw [Array.size_append]
  rfl
theorem LetS.cut {z : Str} (h : LetS z) (lo hi : Option Int) : LetS (cutS z lo hi) := fun c hc => by
  have hc' : c ∈ (z.cps.toList.drop (HT.sIx z.length 0 lo)).take (HT.sIx z.length z.length hi - HT.sIx z.length 0 lo) := by simpa [cutS] using hc
  exact h c (List.mem_of_mem_drop (List.mem_of_mem_take hc'))
theorem join_let : ∀ {ys : List Str}, (∀ y ∈ ys, LetS y ∧ y.length = 1) → LetS (Str.join "" ys) ∧ (Str.join "" ys).length = ys.length
  | [], _ => ⟨(fun c hc => by simp [Str.join, Str.empty] at hc), rfl⟩
  | [y], h => ⟨(h y (List.mem_cons_self ..)).1, (h y (List.mem_cons_self ..)).2⟩
  | y :: x :: ys, h => by
    obtain ⟨i1, i2⟩ := join_let (ys := x :: ys) fun z hz => h z (List.mem_cons_of_mem _ hz)
    have hy := h y (List.mem_cons_self ..)
    have e : Str.join "" (y :: x :: ys) = y ++ "" ++ Str.join "" (x :: ys) := rfl
    rw [e]
    have le : (("" : Str)).length = 0 := by decide
    have lE : LetS ("" : Str) := fun c hc => by
      have : (("" : Str)).cps.toList = [] := by decide
      rw [this] at hc
      cases hc
    refine ⟨(hy.1.app lE).app i1, ?_⟩
    rw [len_app, len_app, le, i2, hy.2]
    show 1 + 0 + (x :: ys).length = (x :: ys).length + 1
    omega
/-- a list whose items are drawn -/
theorem lcDrawV {t : Addr} {p : V → Prop} {n c d j : Nat} {te : TE} {vs : List Nat} {σ : L2.St} {H1 : Hp} {Q : VK} (T : Tp (c + d * n) H1 t) (hn : n ≤ 500) (hw : ∀ x, wipe ((wipe σ vs).set j (some x)) vs = wipe σ vs)
    (ht : ∀ (i : Nat) (H' : Hp) (b : Nat), Un t H1 H' → Tp (b + d) H' t → ∀ R : VK, (∀ (v : V) (H2 : Hp), p v → Un t H' H2 → Tp b H2 t → R v H2) → te ((wipe σ vs).set j (some (.int (0 + (i : Nat))))) H' R)
    (hd : ∀ (D : Addr) (us : List V) (H' : Hp), us.length = n → (∀ x ∈ us, p x) → H1 D = none → Un t H1 H' → Tp c H' t → H' D = some (.lst us) → Q (.ref D) H') : LcGo (Itr 0 n) (gName j) tYes te vs σ H1 Q := by
  intro D nD
  have nt : D ≠ t := T.nn nD
  refine lc_range (lo := 0) (n := n) (fun i H' => ∃ us : List V, us.length = i ∧ (∀ x ∈ us, p x) ∧ H' D = some (.lst us) ∧ Un t H1 H' ∧ Tp (c + d * (n - i)) H' t)
    ⟨[], rfl, (fun _ h => absurd h List.not_mem_nil), upd_same, Un.same (same_upd nD), T.same (same_upd nD)⟩ (fun i H' hi hP => ?_) (fun H' hP => ?_)
  · obtain ⟨us, h1, h2, h3, h4, h5⟩ := hP
    have ed : d * (n - i) = d * (n - (i + 1)) + d := by
      have : n - i = (n - (i + 1)) + 1 := by omega
      rw [this, Nat.mul_add, Nat.mul_one]
    refine ⟨hw _, ht i H' (c + d * (n - (i + 1))) h4 (h5.le (by omega)) _ fun v H2 hv U T2 => ?_⟩
    refine ⟨_, U D _ nt h3, szl (by omega), us ++ [v], by rw [List.length_append, h1]; rfl, fun x hx => ?_, ?_, ?_, ?_⟩
    · rcases List.mem_append.mp hx with h | h
      · exact h2 x h
      · have : x = v := by simpa using h
        subst this
        exact hv
    · rw [upd_same]
    · exact fun a o n ea => by
        rw [upd_ne (ne_of_none ea nD)]
        exact U a o n (h4 a o n ea)
    · obtain ⟨x, y, z, et, r⟩ := T2
      exact ⟨x, y, z, by rw [upd_ne nt.symm]; exact et, r⟩
  · obtain ⟨us, h1, h2, h3, h4, h5⟩ := hP
    exact hd D us H' h1 h2 nD h4 (h5.le (by omega)) h3
theorem strs_of {p : Str → Prop} : ∀ {us : List V}, (∀ v ∈ us, ∃ z, v = .str z ∧ p z) → ∃ ys : List Str, us = ys.map V.str ∧ ys.length = us.length ∧ ∀ y ∈ ys, p y
  | [], _ => ⟨[], rfl, rfl, fun _ h => absurd h List.not_mem_nil⟩
  | v :: us, h => by
    obtain ⟨z, rfl, hz⟩ := h v (List.mem_cons_self ..)
    obtain ⟨ys, rfl, hl, hy⟩ := strs_of (us := us) fun x hx => h x (List.mem_cons_of_mem _ hx)
    refine ⟨z :: ys, rfl, by simp, fun y hy' => ?_⟩
    rcases List.mem_cons.mp hy' with rfl | k
    · exact hz
    · exact hy y k
/-- the name of that number -/
noncomputable def nmL (hd tl : List Nat) (sh st way k : Nat) : List Nat := hd ++ (97 + (sh + st * (if way = 1 then k / 2 else k)) % 26) :: (if way = 0 then tl else if way = 1 then (if k % 2 = 0 then [] else tl) else tl.take (k % (tl.length + 1)))
noncomputable def nmF (hd tl : List Nat) (sh st way k : Nat) : Str := ⟨(nmL hd tl sh st way k).toArray⟩
theorem nmF_ok {hd tl : List Nat} (h1 : ∀ c ∈ hd, 97 ≤ c ∧ c ≤ 122) (h2 : ∀ c ∈ tl, 97 ≤ c ∧ c ≤ 122) (hl : hd.length + tl.length ≤ 7) (sh st way k : Nat) : NameOk (nmF hd tl sh st way k) := by
  have hr : ∀ c ∈ (if way = 0 then tl else if way = 1 then (if k % 2 = 0 then [] else tl) else tl.take (k % (tl.length + 1))), 97 ≤ c ∧ c ≤ 122 := fun c hc => by
    split at hc
    · exact h2 c hc
    · split at hc
      · split at hc
        · cases hc
        · exact h2 c hc
      · exact h2 c (List.mem_of_mem_take hc)
  have hrl : (if way = 0 then tl else if way = 1 then (if k % 2 = 0 then [] else tl) else tl.take (k % (tl.length + 1))).length ≤ tl.length := by
    split
    · exact Nat.le_refl _
    · split
      · split
        · exact Nat.zero_le _
        · exact Nat.le_refl _
      · rw [List.length_take]
        omega
  have hlen : (nmF hd tl sh st way k).length = hd.length + (1 + (if way = 0 then tl else if way = 1 then (if k % 2 = 0 then [] else tl) else tl.take (k % (tl.length + 1))).length) := by
    show (nmL hd tl sh st way k).toArray.size = _
    unfold nmL
    simp
    omega
  refine ⟨fun c hc => ?_, by omega, by omega⟩
  have hc' : c ∈ nmL hd tl sh st way k := by simpa [nmF] using hc
  unfold nmL at hc'
  rcases List.mem_append.mp hc' with z | z
  · exact h1 c z
  · rcases List.mem_cons.mp z with z | z
    · omega
    · exact hr c z
theorem nmF_inj {hd tl : List Nat} {sh st way i j : Nat} (hst : st = 1 ∨ st = 7 ∨ st = 25) (ht : way = 0 ∨ tl ≠ []) (hi : i < 26) (hj : j < 26) (e : nmF hd tl sh st way i = nmF hd tl sh st way j) : i = j := by
  have e1 : nmL hd tl sh st way i = nmL hd tl sh st way j := by
    have := congrArg (fun z : Str => z.cps.toList) e
    simpa [nmF] using this
  unfold nmL at e1
  have e2 := List.append_cancel_left e1
  obtain ⟨e3, e4⟩ := List.cons.inj e2
  by_cases c : way = 1
  · subst c
    have ht' : tl ≠ [] := ht.resolve_left (by decide)
    have e3' : 97 + (sh + st * (i / 2)) % 26 = 97 + (sh + st * (j / 2)) % 26 := e3
    have e4' : (if i % 2 = 0 then [] else tl) = (if j % 2 = 0 then [] else tl) := e4
    have e5 : i / 2 = j / 2 := by
      rcases hst with hst | hst | hst <;> rw [hst] at e3' <;> omega
    have e6 : i % 2 = j % 2 := by
      by_cases c1 : i % 2 = 0
      · by_cases c2 : j % 2 = 0
        · omega
        · rw [if_pos c1, if_neg c2] at e4'
          exact absurd e4'.symm ht'
      · by_cases c2 : j % 2 = 0
        · rw [if_neg c1, if_pos c2] at e4'
          exact absurd e4' ht'
        · omega
    omega
  · rw [if_neg c, if_neg c] at e3
    rcases hst with hst | hst | hst <;> rw [hst] at e3 <;> omega
theorem nmF_nodup {hd tl : List Nat} {sh st way : Nat} (hst : st = 1 ∨ st = 7 ∨ st = 25) (ht : way = 0 ∨ tl ≠ []) : ∀ n : Nat, n ≤ 26 → ((List.range n).map (nmF hd tl sh st way)).Nodup
  | 0, _ => List.nodup_nil
  | n + 1, h => by
    rw [List.range_succ, List.map_append]
    refine List.nodup_append.mpr ⟨nmF_nodup hst ht n (by omega), by simp, fun a ha b hb => ?_⟩
    obtain ⟨i, hi, rfl⟩ := List.mem_map.mp ha
    have hb' : b = nmF hd tl sh st way n := by simpa using hb
    rw [hb']
    have hin := List.mem_range.mp hi
    exact fun z => by
      have := nmF_inj hst ht (by omega) (by omega) z
      omega
theorem cutS_pre {z : Str} {n : Nat} (h : n ≤ z.length) : (cutS z none (some (n : Int))).cps.toList = z.cps.toList.take n := by
  show (z.cps.toList.drop (HT.sIx z.length 0 none)).take (HT.sIx z.length z.length (some (n : Int)) - HT.sIx z.length 0 none) = _
  rw [HT.sIx_none, HT.sIx_nat, List.drop_zero, Nat.sub_zero, Nat.min_eq_left h]
theorem cutS_suf {z : Str} {n : Nat} (h : n ≤ z.length) : (cutS z (some (n : Int)) none).cps.toList = z.cps.toList.drop n := by
  show (z.cps.toList.drop (HT.sIx z.length 0 (some (n : Int)))).take (HT.sIx z.length z.length none - HT.sIx z.length 0 (some (n : Int))) = _
  rw [HT.sIx_none, HT.sIx_nat, Nat.min_eq_left h]
  exact List.take_of_length_le (by rw [List.length_drop]; exact Nat.le_refl _)
noncomputable def kD : Key → PyData
  | .inl i => .int i
  | .inr z => .str z
noncomputable def pairD (p : Key × Key) : PyData := .tuple [kD p.1, kD p.2]
noncomputable def netD (N : List (Key × Key)) : PyData := .tuple (N.map pairD)
noncomputable def LdIn (n : Nat) (zs : List Str) (i : Nat) : Key → Prop
  | .inl k => ∃ c : Nat, k = (c : Int) ∧ i < c ∧ c < n
  | .inr z => z ∈ zs
structure NetOk (N : List (Key × Key)) (high : Nat) (zs : List Str) : Prop where
  pos : 0 < N.length
  lead : ∀ (i : Nat) (p : Key × Key), N[i]? = some p → LdIn N.length zs i p.1 ∧ LdIn N.length zs i p.2
  led : ∀ k : Nat, 0 < k → k < N.length → ∃ (i : Nat) (p : Key × Key), N[i]? = some p ∧ (p.1 = .inl (k : Int) ∨ p.2 = .inl (k : Int))
  lev : ∃ lv : Nat → Nat, lv 0 = 0 ∧ (∀ i, i < N.length → lv i < high) ∧ ∀ (i : Nat) (p : Key × Key) (k : Nat), N[i]? = some p → (p.1 = .inl (k : Int) ∨ p.2 = .inl (k : Int)) → lv i < lv k
noncomputable def TreeOk (N : List (Key × Key)) : Prop := ∀ (i j : Nat) (p q : Key × Key) (c : Int), N[i]? = some p → N[j]? = some q → (p.1 = .inl c → q.1 = .inl c → i = j) ∧ (p.2 = .inl c → q.2 = .inl c → i = j) ∧ (p.1 = .inl c → q.2 = .inl c → False)
noncomputable def pos : List Nat → Nat → Nat
  | [], _ => 0
  | x :: xs, c => if x = c then 0 else pos xs c + 1
theorem pos_get : ∀ {T : List Nat} {c : Nat}, c ∈ T → T[pos T c]? = some c
  | x :: xs, c, h => by
    show (x :: xs)[if x = c then 0 else pos xs c + 1]? = some c
    by_cases e : x = c
    · rw [if_pos e, e]
      rfl
    · rw [if_neg e]
      exact pos_get ((List.mem_cons.mp h).resolve_left fun z => e z.symm)
theorem pos_lt {T : List Nat} {c : Nat} (h : c ∈ T) : pos T c < T.length := (List.getElem?_eq_some_iff.mp (pos_get h)).1
theorem asc_at {T : List Nat} (a : T.Pairwise (· < ·)) {i j x y : Nat} (hi : T[i]? = some x) (hj : T[j]? = some y) (h : i < j) : x < y := by
  obtain ⟨h1, e1⟩ := List.getElem?_eq_some_iff.mp hi
  obtain ⟨h2, e2⟩ := List.getElem?_eq_some_iff.mp hj
  rw [← e1, ← e2]
  exact (List.pairwise_iff_getElem.mp a) i j h1 h2 h
theorem pos_mono {T : List Nat} (a : T.Pairwise (· < ·)) {b c : Nat} (hb : b ∈ T) (hc : c ∈ T) (h : b < c) : pos T b < pos T c := by
  rcases Nat.lt_trichotomy (pos T b) (pos T c) with z | z | z
  · exact z
  · have e1 := pos_get hb
    rw [z, pos_get hc] at e1
    have := Option.some.inj e1
    omega
  · have := asc_at a (pos_get hc) (pos_get hb) z
    omega
theorem pos_is {T : List Nat} (a : T.Pairwise (· < ·)) {i c : Nat} (h : T[i]? = some c) : pos T c = i := by
  have hc := List.mem_of_getElem? h
  rcases Nat.lt_trichotomy (pos T c) i with z | z | z
  · have := asc_at a (pos_get hc) h z
    omega
  · exact z
  · have := asc_at a h (pos_get hc) z
    omega
noncomputable def Th (L : List ((Nat × Nat) × Nat)) : List Nat := 0 :: L.map (·.2)
structure Grow (k size high : Nat) (P : List (Nat × Nat)) (L : List ((Nat × Nat) × Nat)) (h : List Int) : Prop where
  hl : h.length = size
  ksz : k ≤ size
  asc : (Th L).Pairwise (· < ·)
  top : ∀ e ∈ L, e.2 < k
  own : ∀ e ∈ L, e.1.1 ∈ Th L ∧ e.1.2 < 2 ∧ e.1.1 < e.2 ∧ h.getD e.1.1 0 < h.getD e.2 0
  pnd : P.Nodup
  knd : (L.map (·.1)).Nodup
  dis : ∀ x ∈ P, x ∉ L.map (·.1)
  pin : ∀ x ∈ P, x.1 ∈ Th L ∧ x.2 < 2
  all : ∀ b s, b ∈ Th L → s < 2 → (b, s) ∈ P ∨ (b, s) ∈ L.map (·.1)
  lev : ∀ b ∈ Th L, 0 ≤ h.getD b 0 ∧ h.getD b 0 < high
  zer : h.getD 0 0 = 0
  pln : P.length = L.length + 2
  lln : L.length < k
theorem Grow.begin {size high : Nat} (hs : 1 ≤ size) (hh : 1 ≤ high) : Grow 1 size high [(0, 0), (0, 1)] [] (List.replicate size 0) where
  hl := List.length_replicate ..
  ksz := hs
  asc := by simp [Th]
  top := fun e he => absurd he List.not_mem_nil
  own := fun e he => absurd he List.not_mem_nil
  pnd := by decide
  knd := List.nodup_nil
  dis := fun x _ => List.not_mem_nil
  pin := fun x hx => by
    have : x = (0, 0) ∨ x = (0, 1) := by simpa using hx
    rcases this with rfl | rfl <;> simp [Th]
  all := fun b s hb hs => by
    have : b = 0 := by simpa [Th] using hb
    subst this
    have : s = 0 ∨ s = 1 := by omega
    rcases this with rfl | rfl <;> simp
  lev := fun b hb => by
    have : b = 0 := by simpa [Th] using hb
    subst this
    cases size with
    | zero => omega
    | succ n => simp [List.replicate_succ]; omega
  zer := by
    cases size with
    | zero => rfl
    | succ n => simp [List.replicate_succ]
  pln := rfl
  lln := by decide
theorem Grow.skip {k size high : Nat} {P : List (Nat × Nat)} {L : List ((Nat × Nat) × Nat)} {h : List Int} (g : Grow k size high P L h) (hk : k < size) : Grow (k + 1) size high P L h :=
  { g with ksz := hk, top := fun e he => Nat.lt_succ_of_lt (g.top e he), lln := Nat.lt_succ_of_lt g.lln }
theorem Th_lt {k size high : Nat} {P : List (Nat × Nat)} {L : List ((Nat × Nat) × Nat)} {h : List Int} (g : Grow k size high P L h) {b : Nat} (hb : b ∈ Th L) : b < k := by
  rcases List.mem_cons.mp hb with rfl | z
  · have := g.lln
    omega
  · obtain ⟨e, he, rfl⟩ := List.mem_map.mp z
    exact g.top e he
theorem erase_perm {α : Type} : ∀ {l : List α} {j : Nat} {x : α}, l[j]? = some x → l.Perm (x :: l.eraseIdx j)
  | a :: l, 0, x, h => by
    have : a = x := by simpa using h
    subst this
    exact List.Perm.refl _
  | a :: l, j + 1, x, h => ((erase_perm (l := l) (by simpa using h)).cons a).trans (List.Perm.swap ..)
theorem getD_set {h : List Int} {k b : Nat} {v : Int} (hb : b ≠ k) : (h.set k v).getD b 0 = h.getD b 0 := by
  rw [List.getD_eq_getElem?_getD, List.getD_eq_getElem?_getD, List.getElem?_set_ne (Ne.symm hb)]
theorem getD_set_self {h : List Int} {k : Nat} {v : Int} (hk : k < h.length) : (h.set k v).getD k 0 = v := by
  rw [List.getD_eq_getElem?_getD, List.getElem?_set_self hk]
  rfl
theorem Th_snoc (L : List ((Nat × Nat) × Nat)) (e : (Nat × Nat) × Nat) : Th (L ++ [e]) = Th L ++ [e.2] := by
  unfold Th
  rw [List.map_append]
  rfl
theorem Grow.step {k size high : Nat} {P : List (Nat × Nat)} {L : List ((Nat × Nat) × Nat)} {h : List Int} (g : Grow k size high P L h) (hk : k < size) {j : Nat} {x : Nat × Nat} (hx : P[j]? = some x) (hh : h.getD x.1 0 + 1 < high) :
    Grow (k + 1) size high (P.eraseIdx j ++ [(k, 0), (k, 1)]) (L ++ [(x, k)]) (h.set k (h.getD x.1 0 + 1)) := by
  have hxm := List.mem_of_getElem? hx
  have pm := erase_perm hx
  have nd := (pm.nodup_iff.mp g.pnd)
  obtain ⟨nx, nde⟩ := List.nodup_cons.mp nd
  have hxk : x.1 < k := Th_lt g (g.pin x hxm).1
  have sub : ∀ y ∈ P.eraseIdx j, y ∈ P := fun y hy => pm.mem_iff.mpr (List.mem_cons_of_mem _ hy)
  have mT : ∀ {b : Nat}, b ∈ Th (L ++ [(x, k)]) ↔ b ∈ Th L ∨ b = k := fun {b} => by
    rw [Th_snoc, List.mem_append]
    simp
  have mK : ∀ {y : Nat × Nat}, y ∈ (L ++ [(x, k)]).map (·.1) ↔ y ∈ L.map (·.1) ∨ y = x := fun {y} => by
    rw [List.map_append, List.mem_append]
    simp
  have hkl : k < h.length := by
    rw [g.hl]
    exact hk
  have same : ∀ {b : Nat}, b ∈ Th L → (h.set k (h.getD x.1 0 + 1)).getD b 0 = h.getD b 0 := fun hb => getD_set (by
    have := Th_lt g hb
    omega)
  refine { hl := by rw [List.length_set]; exact g.hl, ksz := hk, asc := ?_, top := fun e he => ?_, own := fun e he => ?_, pnd := ?_, knd := ?_, dis := fun y hy => ?_, pin := fun y hy => ?_, all := fun b s hb hs => ?_, lev := fun b hb => ?_, zer := ?_, pln := ?_, lln := ?_ }
  · rw [Th_snoc]
    refine List.pairwise_append.mpr ⟨g.asc, by simp, fun a ha b hb => ?_⟩
    have hb' : b = k := by simpa using hb
    rw [hb']
    exact Th_lt g ha
  · rcases List.mem_append.mp he with z | z
    · exact Nat.lt_succ_of_lt (g.top e z)
    · have : e = (x, k) := by simpa using z
      subst this
      exact Nat.lt_succ_self _
  · rcases List.mem_append.mp he with z | z
    · obtain ⟨o1, o2, o3, o4⟩ := g.own e z
      refine ⟨mT.mpr (.inl o1), o2, o3, ?_⟩
      rw [same o1, same (List.mem_cons_of_mem _ (List.mem_map.mpr ⟨e, z, rfl⟩))]
      exact o4
    · have : e = (x, k) := by simpa using z
      subst this
      have hx1 := g.pin x hxm
      refine ⟨mT.mpr (.inl hx1.1), hx1.2, hxk, ?_⟩
      rw [same hx1.1, getD_set_self hkl]
      omega
  · refine List.nodup_append.mpr ⟨nde, by simp, fun a ha b hb z => ?_⟩
    have h1 := Th_lt g (g.pin a (sub a ha)).1
    have : b = (k, 0) ∨ b = (k, 1) := by simpa using hb
    rcases this with rfl | rfl <;> (rw [z] at h1; exact Nat.lt_irrefl _ h1)
  · rw [List.map_append]
    refine List.nodup_append.mpr ⟨g.knd, by simp, fun a ha b hb z => ?_⟩
    have hb' : b = x := by simpa using hb
    exact g.dis x hxm (by rw [← hb', ← z]; exact ha)
  · intro z
    rcases List.mem_append.mp hy with c | c
    · rcases mK.mp z with w | w
      · exact g.dis y (sub y c) w
      · exact nx (by rw [← w]; exact c)
    · have hy1 : y.1 = k := by
        have : y = (k, 0) ∨ y = (k, 1) := by simpa using c
        rcases this with rfl | rfl <;> rfl
      rcases mK.mp z with w | w
      · obtain ⟨e, he, rfl⟩ := List.mem_map.mp w
        have := Th_lt g (g.own e he).1
        omega
      · rw [w] at hy1
        omega
  · rcases List.mem_append.mp hy with c | c
    · have := g.pin y (sub y c)
      exact ⟨mT.mpr (.inl this.1), this.2⟩
    · have : y = (k, 0) ∨ y = (k, 1) := by simpa using c
      rcases this with rfl | rfl
      · exact ⟨mT.mpr (.inr rfl), (by show 0 < 2; decide)⟩
      · exact ⟨mT.mpr (.inr rfl), (by show 1 < 2; decide)⟩
  · rcases mT.mp hb with c | c
    · rcases g.all b s c hs with w | w
      · rcases List.mem_cons.mp (pm.mem_iff.mp w) with v | v
        · exact .inr (mK.mpr (.inr v))
        · exact .inl (List.mem_append.mpr (.inl v))
      · exact .inr (mK.mpr (.inl w))
    · subst c
      have : s = 0 ∨ s = 1 := by omega
      rcases this with rfl | rfl <;> exact .inl (List.mem_append.mpr (.inr (by simp)))
  · rcases mT.mp hb with c | c
    · rw [same c]
      exact g.lev b c
    · subst c
      rw [getD_set_self hkl]
      have := g.lev x.1 (g.pin x hxm).1
      omega
  · rw [getD_set (by omega)]
    exact g.zer
  · have h1 := pm.length_eq
    have h2 := g.pln
    rw [List.length_cons] at h1
    rw [List.length_append, List.length_append]
    show (P.eraseIdx j).length + 2 = L.length + 1 + 2
    omega
  · rw [List.length_append]
    have := g.lln
    show L.length + 1 < k + 1
    omega
noncomputable def LdOk (T : List Nat) (h : List Int) (zs : List Str) (b : Nat) : Key → Prop
  | .inl k => ∃ c : Nat, k = (c : Int) ∧ c ∈ T ∧ b < c ∧ h.getD b 0 < h.getD c 0
  | .inr z => z ∈ zs
noncomputable def ren (T : List Nat) : Key → Key
  | .inl k => .inl ((pos T k.toNat : Nat) : Int)
  | .inr z => .inr z
noncomputable def netOf (T : List Nat) (ld : Nat → Nat → Key) : List (Key × Key) := T.map fun b => (ren T (ld b 0), ren T (ld b 1))
theorem netOf_at {T : List Nat} {ld : Nat → Nat → Key} {i : Nat} {p : Key × Key} (h : (netOf T ld)[i]? = some p) : ∃ b, T[i]? = some b ∧ p = (ren T (ld b 0), ren T (ld b 1)) := by
  unfold netOf at h
  rw [List.getElem?_map] at h
  cases e : T[i]? with
  | none => rw [e] at h; cases h
  | some b => rw [e] at h; exact ⟨b, rfl, (Option.some.inj h).symm⟩
theorem ren_inl {T : List Nat} {h : List Int} {zs : List Str} {b : Nat} {x : Key} {k : Int} (hx : LdOk T h zs b x) (e : ren T x = .inl k) : ∃ c : Nat, x = .inl (c : Int) ∧ c ∈ T ∧ b < c ∧ h.getD b 0 < h.getD c 0 ∧ k = (pos T c : Nat) := by
  cases x with
  | inr z => cases e
  | inl m =>
    obtain ⟨c, rfl, h1, h2, h3⟩ := hx
    refine ⟨c, rfl, h1, h2, h3, ?_⟩
    have := Sum.inl.inj e
    rw [Int.toNat_natCast] at this
    exact this.symm
theorem net_ok {k size high : Nat} {P : List (Nat × Nat)} {L : List ((Nat × Nat) × Nat)} {h : List Int} {zs : List Str} {ld : Nat → Nat → Key} (g : Grow k size high P L h)
    (hld : ∀ b ∈ Th L, ∀ s, s < 2 → LdOk (Th L) h zs b (ld b s)) (hL : ∀ e ∈ L, ld e.1.1 e.1.2 = .inl (e.2 : Int)) : NetOk (netOf (Th L) ld) high zs := by
  have asc := g.asc
  have len : (netOf (Th L) ld).length = (Th L).length := List.length_map ..
  have li : ∀ {i b : Nat} {x : Key}, (Th L)[i]? = some b → LdOk (Th L) h zs b x → LdIn (netOf (Th L) ld).length zs i (ren (Th L) x) := fun {i b x} hb hx => by
    cases x with
    | inr z => exact hx
    | inl m =>
      obtain ⟨c, rfl, h1, h2, h3⟩ := hx
      refine ⟨pos (Th L) c, ?_, ?_, ?_⟩
      · rw [Int.toNat_natCast]
      · have := pos_mono asc (List.mem_of_getElem? hb) h1 h2
        rwa [pos_is asc hb] at this
      · rw [len]
        exact pos_lt h1
  refine ⟨by rw [len]; exact Nat.succ_pos _, fun i p hp => ?_, fun k hk hkl => ?_, ⟨fun i => (h.getD ((Th L).getD i 0) 0).toNat, ?_, fun i hi => ?_, fun i p k hp hpk => ?_⟩⟩
  · obtain ⟨b, hb, rfl⟩ := netOf_at hp
    have hm := List.mem_of_getElem? hb
    exact ⟨li hb (hld b hm 0 (by decide)), li hb (hld b hm 1 (by decide))⟩
  · rw [len] at hkl
    have e1 : (Th L)[k]? = some (Th L)[k] := List.getElem?_eq_getElem hkl
    obtain ⟨j, rfl⟩ : ∃ j, k = j + 1 := ⟨k - 1, by omega⟩
    have e2 : (L.map (·.2))[j]? = some (Th L)[j + 1] := e1
    rw [List.getElem?_map] at e2
    cases e3 : L[j]? with
    | none => rw [e3] at e2; cases e2
    | some e =>
      rw [e3] at e2
      have e4 : e.2 = (Th L)[j + 1] := Option.some.inj e2
      have he := List.mem_of_getElem? e3
      obtain ⟨o1, o2, o3, _⟩ := g.own e he
      have hl := hL e he
      have hpos : pos (Th L) e.2 = j + 1 := pos_is asc (by rw [e4]; exact e1)
      refine ⟨pos (Th L) e.1.1, (ren (Th L) (ld e.1.1 0), ren (Th L) (ld e.1.1 1)), ?_, ?_⟩
      · unfold netOf
        rw [List.getElem?_map, pos_get o1]
        rfl
      · have hr : ren (Th L) (.inl (e.2 : Int)) = .inl ((j + 1 : Nat) : Int) := by
          show Sum.inl ((pos (Th L) (e.2 : Int).toNat : Nat) : Int) = _
          rw [Int.toNat_natCast, hpos]
        have hs : e.1.2 = 0 ∨ e.1.2 = 1 := by omega
        rcases hs with z | z
        · left
          rw [z] at hl
          show ren (Th L) (ld e.1.1 0) = _
          rw [hl, hr]
        · right
          rw [z] at hl
          show ren (Th L) (ld e.1.1 1) = _
          rw [hl, hr]
  · show (h.getD 0 0).toNat = 0
    rw [g.zer]
    rfl
  · rw [len] at hi
    have e1 : (Th L).getD i 0 = (Th L)[i] := by
      rw [List.getD_eq_getElem?_getD, List.getElem?_eq_getElem hi]
      rfl
    show (h.getD ((Th L).getD i 0) 0).toNat < high
    rw [e1]
    have := g.lev _ (List.getElem_mem hi)
    omega
  · obtain ⟨b, hb, rfl⟩ := netOf_at hp
    have hm := List.mem_of_getElem? hb
    have e1 : (Th L).getD i 0 = b := by
      rw [List.getD_eq_getElem?_getD, hb]
      rfl
    have key : ∀ s, s < 2 → ren (Th L) (ld b s) = .inl (k : Int) → (h.getD b 0).toNat < (h.getD ((Th L).getD k 0) 0).toNat := fun s hs e => by
      obtain ⟨c, _, hc, _, h3, hk⟩ := ren_inl (hld b hm s hs) e
      have hk' : k = pos (Th L) c := by omega
      have e2 : (Th L).getD k 0 = c := by
        rw [hk', List.getD_eq_getElem?_getD, pos_get hc]
        rfl
      rw [e2]
      have := g.lev b hm
      omega
    show (h.getD ((Th L).getD i 0) 0).toNat < (h.getD ((Th L).getD k 0) 0).toNat
    rw [e1]
    rcases hpk with z | z
    · exact key 0 (by decide) z
    · exact key 1 (by decide) z
theorem net_tree {k size high : Nat} {P : List (Nat × Nat)} {L : List ((Nat × Nat) × Nat)} {h : List Int} {zs : List Str} {ld : Nat → Nat → Key} (g : Grow k size high P L h)
    (hld : ∀ b ∈ Th L, ∀ s, s < 2 → LdOk (Th L) h zs b (ld b s)) (hL : ∀ e ∈ L, ld e.1.1 e.1.2 = .inl (e.2 : Int)) (hP : ∀ x ∈ P, ∃ z, ld x.1 x.2 = .inr z) : TreeOk (netOf (Th L) ld) := by
  have asc := g.asc
  have inj : ∀ {b s b' s' : Nat} {c : Nat}, b ∈ Th L → s < 2 → b' ∈ Th L → s' < 2 → ld b s = .inl (c : Int) → ld b' s' = .inl (c : Int) → b = b' ∧ s = s' := fun {b s b' s' c} hb hs hb' hs' e e' => by
    have one : ∀ {b s : Nat}, b ∈ Th L → s < 2 → ld b s = .inl (c : Int) → ((b, s), c) ∈ L := fun {b s} hb hs e => by
      rcases g.all b s hb hs with w | w
      · obtain ⟨z, ez⟩ := hP _ w
        have : ld b s = .inr z := ez
        rw [e] at this
        cases this
      · obtain ⟨x, hx, ex⟩ := List.mem_map.mp w
        have h9 := hL x hx
        rw [ex] at h9
        have h9 : ld b s = .inl (x.2 : Int) := h9
        rw [e] at h9
        have : (c : Int) = (x.2 : Int) := Sum.inl.inj h9
        have : c = x.2 := by omega
        rw [this, ← ex]
        exact hx
    have m1 := one hb hs e
    have m2 := one hb' hs' e'
    have nd : (L.map (·.2)).Nodup := ((List.pairwise_cons.mp asc).2).imp fun h => by omega
    have : ((b, s), c) = ((b', s'), c) := by
      obtain ⟨i, hi⟩ := List.mem_iff_getElem?.mp m1
      obtain ⟨j, hj⟩ := List.mem_iff_getElem?.mp m2
      have a1 : (L.map (·.2))[i]? = some c := by rw [List.getElem?_map, hi]; rfl
      have a2 : (L.map (·.2))[j]? = some c := by rw [List.getElem?_map, hj]; rfl
      obtain ⟨b1, c1⟩ := List.getElem?_eq_some_iff.mp a1
      obtain ⟨b2, c2⟩ := List.getElem?_eq_some_iff.mp a2
      have hij : i = j := by
        rcases Nat.lt_trichotomy i j with z | z | z
        · exact absurd (c1.trans c2.symm) ((List.pairwise_iff_getElem.mp nd) i j b1 b2 z)
        · exact z
        · exact absurd (c2.trans c1.symm) ((List.pairwise_iff_getElem.mp nd) j i b2 b1 z)
      rw [hij] at hi
      exact Option.some.inj (hi.symm.trans hj)
    have h2 := congrArg Prod.fst this
    exact ⟨congrArg Prod.fst h2, congrArg Prod.snd h2⟩
  intro i j p q c hp hq
  obtain ⟨b, hb, rfl⟩ := netOf_at hp
  obtain ⟨b', hb', rfl⟩ := netOf_at hq
  have hm := List.mem_of_getElem? hb
  have hm' := List.mem_of_getElem? hb'
  have key : ∀ s s', s < 2 → s' < 2 → ren (Th L) (ld b s) = .inl c → ren (Th L) (ld b' s') = .inl c → b = b' ∧ s = s' := fun s s' hs hs' e e' => by
    obtain ⟨d, e1, hd, _, _, hk⟩ := ren_inl (hld b hm s hs) e
    obtain ⟨d', e1', hd', _, _, hk'⟩ := ren_inl (hld b' hm' s' hs') e'
    have hpp : pos (Th L) d = pos (Th L) d' := by omega
    have hdd : d = d' := by
      have a1 := pos_get hd
      rw [hpp, pos_get hd'] at a1
      exact (Option.some.inj a1).symm
    subst hdd
    exact inj hm hs hm' hs' e1 e1'
  have ij : b = b' → i = j := fun z => by
    rw [← pos_is asc hb, ← pos_is asc hb', z]
  exact ⟨fun e e' => ij (key 0 0 (by decide) (by decide) e e').1, fun e e' => ij (key 1 1 (by decide) (by decide) e e').1, fun e e' => absurd (key 0 1 (by decide) (by decide) e e').2 (by decide)⟩
noncomputable def panD (x : Nat × Nat) : PyData := runD ((x.1 : Int), (x.2 : Int))
noncomputable def refs (P : List (Addr × Nat × Nat)) : List V := P.map fun x => V.ref x.1
noncomputable def prs (P : List (Addr × Nat × Nat)) : List (Nat × Nat) := P.map (·.2)
noncomputable def PanAt (H : Hp) (x : Addr × Nat × Nat) : Prop := H x.1 = some (.tup [.int (x.2.1 : Int), .int (x.2.2 : Int)])
theorem pan_dp {K : PySem.W.Frag} {H : Hp} {x : Addr × Nat × Nat} (h : PanAt H x) : Dp K H (.ref x.1) (panD x.2) := .tup (SqT.of h) (.cons (.int _) (.cons (.int _) .nil))
theorem pans_dp {K : PySem.W.Frag} {H : Hp} : ∀ {P : List (Addr × Nat × Nat)}, (∀ x ∈ P, PanAt H x) → DpAll K H (refs P) ((prs P).map panD)
  | [], _ => .nil
  | x :: P, h => .cons (pan_dp (h x (List.mem_cons_self ..))) (pans_dp fun y hy => h y (List.mem_cons_of_mem _ hy))
theorem panD_ok (x : Nat × Nat) : Sh 1 (panD x) := .tup (.cons (.int _) (.cons (.int _) .nil))
theorem pans_ok (l : List (Nat × Nat)) : Sh 2 (.list (l.map panD)) := .list (.map _ fun x _ => panD_ok x)
theorem panD_eqv (x y : Nat × Nat) : PyData.eqv (panD x) (panD y) = decide (x = y) := by
  unfold panD
  rw [eqv_run]
  by_cases c : x = y
  · subst c
    simp
  · rw [decide_eq_false c, decide_eq_false]
    intro z
    obtain ⟨x1, x2⟩ := x
    obtain ⟨y1, y2⟩ := y
    have h1 : (x1 : Int) = y1 := congrArg Prod.fst z
    have h2 : (x2 : Int) = y2 := congrArg Prod.snd z
    exact c (by rw [show x1 = y1 by omega, show x2 = y2 by omega])
structure NSt (H H' : Hp) (t pl dl hl : Addr) (P : List (Addr × Nat × Nat)) (kvs : List (List Key × V)) (h : List Int) (c : Nat) : Prop where
  un : Un t H H'
  tp : Tp c H' t
  epl : H' pl = some (.lst (refs P))
  edl : H' dl = some (.dT kvs)
  ehl : H' hl = some (.lst (h.map V.int))
  pan : ∀ x ∈ P, PanAt H' x
  npl : H pl = none
  ndl : H dl = none
  nhl : H hl = none
  npt : pl ≠ t
  nht : hl ≠ t
  nph : pl ≠ hl
section
variable {H H' H2 : Hp} {t pl dl hl : Addr} {P : List (Addr × Nat × Nat)} {kvs : List (List Key × V)} {h : List Int} {c d : Nat}
theorem NSt.same (n : NSt H H' t pl dl hl P kvs h c) (S : Same H' H2) : NSt H H2 t pl dl hl P kvs h c :=
  { n with un := n.un.trans (Un.same S), tp := n.tp.same S, epl := S _ _ n.epl, edl := S _ _ n.edl, ehl := S _ _ n.ehl, pan := fun x hx => S _ _ (n.pan x hx) }
theorem NSt.ndt (n : NSt H H' t pl dl hl P kvs h c) : dl ≠ t := by
  obtain ⟨x, y, z, e, _⟩ := n.tp
  exact ne_of n.edl e (fun z => nomatch z)
theorem NSt.draw (n : NSt H H' t pl dl hl P kvs h c) (U : Un t H' H2) (T : Tp d H2 t) : NSt H H2 t pl dl hl P kvs h d :=
  { n with un := n.un.trans U, tp := T, epl := U _ _ n.npt n.epl, edl := U _ _ n.ndt n.edl, ehl := U _ _ n.nht n.ehl, pan := fun x hx => U _ _ (n.tp.ne (n.pan x hx)) (n.pan x hx) }
theorem NSt.less (n : NSt H H' t pl dl hl P kvs h c) (l : d ≤ c) : NSt H H' t pl dl hl P kvs h d := { n with tp := n.tp.le l }
theorem Tp.upd {b : Nat} {p : Addr} {o : HO} (T : Tp b H' t) (h : p ≠ t) : Tp b (L2.upd H' p o) t := by
  obtain ⟨x, y, z, e, r⟩ := T
  exact ⟨x, y, z, by rw [upd_ne h.symm]; exact e, r⟩
theorem PanAt.upd {x : Addr × Nat × Nat} {p : Addr} {o : HO} (e : PanAt H' x) (h : ∀ xs, H' p ≠ some (.tup xs)) : PanAt (L2.upd H' p o) x := by
  unfold PanAt at *
  rw [upd_ne (fun z => h _ (by rw [← z]; exact e))]
  exact e
theorem no_tup {a : Addr} {o : HO} (e : H' a = some o) (ho : ∀ xs, o ≠ .tup xs) : ∀ xs, H' a ≠ some (.tup xs) := fun xs z => by
  rw [e] at z
  exact ho xs (Option.some.inj z)
theorem NSt.remP (n : NSt H H' t pl dl hl P kvs h c) {P2 : List (Addr × Nat × Nat)} (sub : ∀ x ∈ P2, x ∈ P) : NSt H (upd H' pl (.lst (refs P2))) t pl dl hl P2 kvs h c where
  un := n.un.new n.npl
  tp := n.tp.upd n.npt
  epl := upd_same
  edl := by rw [upd_ne (ne_of n.edl n.epl (fun z => nomatch z))]; exact n.edl
  ehl := by rw [upd_ne n.nph.symm]; exact n.ehl
  pan := fun x hx => (n.pan x (sub x hx)).upd (no_tup n.epl fun _ z => nomatch z)
  npl := n.npl
  ndl := n.ndl
  nhl := n.nhl
  npt := n.npt
  nht := n.nht
  nph := n.nph
theorem NSt.put (n : NSt H H' t pl dl hl P kvs h c) {kvs2 : List (List Key × V)} : NSt H (upd H' dl (.dT kvs2)) t pl dl hl P kvs2 h c where
  un := n.un.new n.ndl
  tp := n.tp.upd n.ndt
  epl := by rw [upd_ne (ne_of n.epl n.edl (fun z => nomatch z))]; exact n.epl
  edl := upd_same
  ehl := by rw [upd_ne (ne_of n.ehl n.edl (fun z => nomatch z))]; exact n.ehl
  pan := fun x hx => (n.pan x hx).upd (no_tup n.edl fun _ z => nomatch z)
  npl := n.npl
  ndl := n.ndl
  nhl := n.nhl
  npt := n.npt
  nht := n.nht
  nph := n.nph
theorem NSt.seth (n : NSt H H' t pl dl hl P kvs h c) {h2 : List Int} : NSt H (upd H' hl (.lst (h2.map V.int))) t pl dl hl P kvs h2 c where
  un := n.un.new n.nhl
  tp := n.tp.upd n.nht
  epl := by rw [upd_ne n.nph]; exact n.epl
  edl := by rw [upd_ne (ne_of n.edl n.ehl (fun z => nomatch z))]; exact n.edl
  ehl := upd_same
  pan := fun x hx => (n.pan x hx).upd (no_tup n.ehl fun _ z => nomatch z)
  npl := n.npl
  ndl := n.ndl
  nhl := n.nhl
  npt := n.npt
  nht := n.nht
  nph := n.nph
end
theorem un_free {t p : Addr} {H H' : Hp} {c : Nat} (U : Un t H H') (T : Tp c H' t) (n : H' p = none) : H p = none := un_none U T.has p n
theorem sortP {X : Cx} {K : PySem.W.Frag} (hK : X.K = K := by rfl) : CallR X (.builtin "sorted") (fun vs H Q => ∃ (a : Addr) (xs : List V), vs = [V.ref a] ∧ SqL K H a xs ∧ (∀ x ∈ xs, ∃ t i j, x = V.ref t ∧ H t = some (.tup [.int i, .int j])) ∧ ∀ (ys : List V) (p : Addr) (H' : Hp), ys.Perm xs → H p = none → Same H H' → H' p = some (.lst ys) → Q (.ref p) H') := by
  subst hK
  exact fun pins s σ H vs us Q I r ⟨a, xs, e, hs, h2, q⟩ => cr_sortedP pins s σ H vs us Q I r ⟨a, xs, e, hs, h2, fun ys p h1 np => q ys p _ h1 np (same_upd np) upd_same⟩
/-- the dict of what hangs where -/
noncomputable def kvL2 (L : List ((Nat × Nat) × Nat)) : List (List Key × V) := L.map fun e => ([Sum.inl (e.1.1 : Int), Sum.inl (e.1.2 : Int)], V.int (e.2 : Int))
theorem kvL2_snoc (L : List ((Nat × Nat) × Nat)) (e : (Nat × Nat) × Nat) : kvL2 (L ++ [e]) = kvL2 L ++ [([Sum.inl (e.1.1 : Int), Sum.inl (e.1.2 : Int)], V.int (e.2 : Int))] := by
  unfold kvL2
  rw [List.map_append]
  rfl
noncomputable def k2 (b s : Nat) : List Key := [Sum.inl (b : Int), Sum.inl (s : Int)]
theorem k2_inj {b s b' s' : Nat} (h : k2 b s = k2 b' s') : b = b' ∧ s = s' := by
  have z1 : (Sum.inl (b : Int) : Key) = Sum.inl (b' : Int) := (List.cons.inj h).1
  have z2 : (Sum.inl (s : Int) : Key) = Sum.inl (s' : Int) := (List.cons.inj (List.cons.inj h).2).1
  have := Sum.inl.inj z1
  have := Sum.inl.inj z2
  omega
theorem kvL2_no {L : List ((Nat × Nat) × Nat)} {b s : Nat} (h : (b, s) ∉ L.map (·.1)) : valV (kvL2 L) (k2 b s) = none := valV_no fun kv hkv z => by
  obtain ⟨e, he, rfl⟩ := List.mem_map.mp hkv
  obtain ⟨h1, h2⟩ := k2_inj z
  exact h (List.mem_map.mpr ⟨e, he, by rw [← h1, ← h2]⟩)
theorem kvL2_val : ∀ {L : List ((Nat × Nat) × Nat)} {e : (Nat × Nat) × Nat}, (L.map (·.1)).Nodup → e ∈ L → valV (kvL2 L) (k2 e.1.1 e.1.2) = some (.int (e.2 : Int))
  | x :: L, e, nd, h => by
    obtain ⟨n1, n2⟩ := List.nodup_cons.mp nd
    rcases List.mem_cons.mp h with rfl | z
    · exact valV_pos rfl
    · have : valV (kvL2 (x :: L)) (k2 e.1.1 e.1.2) = valV (kvL2 L) (k2 e.1.1 e.1.2) := valV_neg fun w => by
        obtain ⟨h1, h2⟩ := k2_inj (b := x.1.1) (s := x.1.2) w
        exact n1 (List.mem_map.mpr ⟨e, z, Prod.ext h1.symm h2.symm⟩)
      rw [this]
      exact kvL2_val n2 z
theorem rep_flat (n : Nat) : (List.replicate n [V.int 0]).flatten = (List.replicate n (0 : Int)).map V.int := by
  induction n with
  | zero => rfl
  | succ n ih =>
    rw [List.replicate_succ, List.flatten_cons, ih, List.replicate_succ]
    rfl
theorem getD_at {h : List Int} {b : Nat} (hb : b < h.length) : atI (h.map V.int) (b : Int) = some (.int (h.getD b 0)) := atI_nat (by
  rw [List.getElem?_map, List.getD_eq_getElem?_getD, List.getElem?_eq_getElem hb]
  rfl)
theorem mergeK_new : ∀ {l acc : List (Key × V)}, (∀ kv ∈ l, valV acc kv.1 = none) → (l.map (·.1)).Nodup → mergeK acc l = acc ++ l
  | [], acc, _, _ => (List.append_nil _).symm
  | kv :: l, acc, h, nd => by
    obtain ⟨n1, n2⟩ := List.nodup_cons.mp nd
    show mergeK (putK acc kv.1 kv.2) l = acc ++ kv :: l
    rw [putK_new _ (h kv (List.mem_cons_self ..)), mergeK_new (acc := acc ++ [kv]) (fun x hx => ?_) n2, List.append_assoc]
    · rfl
    · rw [← putK_new _ (h kv (List.mem_cons_self ..)), valV_put, if_neg (fun z => n1 (List.mem_map.mpr ⟨x, hx, z⟩))]
      exact h x (List.mem_cons_of_mem _ hx)
theorem pi_tupN {X : Cx} {K : PySem.W.Frag} {tg e : Expr} {te : TE} (he : PE X e te) (hK : X.K = K := by rfl) : PI X tg e (iTup K te) := by
  subst hK
  exact pi_tup he
theorem pi_listN {X : Cx} {K : PySem.W.Frag} {tg e : Expr} {te : TE} (he : PE X e te) (hK : X.K = K := by rfl) : PI X tg e (iList K te) := by
  subst hK
  exact pi_list he
theorem erase_map {α β : Type} (f : α → β) : ∀ (l : List α) (j : Nat), (l.map f).eraseIdx j = (l.eraseIdx j).map f
  | [], _ => rfl
  | _ :: _, 0 => rfl
  | x :: l, j + 1 => by
    show f x :: (l.map f).eraseIdx j = f x :: (l.eraseIdx j).map f
    rw [erase_map f l j]
theorem perm_lift {α β : Type} {f : α → β} : ∀ {ys : List β} {P : List α}, ys.Perm (P.map f) → ∃ Y : List α, Y.Perm P ∧ ys = Y.map f
  | [], P, h => by
    have : P.map f = [] := List.nil_perm.mp h
    have : P = [] := List.map_eq_nil_iff.mp this
    subst this
    exact ⟨[], List.Perm.refl _, rfl⟩
  | y :: ys, P, h => by
    have hy : y ∈ P.map f := h.mem_iff.mp (List.mem_cons_self ..)
    obtain ⟨x, hx, rfl⟩ := List.mem_map.mp hy
    obtain ⟨j, hj⟩ := List.mem_iff_getElem?.mp hx
    have pm := erase_perm hj
    have h2 : (f x :: ys).Perm (f x :: (P.eraseIdx j).map f) := h.trans (pm.map f)
    obtain ⟨Y, hY, rfl⟩ := perm_lift h2.cons_inv
    exact ⟨x :: Y, (hY.cons x).trans pm.symm, rfl⟩
noncomputable def nkN (T : List Nat) (n : Nat) : List (Key × V) := (List.range n).map fun i => (Sum.inl ((T.getD i 0 : Nat) : Int), V.int (i : Int))
theorem nkN_succ (T : List Nat) (n : Nat) : nkN T (n + 1) = nkN T n ++ [(Sum.inl ((T.getD n 0 : Nat) : Int), V.int (n : Int))] := by
  unfold nkN
  rw [List.range_succ, List.map_append]
  rfl
theorem getD_mem {T : List Nat} {i : Nat} (h : i < T.length) : T[i]? = some (T.getD i 0) := by
  rw [List.getD_eq_getElem?_getD, List.getElem?_eq_getElem h]
  rfl
theorem nkN_nd {T : List Nat} (a : T.Pairwise (· < ·)) : ∀ n, n ≤ T.length → ((nkN T n).map (·.1)).Nodup
  | 0, _ => List.nodup_nil
  | n + 1, h => by
    rw [nkN_succ, List.map_append]
    refine List.nodup_append.mpr ⟨nkN_nd a n (by omega), by simp, fun x hx y hy z => ?_⟩
    obtain ⟨kv, hkv, rfl⟩ := List.mem_map.mp hx
    obtain ⟨i, hi, rfl⟩ := List.mem_map.mp hkv
    have hy' : y = Sum.inl ((T.getD n 0 : Nat) : Int) := by simpa using hy
    have hin := List.mem_range.mp hi
    have lt := asc_at a (getD_mem (T := T) (i := i) (by omega)) (getD_mem (T := T) (i := n) (by omega)) hin
    have e : (Sum.inl ((T.getD i 0 : Nat) : Int) : Key) = Sum.inl ((T.getD n 0 : Nat) : Int) := z.trans hy'
    have := Sum.inl.inj e
    omega
theorem nkN_val {T : List Nat} (a : T.Pairwise (· < ·)) : ∀ n, n ≤ T.length → ∀ i, i < n → valV (nkN T n) (Sum.inl ((T.getD i 0 : Nat) : Int)) = some (.int (i : Int))
  | 0, _, i, hi => absurd hi (Nat.not_lt_zero _)
  | n + 1, h, i, hi => by
    have hno : valV (nkN T n) (Sum.inl ((T.getD n 0 : Nat) : Int)) = none := valV_no fun kv hkv z => by
      obtain ⟨j, hj, rfl⟩ := List.mem_map.mp hkv
      have hjn := List.mem_range.mp hj
      have lt := asc_at a (getD_mem (T := T) (i := j) (by omega)) (getD_mem (T := T) (i := n) (by omega)) hjn
      have := Sum.inl.inj z
      omega
    rw [nkN_succ, ← putK_new _ hno, valV_put]
    by_cases c : i = n
    · subst c
      rw [if_pos rfl]
    · have lt := asc_at a (getD_mem (T := T) (i := i) (by omega)) (getD_mem (T := T) (i := n) (by omega)) (by omega)
      rw [if_neg (fun z => by
        have := Sum.inl.inj z
        omega)]
      exact nkN_val a n (by omega) i (by omega)
theorem nkN_str (T : List Nat) (n : Nat) (z : Str) : valV (nkN T n) (Sum.inr z) = none := valV_no fun kv hkv w => by
  obtain ⟨j, hj, rfl⟩ := List.mem_map.mp hkv
  cases w
theorem paired_mk {α β : Type} {F : α → β → Prop} {g : Nat → β} : ∀ {n : Nat} {ps : List α}, ps.length = n → (∀ (j : Nat) (p : α), ps[j]? = some p → F p (g j)) → Paired F ps ((List.range n).map g)
  | 0, ps, hl, _ => by
    have : ps = [] := List.length_eq_zero_iff.mp hl
    subst this
    exact .nil
  | n + 1, ps, hl, h => by
    obtain ⟨us, u, rfl⟩ : ∃ us u, ps = us ++ [u] := by
      have hne : ps ≠ [] := fun z => by rw [z] at hl; cases hl
      exact ⟨ps.dropLast, ps.getLast hne, (List.dropLast_concat_getLast hne).symm⟩
    have hu : us.length = n := by
      rw [List.length_append] at hl
      exact Nat.succ.inj hl
    rw [List.range_succ, List.map_append]
    refine Paired.snoc (paired_mk hu fun j p e => h j p ?_) (h n u ?_)
    · rw [List.getElem?_append_left (List.getElem?_eq_some_iff.mp e).1]
      exact e
    · rw [List.getElem?_append_right (by omega), hu, Nat.sub_self]
      rfl
theorem TO.key (k : Key) : TO (kD k) := by
  cases k with
  | inl i => exact .int i
  | inr z => exact .str z
theorem kD_dt {H : Hp} {n : Nat} (k : Key) : Dt H n (kV k) (kD k) := by
  cases k with
  | inl i => exact .int i
  | inr z => exact .str z
theorem kV_ren {T : List Nat} {h : List Int} {zs : List Str} {b : Nat} {x : Key} (a : T.Pairwise (· < ·)) (hx : LdOk T h zs b x) : (valV (nkN T T.length) x).getD (kV x) = kV (ren T x) := by
  cases x with
  | inr z =>
    rw [nkN_str]
    rfl
  | inl m =>
    obtain ⟨c, rfl, h1, _, _⟩ := hx
    have hp := pos_get h1
    have hl := pos_lt h1
    have e : T.getD (pos T c) 0 = c := by
      rw [List.getD_eq_getElem?_getD, hp]
      rfl
    have hv := nkN_val a T.length (Nat.le_refl _) (pos T c) hl
    rw [e] at hv
    rw [hv]
    show V.int ((pos T c : Nat) : Int) = V.int ((pos T (c : Int).toNat : Nat) : Int)
    rw [Int.toNat_natCast]
noncomputable def rt (s : Int) : Bool := !decide (s < 0)
noncomputable def leadM (N : List (Key × Key)) (b : Nat) (r : Bool) : Key := if r then (N.getD b (.inl 0, .inl 0)).2 else (N.getD b (.inl 0, .inl 0)).1
theorem TO.net (N : List (Key × Key)) : TO (netD N) := .tup fun d hd => by
  obtain ⟨p, _, rfl⟩ := List.mem_map.mp hd
  exact .two (.key _) (.key _)
theorem net_get {H : Hp} {n : Nat} {a : Addr} {N : List (Key × Key)} (h : Dt H n (.ref a) (netD N)) : ∃ us, H a = some (.tup us) ∧ us.length = N.length ∧ ∀ (i : Nat) (p : Key × Key), N[i]? = some p → ∃ q, us[i]? = some (.ref q) ∧ H q = some (.tup [kV p.1, kV p.2]) := by
  cases h with
  | tup e z k =>
    have hl : ∀ {m : Nat} {us : List V} {N : List (Key × Key)}, DtA H m us (N.map pairD) → us.length = N.length ∧ ∀ (i : Nat) (p : Key × Key), N[i]? = some p → ∃ q, us[i]? = some (.ref q) ∧ H q = some (.tup [kV p.1, kV p.2]) := by
      intro m us N
      induction N generalizing us with
      | nil =>
        intro h
        cases h
        exact ⟨rfl, fun i p e => by simp at e⟩
      | cons p N ih =>
        intro h
        cases h with
        | cons h1 h2 =>
          obtain ⟨i1, i2⟩ := ih h2
          refine ⟨by simp [i1], fun i x e => ?_⟩
          cases i with
          | zero =>
            have e : p = x := by simpa using e
            subst e
            unfold pairD at h1
            cases h1 with
            | tup e' _ k' =>
              cases k' with
              | cons a1 k' =>
                cases k' with
                | cons a2 k' =>
                  cases k'
                  have kk : ∀ {m : Nat} {v : V} {x : Key}, Dt H m v (kD x) → v = kV x := fun {m v x} hx => by
                    cases x <;> (cases hx; rfl)
                  rw [kk a1, kk a2] at e'
                  exact ⟨_, rfl, e'⟩
          | succ i => exact i2 i x (by simpa using e)
    obtain ⟨h1, h2⟩ := hl k
    exact ⟨_, e, h1, h2⟩
theorem leadM_at {N : List (Key × Key)} {b : Nat} {p : Key × Key} (h : N[b]? = some p) (r : Bool) : leadM N b r = if r then p.2 else p.1 := by
  unfold leadM
  rw [List.getD_eq_getElem?_getD, h]
  rfl
structure Rows (H H' : Hp) (D : Addr) (ls : List Addr) (f : Nat → List Int) : Prop where
  ed : H' D = some (.lst (ls.map V.ref))
  nd : ls.Nodup
  new : ∀ l ∈ ls, H l = none
  row : ∀ (i : Nat) (l : Addr), ls[i]? = some l → H' l = some (.lst ((f i).map V.int))
  dn : H D = none
  dl : D ∉ ls
end Pan
namespace Pan
open PySem PySem.Spec PyProof.Rows L2
/-- a walk, whatever is done with each: serves both loops of a comprehension of two clauses -/
theorem walk_out {J : It} {n : Nat} {G : Hp → Prop} {Y : Nat → Hp → V → Hp → Prop} (w : Walk J n G Y) {Bd : (Hp → Prop) → V → Hp → Prop} {Qd : Hp → Prop} {H0 : Hp} (Pv : Nat → Hp → Prop) (h0 : Pv 0 H0) (hG : ∀ i H, i ≤ n → Pv i H → G H) (hs : ∀ i x H H', i < n → Pv i H → Y i H x H' → Bd (Pv (i + 1)) x H') (hd : ∀ H, Pv n H → Qd H) :
    ∃ W : Nat → Nat → Hp → Prop, (∃ m, W 0 m H0) ∧ ∀ i m H, W i m H → (J.stop i H ∧ Qd H) ∨ (J.go i H ∧ ∃ Nx : Hp → Prop, (∀ H', Nx H' → ∃ m', m' < m ∧ W (i + 1) m' H') ∧ ∀ x H', J.yld i H x H' → Bd Nx x H') := by
  refine ⟨fun i m H => m = n - i ∧ i ≤ n ∧ Pv i H, ⟨n, by simp, Nat.zero_le _, h0⟩, ?_⟩
  rintro i m H ⟨rfl, hi, p⟩
  have q := hG i H hi p
  by_cases hlt : i < n
  · exact .inr ⟨w.goes i H hlt q, Pv (i + 1), fun H' p' => ⟨n - (i + 1), by omega, rfl, hlt, p'⟩, fun x H' y => hs i x H H' hlt p (w.yields i H x H' hlt q y)⟩
  · have e : i = n := by omega
    subst e
    exact .inl ⟨w.stops H q, hd H p⟩
end Pan
namespace Pan
open PySem PySem.Spec PyProof.Rows L2
/-- e has two clauses; put: what the inner one does with each -/
structure Two (e ta ia tb ib : Expr) (fa fb : List Expr) (put : Value → Env → Sem Unit) : Prop where
  cls : clausesOf e = [⟨ta, ia, fa, 0⟩, ⟨tb, ib, fb, 0⟩]
  denL : ∀ (P : Program) (w : World) (dp : Nat) (itr ac : Value) (en : Env), (model P w).den (.compLoop e dp itr ac en) = (compTurn e dp itr ac en).onRaise (fun z => do noteFrame z en; theTreesLotGoes z)
  denS : ∀ (P : Program) (w : World) (dp : Nat) (itr ac : Value) (en : Env), (model P w).den (.compStart e dp itr ac en) = (compStart e dp itr ac en).onRaise (fun z => do noteFrame z en; standAt theWindowsPlace)
  undL : ∀ (A : Around) (dp : Nat) (itr ac : Value) (en : Env), A.under (.compLoop e dp itr ac en) = A
  undS : ∀ (A : Around) (dp : Nat) (itr ac : Value) (en : Env), A.under (.compStart e dp itr ac en) = A
  outer : ∀ (itr ac : Value) (en : Env), compTurn e 0 itr ac en = (do
    standAt ia.pos
    match ← pyNext itr with
    | none => pure (.done .next)
    | some u =>
      letOwnedTupleGo ta itr u
      assign ta en u
      let mut yes := true
      for f in fa do
        if yes then yes ← isTrue f en (eval f en)
      if yes then
        let y ← eval ib en
        standAt ib.pos
        let y ← foldedSetIterable ib en y
        let _ ← runOwn (.compStart e 1 (← holding [y] (pyIter y)) ac en) en
      again (.compLoop e 0 itr ac en))
  inner : ∀ (itr : Value) (D : Addr) (en : Env), compTurn e 1 itr (.ref D) en = (do
    standAt ib.pos
    match ← pyNext itr with
    | none => pure (.done .next)
    | some u =>
      letOwnedTupleGo tb itr u
      assign tb en u
      let mut yes := true
      for f in fb do
        if yes then yes ← isTrue f en (eval f en)
      if yes then put (.ref D) en
      again (.compLoop e 1 itr (.ref D) en))
section
variable {P : Program} {w : World} {A : Around} {R : Result → Shared → Prop} {s : Shared} {e ta ia tb ib : Expr} {fa fb : List Expr} {put : Value → Env → Sem Unit} {itr ac : Value} {en : Env} {D : Addr}
end
noncomputable def txOf (v : Value) : Str := match v with
  | .str k _ => k
  | _ => Str.empty
noncomputable def IsTx (w : World) (p : Int × Value) : Prop := ∃ k tk, p.2 = Value.str k tk ∧ p.1 = hashStr w k
/-- the set at a of the texts L, told with repeats -/
noncomputable def TxSet (w : World) (h : Heap) (a : Addr) (L : List Str) : Prop :=
  ∃ o es ep t, h.get? a = some o ∧ o.ExactSet ∧ o.data = .set es ep t ∧ (∀ p ∈ es.toList, IsTx w p) ∧ (es.toList.map fun p => txOf p.2).Nodup ∧ (∀ k, k ∈ L ↔ k ∈ es.toList.map fun p => txOf p.2) ∧
    es.size ≤ L.length ∧ es.size < scanBound ∧ t.fits es.size = true ∧ Ris t.place.toList ∧ (w.params.followText "set-order" = true ∨ t.led = true)
section
variable {P : Program} {w : World} {h h' : Heap} {a : Addr} {L : List Str}
end
end Pan
namespace Pan
open PySem PySem.Spec PyProof.Rows L2
structure OwnEx (K : PySem.W.Frag) (C : Addr) (B nid iid : String) (bm : List Value) : Prop where
  base : ExcBaseFacts B nid iid bm
  put : StoreFacts B bm "object.__setattr__" "object"
  some' : bm.isEmpty = false
  obj : bm.contains (.type "object") = true
  cls : ∃ nm q N bs sn sub ab col dd k0 k1 k2 k3 k5, K.lookup C = some (excClassObj nm q C N bs bm true sn sub ab col dd k0 k1 k2 k3 k5 nid)
  sa : PySem.W.findIn K (.ref C) "__setattr__" = some (some (.builtin "object.__setattr__"))
  exC : PySem.W.subIn K (.ref C) (.type "BaseException") = some true
  tyC : PySem.W.typeIn K (.ref C) = some (.type "type")
  kC : PySem.W.keepIn K (.ref C) = true
section
open Builtin Builtin.ObjectAttr
variable {prog : Program} {w : World} {A : Around} {R : Result → Shared → Prop} {hp : Heap} {g : Array GenState} {d : PySem.Drawn} {t : Nat} {os : OsState}
/-- the first field of one that has no dict as yet -/
theorem first_field {K : PySem.W.Frag} {bm : List Value} {name : Str} {tk : Tok} {v : Value} {x C : Addr} {fv : Array Value} {cd : ClassData} (hn : bm.isEmpty = false) (hob : bm.contains (.type "object") = true) (hpass : ∀ self : Value, refuseLoop self "__setattr__" bm = pure ())
    (X : K.In hp) (hx : hp.get? x = some { cls := .ref C, data := .fields fv }) (hcd : PySem.W.clsIn K C = some cd) (hm : cd.mro = .ref C :: bm)
    (hh : cd.hasDict = true) (ha : PySem.W.findIn K (.ref C) name = some none)
    (hq : ∀ h' tk' dx, (∀ b o, b ≠ x → hp.get? b = some o → h'.get? b = some o) → hp.objs.size ≤ dx → dx ≠ x → h'.get? x = some { cls := .ref C, dict := some dx, data := .fields fv } → h'.Ns1 dx (fun y => if y = name then some v else none) → R (.ok (.ret .none)) ⟨h', g, d, tk', os⟩) :
    codeAny (model prog w) A (.call (.builtin "object.__setattr__") ⟨[.ref x, .str name tk, v], []⟩) R ⟨hp, g, d, t, os⟩ := by
  have at_x : PySem.W.InstAt hp x { cls := .ref C, data := .fields fv } C none := ⟨hx, rfl, rfl, trivial⟩
  have sf := PySem.F.store_object
  have apart : x ≠ hp.objs.size := Nat.ne_of_lt (Heap.lt_size hx)
  have in_mro : cd.mro.contains (.type "object") = true := by
    rw [hm, List.contains_cons, hob, Bool.or_true]
  have no_nil : ¬ cd.mro.isEmpty = true := by
    rw [hm]
    exact Bool.false_ne_true
  have is_obj : PySem.W.Looks (model prog w) hp (isInstance (.ref x) (.type "object")) true :=
    at_x.type.andThen (PySem.W.looks_mroIn X (by
      unfold PySem.W.mroIn
      rw [hcd, Option.bind_some, if_neg no_nil, in_mro]))
  refine codeAny_call_builtin sf.slot.plain sf.entry ?_
  refine @PySem.W.check_slot (model prog w) _ _ ⟨hp, g, d, t, os⟩ "object.__setattr__" "object" "__setattr__" (.ref x) [.str name tk, v] [] _ sf.kind sf.split is_obj (sf.args (.ref x) (.str name tk) v) ?_
  have mro_of : PySem.W.Looks (model prog w) hp (mroOf (.ref C)) cd.mro := (PySem.W.looks_clsIn X hcd).andThen .now
  have no_taker : PySem.W.Looks (model prog w) hp (storeTaker? none) none := .now
  have data_of : PySem.W.Looks (model prog w) hp (classData C) cd := PySem.W.looks_clsIn X hcd
  rw [PySem.W.osa_eq, refuse_eq]
  refine wpAny_bind (wpAny_bind (at_x.type.at (wpAny_bind (mro_of.at ?_))))
  rw [hm, refuseLoop_ref, hpass]
  refine wpAny_pure (wpAny_bind (at_x.type.at ?_))
  refine wpAny_bind ((PySem.W.looks_findIn X ha).at (wpAny_bind (no_taker.at ?_)))
  show wpAny _ _ (storeInOwnDict (.ref x) (.ref C) (.str name tk) name v false) _ _ _
  obtain ⟨c1, c2, c3, c4, c5, c6, c7, c8, c9, c10, c11⟩ := cd
  dsimp only at hh
  subst hh
  unfold storeInOwnDict ownDictForStores
  repeat (first
    | with_reducible refine PySem.HandSPX.store_in_new ?_ ?_
    | with_reducible refine wpAny_loadPart_at hx ?_
    | with_reducible refine data_of.at ?_
    | wp_step)
  · refine ⟨_, #[], _, (Heap.get?_update_ne _ _ _ _ apart.symm).trans (Heap.get?_push_at rfl rfl), rfl, ?_, fun _ => rfl⟩
    exact fun e he => absurd he (by simp)
  · intro h' tk' hn' hs
    have there := Heap.get?_push_of_some (h := hp) { cls := .type "dict", data := .dict #[] } hx
    refine hq h' tk' hp.objs.size (fun b o hb ho => ?_) (Nat.le_refl _) apart.symm ?_ hn'
    · have nb := Nat.ne_of_lt (Heap.lt_size ho)
      rw [hs.2 b nb, Heap.get?_update_ne _ _ _ _ hb]
      exact Heap.get?_push_of_some _ ho
    · rw [hs.2 x apart]
      exact Heap.get?_update_self _ there rfl
end
section
variable {X : Cx} {pins : List (Addr × Obj)} {σ : L2.St} {H : Hp} {s : Shared} {a C : Addr} {B nid iid : String} {bm : List Value} {f : Str} {y : V} {u : Value}
theorem OwnEx.data (T : OwnEx X.K C B nid iid bm) : ∃ cd : ClassData, PySem.W.clsIn X.K C = some cd ∧ cd.mro = .ref C :: bm ∧ cd.hasDict = true := by
  obtain ⟨nm, q, N, bs, sn, sub, ab, col, dd, k0, k1, k2, k3, k5, hC⟩ := T.cls
  refine ⟨{ name := nm
            bases := bs
            mro := .ref C :: bm
            ns := N
            qualname := q
            hasDict := true
            slotNames := sn
            subclasses := sub
            abstract := ab
            collection := col
            hasDel := false }, ?_, rfl, rfl⟩
  unfold PySem.W.clsIn
  rw [hC] <;> rfl
/-- self.f = y, the first field -/
theorem OwnEx.store {Q : Unit → Shared → Prop} {E : Value → Shared → Prop} {A : Around} (T : OwnEx X.K C B nid iid bm) (I : Inv X pins σ H s) (e : H a = some (exo a C none))
    (hno : PySem.W.findIn X.K (.ref C) f = some none) (ry : RelV y u)
    (h : ∀ dx s', H dx = none → dx ≠ a → Inv X pins σ (upd (upd H dx (exd dx [(f, y)])) a (exo a C (some dx))) s' → Q () s') :
    wpAny (model X.prog X.w) A (setAttr (.ref a) f u) Q E s := by
  obtain ⟨cd, hcd, hm, hh⟩ := T.data
  obtain ⟨t1, ho⟩ := exo_at I.hok e
  obtain ⟨hp, g, d, t, os⟩ := s
  have inst : PySem.W.InstAt hp a { cls := .ref C, dict := none, data := .fields #[.ref t1, .none, .none, .none, .bool false, .none] } C none := ⟨ho, rfl, rfl, trivial⟩
  refine PySem.W.set_plain I.kIn inst T.sa ?_
  refine first_field T.some' T.obj T.put.passes I.kIn ho hcd hm hh hno fun h' tk' dx k dn dne hx hn => ?_
  have free_dx : H dx = none := I.hok.fresh dn
  have old_ne : ∀ {b : Addr} {o : Obj}, hp.get? b = some o → b ≠ dx := fun {b o} q =>
    Nat.ne_of_lt (Nat.lt_of_lt_of_le (Heap.lt_size q) dn)
  have none_ne : ∀ {b : Addr}, H b = none → b ≠ a := fun {b} n z => by
    rw [z] at n
    exact nomatch e.symm.trans n
  have seen : ∀ {b : Addr} {o : HO}, H b = some o → (∀ z, o ≠ exo a C z) → upd (upd H dx (exd dx [(f, y)])) a (exo a C (some dx)) b = some o := fun {b o} q nz => by
    have b1 : b ≠ a := fun z => nz none (Option.some.inj (by rw [← q, z]; exact e))
    rw [upd_ne b1, upd_ne (ne_of_none q free_dx)]
    exact q
  refine h dx _ free_dx dne (I.un (t' := tk') ?_ fun b o q => ?_)
  · exact
      { keep := fun b o q n _ _ => k b o (none_ne n) q
        slot := fun b o q n _ _ => ⟨o.slots, by
          have := k b o (none_ne n) q
          exact this⟩
        free := fun b o q n _ => by
          rw [upd_ne (none_ne n)]
          rw [upd_ne (old_ne q)]
          exact n
        there := fun b o q _ => by
          rcases Decidable.em (b = a) with hb | hb
          · subst hb
            exact ⟨_, hx⟩
          · exact ⟨_, k b o hb q⟩
        tups := fun b xs q => seen q fun z w => exo_tup w.symm
        frzs := fun b o v q => seen q fun z w => exo_frz w.symm
        tbls := fun b ps q => ⟨#[], by
          rw [seen q fun z w => exo_tbl w.symm]
          simp⟩ }
  · rcases Decidable.em (b = a) with hb | hb
    · subst hb
      rw [upd_same] at q
      cases q
      exact exo_ok hx
    · rw [upd_ne hb] at q
      rcases Decidable.em (b = dx) with hd | hd
      · subst hd
        rw [upd_same] at q
        cases q
        exact exd_ok hn (relO_put (fs := []) ry fun _ => True.intro)
      · rw [upd_ne hd] at q
        refine (I.hok b o q).stay (fun c v hc z => k c v ?_ z) (fun c hc => seen hc fun z w => exo_own w.symm) fun c xs hc => seen hc fun z w => exo_tup w.symm
        rcases hc with hc | hc
        · rw [hc]
          exact hb
        · exact L2.at_ne e hc exo_own
/-- self.f = e as a statement -/
noncomputable def tFldX (K : PySem.W.Frag) (f : Str) (to te : TE) : TS := fun D σ H => te σ H fun y H1 => to σ H1 fun x H2 => ∃ (a C : Addr) (B nid iid : String) (bm : List Value), x = .ref a ∧ OwnEx K C B nid iid bm ∧ PySem.W.findIn K (.ref C) f = some none ∧
  H2 a = some (exo a C none) ∧ ∀ dx, H2 dx = none → dx ≠ a → D.nx σ (upd (upd H2 dx (exd dx [(f, y)])) a (exo a C (some dx)))
theorem ps_fld {o e : Expr} {to te : TE} {p' pos : Pos} (ho : PE X o to) (he : PE X e te) (hs : swapsWith e (some (.Attribute o f p')) pos.line X.env = pure false := by rfl) : PS X (.Assign [.Attribute o f p'] e pos) (tFldX X.K f to te) :=
  ⟨fun pins s σ H D I h => plainObj_wpAny_Assign_Attribute (thn (he.run pins s σ H _ I h) fun v s1 ⟨y, H1, I1, r1, q1⟩ =>
    thn (ho.run pins s1 σ H1 _ I1 q1) fun u s2 ⟨x, H2, I2, r2, a, C, B, nid, iid, bm, ex, T, hno, ea, q⟩ => by
      subst ex
      obtain rfl : u = Value.ref a := r2
      exact T.store I2 ea hno r1 fun dx s' n ne J => ⟨σ, _, J, q dx n ne⟩) hs⟩
end
noncomputable def isTyV : Value → Bool
  | .type _ => true
  | _ => false
/-- the class x of the text, right over the builtin B, with an __init__(self, what) -/
noncomputable def nmO (o : Obj) : Str := match o.data with
  | .cls cd => cd.name
  | _ => ""
structure ExF (K : PySem.W.Frag) (x : Str) (C fI : Addr) (B nid iid : String) (bm : List Value) : Prop where
  nm : PySem.W.nsIn K mainGlobals x = some (some (.ref C))
  own : OwnEx K C B nid iid bm
  ty : bm.all isTyV = true
  ini : PySem.W.findIn K (.ref C) "__init__" = some (some (.ref fI))
  tI : PySem.W.typeIn K (.ref fI) = some (.type "function")
  what : PySem.W.findIn K (.ref C) "what" = some none
  ga : PySem.W.findIn K (.ref C) "__getattribute__" = some (some (.builtin "BaseException.__getattribute__"))
  gt : PySem.W.findIn K (.ref C) "__getattr__" = some none
  ca : PySem.W.findIn K (.ref C) "__class__" = some (some (.builtin "object.__class__"))
  cg : PySem.W.specialIn K (.builtin "object.__class__") "__get__" = some (some (.builtin "getset_descriptor.__get__"))
  ct : PySem.W.takesIn K (.builtin "object.__class__") = some true
  no : ∃ o, K.lookup C = some o ∧ nmO o = x
/-- the class named x stands at C -/
noncomputable def NmC (K : PySem.W.Frag) (x : Str) (C : Addr) : Prop := PySem.W.nsIn K mainGlobals x = some (some (.ref C))
theorem NmC.eq {K : PySem.W.Frag} {x : Str} {C D : Addr} (a : NmC K x C) (b : NmC K x D) : C = D := by
  have h := (show PySem.W.nsIn K mainGlobals x = some (some (.ref C)) from a).symm.trans b
  exact Value.ref.inj (Option.some.inj (Option.some.inj h))
/-- __init__(self, what): self.what = what -/
noncomputable def spInit (K : PySem.W.Frag) : Sp := fun vs H Q _ => ∃ (a C : Addr) (B nid iid : String) (bm : List Value) (y : V), vs = [.ref a, y] ∧ OwnEx K C B nid iid bm ∧ PySem.W.findIn K (.ref C) "what" = some none ∧ H a = some (exo a C none) ∧
  ∀ dx : Addr, H dx = none → dx ≠ a → Q .non (upd (upd H dx (exd dx [("what", y)])) a (exo a C (some dx)))
noncomputable def ExK (P : Program) (w : World) (K : PySem.W.Frag) (mg : Str → Option Value) (base : Heap) (x : Str) (B : String) : Prop :=
  ∃ (C fI : Addr) (nid iid : String) (bm : List Value) (fd : FuncData), ExF K x C fI B nid iid bm ∧ mg x = some (.ref C) ∧ FnOk P w K mg base CX0 1 fI fd ["self", "what"] (spInit K) ∧ Binds K fd ["self", "what"] []
theorem OwnEx.subs {K : PySem.W.Frag} {C : Addr} {B nid iid : String} {bm : List Value} (T : OwnEx K C B nid iid bm) (c : Value) : PySem.W.subIn K (.ref C) c = some ((Value.ref C :: bm).contains c) := by
  obtain ⟨nm, q, N, bs, sn, sub, ab, col, dd, k0, k1, k2, k3, k5, hC⟩ := T.cls
  show PySem.W.mroIn K C c = _
  unfold PySem.W.mroIn PySem.W.clsIn
  rw [hC]
  rfl
theorem OwnEx.clsS {K : PySem.W.Frag} {C : Addr} {B nid iid : String} {bm : List Value} (T : OwnEx K C B nid iid bm) : (PySem.W.clsIn K C).isSome = true ∧ PySem.W.hasDictIn K C = true := by
  obtain ⟨nm, q, N, bs, sn, sub, ab, col, dd, k0, k1, k2, k3, k5, hC⟩ := T.cls
  unfold PySem.W.hasDictIn PySem.W.clsIn
  rw [hC]
  exact ⟨rfl, rfl⟩
theorem tys_ref {bm : List Value} (h : bm.all isTyV = true) (c : Addr) : bm.contains (.ref c) = false := by
  cases e : bm.contains (Value.ref c) with
  | false => rfl
  | true =>
    have m := List.contains_iff_mem.mp e
    have := List.all_eq_true.mp h _ m
    cases this
/-- a class of the text, whatever its name -/
noncomputable def ExC1 (K : PySem.W.Frag) (C : Addr) : Prop := ∃ (x : Str) (fI : Addr) (B nid iid : String) (bm : List Value), ExF K x C fI B nid iid bm
theorem ExF.c1 {K : PySem.W.Frag} {x : Str} {C fI : Addr} {B nid iid : String} {bm : List Value} (F : ExF K x C fI B nid iid bm) : ExC1 K C := ⟨_, _, _, _, _, _, F⟩
theorem ExC1.sub {K : PySem.W.Frag} {C D : Addr} (a : ExC1 K C) : PySem.W.subIn K (.ref C) (.ref D) = some (decide (C = D)) := by
  obtain ⟨x, fI, B, nid, iid, bm, F⟩ := a
  rw [F.own.subs, List.contains_cons, tys_ref F.ty, Bool.or_false]
  congr 1
  by_cases h : C = D
  · rw [h]
    simp
  · have : (Value.ref D == Value.ref C) = false := by
      refine Bool.eq_false_iff.mpr fun z => h ?_
      exact (Value.ref.inj (beq_iff_eq.mp z)).symm
    rw [this, decide_eq_false h]
theorem ExC1.exm {K : PySem.W.Frag} {C D : Addr} (a : ExC1 K C) (b : ExC1 K D) : PySem.W.exmOne K (.ref C) (.ref D) = some (decide (C = D)) := by
  have h4 := a.sub (D := D)
  obtain ⟨x, fI, B, nid, iid, bm, F⟩ := b
  have e1 : (PySem.W.subIn K (.ref D) (.type "BaseException") == some true) = true := by rw [F.own.exC] <;> rfl
  have e2 : ((PySem.W.clsIn K D).isSome && PySem.W.typeIn K (.ref D) == some (.type "type")) = true := by rw [F.own.clsS.1, F.own.tyC] <;> rfl
  show (if (PySem.W.subIn K (.ref D) (.type "BaseException") == some true) = true then (if ((PySem.W.clsIn K D).isSome && PySem.W.typeIn K (.ref D) == some (.type "type")) = true then PySem.W.subIn K (.ref C) (.ref D) else none) else none) = _
  rw [if_pos e1, if_pos e2]
  exact h4
/-- C(y) in a raise: its dict holds what = y -/
noncomputable def tRz (K : PySem.W.Frag) (x : Str) (ta : TA) : L2.St → Hp → XK → Prop := fun σ H Q => ta σ H fun vs H1 => ∃ y, vs = [y] ∧ ∀ (C d : Addr), NmC K x C → H1 d = none → Q (.ref C) (some d) (upd H1 d (.xd [("what", y)]))
section
variable {X : Cx} {x : Str} {B : String} {e : Expr} {es : List Expr} {ta : TA} {p pos : Pos}
theorem pmk_ex (h : ExK X.prog X.w X.K X.mg X.base x B) (hr : Room 2 X.A) (hg : Gl X x) (ha : PA X (e :: es) ta)
    (hdb : (x == ("__debug__" : Str)) = false := by decide) (he : starEach (e :: es) X.env = (false, eval e X.env) :: starEach es X.env := by rfl) (hpl : (backTo pos (starEach es X.env)).any (·.1) = false := by rfl) :
    PMk X (.Call (.Name x p) (e :: es) [] pos) (tRz X.K x ta) := by
  obtain ⟨C, fI, nid, iid, bm, fd, F, hm, F1, hb⟩ := h
  have T := F.own
  intro pins s σ H Q I h
  obtain ⟨nm, q, N, bs, sn, sub, ab, col, dd, k0, k1, k2, k3, k5, hC⟩ := T.cls
  refine wpAny_Call_Name_kw (ld_glob I hg hm ?_ hdb)
  refine PySem.W.callWith_K (h₀ := X.base) I.ok.mod.kin T.kC (thn (ha.run pos pins s σ H _ I h) fun us s1 ⟨vs, H1, I1, r1, y, ev, q1⟩ => ⟨I1.kIn, ?_⟩) he hpl
  subst ev
  show wpAny _ _ (call (.ref C) us) _ _ _
  obtain ⟨hp, g, dr, tk, os⟩ := s1
  have hsz : hp.objs.size ≤ hp.objs.size + 1 := Nat.le_succ _
  have hn : H1 (hp.objs.size + 1) = none := I1.hok.fresh hsz
  have kk : ∀ b o, hp.get? b = some o → ((hp.push (PySem.W.kdv_tup us)).push (PySem.HandSPX.excO C hp.objs.size)).get? b = some o := fun b o e => Heap.get?_push_of_some _ (Heap.get?_push_of_some _ e)
  have hget : ((hp.push (PySem.W.kdv_tup us)).push (PySem.HandSPX.excO C hp.objs.size)).get? (hp.objs.size + 1) = some (PySem.HandSPX.excO C hp.objs.size) := by heap_get
  have I2 : Inv X pins σ (upd H1 (hp.objs.size + 1) (exo (hp.objs.size + 1) C none)) ⟨(hp.push (PySem.W.kdv_tup us)).push (PySem.HandSPX.excO C hp.objs.size), g, dr, tk, os⟩ :=
    I1.laid (t' := tk) (a := hp.objs.size + 1) (o := exo (hp.objs.size + 1) C none) (h' := (hp.push (PySem.W.kdv_tup us)).push (PySem.HandSPX.excO C hp.objs.size)) kk hsz (exo_ok hget)
  have r2 : Vals [V.ref (hp.objs.size + 1), y] (Value.ref (hp.objs.size + 1) :: us) := .cons rfl r1
  have hul : us.length = 1 := by rw [← r1.length]; rfl
  have hus : us.length ≤ sizeLine := by
    rw [hul, sizeLine_eq]
    omega
  have hl : ((Value.ref (hp.objs.size + 1) :: us) ++ ([] : List Value)).length = ["self", "what"].length := by
    rw [List.append_nil, List.length_cons, hul]
    rfl
  have bz := hb _ (Value.ref (hp.objs.size + 1) :: us) I2.kIn hl
  rw [List.append_nil] at bz
  refine wpAny_call (PySem.HandSPX.call_own T.base (fun Y => rfl) (I1.kIn _ _ hC) (PySem.W.looks_findIn I1.kIn F.ini) (fun self => PySem.W.bind_fn I1.kIn self F.tI) hus
    (codeAny_mono (F1.run _ X.stack _ _ ⟨Value.ref (hp.objs.size + 1) :: us, []⟩ (Value.ref (hp.objs.size + 1) :: us) _ (fun v H2 => v = .non ∧ ∃ d : Addr, H1 d = none ∧ d ≠ hp.objs.size + 1 ∧ H2 = upd (upd (upd H1 (hp.objs.size + 1) (exo (hp.objs.size + 1) C none)) d (exd d [("what", y)])) (hp.objs.size + 1) (exo (hp.objs.size + 1) C (some d))) (fun _ _ _ => False) (hr.make C us []) (I2.env0.make C us []) bz r2
      ⟨hp.objs.size + 1, C, B, nid, iid, bm, y, rfl, T, F.what, upd_same, fun dx hdx ne => ⟨rfl, dx, by rw [upd_ne ne] at hdx; exact hdx, ne, rfl⟩⟩) fun r s' hq' => ?_))
  cases r with
  | error er => exact (show False from hq').elim
  | ok fl =>
    cases fl with
    | ret u =>
      obtain ⟨v, H2, os2, bare2, un2, hok2, rv, ev, d, hd1, ne, eH⟩ := hq'
      subst ev
      obtain ⟨h2, g2, d2, t2, os'⟩ := s'
      have ea : H2 (hp.objs.size + 1) = some (exo (hp.objs.size + 1) C (some d)) := by rw [eH, upd_same]
      have ed : H2 d = some (exd d [("what", y)]) := by rw [eH, upd_ne ne, upd_same]
      have ef : upd (del H2 (hp.objs.size + 1)) d (.xd [("what", y)]) = upd H1 d (.xd [("what", y)]) := by
        funext b
        by_cases hbd : b = d
        · rw [hbd, upd_same, upd_same]
        · rw [upd_ne hbd, upd_ne hbd]
          by_cases hba : b = hp.objs.size + 1
          · rw [hba, del_same, hn]
          · rw [del_ne hba, eH, upd_ne hba, upd_ne hbd, upd_ne hba]
      exact ⟨rv, mk_end (raises_own T.exC T.tyC) I1 hsz kk un2 hok2 os2 bare2 ea ed hd1 (by rw [ef]; exact q1 C d F.nm hd1)⟩
    | next => exact False.elim hq'
    | brk => exact False.elim hq'
    | cont => exact False.elim hq'
/-- raise C(y) -/
theorem ps_raiseK {W : WX} {pos' : Pos} (h : ExK X.prog X.w X.K X.mg X.base x B) (hr : Room 2 X.A) (hc : X.calm = true) (tk : Takes X W) (hg : Gl X x) (ha : PA X (e :: es) ta)
    (hdb : (x == ("__debug__" : Str)) = false := by decide) (he : starEach (e :: es) X.env = (false, eval e X.env) :: starEach es X.env := by rfl) (hpl : (backTo pos (starEach es X.env)).any (·.1) = false := by rfl) :
    PS X (.Raise (some (.Call (.Name x p) (e :: es) [] pos)) none pos') (fun _ σ H => tRz X.K x ta σ H fun cls d H' => W cls d σ H') := ps_raise hc tk (pmk_ex h hr hg ha hdb he hpl)
end
section
variable {P : Program} {w : World} {K : PySem.W.Frag} {mg : Str → Option Value} {base : Heap}
theorem okX_mk {x ql : Str} {st : Stmt} {f : Addr} {fd : FuncData} {N ps : List Str} {k : Nat} {sp : Sp} (F : Fun K x ql st f fd) (S : FnScope N ps (defScope st)) (len : ∀ vs H Q E, sp vs H Q E → vs.length = ps.length)
    (bodyOk : ∀ (cdv : Value) (A : Around) (outer : List Env) (s : Shared) (H : Hp) (vs : List V) (Q : VK) (E : XK), Room k (A.deeper (envOfC ql (defScope st) s.heap.objs.size f cdv)) →
      Takes (cxOf (L2.CX P w) P w K mg base N ql (defScope st) f cdv A outer s H E) (fun cls d _ H' => E cls d H') →
      PassesOwn (model P w) (cxOf (L2.CX P w) P w K mg base N ql (defScope st) f cdv A outer s H E).A (cxOf (L2.CX P w) P w K mg base N ql (defScope st) f cdv A outer s H E).env (cxOf (L2.CX P w) P w K mg base N ql (defScope st) f cdv A outer s H E).xe → sp vs H Q E →
      ∃ t, PSs (cxOf (L2.CX P w) P w K mg base N ql (defScope st) f cdv A outer s H E) (defBody st) t ∧ t { nx := fun _ H' => Q .non H', rt := Q } (L2.start N vs) H) : FnOk P w K mg base (L2.CX P w) (k + 1) f fd ps sp := by
  obtain ⟨oc, od, kV, doc, pm, an, cdv, ct, osl, rfl, lk, hcd⟩ := F.ex
  refine fn_of lk hcd S len fun A outer s H vs Q E hr hsp => ?_
  exact bodyOk cdv A outer s H vs Q E hr (takes_of rfl rfl rfl rfl) (passes_of rfl) hsp
end
noncomputable def KnX (P : Program) (w : World) (K : PySem.W.Frag) (mg : Str → Option Value) (base : Heap) (x : Str) (ps : List Str) (k : Nat) (sp : Sp) : Prop :=
  ∃ (f : Addr) (fd : FuncData), FnOk P w K mg base (L2.CX P w) k f fd ps sp ∧ mg x = some (.ref f) ∧ PySem.W.keepIn K (.ref f) = true ∧ Binds K fd ps []
theorem KnX.mk {P : Program} {w : World} {K : PySem.W.Frag} {mg : Str → Option Value} {base : Heap} {x : Str} {st : Stmt} {ps : List Str} {k : Nat} {sp : Sp} {f : Addr} {fd : FuncData} (F : Fun K x x st f fd) (m : mg x = some (.ref f)) (b : Binds K fd ps [])
    (ok : FnOk P w K mg base (L2.CX P w) k f fd ps sp) : KnX P w K mg base x ps k sp := ⟨f, fd, ok, m, F.kp, b⟩
theorem pe_ownX {X : Cx} {W : WX} {x : Str} {ps : List Str} {k : Nat} {sp : Sp} {e : Expr} {es : List Expr} {t : TA} {p pos : Pos} (h : KnX X.prog X.w X.K X.mg X.base x ps k sp) (hr : Room k X.A) (tk : Takes X W) (hg : Gl X x) (ha : PA X (e :: es) t)
    (hdb : (x == ("__debug__" : Str)) = false := by decide) (he : starEach (e :: es) X.env = (false, eval e X.env) :: starEach es X.env := by rfl) (hpl : (backTo pos (starEach es X.env)).any (·.1) = false := by rfl) :
    PE X (.Call (.Name x p) (e :: es) [] pos) (L2.tCallS sp (WE W) t) := by
  obtain ⟨f, fd, F, m, kp, b⟩ := h
  exact pe_callS F hr hg m kp b (passAt tk) ha hdb he hpl
/-- no exception is told of -/
theorem takes0 {X : Cx} : Takes X (fun _ _ _ _ => False) := takes_none5
/-- given by names, all of them -/
noncomputable def KnKX (P : Program) (w : World) (K : PySem.W.Frag) (mg : Str → Option Value) (base : Heap) (x : Str) (ps : List Str) (k : Nat) (sp : Sp) (n : Nat) (ks : List Str) (perm : List Nat) : Prop :=
  ∃ (f : Addr) (fd : FuncData), FnOk P w K mg base (L2.CX P w) k f fd ps sp ∧ mg x = some (.ref f) ∧ PySem.W.keepIn K (.ref f) = true ∧ KBn K fd ps n ks (pgk .none perm) (pgk .non perm)
theorem KnKX.mk {P : Program} {w : World} {K : PySem.W.Frag} {mg : Str → Option Value} {base : Heap} {x : Str} {st : Stmt} {ps ks : List Str} {k n : Nat} {perm : List Nat} {sp : Sp} {f : Addr} {fd : FuncData} (F : Fun K x x st f fd) (m : mg x = some (.ref f))
    (h : ∀ (kV doc pm : Value) (an : Option Addr) (cdv ct : Value) (us ws : List Value), us.length = n → ws.length = ks.length → bindArgs (PySem.W.fnOf x x (defArgs st) (defBody st) (defScope st) .none kV doc pm an cdv ct) ⟨us, ks.zip ws⟩ = pure (ps.zip (pgk .none perm us ws)))
    (ok : FnOk P w K mg base (L2.CX P w) k f fd ps sp) : KnKX P w K mg base x ps k sp n ks perm := by
  refine ⟨f, fd, ok, m, F.kp, ⟨?_, ?_⟩⟩
  · obtain ⟨oc, od, kV, doc, pm, an, cdv, ct, osl, rfl, lk, hcd⟩ := F.ex
    exact fun s us ws _ h1 h2 => .of_eq (h kV doc pm an cdv ct us ws h1 h2)
  · exact fun r rz => Vals.append r (relMap rz perm)
noncomputable def exq (a : Addr) (cls : Value) (d : Option Addr) : HO := .ext fun h => ∃ oe vs, h.get? a = some oe ∧ Zc cls d oe ∧ oe.data = .fields vs
theorem exq_ok {P : Program} {w : World} {H : Hp} {h : Heap} {a : Addr} {cls : Value} {d : Option Addr} {oe : Obj} {vs : Array Value} (he : h.get? a = some oe) (hz : Zc cls d oe) (hd : oe.data = .fields vs) : ObjOk P w H h a (exq a cls d) :=
  ⟨⟨oe, vs, he, hz, hd⟩, ⟨_, he⟩, fun h1 h2 ⟨oe, vs, q, r⟩ k => ⟨oe, vs, k _ q, r⟩⟩
theorem exq_at {P : Program} {w : World} {H : Hp} {h : Heap} {a : Addr} {cls : Value} {d : Option Addr} (hok : HOk P w H h) (he : H a = some (exq a cls d)) : ∃ oe vs, h.get? a = some oe ∧ Zc cls d oe ∧ oe.data = .fields vs := by
  have x : ObjOk P w H h a (.ext fun h => ∃ oe vs, h.get? a = some oe ∧ Zc cls d oe ∧ oe.data = .fields vs) := hok a _ he
  exact x.1
section
variable {X : Cx} {pins : List (Addr × Obj)} {σ : L2.St} {H : Hp} {sI s s' : Shared} {B : Heap} {a : Addr} {o : HO}
theorem landedT (I : Inv X pins σ H sI) (nb : ∀ b o, sI.heap.get? b = some o → b ∉ frs X.stack → B.get? b = some o) (st : B.StaysIn s'.heap) (up : sI.heap.UpToSlots s'.heap) (os : s'.os = sI.os) (ag : AllBare s'.gens)
    (na : H a = none) (nB : B.get? a = none) (nfr : a ∉ frs X.stack) (new : ObjOk X.prog X.w (upd H a o) s'.heap a o) : Inv X pins σ (upd H a o) s' := by
  have nf : ∀ b ∈ frs X.stack, ∀ o, sI.heap.get? b = some o → ∃ sl, s'.heap.get? b = some { o with slots := sl } := fun b hb o e => by
    obtain ⟨_, o', e', hd⟩ := I.stack.mem hb
    rw [e] at e'; cases e'
    exact up b o e hd
  have hok : HOk X.prog X.w H s'.heap := (I.inGround nb).kept st
  have J := I.call (ch := []) (h' := s'.heap) (g' := s'.gens) (t' := s'.toks) (d' := s'.drawn) (H' := upd H a o)
    ⟨fun b o e _ hb _ => st b o (nb b o e hb), fun b o e _ hb _ => nf b hb o e, fun b u e n _ => by
      rw [upd_ne (fun z => by
        rw [z] at e
        rw [nb a u e nfr] at nB
        cases nB)]
      exact n, fun b o e _ => by
      by_cases hb : b ∈ frs X.stack
      · obtain ⟨sl, q⟩ := nf b hb o e
        exact ⟨_, q⟩
      · exact ⟨o, st b o (nb b o e hb)⟩, fun b xs e => by rw [upd_ne (ne_of_none e na)]; exact e, fun b u v e => by rw [upd_ne (ne_of_none e na)]; exact e, fun b ps e => ⟨#[], by rw [upd_ne (ne_of_none e na), e]; simp⟩⟩
    (fun b u e => by
      by_cases hb : b = a
      · rw [hb, upd_same] at e
        cases e
        rw [hb]
        exact new
      · rw [upd_ne hb] at e
        exact (hok b u e).stay (fun _ _ _ q => q) (fun c q => by rw [upd_ne (ne_of_none q na)]; exact q) fun c xs q => by rw [upd_ne (ne_of_none q na)]; exact q) ag (fun _ z => nomatch z)
  obtain ⟨a1, a2, a3, a4, a5⟩ := s'
  have e5 : a5 = sI.os := os
  subst e5
  exact J
theorem toSuite {pn : List (Addr × Obj)} (I : Inv X pins σ H s) (a : Addr) : Inv (X.suite a (X.pn ++ pins)) [] σ H s :=
  ⟨I.ok.suite _ _, I.os, I.bare, I.base, I.loc, I.cell, I.free, I.freeC, fun p hp => I.pin p (by rw [List.append_nil] at hp; exact hp), I.hok, I.len⟩
theorem ofSuite {pn' : List (Addr × Obj)} (I : Inv (X.suite a (X.pn ++ pins)) pn' σ H s) (ok : X.Ok) : Inv X pins σ H s :=
  ⟨ok, I.os, I.bare, I.base, I.loc, I.cell, I.free, I.freeC, fun p hp => I.pin p (List.mem_append_left _ hp), I.hok, I.len⟩
end
/-- what flies is no frame -/
theorem fly_nofr {B h : Heap} {l : List Env} {a : Addr} {cls : Value} {d : Option Addr} (f : HandSPX.FlyingZ B l a (Zc cls d) h) : ∃ oe vs, h.get? a = some oe ∧ Zc cls d oe ∧ oe.data = .fields vs ∧ a ∉ frs l := by
  obtain ⟨oe, vs, e, z, dd⟩ := f.there
  refine ⟨oe, vs, e, z, dd, fun hm => ?_⟩
  obtain ⟨_, u, eu, nf⟩ := f.2.2.1.mem hm
  have : oe = u := Option.some.inj (e.symm.trans eu)
  exact nf vs (this ▸ dd)
/-- behind a try's body that ran through -/
theorem sp_untry {X : Cx} {pz : List (Addr × Obj)} {xe : Value → Shared → Prop} {D : Ends} {f : Flow} {s1 : Shared} (ok : X.Ok) (h : SP (X.tr (X.pn ++ pz) xe) [] D f s1) : SP X pz D f s1 := by
  cases f with
  | ret u =>
    obtain ⟨v, σ1, H1, J, r, q⟩ := h
    exact ⟨v, σ1, H1, Inv.ofTry J ok, r, q⟩
  | _ =>
    obtain ⟨σ1, H1, J, q⟩ := h
    exact ⟨σ1, H1, Inv.ofTry J ok, q⟩
/-- behind an except suite: the clause's name goes -/
theorem sp_unsuite {X : Cx} {pz : List (Addr × Obj)} {a : Addr} {D : Ends} {f : Flow} {s1 : Shared} {i : Nat} {n : Str} {cp : Pos} {M : Model} (ok : X.Ok) (hN : X.N.Nodup) (hi : X.N[i]? = some n) (hln : X.env.kindOf n = some .local)
    (h : SP (X.suite a (X.pn ++ pz)) [] { nx := fun σ1 H1 => D.nx (σ1.set i none) H1, rt := D.rt, bk := fun σ1 H1 => D.bk (σ1.set i none) H1, ct := fun σ1 H1 => D.ct (σ1.set i none) H1 } f s1) :
    wpAny M X.A (do bindName X.env n .none; unbindBehindTheSuite X.env n cp) (fun _ s2 => SP X pz D f s2) X.xe s1 := by
  cases f with
  | ret u =>
    obtain ⟨v, σ1, H1, J, r, q⟩ := h
    exact gone_ok (ofSuite J ok) hN hi hln fun s2 J2 => ⟨v, _, H1, J2, r, q⟩
  | _ =>
    obtain ⟨σ1, H1, J, q⟩ := h
    exact gone_ok (ofSuite J ok) hN hi hln fun s2 J2 => ⟨_, H1, J2, q⟩
theorem exq_inst {P : Program} {w : World} {K : PySem.W.Frag} {H : Hp} {h : Heap} {a C d : Addr} {fs : List (Str × V)} (hok : HOk P w H h) (he : H a = some (exq a (.ref C) (some d))) (hd : H d = some (.xd fs)) : ∃ ox od, PySem.W.InstAt h a ox C (some od) := by
  obtain ⟨oe, vs, e, hz, dd⟩ := exq_at hok he
  have hx : ObjOk P w H h d (.xd fs) := hok d _ hd
  obtain ⟨mA, ⟨o, es, ep, e2, e3, _⟩, hr⟩ := hx
  exact ⟨oe, o, e, hz.1, by unfold PySem.W.notCls; rw [dd] <;> rfl, by rw [hz.2]; exact e2⟩
noncomputable def kInst (a C : Addr) (h : Heap) : Prop := ∃ ox od, PySem.W.InstAt h a ox C (some od)
theorem kitx_ex {K : PySem.W.Frag} {a C : Addr} (x : ExC1 K C) : PySem.W.KitX K (.ref a) (.ref C) (kInst a C) := by
  obtain ⟨nm, fI, B, nid, iid, bm, F⟩ := x
  have z : ∀ ox od, PySem.W.KitX K (.ref a) (.ref C) (fun h => PySem.W.InstAt h a ox C od) := fun ox od => PySem.W.kitx_exc F.own.clsS.1 F.ga F.gt F.own.exC F.ca F.cg F.ct (by
    have := F.own.subs (.type "object")
    rw [List.contains_cons, F.own.obj, Bool.or_true] at this
    exact this)
  exact
    { ty := fun M h X ⟨ox, od, p⟩ => (z ox (some od)).ty M h X p
      it := fun M h X ⟨ox, od, p⟩ => (z ox (some od)).it M h X p
      ne := fun h tp dd its n sl X htp => (z { cls := .none, data := .dict #[] } none).ne h tp dd its n sl X htp
      ca := fun X ⟨ox, od, p⟩ q => (z ox (some od)).ca X p q }
/-- isinstance(e, c) of one that is held -/
noncomputable def rIsQ (K : PySem.W.Frag) : List V → Hp → VK → Prop := fun xs H Q => ∃ (a C d : Addr) (fs : List (Str × V)) (c : V) (b : Bool), xs = [.ref a, c] ∧ H a = some (exq a (.ref C) (some d)) ∧ H d = some (.xd fs) ∧ ExC1 K C ∧
  ((∃ D, c = .ref D ∧ PySem.W.kitOne K (.ref C) (.ref D) = some b) ∨ (∃ T, c = .ty T ∧ PySem.W.kitOne K (.ref C) (.type T) = some b) ∨ (∃ (tp : Addr) (Ds : List Addr), c = .ref tp ∧ H tp = some (.tup (Ds.map V.ref)) ∧ PySem.W.kitAny K (.ref C) (Ds.map Value.ref) = some b)) ∧ Q (.bl b) H
theorem refs_vals : ∀ {Ds : List Addr} {us : List Value}, Vals (Ds.map V.ref) us → us = Ds.map Value.ref
  | [], us, h => by
    cases h
    rfl
  | D :: Ds, us, h => by
    have h : Vals (V.ref D :: Ds.map V.ref) us := h
    cases h with
    | @cons _ u0 _ ur ra rw' =>
      obtain rfl : u0 = Value.ref D := ra
      rw [refs_vals rw']
      rfl
theorem isiQ {X : Cx} {K : PySem.W.Frag} (hK : X.K = K := by rfl) : CallR X (.builtin "isinstance") (rIsQ K) := by
  subst hK
  intro pins s σ H xs us Q I r h
  obtain ⟨a, C, d, fs, c, b, rfl, ha, hd, x1, hc, q⟩ := h
  cases r with
  | cons rx rr =>
    cases rr with
    | cons rt rr =>
      cases rr
      cases rx
      have p : kInst a C s.heap := exq_inst (K := X.K) I.hok ha hd
      have fin : ∀ tk, EP X pins σ Q (.bool b) { s with toks := tk } := fun tk => ⟨.bl b, H, I.kept (t' := tk) fun _ _ z => z, rfl, q⟩
      rcases hc with ⟨D, rfl, e⟩ | ⟨T, rfl, e⟩ | ⟨tp, Ds, rfl, et, e⟩
      · cases rt
        exact PySem.W.kia_one (kitx_ex x1) I.kIn p e (fun z => nomatch z) fin
      · cases rt
        exact PySem.W.kia_one (kitx_ex x1) I.kIn p e (fun z => nomatch z) fin
      · cases rt
        have ho : ObjOk X.prog X.w H s.heap tp (.tup (Ds.map V.ref)) := I.hok tp _ et
        obtain ⟨z, its, rv, ob, eo, cc, n, dd⟩ := ho
        have ei := refs_vals rv
        subst ei
        obtain ⟨oc, od, oda, osl⟩ := ob
        dsimp only at cc dd
        subst cc dd
        exact PySem.W.kia_tup (kitx_ex x1) I.kIn p eo e (fun z => nomatch z) fin
/-- e.f of one that is held -/
noncomputable def tHeld (K : PySem.W.Frag) (f : Str) (te : TE) : TE := fun σ H Q => te σ H fun x H1 => ∃ (a C d : Addr) (fs : List (Str × V)) (v : V), x = .ref a ∧ H1 a = some (exq a (.ref C) (some d)) ∧ H1 d = some (.xd fs) ∧ ExC1 K C ∧ PySem.W.findIn K (.ref C) f = some none ∧ fs.lookup f = some v ∧ Q v H1
theorem pe_held {X : Cx} {e : Expr} {te : TE} {pos : Pos} {n : Str} (he : PE X e te) (hb : attributeBase e n X.env (eval e X.env) = eval e X.env := by rfl) : PE X (.Attribute e n pos) (tHeld X.K n te) := by
  refine ⟨fun pins s σ H Q I h => ?_⟩
  refine attr_of hb (thn (he.run pins s σ H _ I h) fun u s1 hh => ?_)
  obtain ⟨x, H1, I1, rx, a, C, d, fs, v, ex, ea, ed, ⟨nm, fI, B, nid, iid, bm, F⟩, hno, l, q⟩ := hh
  subst ex
  obtain rfl : u = Value.ref a := rx
  obtain ⟨oe, vs, ha, hz, hd⟩ := exq_at I1.hok ea
  have hx : ObjOk X.prog X.w H1 s1.heap d (.xd fs) := I1.hok d _ ed
  obtain ⟨mA, hns, hr⟩ := hx
  obtain ⟨od, ho, hl⟩ := lookIn_ns hns
  obtain ⟨u, hu, ru⟩ := RelO.some_of (v := v) (o := mA n) (by rw [← l]; exact hr n)
  have J : PySem.W.InstAt s1.heap a oe C (some od) := ⟨ha, hz.1, by unfold PySem.W.notCls; rw [hd] <;> rfl, by rw [hz.2]; exact ho⟩
  exact HandSPX.exc_get I1.kIn J F.ga F.gt F.own.exC (PySem.W.findObj_own F.own.clsS.2 hno rfl (by rw [hl, hu])) (handed_of ru) ⟨v, H1, I1.tok _, ru, q⟩
noncomputable def clsBody : Stmt → List Stmt
  | .ClassDef (body := b) .. => b
  | _ => []
theorem ok_exInit {P : Program} {w : World} {K : PySem.W.Frag} {mg : Str → Option Value} {base : Heap} {ql : Str} {st : Stmt} {f : Addr} {fd : FuncData} {p1 p2 p3 p4 : Pos} (F : Fun K "__init__" ql st f fd) (S : FnScope ["self", "what"] ["self", "what"] (defScope st))
    (hb : defBody st = [.Assign [.Attribute (.Name "self" p1) "what" p2] (.Name "what" p3) p4]) : FnOk P w K mg base CX0 1 f fd ["self", "what"] (spInit K) := by
  refine F.ok S (fun vs H Q E h => ?_) (fun cdv A outer s H vs Q E hr h => ?_)
  · obtain ⟨a, C, B, nid, iid, bm, y, rfl, _⟩ := h
    rfl
  obtain ⟨a, C, B, nid, iid, bm, y, rfl, T, hw, e, q⟩ := h
  have h0 := S.par "self" (by simp)
  have h1 := S.par "what" (by simp)
  have v0 : Vis (defScope st) "self" := h0.elim .inl fun z => .inr (.inl z)
  have v1 : Vis (defScope st) "what" := h1.elim .inl fun z => .inr (.inl z)
  rw [hb]
  refine ⟨_, pss_one (ps_fld (pe_var (i := 0) rfl v0 (by decide) (by decide)) (pe_var (i := 1) rfl v1 (by decide) (by decide))), ?_⟩
  exact ⟨_, rfl, _, rfl, a, C, B, nid, iid, bm, rfl, T, hw, e, fun dx n ne => q dx n ne⟩
theorem exF_mk {K : PySem.W.Frag} {x : Str} {C FI N : Addr} {B nid iid : String} {bm : List Value} {q : Str} {bs : List Value} {sn : List Str} {sub : List Value} {ab : Bool} {col : Option Bool} {dd : Option Addr} {k0 k1 k2 k3 k5 : Option Value} {od : Option Addr} {fd : FuncData} {osl : Array (Option Value)}
    (F : ExcBaseFacts B nid iid bm) (S : StoreFacts B bm "object.__setattr__" "object") (he : bm.isEmpty = false) (hob : bm.contains (.type "object") = true) (ty : bm.all isTyV = true)
    (cx : PySem.W.nsIn K mainGlobals x = some (some (.ref C))) (cl : K.lookup C = some (excClassObj x q C N bs bm true sn sub ab col dd k0 k1 k2 k3 k5 nid)) (sa : PySem.W.findIn K (.ref C) "__setattr__" = some (some (.builtin "object.__setattr__"))) (kc : PySem.W.keepIn K (.ref C) = true)
    (ini : PySem.W.findIn K (.ref C) "__init__" = some (some (.ref FI))) (lf : K.lookup FI = some ⟨.type "function", od, .func fd, osl⟩) (wh : PySem.W.findIn K (.ref C) "what" = some none)
    (ga : PySem.W.findIn K (.ref C) "__getattribute__" = some (some (.builtin "BaseException.__getattribute__"))) (gt : PySem.W.findIn K (.ref C) "__getattr__" = some none) (ca : PySem.W.findIn K (.ref C) "__class__" = some (some (.builtin "object.__class__")))
    (cg : PySem.W.specialIn K (.builtin "object.__class__") "__get__" = some (some (.builtin "getset_descriptor.__get__"))) (ct : PySem.W.takesIn K (.builtin "object.__class__") = some true) : ExF K x C FI B nid iid bm := by
  have tyC : PySem.W.typeIn K (.ref C) = some (.type "type") := by
    show (K.lookup C).map _ = _
    rw [cl]
    rfl
  have exC : PySem.W.subIn K (.ref C) (.type "BaseException") = some true := by
    show PySem.W.mroIn K C _ = _
    unfold PySem.W.mroIn PySem.W.clsIn
    rw [cl]
    show some ((Value.ref C :: bm).contains (.type "BaseException")) = some true
    rw [List.contains_cons, F.hasBase, Bool.or_true]
  exact ⟨cx, ⟨F, S, he, hob, ⟨_, _, _, _, _, _, _, _, _, _, _, _, _, _, cl⟩, sa, exC, tyC, kc⟩, ty, ini, by
    show (K.lookup FI).map _ = _
    rw [lf]
    rfl, wh, ga, gt, ca, cg, ct, ⟨_, cl, rfl⟩⟩
end Pan
namespace Pan
open PySem PySem.Spec PyProof.Rows L2
noncomputable def wOne (K : PySem.W.Frag) (c : Value) (i : Nat) (ts : TS) (Wout : WX) (D : Ends) : WX := fun cls d σ H =>
  ∃ b, PySem.W.exmOne K cls c = some b ∧ (b = true → ∀ a, H a = none → ts { nx := fun σ' H' => D.nx (σ'.set i none) H', rt := D.rt, bk := fun σ' H' => D.bk (σ'.set i none) H', ct := fun σ' H' => D.ct (σ'.set i none) H' } (σ.set i (some (.ref a))) (upd H a (exq a cls d))) ∧
    (b = false → Wout cls d σ H)
section
variable {X : Cx} {n x : Str} {c : Value} {i : Nat} {body suite : List Stmt} {b₀ : Stmt} {np pos cp : Pos} {tb : WX → TS} {ts : TS} {Wout : WX}
theorem ps_try_one (hs : X.stack = X.env :: X.outer) (hf : X.env.frame = some X.env.locals) (hN : X.N.Nodup) (hi : X.N[i]? = some n) (hln : X.env.kindOf n = some .local) (hc : ∀ a pn, Names (X.suite a pn) x c) (tk : Takes X Wout)
    (hb : ∀ (W : WX) (pn : List (Addr × Obj)) (xe : Value → Shared → Prop), Takes (X.tr pn xe) W → PassesOwn (model X.prog X.w) X.A X.env xe → PSs (X.tr pn xe) body (tb W)) (hsu : ∀ (a : Addr) (pn : List (Addr × Obj)), PSs (X.suite a pn) (b₀ :: suite) ts) :
    PS X (.Try body [.ExceptHandler (some (.Name x np)) (some n) (b₀ :: suite) cp] [] [] pos) (fun D σ H => tb (wOne X.K c i ts Wout D) D σ H) := by
  refine ⟨fun pz s σ H D I h => wpAny_Try_except ?_⟩
  have ok := I.ok
  have fr1 : X.A.frames = some (X.env :: X.outer) := ok.frames.trans (congrArg some hs)
  have catch_ : Takes (X.tr (X.pn ++ pz) fun e s1 => wpAny (model X.prog X.w) X.A (noteFrame e X.env) (fun _ s2 => wpAny (model X.prog X.w) X.A (setFlight e none) (fun _ s3 =>
      wpAny (model X.prog X.w) X.A (handleBy e X.env [.ExceptHandler (some (.Name x np)) (some n) (b₀ :: suite) cp]) (SP X pz D) X.xe s3) X.xe s2) X.xe s1) (wOne X.K c i ts Wout D) := by
    rintro u sE ⟨a, B, sI, pJ, σE, HE, cls, d, rfl, J0, nb, up, sky, na, os, ag, b, hb1, hyes, hno⟩
    have J : Inv X pz σE HE sI := Inv.ofTry J0 ok
    show wpAny (model X.prog X.w) X.A (noteFrame (.ref a) X.env) _ _ _
    refine Sky.land Zc.steady fr1 hf (show Sky B (X.env :: X.outer) a (Zc cls d) X.env.locals sE.heap from hs ▸ sky) fun h3 fl3 up3 => ?_
    have J3 : Inv X pz σE HE { sE with heap := h3 } := J.landed nb fl3.1 (up.trans up3) os ag
    obtain ⟨oe3, vs3, he3, hz3, hd3, nfr3⟩ := fly_nofr fl3
    have nfr : a ∉ frs X.stack := hs ▸ nfr3
    refine wpAny_handleBy_cons (codeAny_handlers_test ?_) (fun q => nomatch q)
    have LT : PySem.W.Looks (model X.prog X.w) h3 (typeOf (.ref a)) cls := fun _ _ _ _ kz q => wpAny_typeOf_ref (kz _ _ he3) (by rw [hz3.1]; exact q)
    have LM := PySem.W.exm_one (M := model X.prog X.w) (J3.kIn) LT hb1
    have test : ∀ {Q : Value → Shared → Prop} {E : Value → Shared → Prop}, Q c { sE with heap := h3 } → wpAny (model X.prog X.w) (X.A.mark (some (.ref a))) (eval (.Name x np) X.env) Q E { sE with heap := h3 } := fun {Q E} q => by
      obtain ⟨hg, hdbg, hm | ⟨hm, hv, hnn⟩⟩ := hc a (X.pn ++ pz)
      · exact ld_glob (X := X.suite a (X.pn ++ pz)) (toSuite (pn := []) J3 a) hg hm q hdbg
      · exact ld_blt (X := X.suite a (X.pn ++ pz)) (toSuite (pn := []) J3 a) hg hm hv q hnn hdbg
    refine test (LM.here ?_)
    cases b with
    | true =>
      refine codeAny_handlers_suite_as (HandSPX.lands_againZ fl3 fun h4 fl4 up4 => ?_)
      obtain ⟨oe4, vs4, he4, hz4, hd4⟩ := fl4.there
      have J4 : Inv X pz σE (upd HE a (exq a cls d)) { sE with heap := h4 } := landedT J nb fl4.1 ((up.trans up3).trans up4) os ag na fl4.2.1 nfr (exq_ok he4 hz4 hd4)
      refine store_ok (X := X.suite a (X.pn ++ pz)) (v := .ref a) (toSuite (pn := []) J4 a) hN hi (.inl hln) rfl (fun s5 S5 => ?_) (.inr hln)
      exact wpAny_mono ((hsu a (X.pn ++ pz)).run [] s5 _ _ _ S5 (hyes rfl a na)) (fun f s6 hsp => sp_unsuite ok hN hi hln hsp) fun _ _ z => z.elim
    | false =>
      refine wpAny_handleBy_nil ?_
      obtain ⟨_, _, _, oe, vs, T, oT, tv, he, _, hd, h1, _⟩ := id fl3
      have up_ : wpAny (model X.prog X.w) X.A (setFlight (.ref a) X.env.frame) (fun _ s4 => wpAny (model X.prog X.w) X.A (throw (.ref a) : Sem Flow) (SP X pz D) X.xe s4) X.xe { sE with heap := h3 } := by
        rw [hf]
        exact HandSPX.setFlight_upZ fl3 fun h4 hh4 up4 => wpAny_throw (tk _ _ ⟨a, B, sI, pz, σE, HE, cls, d, rfl, J, nb, (up.trans up3).trans up4, .inr (.inr (by rw [hs]; exact hh4)), na, os, ag, hno rfl⟩)
      unfold PySem.passOn
      refine wpAny_bind (wpAny_field he hd h1 ?_)
      have nn : ¬ ((Value.ref T == Value.none) = true) := by simp
      rw [if_neg nn]
      first | exact wpAny_bind (wpAny_pure (wpAny_bind up_)) | exact wpAny_bind up_
  refine wpAny_mono ((hb _ (X.pn ++ pz) _ catch_ PassesOwn.looking).run [] s σ H D (I.toTry _) h) (fun f s1 hsp => ?_) (fun _ _ z => z)
  have q := sp_untry ok hsp
  cases f with
  | next => exact wpAny_execs_nil q
  | _ => exact q
end
theorem wone_as {K : PySem.W.Frag} {C d : Addr} {H1 : Hp} {i j : Nat} {σ : L2.St} {D : Ends} (c1 : ExC1 K C) (hi : i < σ.length)
    (h : ∀ ex : Addr, H1 ex = none → D.nx (((σ.set i (some (.ref ex))).set j (some (.ref ex))).set i none) (upd H1 ex (exq ex (.ref C) (some d)))) : wOne K (.ref C) i (tAsg (tVar i) (gName j)) (fun _ _ _ _ => False) D (.ref C) (some d) σ H1 := by
  have e : PySem.W.exmOne K (.ref C) (.ref C) = some true := by
    have := c1.exm c1
    rwa [decide_eq_true rfl] at this
  refine ⟨_, e, fun _ ex nex => ?_, fun z => nomatch z⟩
  refine ⟨_, by rw [List.getElem?_set_self hi], ?_⟩
  exact h ex nex
noncomputable def tNever : TE := fun _ _ _ => False
theorem pe_never {X : Cx} {e : Expr} : PE X e tNever := ⟨fun _ _ _ _ _ _ h => h.elim⟩
section
variable {X : Cx} {o e : Expr} {to te : TE}
theorem mt_stripC : MtR X "str.strip" (fun x xs H Q => ∃ a b, x = .str a ∧ xs = [.str b] ∧ a.length ≤ sizeLine ∧ Q (.str (Txt.stripChars a b)) H) := by
  intro pins s σ H x xs v us Q I rx rs h
  obtain ⟨a, b, rfl, rfl, hz, h⟩ := h
  obtain ⟨t, rfl⟩ := rx
  cases rs with
  | cons r1 rs =>
    cases rs
    obtain ⟨u, rfl⟩ := r1
    exact PySem.SC.stripChars (fun t' k => ⟨.str (Txt.stripChars a b), H, I.tok k, ⟨t', rfl⟩, h⟩) hz
theorem pe_stripC {apos pos : Pos} (ho : PE X o to) (he : PE X e te) (hs : starEach [e] X.env = [(false, eval e X.env)] := by rfl) (hbase : attributeBase o "strip" X.env (eval o X.env) = eval o X.env := by rfl) (hline : (apos.endLine == pos.line) = true := by rfl) :
    PE X (.Call (.Attribute o "strip" apos) [e] [] pos) (tM1 (fun x xs H Q => ∃ a b, x = .str a ∧ xs = [.str b] ∧ a.length ≤ sizeLine ∧ Q (.str (Txt.stripChars a b)) H) to te) :=
  pe_m1 F.slot_str_strip F.type_str_strip mt_stripC ho he hs hbase hline
end
theorem call_strX {X : Cx} : CallR X (.type "str") (fun xs H Q => (∃ i, xs = [.int i] ∧ i.natAbs.log2 < 1920 ∧ Q (.str (toString i)) H) ∨ ∃ a, xs = [.str a] ∧ Q (.str a) H) := by
  intro pins s σ H xs us Q I r h
  rcases h with h | h
  · exact call_str_int pins s σ H xs us Q I r h
  · exact SkE.call_str_str pins s σ H xs us Q I r h
noncomputable def KnV (P : Program) (w : World) (K : PySem.W.Frag) (mg : Str → Option Value) (base : Heap) (k : Nat) (fs : List (Addr × Sp)) : Prop := ∀ f sp, (f, sp) ∈ fs → ∃ (fd : FuncData) (ps : List Str), FnOk P w K mg base CX0 k f fd ps sp ∧ PySem.W.keepIn K (.ref f) = true ∧ Binds K fd ps []
noncomputable def tCallV (fs : List (Addr × Sp)) (to : TE) (t : TA) : TE := fun σ H Q => to σ H fun v H1 => ∃ f sp, v = .ref f ∧ (f, sp) ∈ fs ∧ t σ H1 fun vs H2 => sp (vs ++ []) H2 Q E0
theorem pe_callV {X : Cx} {k : Nat} {fs : List (Addr × Sp)} {o e : Expr} {es : List Expr} {to : TE} {t : TA} {pos : Pos} (hk : KnV X.prog X.w X.K X.mg X.base k fs) (hr : Room k X.A) (ho : PE X o to) (ha : PA X (e :: es) t)
    (hev : eval (.Call o (e :: es) [] pos) X.env = (do callWith pos (← eval o X.env) [] (backTo pos (starEach (e :: es) X.env)) (backToKw pos (keywordEach [] X.env))) := by rfl)
    (he : starEach (e :: es) X.env = (false, eval e X.env) :: starEach es X.env := by rfl) (hpl : (backTo pos (starEach es X.env)).any (·.1) = false := by rfl) :
    PE X (.Call o (e :: es) [] pos) (tCallV fs to t) := by
  refine ⟨fun pins s σ H Q I h => ?_⟩
  refine Call_ (thn (ho.run pins s σ H _ I h) fun u s1 ⟨v, H1, I1, r1, f, sp, ev, hm, q⟩ => ?_) hev
  subst ev
  obtain rfl : u = Value.ref f := r1
  obtain ⟨fd, ps, F, kp, b⟩ := hk f sp hm
  refine PySem.W.callWith_K (h₀ := X.base) I1.ok.mod.kin kp (thn (ha.run pos pins s1 σ H1 _ I1 q) fun us s2 ⟨vs, H2, I2, r, q2⟩ => ⟨I2.kIn, ?_⟩) he hpl
  exact run_fn F hr b .nil pass0 I2 r q2
noncomputable def ItXT (K : PySem.W.Frag) (a : Str) (b : Addr) : It where
  go := fun i H => ∃ (ys : List V) (c : Nat) (y : V), SqT K H b ys ∧ a.cps[i]? = some c ∧ ys[i]? = some y
  yld := fun i H v H' => ∃ T c y, v = .ref T ∧ H T = none ∧ H' = upd H T (.tup [.str ⟨#[c]⟩, y]) ∧ a.cps[i]? = some c ∧ ∀ ys, SqT K H b ys → ys[i]? = some y
  stop := fun i H => ∃ ys : List V, SqT K H b ys ∧ i ≤ a.cps.size ∧ i ≤ ys.length ∧ (i = a.cps.size ∨ i = ys.length)
noncomputable def TnXT (a : Str) (t : Tok) (b z TI TO i1 i2 : Addr) (i : Nat) (h : Heap) : Prop := IsZip h z TI TO .none ∧ IsTupOf2 h TI (.ref i1) (.ref i2) ∧ (∃ x y, IsTupOf2 h TO x y) ∧ h.IsStrIter i1 (strIterType a) a t i ∧ h.IsTupleIter i2 b i
theorem turn_zipXT {P : Program} {w : World} {K : PySem.W.Frag} {elts : List Expr} {kk : Nat} {tpos : Pos} {a : Str} {t : Tok} {b z TI TO i1 i2 : Addr} (S : ZipSep2 z TI TO i1 i2 [i1] [i2, b]) (n2 : b ≠ i2) :
    Turn P w K (.Tuple elts kk tpos) (ItXT K a b) [z, TI, TO, i1, i2] z (TnXT a t b z TI TO i1 i2) where
  mem := by simp
  obj := fun i h st c hc => by
    obtain ⟨g1, g2, ⟨x, y, g3⟩, ⟨o4, g4, _, d4⟩, ⟨o5, g5, _, d5⟩⟩ := st
    have hm : c = z ∨ c = TI ∨ c = TO ∨ c = i1 ∨ c = i2 := by simpa using hc
    rcases hm with rfl | rfl | rfl | rfl | rfl
    · exact ⟨_, g1, fun v k => nomatch k⟩
    · exact ⟨_, g2, fun v k => nomatch k⟩
    · exact ⟨_, g3, fun v k => nomatch k⟩
    · exact ⟨o4, g4, fun v k => by rw [d4] at k; cases k⟩
    · exact ⟨o5, g5, fun v k => by rw [d5] at k; cases k⟩
  keep := fun i h h' st k => by
    obtain ⟨g1, g2, ⟨x, y, g3⟩, g4, g5⟩ := st
    exact ⟨k z (by simp) _ g1, k TI (by simp) _ g2, ⟨x, y, k TO (by simp) _ g3⟩, let ⟨o, ho, r⟩ := g4; ⟨o, k i1 (by simp) o ho, r⟩, g5.at fun o e => k i2 (by simp) o e⟩
  item := by
    intro X eP ew eK hc i pins s σ H E I hf st hg
    subst eP ew eK
    obtain ⟨g1, g2, ⟨x0, y0, g3⟩, g4, g5⟩ := st
    obtain ⟨ys, c, y, qy, hx, hy⟩ := hg
    obtain ⟨its2, rv2, p2, _⟩ := I.tuple qy
    obtain ⟨u2, hu2, ru2⟩ := rv2.get hy
    have hz0 : z < s.heap.objs.size := Heap.lt_size g1
    have hh : X.A.in1.handled = none := I.ok.hd hc
    have l1 : i < a.cps.size := (Array.getElem?_eq_some_iff.mp hx).1
    have l2 : i < its2.toArray.size := by
      have := (List.getElem?_eq_some_iff.mp hu2).1
      simpa using this
    refine wpAny_pyNext_zipD2_item S (Draws.text hh i1 a t) (Draws.tuple hh i2 b n2 its2.toArray) g1 g2 g3 g4 ⟨g5, show s.heap.IsTuple b its2.toArray from p2⟩ l1 l2 fun x1 x2 h' tk P1 P2 z' TO' st1 st2 hT hsz hk => ?_
    obtain ⟨c1, u1, hc1, rfl⟩ := P1
    have e1 : c1 = c := Option.some.inj (hc1.symm.trans hx)
    have e2 : x2 = u2 := Option.some.inj (P2.symm.trans (by simpa using hu2))
    subst e1 e2
    refine ⟨_, rfl, wpAny_letOwnedTupleGo_zip (s := { s with heap := h', toks := tk }) z' fun h'' z'' sb => ?_⟩
    have hT2 : h''.get? s.heap.objs.size = some { cls := .type "tuple", data := .seq #[.str ⟨#[c1]⟩ u1, x2] } := (sb.2 _ (Nat.ne_of_gt hz0)).trans hT
    have nob : ObjOk X.prog X.w (upd H s.heap.objs.size (.tup [.str ⟨#[c1]⟩, y])) h'' s.heap.objs.size (.tup [.str ⟨#[c1]⟩, y]) := ⟨by show 2 ≤ sizeLine; decide, [.str ⟨#[c1]⟩ u1, x2], .cons ⟨u1, rfl⟩ (.cons ru2 .nil), ⟨_, hT2, rfl, _, rfl⟩⟩
    have keepAll : ∀ c o, c ∉ [z, TI, TO, i1, i2] → s.heap.get? c = some o → h''.get? c = some o := fun c o hb e =>
      (sb.2 c fun k => hb (by simp [k])).trans (hk c o (fun k => hb (by simp [k])) (fun k => hb (by simp [k])) (fun k => hb (by simp [k])) (fun k => hb (by simp [k])) e)
    have I1 : Inv X pins σ (upd H s.heap.objs.size (.tup [.str ⟨#[c1]⟩, y])) { s with heap := h'', toks := tk } := I.turnedNew (ch := [z, TI, TO, i1, i2]) keepAll hf (Nat.le_refl _) nob
    refine ⟨.ref s.heap.objs.size, _, I1, rfl, ⟨_, c1, y, rfl, I.hok.fresh (Nat.le_refl _), rfl, hx, fun l hl => by rw [I.tuple_inj hl qy]; exact hy⟩, ⟨z'', ?_, ⟨.str ⟨#[c1]⟩ u1, x2, ?_⟩, ?_, ?_⟩, fun c hcm => ?_⟩
    · exact (sb.2 _ S.TIz).trans (hk _ _ S.TIz S.TITO S.TIi1 S.TIi2 g2)
    · exact (sb.2 _ S.TOz).trans TO'
    · exact let ⟨o, ho, r⟩ := st1; ⟨o, (sb.2 _ S.zi1.symm).trans ho, r⟩
    · exact st2.1.at fun o e => (sb.2 _ S.zi2.symm).trans e
    · have hlt : c < s.heap.objs.size := by
        have hm : c = z ∨ c = TI ∨ c = TO ∨ c = i1 ∨ c = i2 := by simpa using hcm
        obtain ⟨_, g4', _⟩ := g4
        obtain ⟨_, g5', _⟩ := g5
        rcases hm with rfl | rfl | rfl | rfl | rfl
        · exact hz0
        · exact Heap.lt_size g2
        · exact Heap.lt_size g3
        · exact Heap.lt_size g4'
        · exact Heap.lt_size g5'
      rw [upd_ne (Nat.ne_of_lt hlt)]
      exact (hf c hcm).1
  done := by
    intro X eP ew eK hc i pins s σ H E I hf st hg
    subst eP ew eK
    obtain ⟨g1, g2, ⟨x0, y0, g3⟩, g4, g5⟩ := st
    obtain ⟨ys, qy, b1, b2, hend⟩ := hg
    obtain ⟨its2, rv2, p2, _⟩ := I.tuple qy
    have z2 : its2.toArray.size = ys.length := by rw [List.size_toArray]; exact rv2.length.symm
    have hh : X.A.in1.handled = none := I.ok.hd hc
    refine wpAny_pyNext_zipD2_end S (Draws.text hh i1 a t) (Draws.tuple hh i2 b n2 its2.toArray) g1 g2 g3 g4 ⟨g5, show s.heap.IsTuple b its2.toArray from p2⟩ (by omega) (by omega) (by omega) fun h' tk hk => ⟨rfl, I.turnedL (ch := [z, TI, TO, i1, i2]) (fun c o hb e => ?_) hf⟩
    exact hk c o (fun k => hb (by simp [k])) (fun k => hb (by simp [k])) (fun k => hb (by simp [k])) (fun k => hb (by simp [k])) e
  self := fun A i s Q E st h => wpAny_pyIter_zip st.1 h
noncomputable def iZipXT (K : PySem.W.Frag) (ta : TA) : TI := fun σ H R => ta σ H fun vs H1 => ∃ a b ys, vs = [.str a, .ref b] ∧ SqT K H1 b ys ∧ R (ItXT K a b) H1
theorem pi_zipXT {X : Cx} {e e2 : Expr} {ta : TA} {p pos tpos : Pos} {elts : List Expr} {kk : Nat} {K : PySem.W.Frag} (hg : Gl X "zip") (hm : X.mg "zip" = none) (ha : PA X [e, e2] ta) (hK : X.K = K := by rfl)
    (hs : starEach [e, e2] X.env = (false, eval e X.env) :: starEach [e2] X.env := by rfl) (hpl : (backTo pos (starEach [e2] X.env)).any (·.1) = false := by rfl) :
    PI X (.Tuple elts kk tpos) (.Call (.Name "zip" p) [e, e2] [] pos) (iZipXT K ta) := by
  subst hK
  refine ⟨fun pins s σ H R I h => ?_⟩
  refine Call_ (ld_blt I hg hm PyProof.Rows.boot_zip (PyProof.Rows.callWith_type1 (thn (ha.run pos pins s σ H _ I h) fun us s1 hq => ?_) hs hpl))
  obtain ⟨vs, H1, I1, r1, a, b, ys, ex, qy, q⟩ := hq
  subst ex
  cases r1 with
  | cons r rr =>
    cases rr with
    | cons r' rr =>
      cases rr
      obtain ⟨t, rfl⟩ := r
      cases r'
      obtain ⟨its2, rv2, p2, _⟩ := I1.tuple qy
      have ht2 : s1.heap.IsTuple b its2.toArray := p2
      obtain ⟨o1, ho1, _⟩ := id p2
      have lb : b < s1.heap.objs.size := Heap.lt_size ho1
      refine zip_begins2 (begins_text a t) (begins_tuple b its2.toArray) trivial ht2 fun h' hz hTI hTO g1 g2 hsz hk => wpAny_pyIter_zip hz ?_
      have I2 : Inv X pins σ H1 { s1 with heap := h' } := I1.kept (t' := s1.toks) hk
      have S : ZipSep2 (s1.heap.objs.size + 4) (s1.heap.objs.size + 2) (s1.heap.objs.size + 3) s1.heap.objs.size (s1.heap.objs.size + 1) [s1.heap.objs.size] [s1.heap.objs.size + 1, b] :=
        zip_sep2 (fun c hc => absurd hc List.not_mem_nil) (fun c hc => by rw [List.mem_singleton.mp hc]; exact lb)
      refine ⟨s1.heap.objs.size + 4, [s1.heap.objs.size + 4, s1.heap.objs.size + 2, s1.heap.objs.size + 3, s1.heap.objs.size, s1.heap.objs.size + 1], _, _, H1, rfl, I2, turn_zipXT S (Nat.ne_of_lt (Nat.lt_succ_of_lt lb)), ⟨hz, hTI, ⟨_, _, hTO⟩, ⟨_, g1, rfl, rfl⟩, ⟨_, g2, rfl, rfl⟩⟩, fun c hcm => ?_, q⟩
      have hle : s1.heap.objs.size ≤ c := by
        have hm : c = s1.heap.objs.size + 4 ∨ c = s1.heap.objs.size + 2 ∨ c = s1.heap.objs.size + 3 ∨ c = s1.heap.objs.size ∨ c = s1.heap.objs.size + 1 := by simpa using hcm
        rcases hm with k | k | k | k | k <;> rw [k] <;> first | exact Nat.le_refl _ | exact Nat.le_add_right _ _
      exact I1.fpOk hle (I1.hok.fresh hle)
noncomputable def YPairX (f : Nat → Option Nat) (g : Nat → Option V) : Nat → Hp → V → Hp → Prop := fun i H v H' => ∃ T c y, v = .ref T ∧ H T = none ∧ H' = upd H T (.tup [.str ⟨#[c]⟩, y]) ∧ f i = some c ∧ g i = some y
theorem walk_zipXT {K : PySem.W.Frag} {a : Str} {b : Addr} {ys : List V} (hl : a.cps.size = ys.length) : Walk (ItXT K a b) ys.length (fun H => SqT K H b ys) (YPairX (fun i => a.cps[i]?) (fun i => ys[i]?)) where
  goes := fun i H hi g => ⟨ys, a.cps[i]'(by omega), ys[i], g, by simp [show i < a.cps.size by omega], by simp [hi]⟩
  stops := fun H g => ⟨ys, g, by omega, Nat.le_refl _, .inr rfl⟩
  yields := fun i H v H' hi g y => by
    obtain ⟨T, c, z, h1, h2, h3, h4, h5⟩ := y
    exact ⟨T, c, z, h1, h2, h3, h4, h5 ys g⟩
noncomputable def repT (z : Str) (n : Nat) : Str := ⟨(List.replicate n z.cps).foldl (· ++ ·) #[]⟩
noncomputable def rMulT : R2 := fun x y H Q => ∃ (z : Str) (k : Nat), x = .str z ∧ y = .int (k : Int) ∧ k ≤ 100 ∧ z.length ≤ 1000 ∧ Q (.str (repT z k)) H
theorem op_mulT {X : Cx} : OpR X (binaryOp .Mult) rMulT := by
  intro pins s σ H x y v u Q I rx ry h
  obtain ⟨z, k, rfl, rfl, hk, hz, q⟩ := h
  obtain ⟨t, rfl⟩ := rx
  obtain ⟨t', rfl⟩ := ry
  have big : z.length * k ≤ 100000 := Nat.le_trans (Nat.mul_le_mul hz hk) (by decide)
  have nl : Builtin.Str.tooLong (z.length * k) = false := by
    unfold Builtin.Str.tooLong
    rw [sizeLine_eq]
    exact decide_eq_false (by omega)
  refine PySem.P.mul_str (by
    rw [decide_eq_false (by omega), decide_eq_false (by omega)]
    rfl) (fun h _ => ?_) (fun h _ => by rw [Int.toNat_natCast]; exact nl) ?_
  · intro hgt
    have h1 : (z.length : Int) * (k : Int) ≤ 100000 := by
      rw [← Int.natCast_mul]
      omega
    have h2 : (2 ^ 63 - 1) / (k : Int) < (z.length : Int) := hgt
    have h3 := Int.lt_mul_of_ediv_lt (show (0 : Int) < (k : Int) by omega) h2
    omega
  · by_cases c0 : (k : Int) < 1
    · have k0 : k = 0 := by omega
      subst k0
      rw [if_pos c0]
      exact ⟨by show 0 ≤ sizeLine; exact Nat.zero_le _, .str _, H, I.tok _, ⟨_, rfl⟩, q⟩
    · rw [if_neg c0]
      by_cases c1 : ((k : Int) == 1 || z.length == 0) = true
      · rw [if_pos c1]
        have e : repT z k = z := by
          rcases Bool.or_eq_true_iff.mp c1 with c | c
          · have k1 : k = 1 := by
              have := eq_of_beq c
              omega
            subst k1
            refine Str.ext' ?_
            show #[] ++ z.cps = z.cps
            simp
          · have z0 : z.cps = #[] := Array.eq_empty_of_size_eq_zero (eq_of_beq c)
            refine Str.ext' ?_
            show (List.replicate k z.cps).foldl (· ++ ·) #[] = z.cps
            rw [z0]
            clear hk big nl c0 c1 c hz q
            induction k with
            | zero => rfl
            | succ n ih =>
              show (List.replicate n (#[] : Array Nat)).foldl (· ++ ·) (#[] ++ #[]) = #[]
              exact ih
        rw [e] at q
        exact ⟨.str z, H, I, ⟨_, rfl⟩, q⟩
      · rw [if_neg c1, Int.toNat_natCast]
        refine ⟨?_, .str _, H, I.tok _, ⟨_, rfl⟩, q⟩
        have hs : ∀ (n : Nat) (a : Array Nat), ((List.replicate n z.cps).foldl (· ++ ·) a).size = a.size + z.length * n := by
          intro n
          induction n with
          | zero => intro a; rfl
          | succ n ih =>
            intro a
            show ((List.replicate n z.cps).foldl (· ++ ·) (a ++ z.cps)).size = _
            rw [ih, Array.size_append, Nat.mul_succ]
            show a.size + z.length + _ = _
            omega
        show ((List.replicate k z.cps).foldl (· ++ ·) #[]).size ≤ sizeLine
        rw [hs, sizeLine_eq]
        show 0 + _ ≤ _
        omega
noncomputable def tJn (ts : List TE) : TE := fun σ H Q => tJs ts Str.empty σ H fun out H1 => Q (.str out) H1
theorem pe_joinedN {X : Cx} {v1 v2 : Expr} {rest : List Expr} {ts : List TE} {pos : Pos} (h : PJ X (v1 :: v2 :: rest) ts) : PE X (.JoinedStr (v1 :: v2 :: rest) pos) (tJn ts) := pe_joined h
theorem pe_joinK {X : Cx} {K : PySem.W.Frag} {o e : Expr} {to te : TE} {apos pos : Pos} (hK : X.K = K) (ho : PE X o to) (he : PE X e te) (hs : starEach [e] X.env = [(false, eval e X.env)] := by rfl) (hbase : attributeBase o "join" X.env (eval o X.env) = eval o X.env := by rfl) (hline : (apos.endLine == pos.line) = true := by rfl) :
    PE X (.Call (.Attribute o "join" apos) [e] [] pos) (tM1 (fun x xs H Q => ∃ a p, ∃ ys : List Str, x = .str a ∧ xs = [.ref p] ∧ (SqL K H p (ys.map V.str) ∨ SqT K H p (ys.map V.str)) ∧
      (ys.map (·.length)).sum + ys.length * a.length ≤ 16777216 ∧ Q (.str (Txt.join a ys)) H) to te) := by
  subst hK
  exact pe_join ho he hs hbase hline
theorem op_notInT {X : Cx} {K : PySem.W.Frag} (hK : X.K = K := by rfl) : OpR X (compareOp .NotIn) (rIn K true) := by
  subst hK
  exact op_notIn_seq
theorem meets_extendT (l : Addr) (items : Array Value) (n : Nat) (b : Addr) (o : Obj) (items2 : Array Value) (n2 : Nat) (hc : o.cls = .type "tuple") (hd : o.data = .seq items2 n2) (hs0 : ¬(!items.isEmpty && Builtin.List.listTooLong (items.size + items2.size)) = true) (hs1 : items.size ≤ sizeLine) (hs2 : items.size + items2.size ≤ sizeLine + 1) :
    Meets (Builtin.«list.extend» ⟨[.ref l, .ref b], []⟩) (fun _ R s => s.heap.get? l = some { cls := .type "list", dict := none, data := .seq items n, slots := #[] } ∧ s.heap.get? b = some o ∧ R (.ok (.ret Value.none)) { s with heap := s.heap.update l (Obj.mapSeq fun x => x ++ items2), toks := s.toks }) := by
  obtain ⟨c, di, da, sl⟩ := o
  cases hc
  cases hd
  exact .of_wp fun prog w A R s h => by
    obtain ⟨hp, g, d, tk, os⟩ := s; obtain ⟨hl, hb, h⟩ := h
    have f1 := PySem.AutoSeq1.idx_int; have f2 := PySem.AutoSeq1.sub_tuple_tuple; have f3 := PySem.AutoSeq1.sub_list_list; have f4 := PySem.AutoSeq1.sub_tuple_list; have f5 := PySem.AutoSeq1.sub_list_tuple
    have hz' : (items ++ items2).size ≤ sizeLine + 1 := by rw [Array.size_append]; exact hs2
    wp_walk using (wpAny_updateSeq hl rfl (hz := hs1) (_hz' := hz')), wpAny_loadPart' hl, wpAny_loadPart' hb; exact ⟨_, rfl, h⟩
noncomputable def rExtendT : V → List V → Hp → VK → Prop := fun x vs H Q => ∃ l b xs zs, x = .ref l ∧ vs = [.ref b] ∧ H l = some (.lst xs) ∧ H b = some (.tup zs) ∧ xs.length + zs.length ≤ sizeLine ∧ Q .non (upd H l (.lst (xs ++ zs)))
theorem mt_extendT {X : Cx} : MtM X "list.extend" rExtendT := by
  intro pins s σ H x vs v us Q I rx rv h
  obtain ⟨l, b, xs, zs, rfl, rfl, hH, hB, hz, q⟩ := h
  cases rx
  obtain ⟨u, rfl, ru⟩ := rv.one
  cases ru
  obtain ⟨z, its, n, r, hl, e⟩ := I.lstM hH
  obtain ⟨its2, r2, ⟨o, e2, hc2, n2, hd2⟩, z2⟩ := I.tuple (SqT.of hB)
  have hl2 : zs.length = its2.length := r2.length
  have hsz : its.toArray.size + its2.toArray.size ≤ sizeLine := by rw [List.size_toArray, List.size_toArray]; omega
  have hlong : ¬ (!its.toArray.isEmpty && Builtin.List.listTooLong (its.toArray.size + its2.toArray.size)) = true := by
    rw [notLongL hsz, Bool.and_false]
    exact Bool.false_ne_true
  refine call_meets F.slot_list_extend ⟨_, e, rfl⟩ F.entry_list_extend (F.args_list_extend_2 _ _)
    (meets_extendT l its.toArray n b o its2.toArray n2 hc2 hd2 hlong (by rw [List.size_toArray]; omega) (by omega)) ⟨e, e2, ?_⟩
  refine ⟨.non, _, I.lset (its' := its ++ its2) hH e (by simp) (r.append r2) ?_, rfl, q⟩
  rw [List.length_append]
  omega
section
variable {X : Cx} {CX : CXT} {k n : Nat} {f : Addr} {fd : FuncData} {ps ks : List Str} {sp : Sp} {E : L2.St → XK} {x : Str} {g : List Value → List Value → List Value} {gV : List V → List V → List V}
theorem run_fnNT {σ : L2.St} {pins : List (Addr × Obj)} {H : Hp} {s : Shared} {Q : VK} {us ws : List Value} {vs zs : List V} (F : FnOk X.prog X.w X.K X.mg X.base CX k f fd ps sp) (hr : Room k X.A) (hb : KBn X.K fd ps n ks g gV) (hx : PassesAt CX X σ (E σ))
    (I : Inv X pins σ H s) (r : Vals vs us) (rz : Vals zs ws) (l1 : vs.length = n) (l2 : zs.length = ks.length) (h : sp (gV vs zs) H Q (E σ)) : wpAny (model X.prog X.w) X.A (call (.ref f) us (ks.zip ws)) (EP X pins σ Q) X.xe s := by
  have r2 := hb.rel r rz
  refine wpAny_call (codeAny_mono (F.run X.A X.stack s H ⟨us, ks.zip ws⟩ (g us ws) (gV vs zs) Q (E σ) hr I.env0 (hb.to s us ws I.kIn (r.length.symm.trans l1) (rz.length.symm.trans l2)) r2 h) fun r s' hq => ?_)
  cases r with
  | error e => exact hx pins H s e s' I hq
  | ok fl =>
    cases fl with
    | ret u => exact I.after hq
    | next => exact False.elim hq
    | brk => exact False.elim hq
    | cont => exact False.elim hq
noncomputable def tCallK0S (m : Nat) (sp : Sp) (perm : List Nat) (W : WX) (tk : TA) : TE := fun σ H Q => tk σ H fun zs H2 => zs.length = m ∧ sp (pgk .non perm [] zs) H2 Q (WE W σ)
theorem pe_ownK0S {W : WX} {perm : List Nat} {kws : List Keyword} {tk : TA} {p pos : Pos} (h : KnKX X.prog X.w X.K X.mg X.base x ps k sp 0 ks perm) (hr : Room k X.A) (tw : Takes X W) (hg : Gl X x) (hkw : PK X kws tk)
    (hall : (backToKw pos (keywordEach kws X.env)).all (·.1.isSome) = true := by rfl) (hks : (backToKw pos (keywordEach kws X.env)).filterMap (·.1) = ks := by rfl) (hdb : (x == ("__debug__" : Str)) = false := by decide)
    (hpl : ((backTo pos (starEach [] X.env)).any (·.1) || (backToKw pos (keywordEach kws X.env)).any (·.1.isNone)) = false := by rfl) : PE X (.Call (.Name x p) [] kws pos) (tCallK0S ks.length sp perm W tk) := by
  obtain ⟨f, fd, F, m, kp, b⟩ := h
  refine ⟨fun pins s σ H Q I hq => wpAny_Call_Name_kw (ld_glob I hg m ?_ hdb)⟩
  refine PySem.W.callWith_KW0 (h₀ := X.base) I.ok.mod.kin kp hall (thn (hkw.run pos pins s σ H _ I hq) fun ws s2 z2 => ?_) hpl
  obtain ⟨zs, H2, I2, rz, l2, q2⟩ := z2
  refine ⟨I2.kIn, ?_⟩
  rw [hks]
  exact run_fnNT (E := WE W) F hr b (passAt tw σ) I2 .nil rz rfl l2 q2
end
end Pan
namespace Pan
open PySem PySem.Spec PyProof.Rows L2 TL
theorem pre1 (c a : Nat) (r : List Nat) : pre [c] (a :: r) = (a == c) := by
  show ([a] == [c]) = _
  simp
theorem spl_hit1 {c : Nat} {acc l : List Nat} : spl [c] 0 acc (c :: l) = acc :: spl [c] 0 [] l := spl_hit (by rw [pre1]; exact beq_self_eq_true c)
theorem spl_ne (c : Nat) : ∀ (l acc : List Nat), spl [c] 0 acc l ≠ []
  | [], acc => by rw [spl_nil]; exact List.cons_ne_nil _ _
  | a :: l, acc => by
    by_cases e : a = c
    · rw [e, spl_hit1]
      exact List.cons_ne_nil _ _
    · rw [spl_miss (by rw [pre1]; exact beq_eq_false_iff_ne.mpr e)]
      exact spl_ne c l _
theorem spl_len (c : Nat) : ∀ (l acc : List Nat), (spl [c] 0 acc l).length = l.count c + 1
  | [], acc => by rw [spl_nil]; rfl
  | a :: l, acc => by
    by_cases e : a = c
    · rw [e, spl_hit1, List.length_cons, spl_len c l, List.count_cons_self]
    · rw [spl_miss (by rw [pre1]; exact beq_eq_false_iff_ne.mpr e), spl_len c l, List.count_cons_of_ne e]
theorem spl_back (c : Nat) : ∀ (l acc : List Nat), joinL [c] (spl [c] 0 acc l) = acc ++ l
  | [], acc => by rw [spl_nil, List.append_nil]; rfl
  | a :: l, acc => by
    by_cases e : a = c
    · rw [e, spl_hit1]
      have h := spl_back c l []
      cases hs : spl [c] 0 [] l with
      | nil => exact absurd hs (spl_ne c l [])
      | cons p ps =>
        rw [hs] at h
        show acc ++ ([c] ++ joinL [c] (p :: ps)) = _
        rw [h]
        rfl
    · rw [spl_miss (by rw [pre1]; exact beq_eq_false_iff_ne.mpr e), spl_back c l, List.append_assoc]
      rfl
/-- how long what is joined is, a sign more for each part -/
noncomputable def lenJ (ps : List (List Nat)) : Nat := (ps.map fun p => p.length + 1).sum
theorem join_lenJ (c : Nat) : ∀ {ps : List (List Nat)}, ps ≠ [] → (joinL [c] ps).length + 1 = lenJ ps
  | [], h => absurd rfl h
  | [p], _ => by
    show p.length + 1 = (p.length + 1) + 0
    rfl
  | p :: q :: r, _ => by
    have ih := join_lenJ c (ps := q :: r) (List.cons_ne_nil _ _)
    show (p ++ ([c] ++ joinL [c] (q :: r))).length + 1 = (p.length + 1) + lenJ (q :: r)
    rw [List.length_append, List.length_append, ← ih]
    show p.length + (1 + _) + 1 = _
    omega
theorem cut_tl (x : Str) (c : Nat) (hc : c < 256) : (Txt.split x ⟨#[c]⟩).map tl = spl [c] 0 [] (tl x) :=
  split_spl x ⟨#[c]⟩ (List.cons_ne_nil _ _) (kind_ok (by simp [hc]))
theorem cut_ne (x : Str) (c : Nat) (hc : c < 256) : Txt.split x ⟨#[c]⟩ ≠ [] := fun e => by
  have h := cut_tl x c hc
  rw [e] at h
  exact spl_ne c (tl x) [] h.symm
theorem cut_len (x : Str) (c : Nat) (hc : c < 256) : (Txt.split x ⟨#[c]⟩).length = (tl x).count c + 1 := by
  have h := congrArg List.length (cut_tl x c hc)
  rw [List.length_map, spl_len] at h
  exact h
theorem cut_back (x : Str) (c : Nat) (hc : c < 256) : joinL [c] ((Txt.split x ⟨#[c]⟩).map tl) = tl x := by
  rw [cut_tl x c hc, spl_back]
  rfl
theorem cut_lenJ (x : Str) (c : Nat) (hc : c < 256) : lenJ ((Txt.split x ⟨#[c]⟩).map tl) = (tl x).length + 1 := by
  rw [← join_lenJ c (fun e => cut_ne x c hc (List.map_eq_nil_iff.mp e)), cut_back x c hc]
theorem lenJ_mem {ps : List (List Nat)} {p : List Nat} (h : p ∈ ps) : p.length + 1 ≤ lenJ ps := by
  induction ps with
  | nil => cases h
  | cons q ps ih =>
    show _ ≤ (q.length + 1) + lenJ ps
    rcases List.mem_cons.mp h with e | h
    · rw [e]; omega
    · have := ih h
      omega
theorem cut_part {x : Str} {c : Nat} (hc : c < 256) {p : Str} (hp : p ∈ Txt.split x ⟨#[c]⟩) : p.length ≤ x.length := by
  have h1 := lenJ_mem (List.mem_map.mpr ⟨p, hp, rfl⟩ : tl p ∈ (Txt.split x ⟨#[c]⟩).map tl)
  rw [cut_lenJ x c hc] at h1
  rw [len_tl, len_tl]
  omega
noncomputable def digB (c : Nat) : Bool := decide (48 ≤ c ∧ c ≤ 57)
noncomputable def plainL (l : List Nat) : Bool := (!l.isEmpty && l.all digB) && (l == [48] || (l.head? != some 48))
noncomputable def numL (l : List Nat) : Option Nat := if plainL l then some (NumText.digitsVal l) else none
noncomputable def numT (x : Str) : Option Nat := numL (tl x)
theorem plain_dig {l : List Nat} (h : plainL l = true) : NumText.AllDigits l ∧ l ≠ [] := by
  unfold plainL at h
  rw [Bool.and_eq_true, Bool.and_eq_true] at h
  refine ⟨fun c hc => of_decide_eq_true (List.all_eq_true.mp h.1.2 c hc), fun e => ?_⟩
  rw [e] at h
  exact absurd h.1.1 (by decide)
theorem digitsVal_app : ∀ (l m : List Nat), NumText.digitsVal (l ++ m) = NumText.digitsVal l * 10 ^ m.length + NumText.digitsVal m := by
  intro l m
  have key : ∀ (m : List Nat) (a : Nat), m.foldl (fun acc c => acc * 10 + (c - 48)) a = a * 10 ^ m.length + m.foldl (fun acc c => acc * 10 + (c - 48)) 0 := by
    intro m
    induction m with
    | nil => intro a; simp
    | cons c m ih =>
      intro a
      rw [List.foldl_cons, ih, List.foldl_cons, ih (0 * 10 + (c - 48)), List.length_cons, Nat.pow_succ]
      rw [Nat.add_mul, Nat.zero_mul, Nat.zero_add, Nat.mul_assoc, Nat.mul_comm 10]
      omega
  unfold NumText.digitsVal
  rw [List.foldl_append, key]
/-- noughts ahead weigh nothing -/
theorem digitsVal_pad (k : Nat) (l : List Nat) : NumText.digitsVal (List.replicate k 48 ++ l) = NumText.digitsVal l := by
  rw [digitsVal_app]
  have : NumText.digitsVal (List.replicate k 48) = 0 := by
    induction k with
    | zero => rfl
    | succ k ih =>
      show (List.replicate k 48).foldl (fun acc c => acc * 10 + (c - 48)) (0 * 10 + (48 - 48)) = 0
      exact ih
  rw [this]
  omega
noncomputable def figT (n : Int) : Str := toString n
theorem fig_tl (m : Nat) : tl (figT (m : Int)) = (Nat.toDigits 10 m).map Char.toNat := PySem.W.KIN.signs_num m
theorem toD_head : ∀ (m : Nat), 0 < m → ∃ c r, Nat.toDigits 10 m = c :: r ∧ c.toNat ≠ 48 := by
  intro m
  induction m using Nat.strongRecOn with
  | _ m ih =>
    intro h0
    by_cases h : m < 10
    · rw [Nat.toDigits_of_lt_base h]
      refine ⟨_, [], rfl, ?_⟩
      have : ∀ d : Nat, d < 10 → 0 < d → (Nat.digitChar d).toNat ≠ 48 := by decide
      exact this m h h0
    · have hm : m % 10 < 10 := Nat.mod_lt m (by decide)
      have t : Nat.toDigits 10 (m / 10) ++ Nat.toDigits 10 (m % 10) = Nat.toDigits 10 (10 * (m / 10) + m % 10) := Nat.toDigits_append_toDigits (by decide) (by omega) hm
      rw [Nat.div_add_mod] at t
      obtain ⟨c, r, e, hc⟩ := ih (m / 10) (by omega) (by omega)
      rw [← t, e]
      exact ⟨c, _, rfl, hc⟩
theorem fig_digits (m : Nat) : NumText.AllDigits (tl (figT (m : Int))) := by
  intro c hc
  rw [fig_tl] at hc
  obtain ⟨ch, hch, e⟩ := List.mem_map.mp hc
  have r := digit_range (Nat.isDigit_of_mem_toDigits (by decide) (by decide) hch)
  rw [← e]
  exact r
theorem fig_num (m : Nat) : numT (figT (m : Int)) = some m := by
  have hd := fig_digits m
  have hv : NumText.digitsVal (tl (figT (m : Int))) = m := by rw [fig_tl, PySem.W.KIN.val_back]
  have hp : plainL (tl (figT (m : Int))) = true := by
    have hall : (tl (figT (m : Int))).all digB = true := List.all_eq_true.mpr fun c hc => decide_eq_true (hd c hc)
    by_cases h0 : m = 0
    · subst h0
      decide +kernel
    · obtain ⟨c, r, e, hc⟩ := toD_head m (by omega)
      rw [fig_tl, e, List.map_cons] at hall ⊢
      unfold plainL
      rw [hall]
      have hne : (some c.toNat != some 48) = true := by
        rw [bne_iff_ne]
        exact fun z => hc (Option.some.inj z)
      show ((true && true) && (_ || (some c.toNat != some 48))) = true
      rw [hne, Bool.or_true]
      rfl
  unfold numT numL
  rw [if_pos hp, hv]
theorem strip_nil (x y : Str) : Txt.stripChars x y = Str.empty ↔ ∀ c ∈ tl x, c ∈ tl y := by
  obtain ⟨g, hg⟩ : ∃ g : Nat → Bool, g = y.cps.contains := ⟨_, rfl⟩
  have gm : ∀ c, g c = true ↔ c ∈ tl y := fun c => by
    rw [hg, Array.contains_iff_mem]
    exact Array.mem_toList_iff.symm
  have e : Txt.stripChars x y = Builtin.Str.strSub x (stripLo g true x) (stripHi g true x (stripLo g true x)) := by
    rw [hg]
    exact stripBy_eq _ true true x
  obtain ⟨l1, l2, l3⟩ := lo_facts g x
  obtain ⟨h1, h2, h3, h4⟩ := hi_facts g x (stripLo g true x) l1
  generalize stripLo g true x = lo at *
  generalize stripHi g true x lo = hi at *
  have hlen : x.length = x.cps.size := rfl
  have at_ : ∀ k, k < x.cps.size → x.cps.getD k 0 ∈ tl x := fun k hk => by
    have : x.cps.getD k 0 = x.cps[k] := by simp [Array.getD, hk]
    rw [this]
    exact Array.mem_toList_iff.mpr (Array.getElem_mem hk)
  have sz : (Builtin.Str.strSub x lo hi).cps.size = hi - lo := by
    show (x.cps.extract lo hi).size = _
    rw [Array.size_extract]
    omega
  rw [e]
  constructor
  · intro h c hc
    have h0 : hi - lo = 0 := by rw [← sz, h]; rfl
    obtain ⟨k, hk, hkc⟩ := Array.mem_iff_getElem.mp (Array.mem_toList_iff.mp hc)
    have hc2 : x.cps.getD k 0 = c := by simp [Array.getD, hk, hkc]
    rw [← gm, ← hc2]
    by_cases c1 : k < lo
    · exact l2 k c1
    · exact h3 k (by omega) (by omega)
  · intro h
    have hl : lo = x.length := by
      rcases l3 with k | k
      · exact k
      · by_cases c1 : lo < x.cps.size
        · rw [(gm _).mpr (h _ (at_ lo c1))] at k
          cases k
        · omega
    have h0 : (Builtin.Str.strSub x lo hi).cps = #[] := Array.eq_empty_of_size_eq_zero (by rw [sz]; omega)
    exact Str.ext' h0
theorem sp_eq : (" " : Str) = ⟨#[32]⟩ := by decide +kernel
theorem nl_eq : ("\n" : Str) = ⟨#[10]⟩ := by decide +kernel
theorem join2 (y a b : Str) : Txt.join y [a, b] = Str.empty ++ a ++ y ++ b := by
  rw [join_eq]
  refine ext_tl ?_
  show tl (a ++ y ++ b) = _
  rw [tl_append, tl_append, tl_append, tl_append, tl_append]
  rfl
theorem log_small {i : Int} (h : i.natAbs < 18446744073709551616) : i.natAbs.log2 < 1920 := by
  by_cases c : i.natAbs = 0
  · rw [c]
    decide
  · have := (Nat.log2_lt (n := i.natAbs) (k := 64) c).mpr h
    omega
theorem repT_tl (c : Nat) (k : Nat) : tl (repT ⟨#[c]⟩ k) = List.replicate k c := by
  have key : ∀ (k : Nat) (a : Array Nat), ((List.replicate k (#[c] : Array Nat)).foldl (· ++ ·) a).toList = a.toList ++ List.replicate k c := by
    intro k
    induction k with
    | zero => intro a; simp
    | succ k ih =>
      intro a
      show ((List.replicate k (#[c] : Array Nat)).foldl (· ++ ·) (a ++ #[c])).toList = _
      rw [ih, Array.toList_append, List.append_assoc]
      rfl
  have := key k #[]
  exact this
theorem cutS_tl {z : Str} {a b : Nat} (h1 : a ≤ z.length) : tl (cutS z (some (a : Int)) (some (b : Int))) = ((tl z).drop a).take (min b z.length - a) := by
  unfold cutS
  rw [HT.sIx_nat, HT.sIx_nat, Nat.min_eq_left h1]
theorem zero_eq : ("0" : Str) = ⟨#[48]⟩ := by decide +kernel
theorem join1 (y a : Str) : Txt.join y [a] = a := by
  rw [join_eq]
  rfl
theorem figs_eq : ∀ c : Nat, c ∈ tl ("0123456789" : Str) ↔ 48 ≤ c ∧ c ≤ 57 := fun c => by
  have e : tl ("0123456789" : Str) = (List.range 10).map (48 + ·) := by decide +kernel
  rw [e, List.mem_map]
  constructor
  · rintro ⟨i, hi, rfl⟩
    have := List.mem_range.mp hi
    omega
  · intro h
    exact ⟨c - 48, List.mem_range.mpr (by omega), by omega⟩
theorem str_eq0 {x : Str} : x = ("0" : Str) ↔ tl x = [48] := by
  rw [zero_eq]
  exact ⟨fun e => by rw [e], fun e => ext_tl e⟩
theorem len_tlI (x : Str) : (x.length : Int) = ((tl x).length : Int) := by rw [len_tl]
theorem toD_len : ∀ (k m : Nat), m < 10 ^ (k + 1) → (Nat.toDigits 10 m).length ≤ k + 1
  | 0, m, h => by
    rw [Nat.toDigits_of_lt_base (by omega)]
    exact Nat.le_refl 1
  | k + 1, m, h => by
    by_cases c : m < 10
    · rw [Nat.toDigits_of_lt_base c]
      show 1 ≤ _
      omega
    · have hm : m % 10 < 10 := Nat.mod_lt m (by decide)
      have t : Nat.toDigits 10 (m / 10) ++ Nat.toDigits 10 (m % 10) = Nat.toDigits 10 (10 * (m / 10) + m % 10) := Nat.toDigits_append_toDigits (by decide) (by omega) hm
      rw [Nat.div_add_mod] at t
      have ih := toD_len k (m / 10) (by rw [Nat.pow_succ] at h; omega)
      rw [← t, List.length_append, Nat.toDigits_of_lt_base hm]
      show _ + 1 ≤ _
      omega
theorem fig_len {n : Int} (h0 : 0 ≤ n) (h1 : n < 1000000000000000000) : (figT n).length ≤ 18 := by
  obtain ⟨m, rfl⟩ := Int.eq_ofNat_of_zero_le h0
  rw [len_tl, fig_tl, List.length_map]
  exact toD_len 17 m (by have : (10 : Nat) ^ 18 = 1000000000000000000 := by decide
                         omega)
noncomputable def keyT : Key → Str
  | .inl c => figT c
  | .inr z => z
noncomputable def lineT (p : Key × Key) : Str := Str.empty ++ keyT p.1 ++ (" " : Str) ++ keyT p.2
noncomputable def netT (N : List (Key × Key)) : Str := Txt.join ("\n" : Str) (N.map lineT)
noncomputable def wordT (ws : List Int) : Str := if ws = [] then ("-" : Str) else Txt.join (" " : Str) (ws.map figT)
theorem line_join (p : Key × Key) : lineT p = Txt.join (" " : Str) [keyT p.1, keyT p.2] := (join2 _ _ _).symm
theorem join_len (y : Str) (hy : y.length = 1) {m : Nat} : ∀ {ps : List Str}, (∀ p ∈ ps, p.length ≤ m) → (Txt.join y ps).length ≤ ps.length * (m + 1) := by
  intro ps h
  cases ps with
  | nil => rw [join_eq]; exact Nat.zero_le _
  | cons p ps =>
    obtain ⟨c, hc⟩ : ∃ c, tl y = [c] := by
      have : (tl y).length = 1 := by rw [← len_tl]; exact hy
      match tl y, this with
      | [c], _ => exact ⟨c, rfl⟩
    have h1 := join_lenJ c (ps := (p :: ps).map tl) (by simp)
    have h2 : ∀ l : List Str, (∀ p ∈ l, p.length ≤ m) → lenJ (l.map tl) ≤ l.length * (m + 1) := by
      intro l
      induction l with
      | nil => intro _; exact Nat.zero_le _
      | cons q l ih =>
        intro hl
        have a := ih fun z hz => hl z (List.mem_cons_of_mem _ hz)
        have b := hl q List.mem_cons_self
        rw [len_tl] at b
        show ((tl q).length + 1) + lenJ (l.map tl) ≤ (l.length + 1) * (m + 1)
        rw [Nat.add_mul, Nat.one_mul]
        omega
    have h3 := h2 (p :: ps) h
    rw [len_tl, join_eq, tl_join, hc]
    omega
theorem sum_len {m : Nat} : ∀ {ps : List Str}, (∀ p ∈ ps, p.length ≤ m) → (ps.map (·.length)).sum ≤ ps.length * m
  | [], _ => Nat.zero_le _
  | p :: ps, h => by
    have a := sum_len (ps := ps) fun z hz => h z (List.mem_cons_of_mem _ hz)
    have b := h p List.mem_cons_self
    rw [List.map_cons, List.sum_cons, List.length_cons, Nat.add_mul, Nat.one_mul]
    omega
noncomputable def KeyOk : Key → Prop
  | .inl c => 0 ≤ c ∧ c < 1000000000000000000
  | .inr z => NameOk z
theorem key_len : ∀ {k : Key}, KeyOk k → (keyT k).length ≤ 18
  | .inl _, h => fig_len h.1 h.2
  | .inr _, h => Nat.le_trans h.2.2 (by decide)
theorem fmtK {R : Str → Prop} : ∀ {k : Key}, KeyOk k → R (keyT k) → (∃ y : Str, kV k = .str y ∧ y.length ≤ sizeLine ∧ R y) ∨ ∃ i : Int, kV k = .int i ∧ i.natAbs.log2 < 1920 ∧ R (Str.ofString (toString i))
  | .inl c, ok, q => .inr ⟨c, rfl, log_small (by have h1 : 0 ≤ c := ok.1; have h2 : c < 1000000000000000000 := ok.2; omega), q⟩
  | .inr z, ok, q => .inl ⟨z, rfl, by have h := key_len (k := .inr z) ok; have h : z.length ≤ 18 := h; rw [sizeLine_eq]; omega, q⟩
theorem line_len {p : Key × Key} (h1 : KeyOk p.1) (h2 : KeyOk p.2) : (lineT p).length ≤ 37 := by
  have a := key_len h1
  have b := key_len h2
  unfold lineT
  rw [len_tl] at *
  rw [tl_append, tl_append, tl_append, sp_eq, List.length_append, List.length_append, List.length_append]
  show 0 + _ + 1 + _ ≤ _
  omega
theorem key_signs : ∀ {k : Key}, KeyOk k → ∀ c ∈ tl (keyT k), (48 ≤ c ∧ c ≤ 57) ∨ (97 ≤ c ∧ c ≤ 122)
  | .inl n, h, c, hc => by
    obtain ⟨m, rfl⟩ := Int.eq_ofNat_of_zero_le h.1
    exact .inl (fig_digits m c hc)
  | .inr z, h, c, hc => .inr (h.1 c hc)
theorem line_cut {p : Key × Key} (h1 : KeyOk p.1) (h2 : KeyOk p.2) : Txt.split (lineT p) (" " : Str) = [keyT p.1, keyT p.2] := by
  rw [line_join]
  have no : ∀ k, KeyOk k → 32 ∉ tl (keyT k) := fun k hk hc => by
    rcases key_signs hk 32 hc with h | h <;> omega
  refine split_join (s := 32) (S := []) (by rw [sp_eq]) (by decide +kernel) (List.cons_ne_nil _ _) fun q hq => ?_
  rcases List.mem_cons.mp hq with e | e
  · rw [e]; exact no _ h1
  · rw [List.mem_singleton.mp e]; exact no _ h2
theorem net_cut {N : List (Key × Key)} (hne : N ≠ []) (h : ∀ p ∈ N, KeyOk p.1 ∧ KeyOk p.2) : Txt.split (netT N) ("\n" : Str) = N.map lineT := by
  refine split_join (s := 10) (S := []) (by rw [nl_eq]) (by decide +kernel) (fun e => hne (List.map_eq_nil_iff.mp e)) fun q hq => ?_
  obtain ⟨p, hp, rfl⟩ := List.mem_map.mp hq
  obtain ⟨h1, h2⟩ := h p hp
  unfold lineT
  rw [tl_append, tl_append, tl_append, sp_eq]
  intro hc
  rcases List.mem_append.mp hc with hc | hc
  · rcases List.mem_append.mp hc with hc | hc
    · rcases List.mem_append.mp hc with hc | hc
      · cases hc
      · rcases key_signs h1 10 hc with z | z <;> omega
    · cases (List.mem_singleton.mp hc)
  · rcases key_signs h2 10 hc with z | z <;> omega
theorem word_cut {ws : List Int} (hne : ws ≠ []) (h : ∀ x ∈ ws, 0 ≤ x) : Txt.split (Txt.join (" " : Str) (ws.map figT)) (" " : Str) = ws.map figT := by
  refine split_join (s := 32) (S := []) (by rw [sp_eq]) (by decide +kernel) (fun e => hne (List.map_eq_nil_iff.mp e)) fun q hq => ?_
  obtain ⟨x, hx, rfl⟩ := List.mem_map.mp hq
  obtain ⟨m, rfl⟩ := Int.eq_ofNat_of_zero_le (h x hx)
  intro hc
  have := fig_digits m 32 hc
  omega
theorem strK {R : Str → Prop} : ∀ {k : Key}, KeyOk k → R (keyT k) → (∃ i : Int, [kV k] = [V.int i] ∧ i.natAbs.log2 < 1920 ∧ R (Str.ofString (toString i))) ∨ ∃ a : Str, [kV k] = [V.str a] ∧ R a
  | .inl c, ok, q => .inl ⟨c, rfl, log_small (by have h1 : 0 ≤ c := ok.1; have h2 : c < 1000000000000000000 := ok.2; omega), q⟩
  | .inr z, ok, q => .inr ⟨z, rfl, q⟩
end Pan
namespace Pan
open PySem PySem.Spec PyProof.Rows L2
/-- something callable -/
noncomputable def FnT (H : Hp) (f : Addr) : Prop := ∃ o : HO, H f = some o ∧ ∀ (P : Program) (w : World) (H' : Hp) (h : Heap), ObjOk P w H' h f o → PySem.W.FnAt f h
/-- f keeps sp at every state that comes from (s0, H0) with the frames fs at rest -/
noncomputable def Cal (P : Program) (w : World) (K : PySem.W.Frag) (mg : Str → Option Value) (base : Heap) (k : Nat) (f : Addr) (fs : List Addr) (s0 : Shared) (H0 : Hp) (sp : List V → Hp → VK → Prop) : Prop :=
  ∀ (A : Around) (outer : List Env) (s : Shared) (H : Hp) (us : List Value) (vs : List V) (Q : VK), Room k A → Env0 P w K mg base A outer s H → L2.Un fs [] H0 H s0.heap s.heap → Vals vs us → sp vs H Q → codeAny (model P w) A (.call (.ref f) ⟨us, []⟩) (CR CX0 outer P w H s Q E0) s
section
variable {X : Cx}
end
noncomputable def tCallS (X : Cx) (sp : List Env → Shared → List V → Hp → VK → Prop) (t : TA) : TE := fun σ H Q => t σ H fun vs H1 => ∀ (pins : List (Addr × Obj)) (s : Shared), Inv X pins σ H1 s → sp X.stack s vs H1 Q
end Pan
namespace Pan
open PySem PySem.Spec PyProof.Rows L2
/-- the code objects of cs have bare tables in the heap h -/
structure Bare0 (K : PySem.W.Frag) (h : Heap) (cs : List (Addr × Addr)) : Prop where
  bare : ∀ p ∈ cs, h.get? p.2 = some { cls := .none, data := .fields #[] }
  out : ∀ p ∈ cs, K.lookup p.2 = none
  code : ∀ p ∈ cs, PySem.W.CodeHd h p.1 p.2
end Pan
namespace Pan
open PySem PySem.Spec PyProof.Rows L2
noncomputable def UnE (t : Addr) (H H' : Hp) : Prop := ∀ b o, b ≠ t → H b = some o → (∀ ps, o ≠ .tbl ps) → H' b = some o
end Pan
namespace Pan
open PySem PySem.Spec PyProof.Rows L2
noncomputable def addK (g : Key → Int) (k : Key) (v : Int) : Key → Int := fun x => if x = k then g x + v else g x
/-- what each lead has behind so many balances; fn tells what a balance's pans pass on -/
noncomputable def pdM (N : List (Key × Key)) (fn : Nat → Int → Int × Int) (first : Int) : Nat → Key → Int
  | 0 => fun k => if k = .inl 0 then first else 0
  | n + 1 => addK (addK (pdM N fn first n) (leadM N n false) (fn n (pdM N fn first n (.inl (n : Int)))).1) (leadM N n true) (fn n (pdM N fn first n (.inl (n : Int)))).2
/-- a balance's pans pass on half each -/
noncomputable def halfF : Nat → Int → Int × Int := fun _ h => (h / 2, h / 2)
noncomputable def one (b : Bool) : Nat := if b then 1 else 0
/-- nothing but a table was there -/
noncomputable def NewE (H : Hp) (d : Addr) : Prop := ∀ o, H d = some o → ∃ ps, o = .tbl ps
end Pan
namespace Pan
open PySem PySem.Spec PyProof.Rows L2
theorem zip_no_len : typeLookup (.type "zip") "__len__" = pure none := am_miss_of_fast (by decide +kernel)
theorem zip_no_hint : typeLookup (.type "zip") "__length_hint__" = pure none := am_miss_of_fast (by decide +kernel)
/-- the zip's own things, behind i turns -/
noncomputable def ZSt (h : Heap) (z TI TO i1 i2 a b S : Addr) (i : Nat) : Prop := IsPair h TI (.ref i1) (.ref i2) ∧ h.IsListIter i1 a i ∧ h.IsListIter i2 b i ∧
  ((IsZip h z TI TO .none ∧ ∃ x y, IsPair h TO x y) ∨ ∃ T f oT, IsZipHeld h z TI TO T f ∧ h.get? T = some oT ∧ T ≠ z ∧ T ≠ i1 ∧ T ≠ i2 ∧ T ≠ S ∧ ∃ x y, IsPair h TO x y)
/-- pairs of what stands side by side -/
noncomputable def ZipAt (H : Hp) (us xs ys : List V) : Prop := ∀ (j : Nat) u, us[j]? = some u → ∃ T x y, u = .ref T ∧ xs[j]? = some x ∧ ys[j]? = some y ∧ H T = some (.tup [x, y])
theorem zip_loop {X : Cx} {pins : List (Addr × Obj)} {σ : L2.St} {z TI TO i1 i2 a b S : Addr} {xs ys : List V} {A : Around} {R : Result → Shared → Prop} (hA : A.handled = none) (D : ZipApart z TI TO i1 i2 a b) (hl : xs.length = ys.length) (hz : xs.length ≤ sizeLine)
    (nS : S ≠ z ∧ S ≠ TI ∧ S ≠ TO ∧ S ≠ i1 ∧ S ≠ i2) (nSa : S ≠ a) (nSb : S ≠ b) (H0 : Hp) (n0 : H0 S = none)
    (hR : ∀ (s' : Shared) (H' : Hp) (us : List V), Inv X pins σ H' s' → Same H0 H' → H' S = some (.lst us) → us.length = xs.length → ZipAt H' us xs ys → R (.ok (.ret .none)) s') :
    ∀ (k i : Nat) (s : Shared) (H : Hp) (us : List V), xs.length - i = k → i ≤ xs.length → Inv X pins σ H s → Same H0 H → H a = some (.lst xs) → H b = some (.lst ys) → H S = some (.lst us) → us.length = i → ZipAt H us xs ys →
      (∀ c ∈ [z, TI, TO, i1, i2], FpOk X pins H c) → ZSt s.heap z TI TO i1 i2 a b S i → codeAny (model X.prog X.w) A (.builtin "list.extend.loop" ⟨[.ref S, .ref z, .none], []⟩) R s := by
  intro k
  induction k with
  | zero =>
    intro i s H us hk hi I S0 ha hb eS hul hat hf st
    have hin : i = xs.length := by omega
    obtain ⟨hTI, h1, h2, hzz⟩ := st
    obtain ⟨its, rv, p1, _⟩ := I.list (SqL.of ha)
    obtain ⟨its2, rv2, p2, _⟩ := I.list (SqL.of hb)
    have l1 := rv.length
    have hend : its.toArray[i]? = none ∨ its2.toArray[i]? = none := .inl (by simp; omega)
    refine codeAny_builtin F.entry_extend_loop ?_
    rw [Around.under_plainId F.plain_extend_loop _]
    show wpAny _ A.in1 (pyNext (.ref z) >>= _) _ _ s
    have fin : ∀ h', (∀ c o, c ∉ [z, TI, TO, i1, i2] → s.heap.get? c = some o → h'.get? c = some o) → R (.ok (.ret .none)) { s with heap := h' } := fun h' hk =>
      hR _ H us (I.turnedL (t' := s.toks) (ch := [z, TI, TO, i1, i2]) (fun c o n e => hk c o n e) hf) S0 eS (by omega) hat
    rcases hzz with ⟨hzz, x0, y0, hTO⟩ | ⟨T, f, oT, hzz, hT, r1, r2, r3, r4, x0, y0, hTO⟩
    · exact wpAny_bind (wpAny_pyNext_zip_end hA D hzz hTI hTO h1 h2 p1.isList p2.isList hend fun h' hk => wpAny_pure (fin h' fun c o n e => hk c o (fun q => n (by simp [q])) (fun q => n (by simp [q])) (fun q => n (by simp [q])) (fun q => n (by simp [q])) e))
    · exact wpAny_bind (wpAny_pyNext_zip_end_held hA D hzz hT hTI h1 h2 p1.isList p2.isList hend fun h' hk => wpAny_pure (fin h' fun c o n e => hk c o (fun q => n (by simp [q])) (fun q => n (by simp [q])) (fun q => n (by simp [q])) e))
  | succ k ih =>
    intro i s H us hk hi I S0 ha hb eS hul hat hf st
    have hlt : i < xs.length := by omega
    obtain ⟨hTI, h1, h2, hzz⟩ := st
    obtain ⟨its, rv, p1, _⟩ := I.list (SqL.of ha)
    obtain ⟨its2, rv2, p2, _⟩ := I.list (SqL.of hb)
    have hx : xs[i]? = some xs[i] := List.getElem?_eq_getElem hlt
    have hy : ys[i]? = some (ys[i]'(by omega)) := List.getElem?_eq_getElem (by omega)
    generalize xs[i] = x at hx
    generalize (ys[i]'(by omega)) = y at hy
    obtain ⟨u, hu, ru⟩ := rv.get hx
    obtain ⟨u2, hu2, ru2⟩ := rv2.get hy
    refine codeAny_builtin F.entry_extend_loop ?_
    rw [Around.under_plainId F.plain_extend_loop _]
    show wpAny _ A.in1 (pyNext (.ref z) >>= _) _ _ s
    have lt : ∀ {c o}, s.heap.get? c = some o → s.heap.objs.size ≠ c := fun e => Nat.ne_of_gt (Heap.lt_size e)
    have n1 : s.heap.objs.size ≠ i1 := let ⟨_, e, _⟩ := h1; lt e
    have n2 : s.heap.objs.size ≠ i2 := let ⟨_, e, _⟩ := h2; lt e
    have nz : s.heap.objs.size ≠ z := by
      rcases hzz with ⟨hzz, _⟩ | ⟨T, f, oT, hzz, _⟩
      · exact lt hzz
      · exact lt hzz
    have nS0 : s.heap.objs.size ≠ S := by
      obtain ⟨_, _, _, _, _, e⟩ := I.lstM eS
      exact lt e
    have step : s.heap.objs.size ≠ TO → ∀ h', h'.IsListIter i1 a (i + 1) → h'.IsListIter i2 b (i + 1) → IsPair h' s.heap.objs.size u u2 → h'.objs.size = s.heap.objs.size + 1 → (∀ c o, c ∉ [z, TO, i1, i2] → s.heap.get? c = some o → h'.get? c = some o) →
        ((IsZip h' z TI TO .none ∧ ∃ x y, IsPair h' TO x y) ∨ ∃ T f oT, IsZipHeld h' z TI TO T f ∧ h'.get? T = some oT ∧ T ≠ z ∧ T ≠ i1 ∧ T ≠ i2 ∧ T ≠ S ∧ ∃ x y, IsPair h' TO x y) →
        wpAny (model X.prog X.w) A.in1 (updateSeq S (·.push (.ref s.heap.objs.size)) >>= fun _ => again (.builtin "list.extend.loop" ⟨[.ref S, .ref z, .none], []⟩))
          (fun fin s' => match fin with | .done f => R (.ok f) s' | .again c' => c'.quiet = true ∧ codeAny (model X.prog X.w) A c' R s') (fun e s' => R (.error e) s') { s with heap := h' } := by
      intro nTO h' a1 a2 aT asz hkp aZ
      have hTn := I.hok.fresh (Nat.le_refl s.heap.objs.size)
      have new : ObjOk X.prog X.w (upd H s.heap.objs.size (.tup [x, y])) h' s.heap.objs.size (.tup [x, y]) := ⟨by show 2 ≤ sizeLine; decide, [u, u2], .cons ru (.cons ru2 .nil), ⟨_, aT, rfl, _, rfl⟩⟩
      have I1 : Inv X pins σ (upd H s.heap.objs.size (.tup [x, y])) { s with heap := h' } :=
        I.turnedNew (t' := s.toks) (ch := [z, TI, TO, i1, i2]) (fun c o n e => hkp c o (fun q => n (by simp at q ⊢; rcases q with q | q | q | q <;> simp [q])) e) hf (Nat.le_refl _) new
      have S1 : Same H (upd H s.heap.objs.size (.tup [x, y])) := same_upd hTn
      have eS1 := S1 _ _ eS
      obtain ⟨zz, its3, n3, r3, hl3, e3⟩ := I1.lstM eS1
      have h3l := r3.length
      refine wpAny_bind (wpAny_updateSeq e3 rfl (wpAny_pure ⟨plainId_quiet F.plain_extend_loop _, ?_⟩) (by rw [List.size_toArray]; omega) (by show (Array.push _ _).size ≤ sizeLine + 1; rw [Array.size_push, List.size_toArray]; omega))
      have eU := Heap.get?_update_self (Obj.mapSeq (·.push (Value.ref s.heap.objs.size))) e3 rfl
      have I2 := I1.lset (its' := its3 ++ [.ref s.heap.objs.size]) (ys := us ++ [.ref s.heap.objs.size]) (f := (·.push (Value.ref s.heap.objs.size))) (t' := s.toks) eS1 e3 (by simp) (r3.append (.cons (show L2.RelV (.ref s.heap.objs.size) (Value.ref s.heap.objs.size) from rfl) .nil)) (by rw [List.length_append, hul]; show i + 1 ≤ _; omega)
      have oth : ∀ c o, c ≠ S → h'.get? c = some o → (h'.update S (Obj.mapSeq (·.push (Value.ref s.heap.objs.size)))).get? c = some o := fun c o n e => (Heap.get?_update_other _ _ (Ne.symm n)).trans e
      obtain ⟨m1, m2, m3, m4, m5⟩ := nS
      have hS2 : ∀ {o : HO}, Same H0 (upd (upd H s.heap.objs.size (.tup [x, y])) S o) := fun {o} => Same.of_upd (S0.trans S1) n0
      have sql : ∀ {c : Addr} {vs : List V}, S ≠ c → H c = some (.lst vs) → (upd (upd H s.heap.objs.size (.tup [x, y])) S (.lst (us ++ [.ref s.heap.objs.size]))) c = some (.lst vs) := fun {c vs} hc h => by
        have h' := S1 _ _ h
        rw [upd_ne (Ne.symm hc)]
        exact h'
      refine ih (i + 1) _ _ (us ++ [.ref s.heap.objs.size]) (by omega) hlt I2 hS2 (sql nSa ha) (sql nSb hb) upd_same (by rw [List.length_append, hul]; rfl) (fun j v hj => ?_) (fun c hc => ?_) ?_
      · by_cases c : j < i
        · rw [List.getElem?_append_left (by omega)] at hj
          obtain ⟨T, x', y', q1, q2, q3, q4⟩ := hat j v hj
          refine ⟨T, x', y', q1, q2, q3, ?_⟩
          have q5 := S1 _ _ q4
          rw [upd_ne (fun q => by rw [q, eS1] at q5; cases q5)]
          exact q5
        · have hjl := (List.getElem?_eq_some_iff.mp hj).1
          rw [List.length_append] at hjl
          have hjl : j < us.length + 1 := hjl
          have e : j = i := by omega
          subst e
          rw [List.getElem?_append_right (by omega), hul, Nat.sub_self] at hj
          cases hj
          exact ⟨s.heap.objs.size, x, y, rfl, hx, hy, by rw [upd_ne nS0]; exact upd_same⟩
      · obtain ⟨g1, g2⟩ := hf c hc
        refine ⟨?_, g2⟩
        have cS : c ≠ S := fun q => by rw [q] at g1; rw [g1] at eS; cases eS
        have cT : c ≠ s.heap.objs.size := by
          have e' : c = z ∨ c = TI ∨ c = TO ∨ c = i1 ∨ c = i2 := by simpa using hc
          rcases e' with q | q | q | q | q
          · rw [q]; exact Ne.symm nz
          · rw [q]; exact Ne.symm (lt hTI)
          · rw [q]; exact Ne.symm nTO
          · rw [q]; exact Ne.symm n1
          · rw [q]; exact Ne.symm n2
        rw [upd_ne cS, upd_ne cT]
        exact g1
      · refine ⟨oth _ _ (Ne.symm m2) (hkp _ _ (by simp [D.TIz, D.TITO, D.TIi1, D.TIi2]) hTI), a1.at fun o e => oth _ _ (Ne.symm m4) e, a2.at fun o e => oth _ _ (Ne.symm m5) e, ?_⟩
        rcases aZ with ⟨g1, x', y', g2⟩ | ⟨T, f, oT, g1, g2, g3, g4, g5, g6, x', y', g7⟩
        · exact .inl ⟨oth _ _ (Ne.symm m1) g1, x', y', oth _ _ (Ne.symm m3) g2⟩
        · exact .inr ⟨T, f, oT, oth _ _ (Ne.symm m1) g1, oth _ _ g6 g2, g3, g4, g5, g6, x', y', oth _ _ (Ne.symm m3) g7⟩
    rcases hzz with ⟨hzz, x0, y0, hTO⟩ | ⟨T, f, oT, hzz, hT, r1, r2, r3, r4, x0, y0, hTO⟩
    · refine wpAny_bind (wpAny_pyNext_zip_item D hzz hTI hTO h1 h2 p1.isList p2.isList (x := u) (y := u2) (by simpa using hu) (by simpa using hu2) fun h' z' TO' a1 a2 aT asz hk => step (lt hTO) h' a1 a2 aT asz (fun c o n e => hk c o (fun q => n (by simp [q])) (fun q => n (by simp [q])) (fun q => n (by simp [q])) (fun q => n (by simp [q])) e) (.inr ⟨_, _, _, z', aT, nz, n1, n2, nS0, _, _, TO'⟩))
    · refine wpAny_bind (wpAny_pyNext_zip_item_held D hzz hT hTI h1 h2 p1.isList p2.isList (x := u) (y := u2) (by simpa using hu) (by simpa using hu2) fun h' z' a1 a2 aT asz hk => step (lt hTO) h' a1 a2 aT asz (fun c o n e => hk c o (fun q => n (by simp [q])) (fun q => n (by simp [q])) (fun q => n (by simp [q])) e) (.inr ⟨T, _, oT, z', hk _ _ r1 r2 r3 hT, r1, r2, r3, r4, _, _, hk _ _ D.TOz D.TOi1 D.TOi2 hTO⟩))
/-- list(zip(a, b)) -/
noncomputable def tLstZip (ta : TA) : TE := fun σ H Q => ta σ H fun vs H1 => ∃ (a b : Addr) (xs ys : List V), vs = [.ref a, .ref b] ∧ H1 a = some (.lst xs) ∧ H1 b = some (.lst ys) ∧ xs.length = ys.length ∧
  ∀ (l : Addr) (us : List V) (H2 : Hp), H1 l = none → Same H1 H2 → H2 l = some (.lst us) → us.length = xs.length → ZipAt H2 us xs ys → Q (.ref l) H2
theorem pe_listZip {X : Cx} {e e2 : Expr} {ta : TA} {p p2 pos pos2 : Pos} (hc : X.calm = true) (hg : Gl X "list") (hm : X.mg "list" = none) (hg2 : Gl X "zip") (hm2 : X.mg "zip" = none) (ha : PA X [e, e2] ta)
    (na : starEach [.Call (.Name "zip" p2) [e, e2] [] pos2] X.env = (false, eval (.Call (.Name "zip" p2) [e, e2] [] pos2) X.env) :: starEach [] X.env := by rfl)
    (hs : starEach [e, e2] X.env = (false, eval e X.env) :: starEach [e2] X.env := by rfl) (hpl : (backTo pos2 (starEach [e2] X.env)).any (·.1) = false := by rfl) :
    PE X (.Call (.Name "list" p) [.Call (.Name "zip" p2) [e, e2] [] pos2] [] pos) (tLstZip ta) := by
  refine ⟨fun pins s σ H Q I h => ?_⟩
  refine Call_ (ld_blt I hg hm boot_list (PyProof.Rows.callWith_type1 (args_cons ?_ na) na))
  refine Call_ (ld_blt I hg2 hm2 PyProof.Rows.boot_zip (PyProof.Rows.callWith_type1 (thn (ha.run pos2 pins s σ H _ I h) fun us s1 ⟨vs, H1, I1, r1, q1⟩ => ?_) hs hpl))
  obtain ⟨a, b, xs, ys, ex, hqx, hqy, hxy, q⟩ := q1
  subst ex
  obtain ⟨zx, _⟩ := I1.lstM hqx
  cases r1 with
  | cons r rr =>
    cases rr with
    | cons r' rr =>
      cases rr
      cases r
      cases r'
      obtain ⟨its, rv, p1, _⟩ := I1.list (SqL.of hqx)
      obtain ⟨its2, rv2, p2', _⟩ := I1.list (SqL.of hqy)
      refine call_zip_2 p1.isList p2'.isList fun h' hz hTI hTO h1 h2 hsz hk => args_nil ?_
      obtain ⟨N, hN⟩ : ∃ N, N = s1.heap.objs.size := ⟨_, rfl⟩
      have alt : a < N := by rw [hN]; exact p1.lt
      have blt : b < N := by rw [hN]; exact p2'.lt
      have D := PySem.W.ktu_apart s1.heap.objs.size a b p1.lt p2'.lt
      have I2 : Inv X pins σ H1 { s1 with heap := h' } := I1.kept (t' := s1.toks) hk
      have fresh5 : ∀ (H' : Hp) c, c ∈ [N + 4, N + 2, N + 3, N, N + 1] → H' c = none → FpOk X pins H' c := fun H' c hcm hn => by
        have hle : s1.heap.objs.size ≤ c := by
          rw [← hN]
          have e' : c = N + 4 ∨ c = N + 2 ∨ c = N + 3 ∨ c = N ∨ c = N + 1 := by simpa using hcm
          omega
        exact I1.fpOk hle hn
      rw [← hN] at hz hTI hTO h1 h2 hsz D
      rw [← hN]
      -- the new list
      generalize hS : h'.objs.size = S
      have hSN : S = N + 5 := by rw [← hS]; exact hsz
      refine callType_codes (Q₁ := fun obj s₁ => obj = .ref S ∧ s₁ = { s1 with heap := h'.push { cls := .type "list", data := .seq #[] } }) F.called_list (F.typeCall_list_1 _) F.entry_list_init
        (code_list_new (s := { s1 with heap := h' }) _ ⟨by rw [← hS], rfl⟩) fun obj s₁ hob => ?_
      obtain ⟨rfl, rfl⟩ := hob
      have hS1 : (h'.push { cls := .type "list", data := .seq #[] }).get? S = some { cls := .type "list", data := .seq #[] } := by rw [← hS]; exact Heap.get?_push_size _ rfl
      refine ⟨⟨_, hS1, rfl⟩, F.args_list_init_2 _ _, ?_⟩
      show wpAny _ X.A.in1.in1 (do let old ← Builtin.List.listItems (.ref S); Builtin.List.listUpdate (.ref S) (fun _ => #[]); letGo old.toList.reverse; Builtin.List.listExtendWith (.ref S) (.ref (N + 4)) .none) _ _ _
      refine wpAny_bind ?_
      unfold Builtin.List.listItems
      refine wpAny_bind (wpAny_seqItems hS1 rfl (wpAny_pure ?_))
      show wpAny _ X.A.in1.in1 (updateSeq S (fun _ => #[]) >>= fun _ => letGo (#[] : Array Value).toList.reverse >>= fun _ => Builtin.List.listExtendWith (.ref S) (.ref (N + 4)) .none) _ _ _
      refine wpAny_bind (wpAny_updateSeq hS1 rfl ?_)
      have hS2 := Heap.get?_update_self (Obj.mapSeq (fun _ => (#[] : Array Value))) hS1 rfl
      refine wpAny_bind (wpAny_letGo ?_)
      unfold Builtin.List.listExtendWith
      have up : ∀ (g : Heap) (f : Obj → Obj), (∀ b o, h'.get? b = some o → g.get? b = some o) → ∀ b o, h'.get? b = some o → (g.update S f).get? b = some o := fun g f q b o e =>
        (Heap.get?_update_other _ _ (Ne.symm (Nat.ne_of_lt (by rw [← hS]; exact Heap.lt_size e)))).trans (q b o e)
      have k1 : ∀ b o, h'.get? b = some o → (h'.push { cls := .type "list", data := .seq #[] }).get? b = some o := fun b o e => Heap.get?_push_of_some _ e
      have k2 := up _ (Obj.mapSeq (fun _ => (#[] : Array Value))) k1
      have gty : ∀ {g : Heap} (_ : ∀ b o, h'.get? b = some o → g.get? b = some o), Shared.TypeIs { s1 with heap := g } (.ref (N + 4)) "zip" := fun {g} q => ⟨_, q _ _ hz, rfl⟩
      refine wpAny_bind (wpAny_typeOf (gty k2) ?_)
      have g1 : Builtin.List.listSameRef (.ref S) (.ref (N + 4)) = false := by
        have : S ≠ N + 4 := by omega
        simp [Builtin.List.listSameRef, this]
      have g2 : (Value.type "zip" == Value.type "list") = false := by decide
      have g3 : (Value.type "zip" == Value.type "tuple") = false := by decide
      simp only [g1, g2, g3, Bool.or_false, Bool.false_eq_true, if_false]
      refine wpAny_bind (wpAny_pyIter_zip (s := { s1 with heap := _ }) (k2 _ _ hz) ?_)
      refine wpAny_bind (wpAny_holding ?_)
      unfold Builtin.List.listLengthHint
      refine wpAny_bind (wpAny_specialOf (gty k2) zip_no_len ?_)
      show wpAny _ X.A.in1.in1 (specialOf (Value.ref (N + 4)) (Str.ofString "__length_hint__") >>= _) _ _ _
      refine wpAny_bind (wpAny_specialOf (gty k2) zip_no_hint ?_)
      refine wpAny_pure ?_
      show wpAny _ X.A.in1.in1 (rule "list.extend.makes-room" >>= fun _ => Builtin.List.listTouch (.ref S) >>= fun _ => again (.builtin "list.extend.loop" ⟨[.ref S, .ref (N + 4), .none], []⟩)) _ _ _
      refine wpAny_bind (wpAny_rule ?_)
      refine wpAny_bind ?_
      show wpAny _ X.A.in1.in1 (updateSeq S (·.push .none) >>= fun _ => updateSeq S (·.pop)) _ _ _
      refine wpAny_bind (wpAny_updateSeq hS2 rfl ?_)
      have hS3 := Heap.get?_update_self (Obj.mapSeq (·.push Value.none)) hS2 rfl
      refine wpAny_updateSeq (hz := by seq_fits) hS3 rfl ?_
      have hS4 := Heap.get?_update_self (Obj.mapSeq (·.pop)) hS3 rfl
      have k4 := up _ (Obj.mapSeq (·.pop)) (up _ (Obj.mapSeq (·.push Value.none)) k2)
      have nH : H1 S = none := I1.hok.fresh (by rw [← hN]; omega)
      have nS : S ≠ N + 4 ∧ S ≠ N + 2 ∧ S ≠ N + 3 ∧ S ≠ N ∧ S ≠ N + 1 := ⟨by rw [hSN]; exact Nat.ne_of_gt (Nat.lt_succ_self _), by rw [hSN]; intro e; exact absurd (Nat.add_left_cancel e) (by decide), by rw [hSN]; intro e; exact absurd (Nat.add_left_cancel e) (by decide), by rw [hSN]; exact Nat.ne_of_gt (Nat.lt_add_of_pos_right (by decide)), by rw [hSN]; intro e; exact absurd (Nat.add_left_cancel e) (by decide)⟩
      have nSa : S ≠ a := Nat.ne_of_gt (Nat.lt_of_lt_of_le alt (by rw [hSN]; exact Nat.le_add_right _ _))
      have nSb : S ≠ b := Nat.ne_of_gt (Nat.lt_of_lt_of_le blt (by rw [hSN]; exact Nat.le_add_right _ _))
      have I4 := I2.laid (a := S) (o := .lst []) (t' := s1.toks) k4 (by show h'.objs.size ≤ S; omega) (show ObjOk X.prog X.w _ _ _ (.lst []) from ⟨Nat.zero_le _, [], _, .nil, hS4⟩)
      have S1 : Same H1 (upd H1 S (.lst [])) := same_upd nH
      refine wpAny_pure ⟨plainId_quiet F.plain_extend_loop _, ?_⟩
      refine zip_loop (A := X.A.in1) (z := N + 4) (TI := N + 2) (TO := N + 3) (i1 := N) (i2 := N + 1) (S := S) (xs := xs) (ys := ys) (I1.ok.hd hc) D hxy zx nS nSa nSb H1 nH
        (fun s' H' us I' S' e' l' z' => ⟨rfl, .ref S, H', I', rfl, q S us H' nH S' e' l' z'⟩) xs.length 0 _ _ [] rfl (Nat.zero_le _) I4 S1 (S1 _ _ hqx) (S1 _ _ hqy) upd_same rfl (fun j u e => nomatch e) (fun c hcm => fresh5 _ c hcm ?_)
        ⟨k4 _ _ hTI, h1.at fun o e => k4 _ o e, h2.at fun o e => k4 _ o e, .inl ⟨k4 _ _ hz, _, _, k4 _ _ hTO⟩⟩
      obtain ⟨m1, m2, m3, m4, m5⟩ := nS
      have e' : c = N + 4 ∨ c = N + 2 ∨ c = N + 3 ∨ c = N ∨ c = N + 1 := by simpa using hcm
      rcases e' with e | e | e | e | e
      · rw [e, upd_ne (Ne.symm m1)]; exact I1.hok.fresh (by rw [← hN]; exact Nat.le_add_right _ _)
      · rw [e, upd_ne (Ne.symm m2)]; exact I1.hok.fresh (by rw [← hN]; exact Nat.le_add_right _ _)
      · rw [e, upd_ne (Ne.symm m3)]; exact I1.hok.fresh (by rw [← hN]; exact Nat.le_add_right _ _)
      · rw [e, upd_ne (Ne.symm m4)]; exact I1.hok.fresh (by rw [← hN]; exact Nat.le_refl _)
      · rw [e, upd_ne (Ne.symm m5)]; exact I1.hok.fresh (by rw [← hN]; exact Nat.le_add_right _ _)
noncomputable def altG {α : Type} (xs : List α) (o : Nat) : List α := (List.range ((xs.length - o + 1) / 2)).filterMap fun k => xs[o + 2 * k]?
theorem fm_at {α : Type} (xs : List α) (g : Nat → Nat) : ∀ (m : Nat), (∀ k, k < m → g k < xs.length) → ((List.range m).filterMap fun k => xs[g k]?).length = m ∧ ∀ k, k < m → ((List.range m).filterMap fun k => xs[g k]?)[k]? = xs[g k]?
  | 0, _ => ⟨rfl, fun k h => absurd h (Nat.not_lt_zero _)⟩
  | m + 1, h => by
    obtain ⟨h1, h2⟩ := fm_at xs g m fun k hk => h k (Nat.lt_succ_of_lt hk)
    have e : xs[g m]? = some (xs[g m]'(h m (Nat.lt_succ_self _))) := List.getElem?_eq_getElem _
    rw [List.range_succ, List.filterMap_append, List.filterMap_cons, e, List.filterMap_nil]
    refine ⟨by rw [List.length_append, h1]; rfl, fun k hk => ?_⟩
    by_cases c : k < m
    · rw [List.getElem?_append_left (by omega)]
      exact h2 k c
    · have : k = m := by omega
      subst this
      rw [List.getElem?_append_right (by omega), h1, Nat.sub_self, e]
      rfl
theorem altG_len {α : Type} (xs : List α) (o : Nat) : (altG xs o).length = (xs.length - o + 1) / 2 := (fm_at xs (fun k => o + 2 * k) _ fun k hk => by omega).1
theorem altG_at {α : Type} (xs : List α) (o : Nat) {k : Nat} (h : k < (xs.length - o + 1) / 2) : (altG xs o)[k]? = xs[o + 2 * k]? := (fm_at xs (fun k => o + 2 * k) _ fun k hk => by omega).2 k h
theorem pick_alt (its : List Value) : slicePick its.toArray none none (some 2) = (altG its 0).toArray := by
  unfold slicePick altG
  have e : sliceBounds none none (some 2) its.toArray.size = (0, (its.length : Int), 2) := by
    rw [List.size_toArray]
    rfl
  rw [e]
  unfold sliceRange
  have e2 : (if (0 : Int) < (its.length : Int) then ((its.length : Int) - 0 + 2 - 1) / 2 else 0).toNat = (its.length - 0 + 1) / 2 := by
    by_cases c : (0 : Int) < (its.length : Int)
    · rw [if_pos c]; omega
    · rw [if_neg c]; omega
  show ((((List.range (if (0 : Int) < (its.length : Int) then ((its.length : Int) - 0 + 2 - 1) / 2 else 0).toNat).map fun (k : Nat) => ((0 : Int) + 2 * (k : Int)).toNat)).filterMap (its.toArray[·]?)).toArray = _
  rw [e2, List.filterMap_map]
  refine congrArg List.toArray (congrArg (fun g => List.filterMap g _) (funext fun k => ?_))
  show its.toArray[((0 : Int) + 2 * (k : Int)).toNat]? = its[0 + 2 * k]?
  rw [List.getElem?_toArray, show ((0 : Int) + 2 * (k : Int)).toNat = 0 + 2 * k by omega]
theorem pick_alt1 (its : List Value) (h : 1 ≤ its.length) : slicePick its.toArray (some 1) none (some 2) = (altG its 1).toArray := by
  unfold slicePick altG
  have e : sliceBounds (some 1) none (some 2) its.toArray.size = (1, (its.length : Int), 2) := by
    rw [List.size_toArray]
    show (max 0 (min (if (1 : Int) < 0 then 1 + (its.length : Int) else 1) (its.length : Int)), _, _) = _
    rw [if_neg (by decide), show max 0 (min (1 : Int) (its.length : Int)) = 1 by omega]
    rfl
  rw [e]
  unfold sliceRange
  have e2 : (if (1 : Int) < (its.length : Int) then ((its.length : Int) - 1 + 2 - 1) / 2 else 0).toNat = (its.length - 1 + 1) / 2 := by
    by_cases c : (1 : Int) < (its.length : Int)
    · rw [if_pos c]; omega
    · rw [if_neg c]; omega
  show ((((List.range (if (1 : Int) < (its.length : Int) then ((its.length : Int) - 1 + 2 - 1) / 2 else 0).toNat).map fun (k : Nat) => ((1 : Int) + 2 * (k : Int)).toNat)).filterMap (its.toArray[·]?)).toArray = _
  rw [e2, List.filterMap_map]
  refine congrArg List.toArray (congrArg (fun g => List.filterMap g _) (funext fun k => ?_))
  show its.toArray[((1 : Int) + 2 * (k : Int)).toNat]? = its[1 + 2 * k]?
  rw [List.getElem?_toArray, show ((1 : Int) + 2 * (k : Int)).toNat = 1 + 2 * k by omega]
theorem vals_alt {xs : List V} {its : List Value} (r : Vals xs its) (o : Nat) : Vals (altG xs o) (altG its o) := by
  have hl := r.length
  refine vals_of_at (by rw [altG_len, altG_len, hl]) fun j x u h1 h2 => ?_
  have hj := (List.getElem?_eq_some_iff.mp h1).1
  rw [altG_len] at hj
  rw [altG_at xs o hj] at h1
  rw [altG_at its o (by omega)] at h2
  obtain ⟨u', hu, ru⟩ := r.get h1
  rw [hu] at h2
  cases h2
  exact ru
noncomputable def tAlt (K : PySem.W.Frag) (te : TE) (tl : L2.TO) : TE := fun σ H Q => te σ H fun x H1 => tl σ H1 fun lo H2 => ∃ a xs o, x = .ref a ∧ SqL K H2 a xs ∧ ((lo = none ∧ o = 0) ∨ (lo = some 1 ∧ o = 1 ∧ 1 ≤ xs.length)) ∧ NewAt H2 (.lst (altG xs o)) Q
theorem pe_alt2 {X : Cx} {K : PySem.W.Frag} {e : Expr} {lo : Option Expr} {te : TE} {tl : L2.TO} {k : Nat} {p1 p3 pos : Pos} (hK : X.K = K) (he : PE X e te) (hl : PO X lo tl) (hops : ∀ a b : Value, ∃ ops, subscripted (.Slice lo none (some (.Constant (.int 2) k p1)) p3) false a b = operate ops (getItem a b)) : PE X (.Subscript e (.Slice lo none (some (.Constant (.int 2) k p1)) p3) pos) (tAlt K te tl) := by
  refine ⟨fun pins s σ H Q I h => ?_⟩
  refine Subscript_ (thn (he.run pins s σ H _ I h) fun v s1 hq => ?_)
  obtain ⟨x, H1, I1, r1, q1⟩ := hq
  have hst : PO X (some (.Constant (.int 2) k p1)) (tPart (tC (.int 2))) := po_some pe_int
  refine wpAny_Slice (thn (hl.run pins s1 σ H1 _ I1 q1) fun vl s2 z2 => ?_)
  obtain ⟨l, H2, I2, pl, a, xs, o, ex, hx, ho, q⟩ := z2
  subst ex
  cases r1
  refine thn (po_none.run pins s2 σ H2 (fun o H3 => o = none ∧ H3 = H2) I2 ⟨rfl, rfl⟩) fun vu s3 z3 => ?_
  obtain ⟨u, H3, I3, pu, eu, e3⟩ := z3
  subst eu e3
  refine thn (hst.run pins s3 σ H3 (fun o H4 => o = some 2 ∧ H4 = H3) I3 ⟨2, rfl, rfl, rfl⟩) fun vs s4 z4 => ?_
  obtain ⟨o', H4, I4, ps, eo, e4⟩ := z4
  subst eo e4
  have I5 : Inv X pins σ H4 { s4 with heap := s4.heap.push { cls := .type "slice", data := .fields #[vl, vu, vs] } } := I4.kept (t' := s4.toks) fun b ob z => Heap.get?_push_of_some _ z
  obtain ⟨its, r, ht, hz⟩ := I5.list (by rw [hK]; exact hx)
  have hlen := r.length
  show wpAny (model X.prog X.w) X.A (subscriptTail e (.Slice lo none (some (.Constant (.int 2) k p1)) p3) (.ref a) (.ref s4.heap.objs.size)) (EP X pins σ Q) X.xe { s4 with heap := s4.heap.push { cls := .type "slice", data := .fields #[vl, vu, vs] } }
  obtain ⟨ops, hop⟩ := hops (.ref a) (.ref s4.heap.objs.size)
  refine tail_any (ops := ops) ht.isList.typeIs (PySem.slot_list_getitem.lookup) ?_ hop
  refine wpAny_getItem_list_slice ht.isList (Heap.IsSliceOf.new _ vl vu vs) pl pu ps (by decide) ?_ (by rw [List.size_toArray]; omega)
  have ep : slicePick its.toArray l none (some 2) = (altG its o).toArray := by
    rcases ho with ⟨rfl, rfl⟩ | ⟨rfl, rfl, h1⟩
    · exact pick_alt its
    · exact pick_alt1 its (by omega)
  rw [ep]
  refine ⟨.ref _, _, I5.laid (t' := s4.toks) (o := .lst (altG xs o)) (fun b ob z => Heap.get?_push_of_some _ z) (Nat.le_refl _) ?_, rfl, q.upd (I5.hok.fresh (Nat.le_refl _))⟩
  exact ⟨by rw [altG_len]; omega, _, 0, vals_alt r o, Heap.get?_push_size _ rfl⟩
theorem pe_altN {X : Cx} {K : PySem.W.Frag} {e : Expr} {te : TE} {k : Nat} {p1 p3 pos : Pos} (hK : X.K = K) (he : PE X e te) : PE X (.Subscript e (.Slice none none (some (.Constant (.int 2) k p1)) p3) pos) (tAlt K te tNoPart) := pe_alt2 hK he po_none fun a b => by
  first
  | exact ⟨[b, a], by with_unfolding_all rfl⟩
  | exact ⟨[a, b], by with_unfolding_all rfl⟩
theorem pe_alt1 {X : Cx} {K : PySem.W.Frag} {e : Expr} {te : TE} {k k' : Nat} {p0 p1 p3 pos : Pos} (hK : X.K = K) (he : PE X e te) : PE X (.Subscript e (.Slice (some (.Constant (.int 1) k' p0)) none (some (.Constant (.int 2) k p1)) p3) pos) (tAlt K te (tPart (tC (.int 1)))) := pe_alt2 hK he (po_some pe_int) fun a b => by
  first
  | exact ⟨[b, a], by with_unfolding_all rfl⟩
  | exact ⟨[a, b], by with_unfolding_all rfl⟩
theorem ip_fdiv {X : Cx} : PIp X .FloorDiv (fun x y H Q => ∃ i j : Int, x = .int i ∧ y = .int j ∧ 0 < j ∧ j < 1073741824 ∧ Q (.int (i / j)) H) := by
  intro pins s σ H x y v u Q I r1 r2 h
  obtain ⟨i, j, e1, e2, h1, h2, q⟩ := h
  subst e1; subst e2
  obtain ⟨t, rfl⟩ := r1
  obtain ⟨t', rfl⟩ := r2
  exact ifloordiv_int (by omega) (by rw [Int.fdiv_eq_ediv_of_nonneg i (by omega)]; exact ⟨.int _, H, I.tok _, ⟨_, rfl⟩, q⟩) (.inl (PyProof.noPylong_small (by omega)))
/-- a += b, of lists: the same list, longer -/
noncomputable def rExtN : R2 := fun x y H Q => ∃ l b xs zs, x = .ref l ∧ y = .ref b ∧ H l = some (.lst xs) ∧ H b = some (.lst zs) ∧ xs.length + zs.length ≤ 100000 ∧ Q (.ref l) (upd H l (.lst (xs ++ zs)))
theorem ip_ext {X : Cx} : PIp X .Add rExtN := fun pins s σ H x y v u Q I r1 r2 ⟨l, b, xs, zs, e1, e2, h1, h2, hz, q⟩ => iop_ext pins s σ H x y v u Q I r1 r2 ⟨l, b, xs, zs, e1, e2, h1, h2, Nat.le_trans hz (by decide), q⟩
end Pan
namespace Pan
open PySem PySem.Spec PyProof.Rows L2
noncomputable abbrev PtL := List (Str × Nat)
noncomputable def flatK : List (Key × Key) → List Key
  | [] => []
  | p :: N => p.1 :: p.2 :: flatK N
theorem flat_len : ∀ N : List (Key × Key), (flatK N).length = 2 * N.length
  | [] => rfl
  | p :: N => by
    show (flatK N).length + 1 + 1 = 2 * (N.length + 1)
    rw [flat_len N]
    omega
theorem flat_app : ∀ N M : List (Key × Key), flatK (N ++ M) = flatK N ++ flatK M
  | [], _ => rfl
  | p :: N, M => by
    show p.1 :: p.2 :: flatK (N ++ M) = p.1 :: p.2 :: (flatK N ++ flatK M)
    rw [flat_app N M]
theorem flat_at : ∀ {N : List (Key × Key)} {i : Nat} {p : Key × Key}, N[i]? = some p → (flatK N)[2 * i]? = some p.1 ∧ (flatK N)[2 * i + 1]? = some p.2
  | [], i, p, h => nomatch h
  | q :: N, 0, p, h => by
    cases h
    exact ⟨rfl, rfl⟩
  | q :: N, i + 1, p, h => by
    have := flat_at (N := N) (i := i) (p := p) h
    exact this
theorem flat_lead {N : List (Key × Key)} {i : Nat} (h : i < N.length) (r : Bool) : (flatK N)[2 * i + (if r then 1 else 0)]? = some (leadM N i r) := by
  have e : N[i]? = some N[i] := List.getElem?_eq_getElem h
  obtain ⟨h1, h2⟩ := flat_at e
  rw [leadM_at e]
  cases r
  · exact h1
  · exact h2
noncomputable def prK : List Key → List (Key × Key)
  | x :: y :: r => (x, y) :: prK r
  | _ => []
theorem prK_two : ∀ (m : Nat) (L : List Key), L.length = 2 * m → (prK L).length = m ∧ flatK (prK L) = L
  | 0, [], _ => ⟨rfl, rfl⟩
  | m + 1, x :: y :: r, h => by
    have h : r.length + 1 + 1 = 2 * (m + 1) := h
    obtain ⟨a, b⟩ := prK_two m r (by omega)
    refine ⟨?_, ?_⟩
    · show (prK r).length + 1 = m + 1
      rw [a]
    · show x :: y :: flatK (prK r) = x :: y :: r
      rw [b]
  | 0, _ :: _, h => by
    have h : _ + 1 = 2 * 0 := h
    omega
  | m + 1, [], h => by
    have h : 0 = 2 * (m + 1) := h
    omega
  | m + 1, [_], h => by
    have h : 1 = 2 * (m + 1) := h
    omega
theorem prK_at {L : List Key} {m j : Nat} (h : L.length = 2 * m) (hj : j < m) : ∃ x y, L[2 * j]? = some x ∧ L[2 * j + 1]? = some y ∧ (prK L)[j]? = some (x, y) := by
  obtain ⟨a, b⟩ := prK_two m L h
  have e : (prK L)[j]? = some (prK L)[j] := List.getElem?_eq_getElem (by omega)
  obtain ⟨c, d⟩ := flat_at e
  rw [b] at c d
  exact ⟨_, _, c, d, e⟩
/-- how often one stands in a list -/
noncomputable def cK (x : Key) : List Key → Nat
  | [] => 0
  | y :: l => (if x = y then 1 else 0) + cK x l
theorem cK_app (x : Key) : ∀ l m : List Key, cK x (l ++ m) = cK x l + cK x m
  | [], m => (Nat.zero_add _).symm
  | y :: l, m => by
    show (if x = y then 1 else 0) + cK x (l ++ m) = (if x = y then 1 else 0) + cK x l + cK x m
    rw [cK_app x l m, Nat.add_assoc]
theorem cK_zero {x : Key} : ∀ {l : List Key}, x ∉ l → cK x l = 0
  | [], _ => rfl
  | y :: l, h => by
    have hy : ¬ x = y := fun z => h (by rw [z]; exact List.mem_cons_self)
    show (if x = y then 1 else 0) + cK x l = 0
    rw [if_neg hy, cK_zero fun z => h (List.mem_cons_of_mem _ z)]
theorem cK_one {x : Key} : ∀ {l : List Key}, l.Nodup → x ∈ l → cK x l = 1
  | y :: l, hn, h => by
    have hn := List.nodup_cons.mp hn
    show (if x = y then 1 else 0) + cK x l = 1
    by_cases c : x = y
    · rw [if_pos c, cK_zero (by rw [c]; exact hn.1)]
    · rw [if_neg c, cK_one hn.2 ((List.mem_cons.mp h).resolve_left c)]
theorem pd_ext {N R : List (Key × Key)} {f : Nat → Int → Int × Int} {w : Int} : ∀ i, i ≤ N.length → pdM (N ++ R) f w i = pdM N f w i
  | 0, _ => rfl
  | i + 1, h => by
    have ih := pd_ext (N := N) (R := R) (f := f) (w := w) i (by omega)
    have e : N[i]? = some (N[i]'(by omega)) := List.getElem?_eq_getElem _
    have e2 : (N ++ R)[i]? = some (N[i]'(by omega)) := by rw [List.getElem?_append_left (by omega)]; exact e
    show addK (addK (pdM (N ++ R) f w i) (leadM (N ++ R) i false) _) (leadM (N ++ R) i true) _ = addK (addK (pdM N f w i) (leadM N i false) _) (leadM N i true) _
    rw [ih, leadM_at e, leadM_at e, leadM_at e2, leadM_at e2]
theorem pd_run {N : List (Key × Key)} {w u : Int} {n : Nat} : ∀ (t : Nat), n + t ≤ N.length → (∀ i, i < t → pdM N halfF w n (.inl ((n + i : Nat) : Int)) = u) → (∀ i, i < t → .inl ((n + i : Nat) : Int) ∉ ((flatK N).drop (2 * n)).take (2 * t)) →
    ∀ x, pdM N halfF w (n + t) x = pdM N halfF w n x + (u / 2) * (cK x (((flatK N).drop (2 * n)).take (2 * t)) : Nat)
  | 0, _, _, _, x => by
    show _ = _ + (u / 2) * (0 : Nat)
    simp
  | t + 1, hl, hu, hn, x => by
    have hsub : ∀ y, y ∈ ((flatK N).drop (2 * n)).take (2 * t) → y ∈ ((flatK N).drop (2 * n)).take (2 * (t + 1)) := fun y hy => by
      have : ((flatK N).drop (2 * n)).take (2 * t) = (((flatK N).drop (2 * n)).take (2 * (t + 1))).take (2 * t) := by rw [List.take_take, Nat.min_eq_left (by omega)]
      rw [this] at hy
      exact List.mem_of_mem_take hy
    have ih := pd_run (N := N) (w := w) (u := u) (n := n) t (by omega) (fun i hi => hu i (by omega)) (fun i hi z => hn i (by omega) (hsub _ z))
    have hlt : n + t < N.length := by omega
    have h0 := ih (.inl ((n + t : Nat) : Int))
    have hc : cK (.inl ((n + t : Nat) : Int)) (((flatK N).drop (2 * n)).take (2 * t)) = 0 := cK_zero fun z => hn t (by omega) (hsub _ z)
    rw [hc, hu t (by omega)] at h0
    have h0 : pdM N halfF w (n + t) (.inl ((n + t : Nat) : Int)) = u := by
      rw [h0]
      simp
    have e0 := flat_lead hlt false
    have e1 := flat_lead hlt true
    have tk : ((flatK N).drop (2 * n)).take (2 * (t + 1)) = ((flatK N).drop (2 * n)).take (2 * t) ++ [leadM N (n + t) false, leadM N (n + t) true] := by
      rw [show 2 * (t + 1) = 2 * t + 1 + 1 by omega, List.take_add_one, List.take_add_one, List.getElem?_drop, List.getElem?_drop]
      have a : (flatK N)[2 * n + 2 * t]? = some (leadM N (n + t) false) := by
        rw [show 2 * n + 2 * t = 2 * (n + t) + 0 by omega]
        exact e0
      have b : (flatK N)[2 * n + (2 * t + 1)]? = some (leadM N (n + t) true) := by
        rw [show 2 * n + (2 * t + 1) = 2 * (n + t) + 1 by omega]
        exact e1
      rw [a, b, List.append_assoc]
      rfl
    rw [tk, cK_app]
    show addK (addK (pdM N halfF w (n + t)) (leadM N (n + t) false) (pdM N halfF w (n + t) (.inl ((n + t : Nat) : Int)) / 2)) (leadM N (n + t) true) (pdM N halfF w (n + t) (.inl ((n + t : Nat) : Int)) / 2) x = _
    rw [h0]
    have hx := ih x
    generalize cK x (((flatK N).drop (2 * n)).take (2 * t)) = c at hx ⊢
    have e2 : ∀ (a b : Key), cK x [a, b] = (if x = a then 1 else 0) + ((if x = b then 1 else 0) + 0) := fun a b => rfl
    rw [e2]
    unfold addK
    generalize u / 2 = v at hx ⊢
    have d1 : v * ((c + 1 : Nat) : Int) = v * (c : Int) + v := by rw [Int.natCast_add, Int.mul_add]; simp
    have d2 : v * ((c + 2 : Nat) : Int) = v * (c : Int) + v + v := by rw [Int.natCast_add, Int.mul_add]; simp; omega
    by_cases ca : x = leadM N (n + t) false <;> by_cases cb : x = leadM N (n + t) true
    · rw [if_pos cb, if_pos ca, if_pos ca, if_pos cb, hx]
      show _ = _ + v * ((c + 2 : Nat) : Int)
      rw [d2]; omega
    · rw [if_neg cb, if_pos ca, if_pos ca, if_neg cb, hx]
      show _ = _ + v * ((c + 1 : Nat) : Int)
      rw [d1]; omega
    · rw [if_pos cb, if_neg ca, if_neg ca, if_pos cb, hx]
      show _ = _ + v * ((c + (0 + 1) : Nat) : Int)
      rw [Nat.zero_add, d1]; omega
    · rw [if_neg cb, if_neg ca, if_neg ca, if_neg cb, hx]
      show _ = _ + v * ((c + 0 : Nat) : Int)
      rw [Nat.add_zero]
noncomputable def lvN (P : PtL) (d : Nat) : List Str := (P.filter fun x => x.2.testBit d).map (·.1)
noncomputable def ldK (P : PtL) (d b n : Nat) : List Key := (lvN P d).map Sum.inr ++ (List.range (2 * b - (lvN P d).length)).map fun i => .inl ((n + b + i : Nat) : Int)
noncomputable def trG (P : PtL) : Nat → Nat → List (Key × Key) → List (Key × Key)
  | 0, _, N => N
  | d + 1, b, N => if b = 0 then N else trG P d (2 * b - (lvN P d).length) (N ++ prK (ldK P d b N.length))
noncomputable def sumM (P : PtL) (k : Nat) : Nat := (P.map fun x => x.2 % 2 ^ k).sum
/-- ones below a place -/
noncomputable def cB (P : PtL) : Nat → Nat
  | 0 => 0
  | d + 1 => (lvN P d).length + cB P d
theorem sumM_step : ∀ (P : PtL) (d : Nat), sumM P (d + 1) = (lvN P d).length * 2 ^ d + sumM P d
  | [], d => by
    show 0 = 0 * 2 ^ d + 0
    omega
  | x :: P, d => by
    have ih := sumM_step P d
    show x.2 % 2 ^ (d + 1) + sumM P (d + 1) = _ + (x.2 % 2 ^ d + sumM P d)
    have e1 : x.2 % 2 ^ (d + 1) = x.2 % 2 ^ d + 2 ^ d * (x.2 / 2 ^ d % 2) := Nat.mod_pow_succ
    have e2 : x.2.testBit d = decide (x.2 / 2 ^ d % 2 = 1) := Nat.testBit_eq_decide_div_mod_eq
    rw [ih, e1]
    unfold lvN
    rw [List.filter_cons, e2]
    by_cases c : x.2 / 2 ^ d % 2 = 1
    · rw [c, Nat.mul_one, decide_eq_true rfl, if_pos rfl, List.map_cons, List.length_cons, Nat.add_mul]
      omega
    · have c0 : x.2 / 2 ^ d % 2 = 0 := by omega
      rw [c0, Nat.mul_zero, decide_eq_false (by decide), if_neg (by decide)]
      omega
theorem sumM_zero : ∀ (P : PtL), sumM P 0 = 0
  | [] => rfl
  | x :: P => by
    show x.2 % 2 ^ 0 + sumM P 0 = 0
    rw [sumM_zero P, Nat.pow_zero, Nat.mod_one]
theorem sumM_no : ∀ {P : PtL} {k : Nat}, sumM P k = 0 → ∀ x ∈ P, x.2 % 2 ^ k = 0
  | x :: P, k, h, y, hy => by
    have h : x.2 % 2 ^ k + sumM P k = 0 := h
    rcases List.mem_cons.mp hy with e | e
    · rw [e]; omega
    · exact sumM_no (P := P) (by omega) y e
theorem cB_zero {P : PtL} : ∀ (k : Nat), sumM P k = 0 → cB P k = 0
  | 0, _ => rfl
  | d + 1, h => by
    rw [sumM_step] at h
    have hp : 0 < 2 ^ d := Nat.two_pow_pos d
    have h1 : (lvN P d).length * 2 ^ d = 0 := by omega
    have h2 : (lvN P d).length = 0 := by
      rcases Nat.mul_eq_zero.mp h1 with e | e
      · exact e
      · omega
    show (lvN P d).length + cB P d = 0
    rw [h2, cB_zero d (by omega)]
/-- the numbers in a list of leads -/
noncomputable def nums : List Key → List Int
  | [] => []
  | .inl c :: l => c :: nums l
  | .inr _ :: l => nums l
theorem nums_app : ∀ l m : List Key, nums (l ++ m) = nums l ++ nums m
  | [], _ => rfl
  | .inl c :: l, m => by
    show c :: nums (l ++ m) = c :: (nums l ++ nums m)
    rw [nums_app l m]
  | .inr z :: l, m => nums_app l m
theorem nums_inr : ∀ zs : List Str, nums (zs.map Sum.inr) = []
  | [] => rfl
  | z :: zs => nums_inr zs
theorem nums_inl : ∀ cs : List Int, nums (cs.map Sum.inl) = cs
  | [] => rfl
  | c :: cs => by
    show c :: nums (cs.map Sum.inl) = c :: cs
    rw [nums_inl cs]
theorem mem_nums {c : Int} : ∀ {l : List Key}, c ∈ nums l ↔ .inl c ∈ l
  | [] => ⟨fun h => absurd h List.not_mem_nil, fun h => absurd h List.not_mem_nil⟩
  | .inl d :: l => by
    show c ∈ d :: nums l ↔ _
    rw [List.mem_cons, List.mem_cons, mem_nums (l := l)]
    exact ⟨fun h => h.imp (fun e => by rw [e]) id, fun h => h.imp Sum.inl.inj id⟩
  | .inr z :: l => by
    show c ∈ nums l ↔ _
    rw [mem_nums (l := l), List.mem_cons]
    exact ⟨.inr, fun h => h.elim (fun e => nomatch e) id⟩
/-- numbers one after another -/
noncomputable def upI (a m : Nat) : List Int := (List.range m).map fun i => ((a + i : Nat) : Int)
theorem upI_app (a m k : Nat) : upI a (m + k) = upI a m ++ upI (a + m) k := by
  unfold upI
  rw [List.range_add, List.map_append, List.map_map]
  refine congrArg (_ ++ ·) (List.map_congr_left fun i _ => ?_)
  show ((a + (m + i) : Nat) : Int) = ((a + m + i : Nat) : Int)
  rw [Nat.add_assoc]
theorem mem_upI {a m : Nat} {c : Int} : c ∈ upI a m ↔ ∃ i : Nat, c = (i : Int) ∧ a ≤ i ∧ i < a + m := by
  unfold upI
  rw [List.mem_map]
  constructor
  · rintro ⟨i, hi, rfl⟩
    have := List.mem_range.mp hi
    exact ⟨a + i, rfl, by omega, by omega⟩
  · rintro ⟨i, rfl, h1, h2⟩
    exact ⟨i - a, List.mem_range.mpr (by omega), by rw [Nat.add_sub_cancel' h1]⟩
theorem upI_nd (a m : Nat) : (upI a m).Nodup := by
  unfold upI
  exact List.Pairwise.map _ (fun x y h e => h (by omega)) List.nodup_range
theorem ldK_eq (P : PtL) (d b n : Nat) : ldK P d b n = (lvN P d).map Sum.inr ++ (upI (n + b) (2 * b - (lvN P d).length)).map Sum.inl := by
  unfold ldK upI
  rw [List.map_map]
  rfl
/-- a tree under way: k levels are still to come, b balances stand open -/
structure TrI (P : PtL) (D M k b : Nat) (N : List (Key × Key)) (u : Nat) : Prop where
  kD : k ≤ D
  deep : D - k ≤ N.length
  sm : b * 2 ^ k = sumM P k
  nmb : nums (flatK N) = upI 1 (N.length + b - 1)
  nms : ∀ z, .inr z ∈ flatK N → z ∈ P.map (·.1)
  ord : ∀ (i : Nat) (c : Int), (flatK N)[i]? = some (.inl c) → ∃ j : Nat, c = (j : Int) ∧ i / 2 < j
  cnt : N.length + 1 + cB P k = cB P D + b
  un : u * 2 ^ (D - k) = 2 ^ M
  at1 : ∀ j, N.length ≤ j → j < N.length + b → pdM N halfF ((2 ^ M : Nat) : Int) N.length (.inl (j : Int)) = (u : Int)
  at0 : ∀ j, N.length + b ≤ j → pdM N halfF ((2 ^ M : Nat) : Int) N.length (.inl (j : Int)) = 0
  atN : ∀ x ∈ P, pdM N halfF ((2 ^ M : Nat) : Int) N.length (.inr x.1) = ((x.2 / 2 ^ k * u : Nat) : Int)
theorem lvN_mem {P : PtL} {d : Nat} {x : Str × Nat} (hn : (P.map (·.1)).Nodup) (hx : x ∈ P) : x.1 ∈ lvN P d ↔ x.2.testBit d = true := by
  unfold lvN
  rw [List.mem_map]
  constructor
  · rintro ⟨y, hy, e⟩
    obtain ⟨h1, h2⟩ := List.mem_filter.mp hy
    have : y = x := by
      have key : ∀ (P : PtL), (P.map (·.1)).Nodup → x ∈ P → y ∈ P → y = x := fun P => by
        induction P with
        | nil => intro _ h; exact absurd h List.not_mem_nil
        | cons p P ih =>
          intro hn hx hy
          have hn : p.1 ∉ P.map (·.1) ∧ (P.map (·.1)).Nodup := List.nodup_cons.mp hn
          rcases List.mem_cons.mp hx with ex | ex <;> rcases List.mem_cons.mp hy with ey | ey
          · rw [ex, ey]
          · exact absurd (List.mem_map.mpr ⟨y, ey, by rw [e, ex]⟩) hn.1
          · exact absurd (List.mem_map.mpr ⟨x, ex, by rw [← e, ey]⟩) hn.1
          · exact ih hn.2 ex ey
      exact key P hn hx h1
    rw [← this]
    exact h2
  · intro h
    exact ⟨x, List.mem_filter.mpr ⟨hx, h⟩, rfl⟩
theorem lvN_nd {P : PtL} {d : Nat} (hn : (P.map (·.1)).Nodup) : (lvN P d).Nodup := List.Nodup.sublist (List.filter_sublist.map _) hn
theorem TrI.few {P : PtL} {D M d b : Nat} {N : List (Key × Key)} {u : Nat} (h : TrI P D M (d + 1) b N u) : (lvN P d).length ≤ 2 * b ∧ (2 * b - (lvN P d).length) * 2 ^ d = sumM P d := by
  have h1 := h.sm
  rw [sumM_step, Nat.pow_succ] at h1
  have hp : 0 < 2 ^ d := Nat.two_pow_pos d
  generalize 2 ^ d = p at h1 hp ⊢
  generalize (lvN P d).length = c at h1 ⊢
  have h2 : b * (p * 2) = 2 * b * p := by rw [Nat.mul_comm p 2, ← Nat.mul_assoc, Nat.mul_comm b 2]
  rw [h2] at h1
  have hle : c ≤ 2 * b := Nat.le_of_mul_le_mul_right (by omega) hp
  refine ⟨hle, ?_⟩
  rw [Nat.sub_mul]
  omega
theorem ldK_len {P : PtL} {d b n : Nat} (h : (lvN P d).length ≤ 2 * b) : (ldK P d b n).length = 2 * b := by
  unfold ldK
  rw [List.length_append, List.length_map, List.length_map, List.length_range]
  omega
theorem ldK_num {P : PtL} {d b n : Nat} {c : Int} : .inl c ∈ ldK P d b n ↔ c ∈ upI (n + b) (2 * b - (lvN P d).length) := by
  rw [← mem_nums, ldK_eq, nums_app, nums_inr, nums_inl, List.nil_append]
theorem ldK_txt {P : PtL} {d b n : Nat} {z : Str} : .inr z ∈ ldK P d b n ↔ z ∈ lvN P d := by
  rw [ldK_eq, List.mem_append, List.mem_map, List.mem_map]
  constructor
  · rintro (⟨x, hx, e⟩ | ⟨x, hx, e⟩)
    · rw [← Sum.inr.inj e]; exact hx
    · cases e
  · intro h
    exact .inl ⟨z, h, rfl⟩
theorem ldK_nd {P : PtL} {d b n : Nat} (hn : (P.map (·.1)).Nodup) : (ldK P d b n).Nodup := by
  rw [ldK_eq]
  refine List.nodup_append.mpr ⟨List.Pairwise.map _ (fun x y h e => h (Sum.inr.inj e)) (lvN_nd hn), List.Pairwise.map _ (fun x y h e => h (Sum.inl.inj e)) (upI_nd _ _), fun x hx y hy e => ?_⟩
  obtain ⟨a, _, rfl⟩ := List.mem_map.mp hx
  obtain ⟨c, _, rfl⟩ := List.mem_map.mp hy
  cases e
theorem TrI.step {P : PtL} {D M d b : Nat} {N : List (Key × Key)} {u : Nat} (hn : (P.map (·.1)).Nodup) (h : TrI P D M (d + 1) b N u) (hb : b ≠ 0) (hM : N.length + b ≤ M) :
    TrI P D M d (2 * b - (lvN P d).length) (N ++ prK (ldK P d b N.length)) (u / 2) ∧ (N ++ prK (ldK P d b N.length)).length = N.length + b := by
  obtain ⟨hc, hsm⟩ := h.few
  have hL := ldK_len (n := N.length) hc
  have hnum := fun c => ldK_num (P := P) (d := d) (b := b) (n := N.length) (c := c)
  have htxt := fun z => ldK_txt (P := P) (d := d) (b := b) (n := N.length) (z := z)
  have hnd := ldK_nd (d := d) (b := b) (n := N.length) hn
  have hnu : nums (ldK P d b N.length) = upI (N.length + b) (2 * b - (lvN P d).length) := by rw [ldK_eq, nums_app, nums_inr, nums_inl, List.nil_append]
  generalize ldK P d b N.length = L at hL hnum htxt hnd hnu ⊢
  obtain ⟨hp1, hp2⟩ := prK_two b L hL
  have hlen : (N ++ prK L).length = N.length + b := by rw [List.length_append, hp1]
  have hfl : flatK (N ++ prK L) = flatK N ++ L := by rw [flat_app, hp2]
  have hfn : (flatK N).length = 2 * N.length := flat_len N
  have hcnt := h.cnt
  have hcb : cB P (d + 1) = (lvN P d).length + cB P d := rfl
  have hD := h.kD
  have hdp := h.deep
  -- the weight that stands open is even
  have hun := h.un
  have hu2 : u = 2 * (u / 2) := by
    have hl : D - (d + 1) < M := by omega
    have e1 : u = 2 ^ (M - (D - (d + 1))) := by
      refine Nat.eq_of_mul_eq_mul_right (Nat.two_pow_pos (D - (d + 1))) ?_
      rw [hun, ← Nat.pow_add, Nat.sub_add_cancel (Nat.le_of_lt hl)]
    rw [show M - (D - (d + 1)) = (M - (D - (d + 1)) - 1) + 1 by omega, Nat.pow_succ] at e1
    omega
  have hpd : ∀ x, pdM (N ++ prK L) halfF ((2 ^ M : Nat) : Int) (N.length + b) x = pdM N halfF ((2 ^ M : Nat) : Int) N.length x + ((u / 2 : Nat) : Int) * (cK x L : Nat) := fun x => by
    have hdr : ((flatK (N ++ prK L)).drop (2 * N.length)).take (2 * b) = L := by
      rw [hfl, ← hfn, List.drop_left, ← hL, List.take_length]
    have e := pd_run (N := N ++ prK L) (w := ((2 ^ M : Nat) : Int)) (u := (u : Int)) (n := N.length) b (by omega) (fun i hi => by rw [pd_ext _ (Nat.le_refl _)]; exact h.at1 _ (by omega) (by omega)) (fun i hi z => by
      rw [hdr, hnum, mem_upI] at z
      obtain ⟨j, e1, e2, _⟩ := z
      omega) x
    rw [hdr, pd_ext _ (Nat.le_refl _)] at e
    rw [e]
    rfl
  refine ⟨⟨by omega, by rw [hlen]; omega, hsm, ?_, fun z hz => ?_, fun i c hi => ?_, by rw [hlen]; omega, ?_, fun j h1 h2 => ?_, fun j h1 => ?_, fun x hx => ?_⟩, hlen⟩
  · rw [hfl, nums_app, h.nmb, hnu, hlen, show N.length + b + (2 * b - (lvN P d).length) - 1 = (N.length + b - 1) + (2 * b - (lvN P d).length) by omega, upI_app, show 1 + (N.length + b - 1) = N.length + b by omega]
  · rw [hfl] at hz
    rcases List.mem_append.mp hz with hz | hz
    · exact h.nms z hz
    · have := (htxt z).mp hz
      unfold lvN at this
      obtain ⟨y, hy, e⟩ := List.mem_map.mp this
      exact List.mem_map.mpr ⟨y, (List.mem_filter.mp hy).1, e⟩
  · rw [hfl] at hi
    by_cases c1 : i < 2 * N.length
    · rw [List.getElem?_append_left (by omega)] at hi
      exact h.ord i c hi
    · have hil := (List.getElem?_eq_some_iff.mp hi).1
      rw [List.length_append, hfn, hL] at hil
      rw [List.getElem?_append_right (by omega)] at hi
      have hm := List.mem_of_getElem? hi
      rw [hnum, mem_upI] at hm
      obtain ⟨j, e, h1, _⟩ := hm
      exact ⟨j, e, by omega⟩
  · rw [show D - d = (D - (d + 1)) + 1 by omega, Nat.pow_succ, Nat.mul_comm _ 2, ← Nat.mul_assoc, Nat.mul_comm _ 2, ← hu2]
    exact hun
  · rw [hlen] at h1 h2 ⊢
    rw [hpd, h.at0 j (by omega), cK_one hnd ((hnum _).mpr (mem_upI.mpr ⟨j, rfl, h1, h2⟩))]
    simp
  · rw [hlen] at h1 ⊢
    rw [hpd, h.at0 j (by omega), cK_zero fun z => ?_]
    · simp
    · rw [hnum, mem_upI] at z
      obtain ⟨i, e, _, h3⟩ := z
      omega
  · rw [hlen, hpd, h.atN x hx]
    have e2 : x.2.testBit d = decide (x.2 / 2 ^ d % 2 = 1) := Nat.testBit_eq_decide_div_mod_eq
    have hmem := lvN_mem (d := d) hn hx
    have e3 : x.2 / 2 ^ (d + 1) = x.2 / 2 ^ d / 2 := by rw [Nat.pow_succ, Nat.div_div_eq_div_mul]
    rw [e3]
    generalize x.2 / 2 ^ d = y at e2 ⊢
    have ey : y = 2 * (y / 2) + y % 2 := by omega
    have go : ∀ c : Nat, c = y % 2 → ((y / 2 * u : Nat) : Int) + ((u / 2 : Nat) : Int) * (c : Nat) = ((y * (u / 2) : Nat) : Int) := fun c hc => by
      rw [← Int.natCast_mul, ← Int.natCast_add]
      refine congrArg Nat.cast ?_
      have hy2 : y * (u / 2) = (2 * (y / 2) + c) * (u / 2) := by rw [hc, ← ey]
      rw [hy2, Nat.add_mul, Nat.mul_comm 2, Nat.mul_assoc, ← hu2, Nat.mul_comm (u / 2) c]
    by_cases c1 : y % 2 = 1
    · rw [cK_one hnd ((htxt _).mpr (hmem.mpr (by rw [e2]; exact decide_eq_true c1)))]
      exact go 1 c1.symm
    · rw [cK_zero fun z => by
        have z2 := hmem.mp ((htxt _).mp z)
        rw [e2] at z2
        exact c1 (of_decide_eq_true z2)]
      exact go 0 (by omega)
/-- the tree, whole -/
structure TrF (P : PtL) (D : Nat) (N : List (Key × Key)) : Prop where
  pos : 0 < N.length
  nmb : nums (flatK N) = upI 1 (N.length - 1)
  nms : ∀ z, .inr z ∈ flatK N → z ∈ P.map (·.1)
  ord : ∀ (i : Nat) (c : Int), (flatK N)[i]? = some (.inl c) → ∃ j : Nat, c = (j : Int) ∧ i / 2 < j ∧ j < N.length
  cnt : N.length + 1 = cB P D
  sh : ∀ x ∈ P, pdM N halfF ((2 ^ N.length : Nat) : Int) N.length (.inr x.1) * ((2 ^ D : Nat) : Int) = ((x.2 * 2 ^ N.length : Nat) : Int)
theorem trG_len (P : PtL) : ∀ (k b : Nat) (N : List (Key × Key)), N.length ≤ (trG P k b N).length
  | 0, _, _ => Nat.le_refl _
  | d + 1, b, N => by
    show N.length ≤ (if b = 0 then N else trG P d _ _).length
    split
    · exact Nat.le_refl _
    · have := trG_len P d (2 * b - (lvN P d).length) (N ++ prK (ldK P d b N.length))
      rw [List.length_append] at this
      omega
theorem trG_is {P : PtL} {D M : Nat} (hn : (P.map (·.1)).Nodup) : ∀ (k b : Nat) (N : List (Key × Key)) (u : Nat), TrI P D M k b N u → (trG P k b N).length ≤ M → 0 < N.length + b → 0 < (trG P k b N).length ∧ ∃ k' u', TrI P D M k' 0 (trG P k b N) u'
  | 0, b, N, u, h, hM, hp => by
    have h1 := h.sm
    rw [sumM_zero, Nat.pow_zero, Nat.mul_one] at h1
    subst h1
    exact ⟨hp, 0, u, h⟩
  | d + 1, b, N, u, h, hM, hp => by
    by_cases c : b = 0
    · subst c
      have e : trG P (d + 1) 0 N = N := rfl
      rw [e]
      exact ⟨hp, d + 1, u, h⟩
    · have e : trG P (d + 1) b N = trG P d (2 * b - (lvN P d).length) (N ++ prK (ldK P d b N.length)) := if_neg c
      rw [e] at hM ⊢
      have hl := trG_len P d (2 * b - (lvN P d).length) (N ++ prK (ldK P d b N.length))
      have hlen : (N ++ prK (ldK P d b N.length)).length = N.length + b := by rw [List.length_append, (prK_two b _ (ldK_len h.few.1)).1]
      obtain ⟨h2, h3⟩ := h.step hn c (by omega)
      exact trG_is hn d _ _ _ h2 hM (by omega)
theorem tr_first {P : PtL} {D M : Nat} (hs : sumM P D = 2 ^ D) (hlt : ∀ x ∈ P, x.2 < 2 ^ D) : TrI P D M D 1 [] (2 ^ M) where
  kD := Nat.le_refl _
  deep := by rw [Nat.sub_self]; exact Nat.zero_le _
  sm := by rw [Nat.one_mul, hs]
  nmb := rfl
  nms := fun z h => absurd h List.not_mem_nil
  ord := fun i c h => nomatch h
  cnt := by show 0 + 1 + cB P D = cB P D + 1; omega
  un := by rw [Nat.sub_self, Nat.pow_zero, Nat.mul_one]
  at1 := fun j h1 h2 => by
    have : j = 0 := by
      have h2 : j < 0 + 1 := h2
      omega
    subst this
    rfl
  at0 := fun j h1 => by
    have h1 : 0 + 1 ≤ j := h1
    show (if (Sum.inl (j : Int) : Key) = .inl 0 then _ else (0 : Int)) = 0
    rw [if_neg]
    intro e
    have := Sum.inl.inj e
    omega
  atN := fun x hx => by
    rw [Nat.div_eq_of_lt (hlt x hx), Nat.zero_mul]
    rfl
theorem tr_all {P : PtL} {D : Nat} (hn : (P.map (·.1)).Nodup) (hs : sumM P D = 2 ^ D) (hlt : ∀ x ∈ P, x.2 < 2 ^ D) : TrF P D (trG P D 1 []) := by
  obtain ⟨hp, k, u, h⟩ := trG_is (M := (trG P D 1 []).length) hn D 1 [] _ (tr_first hs hlt) (Nat.le_refl _) (by decide)
  generalize trG P D 1 [] = N at hp h ⊢
  have h0 := h.sm
  rw [Nat.zero_mul] at h0
  refine ⟨hp, h.nmb, h.nms, fun i c hi => ?_, ?_, fun x hx => ?_⟩
  · obtain ⟨j, e, hj⟩ := h.ord i c hi
    refine ⟨j, e, hj, ?_⟩
    have hm : c ∈ nums (flatK N) := mem_nums.mpr (List.mem_of_getElem? hi)
    rw [h.nmb, mem_upI] at hm
    obtain ⟨j', e', h1, h2⟩ := hm
    omega
  · have := h.cnt
    rw [cB_zero k h0.symm] at this
    omega
  · rw [h.atN x hx, ← Int.natCast_mul]
    refine congrArg Nat.cast ?_
    have hm := sumM_no h0.symm x hx
    have hd : x.2 = x.2 / 2 ^ k * 2 ^ k := by
      have := Nat.div_add_mod x.2 (2 ^ k)
      rw [hm, Nat.add_zero] at this
      rw [Nat.mul_comm]
      exact this.symm
    have e1 : 2 ^ D = 2 ^ (D - k) * 2 ^ k := by rw [← Nat.pow_add, Nat.sub_add_cancel h.kD]
    have hun := h.un
    rw [e1]
    generalize x.2 / 2 ^ k = y at hd ⊢
    rw [hd, ← hun]
    generalize 2 ^ k = a
    generalize 2 ^ (D - k) = b
    rw [Nat.mul_assoc, ← Nat.mul_assoc u b a, Nat.mul_assoc y a, Nat.mul_comm a (u * b)]
/-- a test by a value's truth, within a comprehension -/
noncomputable def tTrN (K : PySem.W.Frag) (ta : TE) : TT := fun σ H Q => ta σ H fun x H' => ∃ k, TruV K x H' k ∧ Q k H'
theorem pt_truthN {X : Cx} {K : PySem.W.Frag} {a : Expr} {ta : TE} (hK : X.K = K) (ha : PE X a ta) (he : ∀ whole, isTrue a X.env whole = (do let v ← whole; standAt a.pos; holding [v] (truthy v))) :
    PT X a (tTrN K ta) := by
  subst hK
  exact pt_truth ha he
noncomputable def LvI (D k b : Nat) (N : List (Key × Key)) (lv : Nat → Nat) : Prop := (∀ i, i < N.length → lv i < D - k) ∧ (∀ j, N.length ≤ j → lv j = D - k) ∧ ∀ (i : Nat) (c : Int), (flatK N)[i]? = some (.inl c) → lv (i / 2) < lv c.toNat
end Pan
namespace Pan
open PySem PySem.Spec PyProof.Rows L2
noncomputable def topS (i : Nat) : Stmt := PySem.Challenge.pw_panfalls_k77_words_and_nets_as_texts.main.body.getD i (.Pass ⟨0, 0, 0, 0⟩)
noncomputable abbrev sI_BadRow : Stmt := (clsBody (topS 1)).getD 0 (.Pass ⟨0, 0, 0, 0⟩)
theorem scI_BadRow : FnScope ["self", "what"] ["self", "what"] (defScope sI_BadRow) := ⟨rfl, rfl, rfl, by decide +kernel, rfl, by decide +kernel, by decide +kernel⟩
noncomputable abbrev s_is_number : Stmt := topS 4
noncomputable abbrev N_is_number : List Str := ["thing"]
noncomputable abbrev P_is_number : List Str := ["thing"]
theorem sc_is_number : FnScope N_is_number P_is_number (defScope s_is_number) := ⟨rfl, rfl, rfl, by decide +kernel, rfl, by decide +kernel, by decide +kernel⟩
noncomputable abbrev s_is_name : Stmt := topS 5
noncomputable abbrev N_is_name : List Str := ["thing", "sign"]
noncomputable abbrev P_is_name : List Str := ["thing"]
theorem sc_is_name : FnScope N_is_name P_is_name (defScope s_is_name) := ⟨rfl, rfl, rfl, by decide +kernel, rfl, by decide +kernel, by decide +kernel⟩
noncomputable abbrev s_balances_led_to : Stmt := topS 7
noncomputable abbrev N_balances_led_to : List Str := ["net", "pair", "lead"]
noncomputable abbrev P_balances_led_to : List Str := ["net"]
theorem sc_balances_led_to : FnScope N_balances_led_to P_balances_led_to (defScope s_balances_led_to) := ⟨rfl, rfl, rfl, by decide +kernel, rfl, by decide +kernel, by decide +kernel⟩
noncomputable abbrev s_figures_of : Stmt := topS 13
noncomputable abbrev N_figures_of : List Str := ["number", "groups", "rest", "group"]
noncomputable abbrev P_figures_of : List Str := ["number"]
theorem sc_figures_of : FnScope N_figures_of P_figures_of (defScope s_figures_of) := ⟨rfl, rfl, rfl, by decide +kernel, rfl, by decide +kernel, by decide +kernel⟩
noncomputable abbrev s_is_plain : Stmt := topS 14
noncomputable abbrev N_is_plain : List Str := ["text", "sign"]
noncomputable abbrev P_is_plain : List Str := ["text"]
theorem sc_is_plain : FnScope N_is_plain P_is_plain (defScope s_is_plain) := ⟨rfl, rfl, rfl, by decide +kernel, rfl, by decide +kernel, by decide +kernel⟩
noncomputable abbrev s_number_in : Stmt := topS 15
noncomputable abbrev N_number_in : List Str := ["text", "number", "padded", "start"]
noncomputable abbrev P_number_in : List Str := ["text"]
theorem sc_number_in : FnScope N_number_in P_number_in (defScope s_number_in) := ⟨rfl, rfl, rfl, by decide +kernel, rfl, by decide +kernel, by decide +kernel⟩
noncomputable abbrev s_word_text : Stmt := topS 16
noncomputable abbrev N_word_text : List Str := ["word", "weight"]
noncomputable abbrev P_word_text : List Str := ["word"]
theorem sc_word_text : FnScope N_word_text P_word_text (defScope s_word_text) := ⟨rfl, rfl, rfl, by decide +kernel, rfl, by decide +kernel, by decide +kernel⟩
noncomputable abbrev s_net_text : Stmt := topS 17
noncomputable abbrev N_net_text : List Str := ["net", "left", "right"]
noncomputable abbrev P_net_text : List Str := ["net"]
theorem sc_net_text : FnScope N_net_text P_net_text (defScope s_net_text) := ⟨rfl, rfl, rfl, by decide +kernel, rfl, by decide +kernel, by decide +kernel⟩
noncomputable abbrev s_word_in : Stmt := topS 18
noncomputable abbrev N_word_in : List Str := ["text", "weights", "part", "weight"]
noncomputable abbrev P_word_in : List Str := ["text"]
theorem sc_word_in : FnScope N_word_in P_word_in (defScope s_word_in) := ⟨rfl, rfl, rfl, by decide +kernel, rfl, by decide +kernel, by decide +kernel⟩
noncomputable abbrev s_lead_in : Stmt := topS 19
noncomputable abbrev N_lead_in : List Str := ["text"]
noncomputable abbrev P_lead_in : List Str := ["text"]
theorem sc_lead_in : FnScope N_lead_in P_lead_in (defScope s_lead_in) := ⟨rfl, rfl, rfl, by decide +kernel, rfl, by decide +kernel, by decide +kernel⟩
noncomputable abbrev s_is_lead_among : Stmt := topS 20
noncomputable abbrev N_is_lead_among : List Str := ["lead", "balance", "many"]
noncomputable abbrev P_is_lead_among : List Str := ["lead", "balance", "many"]
theorem sc_is_lead_among : FnScope N_is_lead_among P_is_lead_among (defScope s_is_lead_among) := ⟨rfl, rfl, rfl, by decide +kernel, rfl, by decide +kernel, by decide +kernel⟩
noncomputable abbrev s_net_in : Stmt := topS 21
noncomputable abbrev N_net_in : List Str := ["text", "rows", "pairs", "at", "row", "pair", "led_to", "balance", "part", "lead"]
noncomputable abbrev P_net_in : List Str := ["text"]
theorem sc_net_in : FnScope N_net_in P_net_in (defScope s_net_in) := ⟨rfl, rfl, rfl, by decide +kernel, rfl, by decide +kernel, by decide +kernel⟩
noncomputable abbrev s_greatest_bottom : Stmt := topS 23
noncomputable abbrev N_greatest_bottom : List Str := ["shares", "name", "top", "bottom"]
noncomputable abbrev P_greatest_bottom : List Str := ["shares"]
theorem sc_greatest_bottom : FnScope N_greatest_bottom P_greatest_bottom (defScope s_greatest_bottom) := ⟨rfl, rfl, rfl, by decide +kernel, rfl, by decide +kernel, by decide +kernel⟩
noncomputable abbrev s_parts_of : Stmt := topS 24
noncomputable abbrev N_parts_of : List Str := ["shares", "whole", "name", "top", "bottom"]
noncomputable abbrev P_parts_of : List Str := ["shares", "whole"]
theorem sc_parts_of : FnScope N_parts_of P_parts_of (defScope s_parts_of) := ⟨rfl, rfl, rfl, by decide +kernel, rfl, by decide +kernel, by decide +kernel⟩
noncomputable abbrev s_tree_of : Stmt := topS 25
noncomputable abbrev N_tree_of : List Str := ["shares", "whole", "parts", "net", "balances", "of_pan", "leads", "pans", "further", "name", "many"]
noncomputable abbrev P_tree_of : List Str := ["shares"]
theorem sc_tree_of : FnScope N_tree_of P_tree_of (defScope s_tree_of) := ⟨rfl, rfl, rfl, by decide +kernel, rfl, by decide +kernel, by decide +kernel⟩
noncomputable abbrev s_l_tape : Stmt := topS 27
noncomputable abbrev N_l_tape : List Str := ["_law_script", "_law_k", "_law_cell"]
noncomputable abbrev P_l_tape : List Str := ["_law_script", "_law_k"]
theorem sc_l_tape : FnScope N_l_tape P_l_tape (defScope s_l_tape) := ⟨rfl, rfl, rfl, by decide +kernel, rfl, by decide +kernel, by decide +kernel⟩
noncomputable abbrev s_l_draw : Stmt := topS 28
noncomputable abbrev N_l_draw : List Str := ["_law_tape_here", "_law_count", "_law_found", "_law_once", "_law_twice", "_law_wide"]
noncomputable abbrev P_l_draw : List Str := ["_law_tape_here", "_law_count"]
theorem sc_l_draw : FnScope N_l_draw P_l_draw (defScope s_l_draw) := ⟨rfl, rfl, rfl, by decide +kernel, rfl, by decide +kernel, by decide +kernel⟩
noncomputable abbrev s_l_folded : Stmt := topS 29
noncomputable abbrev N_l_folded : List Str := ["_law_script", "_law_count", "_law_cells", "_law_k", "_law_cell"]
noncomputable abbrev P_l_folded : List Str := ["_law_script", "_law_count"]
theorem sc_l_folded : FnScope N_l_folded P_l_folded (defScope s_l_folded) := ⟨rfl, rfl, rfl, by decide +kernel, rfl, by decide +kernel, by decide +kernel⟩
noncomputable abbrev s_l_same : Stmt := topS 30
noncomputable abbrev N_l_same : List Str := ["_law_found", "_law_due", "_law_mine", "_law_its"]
noncomputable abbrev P_l_same : List Str := ["_law_found", "_law_due"]
theorem sc_l_same : FnScope N_l_same P_l_same (defScope s_l_same) := ⟨rfl, rfl, rfl, by decide +kernel, rfl, by decide +kernel, by decide +kernel⟩
noncomputable abbrev s_l_names : Stmt := topS 31
noncomputable abbrev N_l_names : List Str := ["_law_tape_here", "_law_count", "_law_letters", "_law_shift", "_law_k", "_law_stem", "_law_at", "_law_step", "_law_found", "_law_head", "_law_tail", "_law_way", "_law_sign"]
noncomputable abbrev P_l_names : List Str := ["_law_tape_here", "_law_count"]
theorem sc_l_names : FnScope N_l_names P_l_names (defScope s_l_names) := ⟨rfl, rfl, rfl, by decide +kernel, rfl, by decide +kernel, by decide +kernel⟩
noncomputable abbrev s_l_weight : Stmt := topS 32
noncomputable abbrev N_l_weight : List Str := ["_law_tape_here", "_law_high"]
noncomputable abbrev P_l_weight : List Str := ["_law_tape_here", "_law_high"]
theorem sc_l_weight : FnScope N_l_weight P_l_weight (defScope s_l_weight) := ⟨rfl, rfl, rfl, by decide +kernel, rfl, by decide +kernel, by decide +kernel⟩
noncomputable abbrev s_l_word : Stmt := topS 33
noncomputable abbrev N_l_word : List Str := ["_law_tape_here", "_law_count", "_law_high", "_law_size", "_law_way", "_law_some", "_law_k"]
noncomputable abbrev P_l_word : List Str := ["_law_tape_here", "_law_count", "_law_high"]
theorem sc_l_word : FnScope N_l_word P_l_word (defScope s_l_word) := ⟨rfl, rfl, rfl, by decide +kernel, rfl, by decide +kernel, by decide +kernel⟩
noncomputable abbrev s_l_net : Stmt := topS 34
noncomputable abbrev N_l_net : List Str := ["_law_tape_here", "_law_names_here", "_law_wide", "_law_high", "_law_together", "_law_size", "_law_pans", "_law_heights", "_law_leads", "_law_k", "_law_pan", "_law_free", "_law_there", "_law_later", "_law_number_here", "_law_at", "_law_side"]
noncomputable abbrev P_l_net : List Str := ["_law_tape_here", "_law_names_here", "_law_wide", "_law_high", "_law_together"]
theorem sc_l_net : FnScope N_l_net P_l_net (defScope s_l_net) := ⟨rfl, rfl, rfl, by decide +kernel, rfl, by decide +kernel, by decide +kernel⟩
noncomputable abbrev s_l_text : Stmt := topS 35
noncomputable abbrev N_l_text : List Str := ["_law_house", "_law_leads", "_law_lead"]
noncomputable abbrev P_l_text : List Str := ["_law_house"]
theorem sc_l_text : FnScope N_l_text P_l_text (defScope s_l_text) := ⟨rfl, rfl, rfl, by decide +kernel, rfl, by decide +kernel, by decide +kernel⟩
noncomputable abbrev s_l_number : Stmt := topS 36
noncomputable abbrev N_l_number : List Str := ["_law_page", "_law_sign"]
noncomputable abbrev P_l_number : List Str := ["_law_page"]
theorem sc_l_number : FnScope N_l_number P_l_number (defScope s_l_number) := ⟨rfl, rfl, rfl, by decide +kernel, rfl, by decide +kernel, by decide +kernel⟩
noncomputable abbrev s_l_word_due : Stmt := topS 37
noncomputable abbrev N_l_word_due : List Str := ["_law_page", "_law_some", "_law_part"]
noncomputable abbrev P_l_word_due : List Str := ["_law_page"]
theorem sc_l_word_due : FnScope N_l_word_due P_l_word_due (defScope s_l_word_due) := ⟨rfl, rfl, rfl, by decide +kernel, rfl, by decide +kernel, by decide +kernel⟩
noncomputable abbrev s_l_net_due : Stmt := topS 38
noncomputable abbrev N_l_net_due : List Str := ["_law_page", "_law_rows", "_law_found", "_law_k", "_law_line", "_law_leads", "_law_part", "_law_lead", "_law_is_exit", "_law_led", "_law_lost"]
noncomputable abbrev P_l_net_due : List Str := ["_law_page"]
theorem sc_l_net_due : FnScope N_l_net_due P_l_net_due (defScope s_l_net_due) := ⟨rfl, rfl, rfl, by decide +kernel, rfl, by decide +kernel, by decide +kernel⟩
noncomputable abbrev s_l_read : Stmt := topS 39
noncomputable abbrev N_l_read : List Str := ["_law_page", "_law_way", "_law_caught", "_law_found", "error"]
noncomputable abbrev P_l_read : List Str := ["_law_page", "_law_way"]
theorem sc_l_read : FnScope N_l_read P_l_read (defScope s_l_read) := ⟨rfl, rfl, rfl, by decide +kernel, rfl, by decide +kernel, by decide +kernel⟩
noncomputable abbrev s_l_spoilt : Stmt := topS 40
noncomputable abbrev N_l_spoilt : List Str := ["_law_tape_here", "_law_page", "_law_signs", "_law_at", "_law_way", "_law_sign", "_law_rows", "_law_k", "_law_words"]
noncomputable abbrev P_l_spoilt : List Str := ["_law_tape_here", "_law_page"]
theorem sc_l_spoilt : FnScope N_l_spoilt P_l_spoilt (defScope s_l_spoilt) := ⟨rfl, rfl, rfl, by decide +kernel, rfl, by decide +kernel, by decide +kernel⟩
noncomputable abbrev s_l_right : Stmt := topS 41
noncomputable abbrev N_l_right : List Str := ["_law_tape_here", "_law_row", "_law_house", "_law_texts", "_law_told", "_law_way", "_law_page", "_law_turn", "_law_bent", "_law_due", "_law_weight_here"]
noncomputable abbrev P_l_right : List Str := ["_law_tape_here"]
theorem sc_l_right : FnScope N_l_right P_l_right (defScope s_l_right) := ⟨rfl, rfl, rfl, by decide +kernel, rfl, by decide +kernel, by decide +kernel⟩
noncomputable abbrev s_l_far_right : Stmt := topS 42
noncomputable abbrev N_l_far_right : List Str := ["_law_tape_here", "_law_house", "_law_lines", "_law_row", "_law_name", "_law_high", "_law_wide", "_law_weight_here"]
noncomputable abbrev P_l_far_right : List Str := ["_law_tape_here"]
theorem sc_l_far_right : FnScope N_l_far_right P_l_far_right (defScope s_l_far_right) := ⟨rfl, rfl, rfl, by decide +kernel, rfl, by decide +kernel, by decide +kernel⟩
noncomputable abbrev s_law : Stmt := topS 43
noncomputable abbrev N_law : List Str := ["_law_script", "_law_cells", "_law_k"]
noncomputable abbrev P_law : List Str := ["_law_script"]
theorem sc_law : FnScope N_law P_law (defScope s_law) := ⟨rfl, rfl, rfl, by decide +kernel, rfl, by decide +kernel, by decide +kernel⟩
structure Bl (mg : Str → Option Value) : Prop where
  ValueError : mg "ValueError" = none
  abs : mg "abs" = none
  all : mg "all" = none
  bool : mg "bool" = none
  dict : mg "dict" = none
  divmod : mg "divmod" = none
  enumerate : mg "enumerate" = none
  int : mg "int" = none
  isinstance : mg "isinstance" = none
  len : mg "len" = none
  list : mg "list" = none
  max : mg "max" = none
  min : mg "min" = none
  range : mg "range" = none
  set : mg "set" = none
  sorted : mg "sorted" = none
  str : mg "str" = none
  tuple : mg "tuple" = none
  zip : mg "zip" = none
  c_LETTERS : ∃ t, mg "LETTERS" = some (.str "abcdefghijklmnopqrstuvwxyz" t)
  c_FIGURES : ∃ t, mg "FIGURES" = some (.str "0123456789" t)
  c_BARE : ∃ t, mg "BARE" = some (.str "-" t)
  c_GROUP : ∃ t, mg "GROUP" = some (.int 18 t)
  c_GROUP_END : ∃ t, mg "GROUP_END" = some (.int 1000000000000000000 t)
section
variable {P : Program} {w : World} {K : PySem.W.Frag} {mg : Str → Option Value} {base : Heap} {T : List (Addr × Str)} {CW : Addr}
noncomputable abbrev LV_is_number : Nat := 1
noncomputable def sp_is_number : Sp := fun vs H Q _ => ∃ (v : V) (n : Nat) (d : PyData), vs = [v] ∧ Dt H n v d ∧ Q (.bl (isNumB d)) H
theorem ok_is_number {f : Addr} {fd : FuncData} (F : Fun K "is_number" "is_number" s_is_number f fd) (Z : Bl mg) : FnOk P w K mg base CX0 LV_is_number f fd P_is_number sp_is_number := by
  refine F.ok sc_is_number (fun vs H Q E h => ?_) (fun cdv A outer s H vs Q E hr h => ?_)
  · obtain ⟨v, n, d, rfl, _⟩ := h
    rfl
  obtain ⟨v, n, d, rfl, hd, q⟩ := h
  refine ⟨_, (pss_one (ps_ret (pe_and (pe_callB (isi1 (K := K)) (by rfl) Z.isinstance (by decide +kernel) (pa_cons (pv 0) (pa_cons (pe_bltn (v := .ty "int") (by rfl) Z.int (by decide +kernel) rfl) pa_nil))) (pe_one (pe_not (pe_callB (isi1 (K := K)) (by rfl) Z.isinstance (by decide +kernel) (pa_cons (pv 0) (pa_cons (pe_bltn (v := .ty "bool") (by rfl) Z.bool (by decide +kernel) rfl) pa_nil)))))))), ?_⟩
  obtain ⟨ty1, cl1, k1, k2, k3⟩ := isi_int (K := K) hd
  refine ⟨v, rfl, _, _, ty1, cl1, _, rfl, k1, k2, k3, _, rfl, ?_⟩
  have e := num_of d
  by_cases c : isIntB d = true
  · rw [if_pos c]
    rw [c, Bool.true_and] at e
    obtain ⟨ty1, cl1, k1, k2, k3⟩ := isi_bool (K := K) hd
    refine ⟨v, rfl, _, _, ty1, cl1, _, rfl, k1, k2, k3, _, rfl, ?_⟩
    rw [e]
    exact q
  · rw [if_neg c]
    have c' : isIntB d = false := by simpa using c
    rw [c', Bool.false_and] at e
    rw [← e] at q
    exact q
noncomputable abbrev LV_is_name : Nat := 1
noncomputable def letB (c : Nat) : Bool := decide (c ∈ lettersS.cps.toList)
theorem letB_iff (c : Nat) : letB c = true ↔ 97 ≤ c ∧ c ≤ 122 := by
  have e : lettersS.cps.toList = (List.range 26).map (97 + ·) := by decide +kernel
  unfold letB
  rw [decide_eq_true_eq, e, List.mem_map]
  constructor
  · rintro ⟨i, hi, rfl⟩
    have := List.mem_range.mp hi
    omega
  · intro h
    exact ⟨c - 97, List.mem_range.mpr (by omega), by omega⟩
noncomputable def nameB : PyData → Bool
  | .str z => (decide (1 ≤ (z.length : Int)) && decide ((z.length : Int) ≤ 8)) && z.cps.toList.all letB
  | _ => false
theorem NameOk.nameB {z : Str} (h : NameOk z) : nameB (.str z) = true := by
  obtain ⟨h1, h2, h3⟩ := h
  show ((decide (1 ≤ (z.length : Int)) && decide ((z.length : Int) ≤ 8)) && z.cps.toList.all letB) = true
  rw [decide_eq_true (by omega), decide_eq_true (by omega), List.all_eq_true.mpr fun c hc => (letB_iff c).mpr (h1 c hc)]
  rfl
noncomputable def sp_is_name : Sp := fun vs H Q _ => ∃ (v : V) (n : Nat) (d : PyData), vs = [v] ∧ Dt H n v d ∧ (∀ z, d = .str z → z.length ≤ 90000) ∧ ∀ (H' : Hp), Same H H' → Q (.bl (nameB d)) H'
theorem ok_is_name {f : Addr} {fd : FuncData} (F : Fun K "is_name" "is_name" s_is_name f fd) (Z : Bl mg) : FnOk P w K mg base CX0 LV_is_name f fd P_is_name sp_is_name := by
  refine F.ok sc_is_name (fun vs H Q E h => ?_) (fun cdv A outer s H vs Q E hr h => ?_)
  · obtain ⟨v, n, d, rfl, _⟩ := h
    rfl
  obtain ⟨v, n, d, rfl, hd, hz, q⟩ := h
  refine ⟨_, (pss_cons (ps_if (PW.pt (pw_or (pt_not (pt_val (pe_callB (isi1 (K := K)) (by rfl) Z.isinstance (by decide +kernel) (pa_cons (pv 0) (pa_cons (pe_bltn (v := .ty "str") (by rfl) Z.str (by decide +kernel) rfl) pa_nil))))) (pw_or1 (pt_not (pt_chain op_le op_le pe_int (pe_callB call_len_str (by rfl) Z.len (by decide +kernel) (pa_cons (pv 0) pa_nil)) pe_int))))) (pss_one (ps_ret pe_bl)) pss_nil)
    (pss_one (ps_ret (pe_callB (allL (K := K) rfl) (by rfl) Z.all (by decide +kernel) (pa_cons (pe_lcN (own := [("sign", 1)]) (g := (gName 1)) (tt := tYes) (by rfl) sc_is_name.nd (pi_str (pv 0)) (blkOk_by (own := [("sign", 1)]) (N := N_is_name) (sc := defScope s_is_name) (by decide +kernel)) (fun _ _ _ _ _ => (pg_name (i := 1) sc_is_name.nd rfl (Or.inl rfl))) (fun _ _ _ _ _ => pts_nil) (fun _ _ _ _ _ => (pe_cmpR op_in_sign (pv 1) (pe_const Z.c_LETTERS (by rfl)) (by rfl)))) pa_nil))))), ?_⟩
  obtain ⟨ty1, cl1, k1, k2, k3⟩ := isi_str (K := K) hd
  refine ⟨v, rfl, _, _, ty1, cl1, _, rfl, k1, k2, k3, _, rfl, ?_⟩
  cases hd with
  | str z =>
    have hz9 := hz z rfl
    have ret0 : ¬ (1 ≤ (z.length : Int) ∧ (z.length : Int) ≤ 8) → Q (.bl false) H := fun hno => by
      have h9 := q H (Same.refl _)
      have e0 : (decide (1 ≤ (z.length : Int)) && decide ((z.length : Int) ≤ 8)) = false := by
        rw [← Bool.not_eq_true]
        simp only [Bool.and_eq_true, decide_eq_true_eq]
        omega
      have h8 : Q (.bl ((decide (1 ≤ (z.length : Int)) && decide ((z.length : Int) ≤ 8)) && z.cps.toList.all letB)) H := h9
      rw [e0] at h8
      exact h8
    refine ⟨_, rfl, z, rfl, sz (by omega), _, _, rfl, rfl, _, rfl, ite2 (fun c3 => ?_) (fun c3 => ?_)⟩
    case refine_2 =>
      have hh := ret0 fun y => c3 (decide_eq_true y.1)
      first | exact hh | exact ⟨_, rfl, hh⟩
    have c3 : 1 ≤ (z.length : Int) := of_decide_eq_true c3
    refine ⟨_, _, rfl, rfl, _, rfl, ite2 (fun c4 => ?_) (fun c4 => ?_)⟩
    case refine_1 =>
      have hh := ret0 fun y => by
        rw [decide_eq_true y.2] at c4
        cases c4
      first | exact hh | exact ⟨_, rfl, hh⟩
    have c4 : (z.length : Int) ≤ 8 := Decidable.byContradiction fun h => c4 (by
      rw [decide_eq_false h]
      rfl)
    have hsz : z.cps.size = z.length := rfl
    refine ⟨_, rfl, z, rfl, fun D nD => lc_it (walk_str (z := z)) (fun j H' => Same H H' ∧ H' D = some (.lst (((z.cps.toList.take j).map letB).map V.bl))) ⟨same_upd nD, upd_same⟩ (fun _ _ _ _ => trivial) (fun i x H1 H2 hi hP hY => ?_) (fun H1 hP => ?_)⟩
    · obtain ⟨S1, eD⟩ := hP
      obtain ⟨rfl, c, hc, rfl⟩ := hY
      have hc' : z.cps.toList[i]? = some c := by rw [Array.getElem?_toList]; exact hc
      have etk : z.cps.toList.take (i + 1) = z.cps.toList.take i ++ [c] := by rw [List.take_add_one, hc']; rfl
      refine ⟨rfl, _, rfl, c, lettersS, rfl, rfl, _, eD, szl ?_, Same.of_upd S1 nD, ?_⟩
      · rw [List.length_map, List.length_map, List.length_take]
        omega
      · rw [upd_same, etk, List.map_append, List.map_append]
        rfl
    · obtain ⟨S1, eD⟩ := hP
      have eL : z.cps.toList.take z.cps.size = z.cps.toList := List.take_of_length_le (by rw [Array.length_toList]; exact Nat.le_refl _)
      rw [eL] at eD
      refine ⟨D, _, rfl, SqL.of eD, ?_⟩
      have h9 : Q (.bl ((decide (1 ≤ (z.length : Int)) && decide ((z.length : Int) ≤ 8)) && z.cps.toList.all letB)) H1 := q H1 S1
      rw [decide_eq_true c3, decide_eq_true c4] at h9
      rw [List.all_map]
      exact h9
  | _ => exact q H (Same.refl _)
noncomputable abbrev LV_l_tape : Nat := 1
noncomputable def sp_l_tape : Sp := fun vs H Q _ => ∃ (a : Addr) (ns : List Int) (k : Int), vs = [.ref a, .int k] ∧ H a = some (.lst (ns.map V.int)) ∧ 0 ≤ k ∧ k ≤ 63 ∧
  ∀ (t : Addr) (H' : Hp), H t = none → Same H H' → Tp 1000000000 H' t → Q (.ref t) H'
theorem ok_l_tape {f : Addr} {fd : FuncData} (F : Fun K "_law_tape" "_law_tape" s_l_tape f fd) (Z : Bl mg) : FnOk P w K mg base CX0 LV_l_tape f fd P_l_tape sp_l_tape := by
  refine F.ok sc_l_tape (fun vs H Q E h => ?_) (fun cdv A outer s H vs Q E hr h => ?_)
  · obtain ⟨a, ns, k, rfl, _⟩ := h
    rfl
  obtain ⟨a, ns, k, rfl, ha, hk, hk2, q⟩ := h
  have fin : ∀ c : Int, ∀ (t : Addr) (H' : Hp), H t = none → Same H H' → H' t = some (.lst [.int ((if c < 0 then -c else c) * (if decide ((10 : Int) ^ (Int.toNat 18) ≤ (if c < 0 then -c else c)) = true then 1 else 0)), .int (c % 2305843009213693951 + 39373 * k + 17), .int 0]) → Q (.ref t) H' := fun c t H' nt S e => by
    have h1 : 0 ≤ c % 2305843009213693951 := Int.emod_nonneg _ (by decide)
    have h2 : c % 2305843009213693951 < 2305843009213693951 := Int.emod_lt_of_pos _ (by decide)
    refine q t H' nt S ⟨_, _, _, e, Int.mul_nonneg (by split <;> omega) (by split <;> omega), by omega, by omega, by omega, by omega⟩
  refine ⟨_, (pss_cons (ps_set (i := 2) sc_l_tape.nd rfl (Or.inl rfl) (pe_ifExp (pt_cmpR op_lt (pv 1) (pe_callB (call_lenN (K := K)) (by rfl) Z.len (by decide +kernel) (pa_cons (pv 0) pa_nil)) (nomark _)) (pe_ix (ixs (K := K)) (pv 0) (pv 1) (fun _ _ => rfl)) pe_int))
    (pss_one (ps_ret (pe_lstN (pa_cons (pe_op op_mul (pe_callB call_abs (by rfl) Z.abs (by decide +kernel) (pa_cons (pv 2) pa_nil)) (pe_callTy call_int1 (by rfl) Z.int (by decide +kernel) (pa_cons (pe_cmpR op_ge (pe_callB call_abs (by rfl) Z.abs (by decide +kernel) (pa_cons (pv 2) pa_nil)) (pe_op op_pow pe_int pe_int) (nomark _)) pa_nil))) (pa_cons (pe_op op_add (pe_op op_add (pe_op op_mod (pv 2) pe_int) (pe_op op_mul pe_int (pv 1))) pe_int) (pa_cons pe_int pa_nil))))))), ?_⟩
  refine ⟨.int k, rfl, .ref a, rfl, a, _, rfl, .inl (SqL.of ha), _, _, rfl, rfl, _, rfl, ite2 (fun c => ?_) (fun c => ?_)⟩
  · have c1 := of_decide_eq_true c
    rw [List.length_map] at c1
    obtain ⟨v, _, hv⟩ := pick (xs := ns) hk c1
    refine ⟨.ref a, rfl, .int k, rfl, .inl ⟨a, _, k, .int v, rfl, rfl, SqL.of ha, hv, ?_⟩⟩
    refine ⟨_, rfl, _, rfl, _, rfl, _, rfl, _, _, rfl, rfl, ⟨by decide, by decide, by decide⟩, _, _, rfl, rfl, .inr ⟨_, rfl, _, _, rfl, rfl, .inr small01, _, rfl, _, _, rfl, rfl, (by show (0 : Int) < 2305843009213693951; decide), _, rfl, _, _, rfl, rfl, .inl ⟨by decide, by decide⟩, _, _, rfl, rfl, _, _, rfl, rfl, (by show 3 ≤ sizeLine; decide), fun t H' nt S e => fin v t H' nt S e⟩⟩
  · refine ⟨_, rfl, _, rfl, _, rfl, _, rfl, _, _, rfl, rfl, ⟨by decide, by decide, by decide⟩, _, _, rfl, rfl, .inr ⟨_, rfl, _, _, rfl, rfl, .inr small01, _, rfl, _, _, rfl, rfl, (by show (0 : Int) < 2305843009213693951; decide), _, rfl, _, _, rfl, rfl, .inl ⟨by decide, by decide⟩, _, _, rfl, rfl, _, _, rfl, rfl, (by show 3 ≤ sizeLine; decide), fun t H' nt S e => fin 0 t H' nt S e⟩⟩
noncomputable abbrev LV_l_draw : Nat := 1
noncomputable def sp_l_draw : Sp := fun vs H Q _ => ∃ (t : Addr) (n : Int) (b : Nat), vs = [.ref t, .int n] ∧ 0 < n ∧ n < 4611686018427387904 ∧ Tp (b + 1) H t ∧
  ∀ (i : Int) (H' : Hp), 0 ≤ i → i < n → Un t H H' → Tp b H' t → Q (.int i) H'
theorem ok_l_draw {f : Addr} {fd : FuncData} (F : Fun K "_law_draw" "_law_draw" s_l_draw f fd) (Z : Bl mg) : FnOk P w K mg base CX0 LV_l_draw f fd P_l_draw sp_l_draw := by
  refine F.ok sc_l_draw (fun vs H Q E h => ?_) (fun cdv A outer s H vs Q E hr h => ?_)
  · obtain ⟨t, n, b, rfl, _⟩ := h
    rfl
  obtain ⟨t, n, b, rfl, hn, hn2, ⟨x, y, z, hT, hx, hy, hy2, hz, hz2⟩, q⟩ := h
  refine ⟨_, (pss_cons (ps_if (pt_cmpR op_gt (pe_ix (ixs (K := K)) (pv 0) pe_int (fun _ _ => rfl)) pe_int (nomark _)) (pss_cons (ps_set (i := 2) sc_l_draw.nd rfl (Or.inl rfl) (pe_op op_mod (pe_ix (ixs (K := K)) (pv 0) pe_int (fun _ _ => rfl)) (pv 1)))
    (pss_cons (ps_asg (pe_op op_fdivW (pe_ix (ixs (K := K)) (pv 0) pe_int (fun _ _ => rfl)) (pv 1)) (pg_sub (pv 0) pe_int set_list))
    (pss_one (ps_ret (pv 2))))) pss_nil)
    (pss_cons (ps_asg (pe_op op_add (pe_ix (ixs (K := K)) (pv 0) pe_int (fun _ _ => rfl)) pe_int) (pg_sub (pv 0) pe_int set_list))
    (pss_cons (ps_set (i := 3) sc_l_draw.nd rfl (Or.inl rfl) (pe_op op_mod (pe_op op_pow (pe_op op_add (pe_ix (ixs (K := K)) (pv 0) pe_int (fun _ _ => rfl)) (pe_op op_mul pe_int (pe_ix (ixs (K := K)) (pv 0) pe_int (fun _ _ => rfl)))) pe_int) pe_int))
    (pss_cons (ps_set (i := 4) sc_l_draw.nd rfl (Or.inl rfl) (pe_op op_mod (pe_op op_mul (pe_op op_add (pv 3) (pe_ix (ixs (K := K)) (pv 0) pe_int (fun _ _ => rfl))) (pe_op op_add (pe_op op_add (pe_op op_mod (pv 3) pe_int) pe_int) (pe_ix (ixs (K := K)) (pv 0) pe_int (fun _ _ => rfl)))) pe_int))
    (pss_cons (ps_set (i := 5) sc_l_draw.nd rfl (Or.inl rfl) (pe_op op_mod (pe_op op_add (pe_op op_add (pe_op op_fdivW (pe_ix (ixs (K := K)) (pv 0) pe_int (fun _ _ => rfl)) pe_int) (pe_op op_mul (pv 4) pe_int)) (pe_ix (ixs (K := K)) (pv 0) pe_int (fun _ _ => rfl))) pe_int))
    (pss_one (ps_ret (pe_op op_mod (pe_op op_fdivW (pe_op op_mod (pe_op op_add (pe_op op_add (pe_op op_mul (pv 4) pe_int) (pe_op op_mul (pv 5) pe_int)) (pv 3)) pe_int) pe_int) (pv 1))))))))), ?_⟩
  refine ⟨.ref t, rfl, .inl ⟨t, _, 0, .int x, rfl, rfl, SqL.of hT, rfl, _, _, rfl, rfl, _, rfl, ite2 (fun c => ?_) (fun c => ?_)⟩⟩
  · refine ⟨.ref t, rfl, .inl ⟨t, _, 0, .int x, rfl, rfl, SqL.of hT, rfl, .int n, rfl, _, _, rfl, rfl, hn, ?_⟩⟩
    refine ⟨.ref t, rfl, .inl ⟨t, _, 0, .int x, rfl, rfl, SqL.of hT, rfl, .int n, rfl, _, _, rfl, rfl, wide_div (b := 62) hn (by omega) (by decide) (by decide), .ref t, rfl, t, _, 0, 0, rfl, rfl, hT, rfl, ?_⟩⟩
    refine ⟨_, rfl, q _ _ (Int.emod_nonneg _ (by omega)) (Int.emod_lt_of_pos _ hn) Un.upd ⟨x / n, y, z, upd_same, Int.ediv_nonneg hx (by omega), hy, hy2, hz, by omega⟩⟩
  · refine ⟨.ref t, rfl, .inl ⟨t, _, 2, .int z, rfl, rfl, SqL.of hT, rfl, _, _, rfl, rfl, .ref t, rfl, t, _, 2, 2, rfl, rfl, hT, rfl, ?_⟩⟩
    have e1 : upd H t (.lst [.int x, .int y, .int (z + 1)]) t = some (.lst [.int x, .int y, .int (z + 1)]) := upd_same
    refine ⟨.ref t, rfl, .inl ⟨t, _, 1, .int y, rfl, rfl, SqL.of e1, rfl, .ref t, rfl, .inl ⟨t, _, 2, .int (z + 1), rfl, rfl, SqL.of e1, rfl, _, _, rfl, rfl, .inl ⟨by decide, by decide⟩, _, _, rfl, rfl, _, _, rfl, rfl, ⟨by decide, by decide, by omega⟩, _, _, rfl, rfl, (by show (0 : Int) < 2147483647; decide), ?_⟩⟩⟩
    have ho1 : 0 ≤ (y + 39373 * (z + 1)) ^ (Int.toNat 5) % 2147483647 := Int.emod_nonneg _ (by decide)
    have ho2 : (y + 39373 * (z + 1)) ^ (Int.toNat 5) % 2147483647 < 2147483647 := Int.emod_lt_of_pos _ (by decide)
    generalize (y + 39373 * (z + 1)) ^ (Int.toNat 5) % 2147483647 = once at ho1 ho2 ⊢
    refine ⟨_, rfl, .ref t, rfl, .inl ⟨t, _, 2, .int (z + 1), rfl, rfl, SqL.of e1, rfl, _, _, rfl, rfl, _, rfl, _, _, rfl, rfl, (by show (0 : Int) < 40009; decide), _, _, rfl, rfl, .ref t, rfl, .inl ⟨t, _, 2, .int (z + 1), rfl, rfl, SqL.of e1, rfl, _, _, rfl, rfl, _, _, rfl, rfl, .inl ⟨by omega, by omega⟩, _, _, rfl, rfl, (by show (0 : Int) < 2147483629; decide), ?_⟩⟩⟩
    have ht1 : 0 ≤ (once + (z + 1)) * (once % 40009 + 7 + (z + 1)) % 2147483629 := Int.emod_nonneg _ (by decide)
    have ht2 : (once + (z + 1)) * (once % 40009 + 7 + (z + 1)) % 2147483629 < 2147483629 := Int.emod_lt_of_pos _ (by decide)
    generalize (once + (z + 1)) * (once % 40009 + 7 + (z + 1)) % 2147483629 = twice at ht1 ht2 ⊢
    refine ⟨.ref t, rfl, .inl ⟨t, _, 1, .int y, rfl, rfl, SqL.of e1, rfl, _, _, rfl, rfl, wide_div (b := 62) (by decide) (by decide) (by decide) (by decide), _, rfl, _, _, rfl, rfl, .inl ⟨by omega, by omega⟩, _, _, rfl, rfl, .ref t, rfl, .inl ⟨t, _, 2, .int (z + 1), rfl, rfl, SqL.of e1, rfl, _, _, rfl, rfl, _, _, rfl, rfl, (by show (0 : Int) < 2305843009213693951; decide), ?_⟩⟩⟩
    have hw1 : 0 ≤ (y / 2147483647 + twice * 40009 + (z + 1)) % 2305843009213693951 := Int.emod_nonneg _ (by decide)
    have hw2 : (y / 2147483647 + twice * 40009 + (z + 1)) % 2305843009213693951 < 2305843009213693951 := Int.emod_lt_of_pos _ (by decide)
    generalize (y / 2147483647 + twice * 40009 + (z + 1)) % 2305843009213693951 = wide at hw1 hw2 ⊢
    refine ⟨_, rfl, _, _, rfl, rfl, .inl ⟨by omega, by omega⟩, _, rfl, _, _, rfl, rfl, .inl ⟨by omega, by omega⟩, _, _, rfl, rfl, _, rfl, _, _, rfl, rfl, _, _, rfl, rfl, (by show (0 : Int) < 2305843009213693921; decide), _, _, rfl, rfl, wide_div (b := 62) (by decide) (by decide) (by decide) (by decide), _, rfl, _, _, rfl, rfl, hn, ?_⟩
    exact q _ _ (Int.emod_nonneg _ (by omega)) (Int.emod_lt_of_pos _ hn) Un.upd ⟨x, y, z + 1, e1, hx, hy, hy2, by omega, by omega⟩
noncomputable abbrev LV_l_folded : Nat := 1
noncomputable def sp_l_folded (K : PySem.W.Frag) : Sp := fun vs H Q _ => ∃ (a : Addr) (ns : List Int) (m : Nat), vs = [.ref a, .int (m : Int)] ∧ SqL K H a (ns.map V.int) ∧ ns.length ≤ 63 ∧ 1 ≤ m ∧ m ≤ 63 ∧
  ∀ (p : Addr) (cs : List Int) (H' : Hp), H p = none → Same H H' → H' p = some (.lst (cs.map V.int)) → cs.length ≤ m → Q (.ref p) H'
theorem ok_l_folded {f : Addr} {fd : FuncData} (F : Fun K "_law_folded" "_law_folded" s_l_folded f fd) (Z : Bl mg) : FnOk P w K mg base CX0 LV_l_folded f fd P_l_folded (sp_l_folded K) := by
  refine F.ok sc_l_folded (fun vs H Q E h => ?_) (fun cdv A outer s H vs Q E hr h => ?_)
  · obtain ⟨a, ns, k, rfl, _⟩ := h
    rfl
  obtain ⟨a, ns, m, rfl, ha, hl, hm, hm2, q⟩ := h
  refine ⟨_, (pss_cons (ps_set (i := 2) sc_l_folded.nd rfl (Or.inl rfl) (pe_callTy (call_listN (K := K)) (by rfl) Z.list (by decide +kernel) (pa_cons (pe_slice (sl_listN (K := K)) (pv 0) po_none (po_some (pv 1))) pa_nil)))
    (pss_cons (ps_for PassesOwn.never rfl (pi_enum (by rfl) Z.enumerate (pa_cons (pe_slice (sl_listN (K := K)) (pv 0) (po_some (pv 1)) (po_some pe_int)) pa_nil)) (pg_tup rfl (pgs_cons (pg_name (i := 3) sc_l_folded.nd rfl (Or.inl rfl)) (pgs_cons (pg_name (i := 4) sc_l_folded.nd rfl (Or.inl rfl)) pgs_nil)))
    (pss_one (ps_asg (pe_op op_add (pe_ix (ixs (K := K)) (pv 2) (pe_op op_mod (pv 3) (pv 1)) (fun _ _ => rfl)) (pe_op op_mul (pv 4) (pe_op op_add (pv 3) pe_int))) (pg_sub (pv 2) (pe_op op_mod (pv 3) (pv 1)) set_list))))
    (pss_one (ps_ret (pv 2))))), ?_⟩
  refine ⟨.ref a, rfl, .int m, rfl, m, rfl, a, _, rfl, ha, fun p1 H1 np1 S1 e1 => ?_⟩
  refine ⟨p1, _, rfl, .inl (SqL.of e1), fun p2 H2 np2 S2 e2 => ?_⟩
  rw [cut_map, HT.sIx_none, HT.sIx_nat] at e2
  refine ⟨.ref a, rfl, .int m, rfl, m, rfl, 63, rfl, a, _, rfl, S2.seq (S1.seq ha), fun p3 H3 np3 S3 e3 => ?_⟩
  refine ⟨p3, _, rfl, SqL.of e3, ?_⟩
  have e3' := e3
  rw [cut_map] at e3'
  have h63 : HT.sIx ns.length ns.length (some 63) = min 63 ns.length := HT.sIx_nat _ _ 63
  rw [HT.sIx_nat, h63] at e3'
  have np2H : H p2 = none := S1.free np2
  have n32 : p3 ≠ p2 := fun e => by
    rw [e] at np3
    rw [np3] at e2
    cases e2
  rw [cut_map, HT.sIx_nat, h63] at *
  refine for_it (walk_enum (xs := (cutI ns (min m ns.length) (min 63 ns.length)).map V.int)) (fun i σ H' => ∃ y3 y4 cs, σ = [some (.ref a), some (.int m), some (.ref p2), y3, y4] ∧ cs.length = min m ns.length ∧ H' p2 = some (.lst (cs.map V.int)) ∧ Same H H' ∧ H' p3 = some (.lst ((cutI ns (min m ns.length) (min 63 ns.length)).map V.int)))
    ⟨none, none, cutI ns 0 (min m ns.length), rfl, ?_, ?_, ?_, e3⟩ (fun i σ H' _ hP => ?_) (fun i x σ H4 H5 hi hP hY => ?_) (fun σ H' hP => ?_)
  · unfold cutI
    rw [List.length_take, List.length_drop]
    omega
  · exact S3 _ _ e2
  · exact S1.trans (S2.trans S3)
  · obtain ⟨_, _, _, _, _, _, _, e⟩ := hP
    exact SqL.of e
  · obtain ⟨y3, y4, cs, rfl, hc, e4, S4, e5⟩ := hP
    obtain ⟨T, x1, x2, rfl, nT, rfl, f1, f2⟩ := hY
    obtain ⟨v, _, rfl, hv⟩ := item_int f2
    have f1 : (V.int (i : Nat)) = x1 := Option.some.inj f1
    subst f1
    have hlt : m < ns.length := by
      rw [List.length_map] at hi
      unfold cutI at hi
      rw [List.length_take, List.length_drop] at hi
      omega
    have hcl : cs.length = m := by omega
    have hmi : 0 ≤ ((i : Nat) : Int) % (m : Int) := Int.emod_nonneg _ (by omega)
    have hmi2 : ((i : Nat) : Int) % (m : Int) < (m : Int) := Int.emod_lt_of_pos _ (by omega)
    obtain ⟨c, _, hc2⟩ := pick (xs := cs) (i := ((i : Nat) : Int) % (m : Int)) hmi (by omega)
    have nT2 : p2 ≠ T := ne_of_none e4 nT
    have nT3 : p3 ≠ T := ne_of_none e5 nT
    have e4' : upd H4 T (.tup [.int (i : Nat), .int v]) p2 = some (.lst (cs.map V.int)) := by rw [upd_ne nT2]; exact e4
    obtain ⟨j, hj⟩ : ∃ j : Nat, ((i : Nat) : Int) % (m : Int) = (j : Int) := ⟨(((i : Nat) : Int) % (m : Int)).toNat, by omega⟩
    have hi60 : (i : Int) < 100 := by
      rw [List.length_map] at hi
      unfold cutI at hi
      rw [List.length_take, List.length_drop] at hi
      omega
    refine ⟨T, _, rfl, SqT.of upd_same, rfl, _, _, rfl, _, _, rfl, rfl, ?_⟩
    refine ⟨.ref p2, rfl, .int (i : Nat), rfl, .int m, rfl, _, _, rfl, rfl, (by show (0 : Int) < m; omega), .inl ⟨p2, _, _, .int c, rfl, rfl, SqL.of e4', hc2, .int v, rfl, .int (i : Nat), rfl, _, _, rfl, rfl, _, _, rfl, rfl, .inr ⟨by omega, by omega⟩, _, _, rfl, rfl, ?_⟩⟩
    refine ⟨.ref p2, rfl, .int (i : Nat), rfl, .int m, rfl, _, _, rfl, rfl, (by show (0 : Int) < m; omega), p2, _, _, j, rfl, rfl, e4', ?_, ?_⟩
    · rw [hj]
      exact Evl.ixN_nat (by rw [List.length_map]; omega)
    · refine ⟨_, _, cs.set j (c + v * ((i : Nat) + 2)), rfl, by rw [List.length_set]; exact hc, ?_, ?_, ?_⟩
      · rw [upd_same, List.map_set]
      · exact Same.of_upd (Same.of_upd S4 (S4.free nT)) np2H
      · rw [upd_ne n32, upd_ne nT3]
        exact e5
  · obtain ⟨y3, y4, cs, rfl, hc, e4, S4, e5⟩ := hP
    exact ⟨_, rfl, q p2 cs _ np2H S4 e4 (by omega)⟩
noncomputable abbrev LV_l_same : Nat := 8
noncomputable abbrev sp_l_same : Sp := spSame 8
theorem same_step {f : Addr} {fd : FuncData} {n : Nat} (F : Fun K "_law_same" "_law_same" s_l_same f fd) (Z : Bl mg) (G_l_same : Kn P w K mg base "_law_same" P_l_same n (spSame n)) : FnOk P w K mg base CX0 (n + 1) f fd P_l_same (spSame (n + 1)) := by
  refine F.ok sc_l_same (fun vs H Q E h => ?_) (fun cdv A outer s H vs Q E hr h => ?_)
  · obtain ⟨x, y, d, rfl, _⟩ := h
    rfl
  obtain ⟨x, y, d, rfl, hx, hy, q⟩ := h
  refine ⟨_, (pss_cons (ps_if (pt_val (pe_callB (isiN (K := K)) (by rfl) Z.isinstance (by decide +kernel) (pa_cons (pv 1) (pa_cons (pe_tupN (pa_cons (pe_bltn (v := .ty "list") (by rfl) Z.list (by decide +kernel) rfl) (pa_cons (pe_bltn (v := .ty "tuple") (by rfl) Z.tuple (by decide +kernel) rfl) pa_nil))) pa_nil)))) (pss_cons (ps_if (PW.pt (pw_or (pt_cmpR op_ne (pe_callB (isi1 (K := K)) (by rfl) Z.isinstance (by decide +kernel) (pa_cons (pv 0) (pa_cons (pe_bltn (v := .ty "list") (by rfl) Z.list (by decide +kernel) rfl) pa_nil))) (pe_callB (isi1 (K := K)) (by rfl) Z.isinstance (by decide +kernel) (pa_cons (pv 1) (pa_cons (pe_bltn (v := .ty "list") (by rfl) Z.list (by decide +kernel) rfl) pa_nil))) (nomark _)) (pw_or1 (pt_cmpR op_ne (pe_callB (isi1 (K := K)) (by rfl) Z.isinstance (by decide +kernel) (pa_cons (pv 0) (pa_cons (pe_bltn (v := .ty "tuple") (by rfl) Z.tuple (by decide +kernel) rfl) pa_nil))) (pe_callB (isi1 (K := K)) (by rfl) Z.isinstance (by decide +kernel) (pa_cons (pv 1) (pa_cons (pe_bltn (v := .ty "tuple") (by rfl) Z.tuple (by decide +kernel) rfl) pa_nil))) (nomark _))))) (pss_one (ps_ret pe_bl)) pss_nil)
    (pss_one (ps_ret (pe_and (pe_cmpR op_eq (pe_callB (call_lenN (K := K)) (by rfl) Z.len (by decide +kernel) (pa_cons (pv 0) pa_nil)) (pe_callB (call_lenN (K := K)) (by rfl) Z.len (by decide +kernel) (pa_cons (pv 1) pa_nil)) (nomark _)) (pe_one (pe_callB (allL (K := K) rfl) (by rfl) Z.all (by decide +kernel) (pa_cons (pe_lcN (own := [("_law_mine", 2), ("_law_its", 3)]) (g := (gTup K 2 (gCons (gName 2) (gCons (gName 3) gNil)))) (tt := tYes) (by rfl) sc_l_same.nd (RZ.pi_zipA (by rfl) Z.zip (pa_cons (pv 0) (pa_cons (pv 1) pa_nil))) (blkOk_by (own := [("_law_mine", 2), ("_law_its", 3)]) (N := N_l_same) (sc := defScope s_l_same) (by decide +kernel)) (fun _ _ _ _ _ => (pg_tup rfl (pgs_cons (pg_name (i := 2) sc_l_same.nd rfl (Or.inl rfl)) (pgs_cons (pg_name (i := 3) sc_l_same.nd rfl (Or.inl rfl)) pgs_nil)))) (fun _ _ _ _ _ => pts_nil) (fun _ _ _ _ _ => (pe_own G_l_same hr (by rfl) (pa_cons (pv 2) (pa_cons (pv 3) pa_nil))))) pa_nil))))))) pss_nil)
    (pss_cons (ps_if (PW.pt (pw_or (pt_cmpR op_isN (pv 1) pe_non (nomark _)) (pw_or1 (pt_val (pe_callB (isiN (K := K)) (by rfl) Z.isinstance (by decide +kernel) (pa_cons (pv 1) (pa_cons (pe_tupN (pa_cons (pe_bltn (v := .ty "str") (by rfl) Z.str (by decide +kernel) rfl) (pa_cons (pe_bltn (v := .ty "bool") (by rfl) Z.bool (by decide +kernel) rfl) pa_nil))) pa_nil))))))) (pss_one (ps_ret (pe_and (pe_cmpR op_eq (pe_callB (isi1 (K := K)) (by rfl) Z.isinstance (by decide +kernel) (pa_cons (pv 0) (pa_cons (pe_bltn (v := .ty "bool") (by rfl) Z.bool (by decide +kernel) rfl) pa_nil))) (pe_callB (isi1 (K := K)) (by rfl) Z.isinstance (by decide +kernel) (pa_cons (pv 1) (pa_cons (pe_bltn (v := .ty "bool") (by rfl) Z.bool (by decide +kernel) rfl) pa_nil))) (nomark _)) (pe_one (pe_cmpR op_eq (pv 0) (pv 1) (nomark _)))))) pss_nil)
    (pss_one (ps_ret (pe_and (pe_callB (isi1 (K := K)) (by rfl) Z.isinstance (by decide +kernel) (pa_cons (pv 0) (pa_cons (pe_bltn (v := .ty "int") (by rfl) Z.int (by decide +kernel) rfl) pa_nil))) (pe_and (pe_not (pe_callB (isi1 (K := K)) (by rfl) Z.isinstance (by decide +kernel) (pa_cons (pv 0) (pa_cons (pe_bltn (v := .ty "bool") (by rfl) Z.bool (by decide +kernel) rfl) pa_nil)))) (pe_one (pe_cmpR op_eq (pv 0) (pv 1) (nomark _))))))))), ?_⟩
  cases hx with
  | non =>
    cases hy
    refine ⟨.non, rfl, (by show 2 ≤ sizeLine; decide), fun T H1 nT S1 e1 => ?_⟩
    refine ⟨.non, T, _, _, _, false, rfl, e1, .cons (.ty _) (.cons (.ty _) .nil), .base .non, kit2 (r := false) (s := false) (by decide +kernel) (by decide +kernel), _, rfl, ?_⟩
    refine ⟨.non, rfl, rfl, _, rfl, iteD rfl ?_⟩
    refine ⟨.non, rfl, _, _, _, _, false, rfl, .ty _, .base .non, kit_ty (by decide +kernel), .non, rfl, _, _, _, _, false, rfl, .ty _, .base .non, kit_ty (by decide +kernel), rfl, _, rfl, iteD rfl ?_⟩
    exact ⟨.non, rfl, .non, rfl, rfl, by rw [decide_eq_true rfl]; exact q _ S1⟩
  | bl b =>
    cases hy
    refine ⟨.bl b, rfl, (by show 2 ≤ sizeLine; decide), fun T H1 nT S1 e1 => ?_⟩
    refine ⟨.bl b, T, _, _, _, false, rfl, e1, .cons (.ty _) (.cons (.ty _) .nil), .base (.bl b), kit2 (r := false) (s := false) (by decide +kernel) (by decide +kernel), _, rfl, ?_⟩
    refine ⟨.bl b, rfl, rfl, _, rfl, iteDN (fun z => nomatch z) ?_⟩
    refine ⟨.bl b, rfl, (by show 2 ≤ sizeLine; decide), fun T2 H2 nT2 S2 e2 => ?_⟩
    refine ⟨.bl b, T2, _, _, _, true, rfl, e2, .cons (.ty _) (.cons (.ty _) .nil), .base (.bl b), kit2 (r := false) (s := true) (by decide +kernel) (by decide +kernel), _, rfl, ?_⟩
    refine ⟨.bl b, rfl, _, _, _, _, true, rfl, .ty _, .base (.bl b), kit_ty (by decide +kernel), .bl b, rfl, _, _, _, _, true, rfl, .ty _, .base (.bl b), kit_ty (by decide +kernel), rfl, _, rfl, iteD rfl ?_⟩
    exact ⟨.bl b, rfl, .bl b, rfl, rfl, by rw [decide_eq_true rfl]; exact q _ (S1.trans S2)⟩
  | int i =>
    cases hy
    refine ⟨.int i, rfl, (by show 2 ≤ sizeLine; decide), fun T H1 nT S1 e1 => ?_⟩
    refine ⟨.int i, T, _, _, _, false, rfl, e1, .cons (.ty _) (.cons (.ty _) .nil), .base (.int i), kit2 (r := false) (s := false) (by decide +kernel) (by decide +kernel), _, rfl, ?_⟩
    refine ⟨.int i, rfl, rfl, _, rfl, iteDN (fun z => nomatch z) ?_⟩
    refine ⟨.int i, rfl, (by show 2 ≤ sizeLine; decide), fun T2 H2 nT2 S2 e2 => ?_⟩
    refine ⟨.int i, T2, _, _, _, false, rfl, e2, .cons (.ty _) (.cons (.ty _) .nil), .base (.int i), kit2 (r := false) (s := false) (by decide +kernel) (by decide +kernel), _, rfl, ?_⟩
    refine ⟨.int i, rfl, _, _, _, _, true, rfl, .ty _, .base (.int i), kit_ty (by decide +kernel), _, rfl, ?_⟩
    refine ⟨.int i, rfl, _, _, _, _, false, rfl, .ty _, .base (.int i), kit_ty (by decide +kernel), _, rfl, _, rfl, ?_⟩
    exact ⟨.int i, rfl, .int i, rfl, rfl, by rw [decide_eq_true rfl]; exact q _ (S1.trans S2)⟩
  | str z =>
    cases hy
    refine ⟨.str z, rfl, (by show 2 ≤ sizeLine; decide), fun T H1 nT S1 e1 => ?_⟩
    refine ⟨.str z, T, _, _, _, false, rfl, e1, .cons (.ty _) (.cons (.ty _) .nil), .base (.str z), kit2 (r := false) (s := false) (by decide +kernel) (by decide +kernel), _, rfl, ?_⟩
    refine ⟨.str z, rfl, rfl, _, rfl, iteDN (fun z => nomatch z) ?_⟩
    refine ⟨.str z, rfl, (by show 2 ≤ sizeLine; decide), fun T2 H2 nT2 S2 e2 => ?_⟩
    refine ⟨.str z, T2, _, _, _, true, rfl, e2, .cons (.ty _) (.cons (.ty _) .nil), .base (.str z), kit2 (r := true) (s := false) (by decide +kernel) (by decide +kernel), _, rfl, ?_⟩
    refine ⟨.str z, rfl, _, _, _, _, false, rfl, .ty _, .base (.str z), kit_ty (by decide +kernel), .str z, rfl, _, _, _, _, false, rfl, .ty _, .base (.str z), kit_ty (by decide +kernel), rfl, _, rfl, iteD rfl ?_⟩
    exact ⟨.str z, rfl, .str z, rfl, rfl, by rw [decide_eq_true rfl]; exact q _ (S1.trans S2)⟩
  | @lst n' a1 xs ds g1 z1 k1 =>
    cases hy with
    | @lst _ a2 ys _ g2 z2 k2 =>
    have hl : xs.length = ys.length := k1.len.trans k2.len.symm
    refine ⟨.ref a2, rfl, (by show 2 ≤ sizeLine; decide), fun T H1 nT S1 e1 => ?_⟩
    have f1 := S1 _ _ g1
    have f2 := S1 _ _ g2
    refine ⟨.ref a2, T, _, _, _, true, rfl, e1, .cons (.ty _) (.cons (.ty _) .nil), .base (.lst f2), kit2 (r := true) (s := false) (by decide +kernel) (by decide +kernel), _, rfl, ?_⟩
    refine ⟨.ref a1, rfl, _, _, _, _, true, rfl, .ty _, .base (.lst f1), kit_ty (by decide +kernel), .ref a2, rfl, _, _, _, _, true, rfl, .ty _, .base (.lst f2), kit_ty (by decide +kernel), rfl, _, rfl, iteNS rfl ?_⟩
    refine ⟨.ref a1, rfl, _, _, _, _, false, rfl, .ty _, .base (.lst f1), kit_ty (by decide +kernel), .ref a2, rfl, _, _, _, _, false, rfl, .ty _, .base (.lst f2), kit_ty (by decide +kernel), rfl, _, rfl, iteNS rfl ?_⟩
    refine ⟨.ref a1, rfl, a1, xs, rfl, .inl (SqL.of f1), .ref a2, rfl, a2, ys, rfl, .inl (SqL.of f2), rfl, _, rfl, iteD (congrArg V.int (congrArg Int.ofNat hl)) ?_⟩
    refine ⟨.ref a1, rfl, .ref a2, rfl, a1, a2, xs, ys, rfl, .inl ⟨SqL.of f1, SqL.of f2, fun D nD => ?_⟩⟩
    refine lc_it (walk_zip (K := K) (a := a1) (b := a2) (n := xs.length) (by omega)) (fun i H' => Same H1 H' ∧ H' D = some (.lst ((List.replicate i true).map V.bl))) ⟨same_upd nD, upd_same⟩ (fun i H' _ hP => ⟨SqL.of (hP.1 _ _ f1), SqL.of (hP.1 _ _ f2)⟩) (fun i v H2 H3 hi hP hY => ?_) (fun H' hP => ?_)
    · obtain ⟨T3, x1, x2, rfl, nT3, rfl, i1, i2⟩ := hY
      have S3 : Same H1 (upd H2 T3 (.tup [x1, x2])) := Same.of_upd hP.1 (hP.1.free nT3)
      have eD : upd H2 T3 (.tup [x1, x2]) D = some (.lst ((List.replicate i true).map V.bl)) := by
        rw [upd_ne (ne_of_none hP.2 nT3)]
        exact hP.2
      obtain ⟨d, d1, d2⟩ := DtA.two k1 k2 i1 i2
      refine ⟨T3, _, rfl, SqT.of upd_same, rfl, _, _, rfl, _, _, rfl, rfl, rfl, x1, rfl, x2, rfl, ?_⟩
      refine ⟨x1, x2, d, rfl, d1.same (S1.trans S3), d2.same (S1.trans S3), fun H4 S4 => ?_⟩
      refine ⟨_, S4 _ _ eD, szl (by rw [List.length_map, List.length_replicate]; omega), Same.of_upd (S3.trans S4) nD, ?_⟩
      rw [upd_same, List.replicate_succ', List.map_append]
      rfl
    · refine ⟨D, _, rfl, SqL.of hP.2, ?_⟩
      rw [List.all_replicate]
      have e : ∀ n : Nat, (if n = 0 then true else id true) = true := fun n => by split <;> rfl
      rw [e]
      exact q _ (S1.trans hP.1)
  | @tup n' a1 xs ds g1 z1 k1 =>
    cases hy with
    | @tup _ a2 ys _ g2 z2 k2 =>
    have hl : xs.length = ys.length := k1.len.trans k2.len.symm
    refine ⟨.ref a2, rfl, (by show 2 ≤ sizeLine; decide), fun T H1 nT S1 e1 => ?_⟩
    have f1 := S1 _ _ g1
    have f2 := S1 _ _ g2
    refine ⟨.ref a2, T, _, _, _, true, rfl, e1, .cons (.ty _) (.cons (.ty _) .nil), .base (.tup f2), kit2 (r := false) (s := true) (by decide +kernel) (by decide +kernel), _, rfl, ?_⟩
    refine ⟨.ref a1, rfl, _, _, _, _, false, rfl, .ty _, .base (.tup f1), kit_ty (by decide +kernel), .ref a2, rfl, _, _, _, _, false, rfl, .ty _, .base (.tup f2), kit_ty (by decide +kernel), rfl, _, rfl, iteNS rfl ?_⟩
    refine ⟨.ref a1, rfl, _, _, _, _, true, rfl, .ty _, .base (.tup f1), kit_ty (by decide +kernel), .ref a2, rfl, _, _, _, _, true, rfl, .ty _, .base (.tup f2), kit_ty (by decide +kernel), rfl, _, rfl, iteNS rfl ?_⟩
    refine ⟨.ref a1, rfl, a1, xs, rfl, .inr (SqT.of f1), .ref a2, rfl, a2, ys, rfl, .inr (SqT.of f2), rfl, _, rfl, iteD (congrArg V.int (congrArg Int.ofNat hl)) ?_⟩
    refine ⟨.ref a1, rfl, .ref a2, rfl, a1, a2, xs, ys, rfl, .inr ⟨SqT.of f1, SqT.of f2, fun D nD => ?_⟩⟩
    refine lc_it (walk_zipTT (K := K) (a := a1) (b := a2) (xs := xs) (ys := ys) hl) (fun i H' => Same H1 H' ∧ H' D = some (.lst ((List.replicate i true).map V.bl))) ⟨same_upd nD, upd_same⟩ (fun i H' _ hP => ⟨SqT.of (hP.1 _ _ f1), SqT.of (hP.1 _ _ f2)⟩) (fun i v H2 H3 hi hP hY => ?_) (fun H' hP => ?_)
    · obtain ⟨T3, x1, x2, rfl, nT3, rfl, i1, i2⟩ := hY
      have S3 : Same H1 (upd H2 T3 (.tup [x1, x2])) := Same.of_upd hP.1 (hP.1.free nT3)
      have eD : upd H2 T3 (.tup [x1, x2]) D = some (.lst ((List.replicate i true).map V.bl)) := by
        rw [upd_ne (ne_of_none hP.2 nT3)]
        exact hP.2
      obtain ⟨d, d1, d2⟩ := DtA.two k1 k2 i1 i2
      refine ⟨T3, _, rfl, SqT.of upd_same, rfl, _, _, rfl, _, _, rfl, rfl, rfl, x1, rfl, x2, rfl, ?_⟩
      refine ⟨x1, x2, d, rfl, d1.same (S1.trans S3), d2.same (S1.trans S3), fun H4 S4 => ?_⟩
      refine ⟨_, S4 _ _ eD, szl (by rw [List.length_map, List.length_replicate]; omega), Same.of_upd (S3.trans S4) nD, ?_⟩
      rw [upd_same, List.replicate_succ', List.map_append]
      rfl
    · refine ⟨D, _, rfl, SqL.of hP.2, ?_⟩
      rw [List.all_replicate]
      have e : ∀ n : Nat, (if n = 0 then true else id true) = true := fun n => by split <;> rfl
      rw [e]
      exact q _ (S1.trans hP.1)
theorem same_all {f : Addr} {fd : FuncData} (F : Fun K "_law_same" "_law_same" s_l_same f fd) (Z : Bl mg) (m : mg "_law_same" = some (.ref f)) (b : Binds K fd P_l_same []) : ∀ n, FnOk P w K mg base CX0 n f fd P_l_same (spSame n)
  | 0 => ⟨fun vs H Q E h => h.elim, fun A outer s H args us vs Q E _ _ _ _ h => h.elim⟩
  | n + 1 => same_step F Z ⟨f, fd, same_all F Z m b n, m, F.kp, b⟩
theorem ok_l_same {f : Addr} {fd : FuncData} (F : Fun K "_law_same" "_law_same" s_l_same f fd) (Z : Bl mg) (m : mg "_law_same" = some (.ref f)) (b : Binds K fd P_l_same []) : FnOk P w K mg base CX0 LV_l_same f fd P_l_same sp_l_same := same_all F Z m b 8
noncomputable abbrev LV_l_names : Nat := 2
theorem str_ext {a b : Str} (h : a.cps.toList = b.cps.toList) : a = b := by
  cases a with
  | mk x => cases b with
    | mk y =>
      have : x = y := Array.toList_inj.mp h
      rw [this]
theorem app_list (a b : Str) : (a ++ b).cps.toList = a.cps.toList ++ b.cps.toList := Array.toList_append
theorem nmF_is {hd tl : Str} {sh st way k c : Nat} {r : Str} (hc : c = 97 + (sh + st * (if way = 1 then k / 2 else k)) % 26) (hr : r.cps.toList = (if way = 0 then tl.cps.toList else if way = 1 then (if k % 2 = 0 then [] else tl.cps.toList) else tl.cps.toList.take (k % (tl.length + 1)))) :
    hd ++ (⟨#[c]⟩ : Str) ++ r = nmF hd.cps.toList tl.cps.toList sh st way k := by
  refine str_ext ?_
  rw [app_list, app_list, hr, hc]
  show _ = nmL _ _ _ _ _ _
  unfold nmL
  rw [List.append_assoc]
  rfl
noncomputable def sp_l_names : Sp := fun vs H Q _ => ∃ (t : Addr) (n b : Nat), vs = [.ref t, .int (n : Int)] ∧ n ≤ 26 ∧ Tp (b + 20) H t ∧
  ∀ (l : Addr) (zs : List Str) (H' : Hp), zs.length = n → (∀ z ∈ zs, NameOk z) → zs.Nodup → H l = none → Un t H H' → Tp b H' t → H' l = some (.lst (zs.map V.str)) → Q (.ref l) H'
theorem ok_l_names {f : Addr} {fd : FuncData} (F : Fun K "_law_names" "_law_names" s_l_names f fd) (Z : Bl mg) (G_l_draw : Kn P w K mg base "_law_draw" P_l_draw LV_l_draw sp_l_draw) : FnOk P w K mg base CX0 LV_l_names f fd P_l_names sp_l_names := by
  refine F.ok sc_l_names (fun vs H Q E h => ?_) (fun cdv A outer s H vs Q E hr h => ?_)
  · obtain ⟨t, n, b, rfl, _⟩ := h
    rfl
  obtain ⟨t, n, b, rfl, hn, hT, q⟩ := h
  refine ⟨_, (pss_cons (ps_asg (pe_tupN (pa_cons pe_str (pa_cons (pe_own G_l_draw (hr.mono (by decide)) (by rfl) (pa_cons (pv 0) (pa_cons pe_int pa_nil))) pa_nil))) (pg_tup rfl (pgs_cons (pg_name (i := 2) sc_l_names.nd rfl (Or.inr rfl)) (pgs_cons (pg_name (i := 3) sc_l_names.nd rfl (Or.inl rfl)) pgs_nil))))
    (pss_cons (ps_set (i := 5) sc_l_names.nd rfl (Or.inl rfl) (pe_join pe_str (pe_lcN (own := [("_law_k", 4)]) (g := (gName 4)) (tt := tYes) (by rfl) sc_l_names.nd (pi_range1 (by rfl) Z.range (pa_cons (pe_own G_l_draw (hr.mono (by decide)) (by rfl) (pa_cons (pv 0) (pa_cons pe_int pa_nil))) pa_nil)) (blkOk_by (own := [("_law_k", 4)]) (N := N_l_names) (sc := defScope s_l_names) (by decide +kernel)) (fun _ _ _ _ _ => (pg_name (i := 4) sc_l_names.nd rfl (Or.inl rfl))) (fun _ _ _ _ _ => pts_nil) (fun _ _ _ _ _ => (pe_ix ix_str (pv 2) (pe_own G_l_draw (hr.mono (by decide)) (by rfl) (pa_cons (pv 0) (pa_cons pe_int pa_nil))) (fun _ _ => rfl))))))
    (pss_cons (ps_par3 (i := 6) (j := 7) (l := 8) (by rfl) sc_l_names.nd rfl rfl rfl (by decide) (by decide) (by decide) rfl rfl rfl (pa_cons (pe_own G_l_draw (hr.mono (by decide)) (by rfl) (pa_cons (pv 0) (pa_cons (pe_op op_add (pe_callB call_len_str (by rfl) Z.len (by decide +kernel) (pa_cons (pv 5) pa_nil)) pe_int) pa_nil))) (pa_cons (pe_ix (ixs (K := K)) (pe_lstN (pa_cons pe_int (pa_cons pe_int (pa_cons pe_int pa_nil)))) (pe_own G_l_draw (hr.mono (by decide)) (by rfl) (pa_cons (pv 0) (pa_cons pe_int pa_nil))) (fun _ _ => rfl)) (pa_cons (pe_lstN pa_nil) pa_nil))) (by rfl))
    (pss_cons (ps_par (i := 9) (j := 10) (by rfl) sc_l_names.nd rfl rfl (by decide) rfl rfl (pa_cons (pe_slice sl_str (pv 5) po_none (po_some (pv 6))) (pa_cons (pe_slice sl_str (pv 5) (po_some (pv 6)) po_none) pa_nil)) (by rfl))
    (pss_cons (ps_for PassesOwn.never rfl (pi_range1 (by rfl) Z.range (pa_cons (pv 1) pa_nil)) (pg_name (i := 4) sc_l_names.nd rfl (Or.inl rfl))
    (pss_cons (ps_set (i := 11) sc_l_names.nd rfl (Or.inl rfl) (pe_cut (pe_op op_mul (pe_op op_mod (pe_op op_add (pe_op op_add (pv 3) (pv 6)) (pe_callB call_len_str (by rfl) Z.len (by decide +kernel) (pa_cons (pv 5) pa_nil))) pe_int) (pe_callTy call_int1 (by rfl) Z.int (by decide +kernel) (pa_cons (pe_cmpR op_ne (pv 10) pe_str (nomark _)) pa_nil)))))
    (pss_cons (ps_set (i := 12) sc_l_names.nd rfl (Or.inl rfl) (pe_cut (pe_ix ix_str (pv 2) (pe_op op_mod (pe_op op_add (pv 3) (pe_op op_mul (pv 7) (pe_cut (pe_ix (ixs (K := K)) (pe_lstN (pa_cons (pv 4) (pa_cons (pe_op op_fdivW (pv 4) pe_int) (pa_cons (pv 4) pa_nil)))) (pv 11) (fun _ _ => rfl))))) pe_int) (fun _ _ => rfl))))
    (pss_one (ps_expr (pe_bm PySem.F.plainAttrs_list PySem.F.slot_list_append PySem.F.type_list_append mt_append (pv 8) (pa_cons (pe_op op_add_str (pe_op op_add_str (pv 9) (pv 12)) (pe_cut (pe_ix (ixs (K := K)) (pe_lstN (pa_cons (pv 10) (pa_cons (pe_op op_mulS (pv 10) (pe_op op_mod (pv 4) pe_int)) (pa_cons (pe_slice sl_str (pv 10) po_none (po_some (pe_op op_mod (pv 4) (pe_op op_add (pe_callB call_len_str (by rfl) Z.len (by decide +kernel) (pa_cons (pv 10) pa_nil)) pe_int)))) pa_nil)))) (pv 11) (fun _ _ => rfl)))) pa_nil)))))))
    (pss_one (ps_ret (pv 8)))))))), ?_⟩
  refine ⟨.ref t, rfl, t, 26, b + 19, rfl, by decide, by decide, hT, fun sh0 H1 a1 b1 U1 T1 => ⟨(by show 2 ≤ sizeLine; decide), fun p2 H2 np2 S2 e2 => ?_⟩⟩
  obtain ⟨sh, rfl⟩ : ∃ sh : Nat, sh0 = (sh : Int) := ⟨sh0.toNat, by omega⟩
  refine ⟨p2, _, rfl, SqT.of e2, rfl, _, _, rfl, _, _, rfl, rfl, ?_⟩
  -- the stem
  refine ⟨⟨_, rfl⟩, .ref t, rfl, t, 8, b + 18, rfl, by decide, by decide, (T1.same S2).le (by omega), fun m0 H3 a3 b3 U3 T3 => ?_⟩
  obtain ⟨m, rfl⟩ : ∃ m : Nat, m0 = (m : Int) := ⟨m0.toNat, by omega⟩
  refine ⟨(m : Int), rfl, by omega, by omega, lcDrawV (t := t) (p := fun v => ∃ z, v = .str z ∧ LetS z ∧ z.length = 1) (n := _) (d := 1) (c := b + 10) (T3.le (by omega)) (by omega) (fun _ => rfl) (fun i H' c U T R k => ?_) (fun D us H4 hl hs nD U4 T4 eD => ?_)⟩
  · refine ⟨_, rfl, .ref t, rfl, t, 26, c, rfl, by decide, by decide, T, fun d H5 a5 b5 U5 T5 => ⟨lettersS, d, _, rfl, rfl, (by decide +kernel), letters_ix a5 b5, k _ H5 ⟨_, rfl, fun x hx => ?_, rfl⟩ U5 T5⟩⟩
    have hx' : x = 97 + d.toNat := by simpa using hx
    omega
  obtain ⟨ys, rfl, hyl, hy⟩ := strs_of hs
  have hj := join_let hy
  rw [← TL.join_eq] at hj
  refine ⟨_, D, ys, rfl, rfl, .inl (SqL.of eD), ?_, ?_⟩
  · have : (("" : Str)).length = 0 := by decide
    rw [this]
    have : ∀ ys : List Str, (∀ y ∈ ys, LetS y ∧ y.length = 1) → (ys.map (·.length)).sum = ys.length := fun ys => by
      induction ys with
      | nil => intro _; rfl
      | cons y ys ih =>
        intro h
        have := ih fun z hz => h z (List.mem_cons_of_mem _ hz)
        have := (h y (List.mem_cons_self ..)).2
        simp
        omega
    rw [this ys hy]
    omega
  generalize Txt.join "" ys = stem at hj
  obtain ⟨hst1, hst2⟩ := hj
  have hst3 : stem.length ≤ 7 := by omega
  have hsz : stem.length ≤ sizeLine := sz (by omega)
  refine ⟨.ref t, rfl, _, rfl, stem, rfl, hsz, _, _, rfl, rfl, t, _, b + 9, rfl, by omega, by omega, T4.le (by omega), fun at0 H5 a5 b5 U5 T5 => ?_⟩
  obtain ⟨at_, rfl⟩ : ∃ at_ : Nat, at0 = (at_ : Int) := ⟨at0.toNat, by omega⟩
  have hat : at_ ≤ stem.length := by omega
  refine ⟨(by show 3 ≤ sizeLine; decide), fun p6 H6 np6 S6 e6 => ?_⟩
  refine ⟨.ref t, rfl, t, 3, b + 8, rfl, by decide, by decide, (T5.same S6).le (by omega), fun d7 H7 a7 b7 U7 T7 => ?_⟩
  have e7 := U7 _ _ (T5.nn np6) e6
  obtain ⟨st0, hst0, hp⟩ := pick (xs := [1, 7, 25]) a7 b7
  obtain ⟨st, rfl⟩ : ∃ st : Nat, st0 = (st : Int) := ⟨st0.toNat, by
    have : st0 = 1 ∨ st0 = 7 ∨ st0 = 25 := by simpa using hst0
    omega⟩
  have hst : st = 1 ∨ st = 7 ∨ st = 25 := by
    have : (st : Int) = 1 ∨ (st : Int) = 7 ∨ (st : Int) = 25 := by simpa using hst0
    omega
  refine .inl ⟨p6, _, _, _, rfl, rfl, SqL.of e7, hp, ?_⟩
  refine ⟨Nat.zero_le _, fun l H8 nl S8 el => ⟨_, _, _, rfl, ?_⟩⟩
  have T8 : Tp (b + 8) H8 t := T7.same S8
  have U8 : Un t H H8 := U1.trans ((Un.same S2).trans (U3.trans (U4.trans (U5.trans ((Un.same S6).trans (U7.trans (Un.same S8)))))))
  have nl0 : H l = none := Decidable.byContradiction fun z => by
    obtain ⟨o, ho⟩ := Option.ne_none_iff_exists'.mp z
    have := (U1.trans ((Un.same S2).trans (U3.trans (U4.trans (U5.trans ((Un.same S6).trans U7)))))) _ _ (T7.nn nl) ho
    rw [nl] at this
    cases this
  have nlt : l ≠ t := T7.nn nl
  -- head and tail
  have hh := cutS_pre hat
  have htl := cutS_suf hat
  have Lh := hst1.cut none (some (at_ : Int))
  have Lt := hst1.cut (some (at_ : Int)) none
  refine ⟨_, rfl, _, rfl, (at_ : Int), rfl, stem, rfl, hsz, _, rfl, _, rfl, (at_ : Int), rfl, stem, rfl, hsz, _, _, rfl, ?_⟩
  have lsum : (cutS stem none (some (at_ : Int))).cps.toList.length + (cutS stem (some (at_ : Int)) none).cps.toList.length ≤ 7 := by
    rw [hh, htl, List.length_take, List.length_drop]
    have : stem.cps.toList.length = stem.length := rfl
    omega
  generalize cutS stem none (some (at_ : Int)) = hd at hh Lh lsum
  generalize cutS stem (some (at_ : Int)) none = tl at htl Lt lsum
  have hdl : hd.length ≤ 7 := by
    have : hd.cps.toList.length = hd.length := rfl
    omega
  have tll : tl.length ≤ 7 := by
    have : tl.cps.toList.length = tl.length := rfl
    omega
  -- which way
  have hway : ∃ way : Nat, way < 3 ∧ ((way : Int) = ((sh : Int) + at_ + (stem.length : Int)) % 3 * (if (!decide (V.str tl = V.str "")) = true then 1 else 0)) ∧ (way = 0 ∨ tl.cps.toList ≠ []) := by
    by_cases c : tl = ("" : Str)
    · refine ⟨0, by decide, ?_, .inl rfl⟩
      subst c
      simp
    · refine ⟨(((sh : Int) + at_ + (stem.length : Int)) % 3).toNat, by omega, ?_, .inr fun z => c (str_ext (by rw [z]; decide))⟩
      have : ¬ V.str tl = V.str "" := fun z => c (V.str.inj z)
      simp [this]
      omega
  obtain ⟨way, hw3, hway, hwt⟩ := hway
  refine ⟨_, rfl, (n : Int), rfl, by omega, by omega, for_range (lo := 0) (n := _) (fun i σ H' => (∃ y4 y11 y12, σ = [some (.ref t), some (.int (n : Int)), some (.str lettersS), some (.int (sh : Int)), y4, some (.str stem), some (.int (at_ : Int)), some (.int (st : Int)), some (.ref l), some (.str hd), some (.str tl), y11, y12]) ∧ Un t H H' ∧ Tp b H' t ∧ H' l = some (.lst (((List.range i).map (nmF hd.cps.toList tl.cps.toList sh st way)).map V.str)))
    ⟨⟨_, _, _, rfl⟩, U8, T8.le (by omega), el⟩ (fun i σ H9 hi hP => ?_) (fun σ H9 hP => ?_)⟩
  · obtain ⟨⟨y4, y11, y12, rfl⟩, U9, T9, el9⟩ := hP
    have hi26 : i < 26 := by omega
    have ei : (0 : Int) + (i : Int) = (i : Int) := Int.zero_add _
    refine ⟨fun v H' => v = .int (way : Int) ∧ H9 = H', ?_, fun v H' hR => ?_⟩
    · refine ⟨_, rfl, _, rfl, _, _, rfl, rfl, _, rfl, stem, rfl, hsz, _, _, rfl, rfl, _, _, rfl, rfl, (by show (0 : Int) < 3; decide), _, rfl, rfl, .inr ⟨_, rfl, _, _, rfl, rfl, .inr small01, congrArg V.int hway.symm, rfl⟩⟩
    obtain ⟨rfl, rfl⟩ := hR
    refine ⟨fun v H' => v = .str ⟨#[97 + (sh + st * (if way = 1 then i / 2 else i)) % 26]⟩ ∧ Same H9 H', ?_, fun v HA hR => ?_⟩
    · refine ⟨_, rfl, _, rfl, _, rfl, ?_⟩
      refine ⟨fun v H' => v = .int ((if way = 1 then i / 2 else i : Nat) : Int) ∧ Same H9 H', ?_, fun v HA hR => ?_⟩
      · refine ⟨_, rfl, _, rfl, _, _, rfl, rfl, wide_div (b := 62) (by decide) (by decide) (by decide) (by decide), _, rfl, (by show 3 ≤ sizeLine; decide), fun pA HA npA SA eA => ⟨_, rfl, ?_⟩⟩
        have hw' : way = 0 ∨ way = 1 ∨ way = 2 := by omega
        rcases hw' with rfl | rfl | rfl
        · exact .inl ⟨pA, _, _, _, rfl, rfl, SqL.of eA, rfl, congrArg V.int ei, SA⟩
        · refine .inl ⟨pA, _, _, _, rfl, rfl, SqL.of eA, rfl, congrArg V.int ?_, SA⟩
          rw [ei]
          show (i : Int) / 2 = ((i / 2 : Nat) : Int)
          omega
        · exact .inl ⟨pA, _, _, _, rfl, rfl, SqL.of eA, rfl, congrArg V.int ei, SA⟩
      obtain ⟨rfl, SA⟩ := hR
      refine ⟨_, _, rfl, rfl, .inl ⟨by omega, by omega⟩, _, _, rfl, rfl, _, _, rfl, rfl, (by show (0 : Int) < 26; decide), lettersS, _, _, rfl, rfl, (by decide +kernel), letters_ix (Int.emod_nonneg _ (by decide)) (Int.emod_lt_of_pos _ (by decide)), ?_, SA⟩
      generalize (if way = 1 then i / 2 else i) = k
      have : (((sh : Int) + (st : Int) * (k : Int)) % 26).toNat = (sh + st * k) % 26 := by
        have : (st : Int) * (k : Int) = ((st * k : Nat) : Int) := by simp
        rw [this]
        omega
      rw [this]
    obtain ⟨rfl, SA⟩ := hR
    have elA := SA _ _ el9
    refine ⟨_, rfl, .inl ⟨rfl, _, SqL.of elA⟩, _, rfl, _, rfl, _, _, rfl, rfl, (by show hd.length + 1 ≤ sizeLine; exact sz (by omega)), ?_⟩
    refine ⟨fun v H' => (∃ r : Str, v = .str r ∧ r.length ≤ 7 ∧ r.cps.toList = (if way = 0 then tl.cps.toList else if way = 1 then (if i % 2 = 0 then [] else tl.cps.toList) else tl.cps.toList.take (i % (tl.length + 1)))) ∧ Same HA H', ?_, fun v HB hR => ?_⟩
    · refine ⟨_, rfl, _, rfl, _, rfl, _, _, rfl, rfl, (by show (0 : Int) < 2; decide), tl, _, rfl, rfl, (by rw [ei]; omega), _, rfl, _, rfl, _, rfl, tl, rfl, sz (by omega), _, _, rfl, rfl, _, _, rfl, rfl, (by show (0 : Int) < (tl.length : Int) + 1; omega), _, rfl, tl, rfl, sz (by omega), (by show 3 ≤ sizeLine; decide), fun pA HB npA SB eB => ⟨_, rfl, ?_⟩⟩
      have hw' : way = 0 ∨ way = 1 ∨ way = 2 := by omega
      rcases hw' with rfl | rfl | rfl
      · exact .inl ⟨pA, _, _, _, rfl, rfl, SqL.of eB, rfl, ⟨tl, rfl, tll, rfl⟩, SB⟩
      · refine .inl ⟨pA, _, _, _, rfl, rfl, SqL.of eB, rfl, ⟨_, rfl, ?_, ?_⟩, SB⟩
        · split
          · decide
          · exact tll
        · rw [ei]
          show (if (i : Int) % 2 = 0 then Str.empty else tl).cps.toList = if i % 2 = 0 then [] else tl.cps.toList
          by_cases c : i % 2 = 0
          · rw [if_pos c, if_pos (by omega)]
            rfl
          · rw [if_neg c, if_neg (by omega)]
      · refine .inl ⟨pA, _, _, _, rfl, rfl, SqL.of eB, rfl, ⟨_, rfl, Nat.le_trans (cutS_length _ _ _) tll, ?_⟩, SB⟩
        rw [ei]
        have e9 : (i : Int) % ((tl.length : Int) + 1) = ((i % (tl.length + 1) : Nat) : Int) := by simp
        show (cutS tl none (some ((i : Int) % ((tl.length : Int) + 1)))).cps.toList = tl.cps.toList.take (i % (tl.length + 1))
        rw [e9]
        exact cutS_pre (by have := Nat.mod_lt i (show 0 < tl.length + 1 by omega); omega)
    obtain ⟨⟨r, rfl, hrl, hr⟩, SB⟩ := hR
    have elB := SB _ _ elA
    refine ⟨_, _, rfl, rfl, ?_, l, _, _, rfl, rfl, elB, szl (by rw [List.length_map, List.length_map, List.length_range]; omega), ?_⟩
    · rw [len_app]
      exact sz (by show hd.length + 1 + r.length ≤ 100000; omega)
    have SAB := SA.trans SB
    refine ⟨⟨_, _, _, rfl⟩, (U9.trans (Un.same SAB)).new nl0, ?_, ?_⟩
    · obtain ⟨x, y, z, et, r9⟩ := T9.same SAB
      exact ⟨x, y, z, by rw [upd_ne nlt.symm]; exact et, r9⟩
    · rw [upd_same, List.range_succ, List.map_append, List.map_append, nmF_is rfl hr]
      rfl
  · obtain ⟨⟨y4, y11, y12, rfl⟩, U9, T9, el9⟩ := hP
    have en : ((n : Int)).toNat = n := by omega
    rw [en] at el9
    refine ⟨_, rfl, q l _ H9 ?_ (fun z hz => ?_) (nmF_nodup hst hwt n hn) nl0 U9 T9 el9⟩
    · rw [List.length_map, List.length_range]
    · obtain ⟨k, _, rfl⟩ := List.mem_map.mp hz
      exact nmF_ok Lh Lt lsum sh st way k
noncomputable abbrev LV_l_weight : Nat := 2
noncomputable def sp_l_weight : Sp := fun vs H Q _ => ∃ (t : Addr) (m : Int) (b : Nat), vs = [.ref t, .int m] ∧ 1 ≤ m ∧ m < 4611686018427387904 ∧ Tp (b + 3) H t ∧
  ∀ (i : Int) (H' : Hp), 1 ≤ i → i ≤ m → Un t H H' → Tp b H' t → Q (.int i) H'
theorem ok_l_weight {f : Addr} {fd : FuncData} (F : Fun K "_law_weight" "_law_weight" s_l_weight f fd) (Z : Bl mg) (G_l_draw : Kn P w K mg base "_law_draw" P_l_draw LV_l_draw sp_l_draw) : FnOk P w K mg base CX0 LV_l_weight f fd P_l_weight sp_l_weight := by
  refine F.ok sc_l_weight (fun vs H Q E h => ?_) (fun cdv A outer s H vs Q E hr h => ?_)
  · obtain ⟨t, n, b, rfl, _⟩ := h
    rfl
  obtain ⟨t, m, b, rfl, hm, hm2, hT, q⟩ := h
  refine ⟨_, (pss_one (ps_ret (pe_ix (ixs (K := K)) (pe_lstN (pa_cons (pe_op op_add pe_int (pe_own G_l_draw (hr.mono (by decide)) (by rfl) (pa_cons (pv 0) (pa_cons (pv 1) pa_nil)))) (pa_cons (pe_op op_add pe_int (pe_own G_l_draw (hr.mono (by decide)) (by rfl) (pa_cons (pv 0) (pa_cons (pe_callB (call_min2 rfl) (by rfl) Z.min (by decide +kernel) (pa_cons pe_int (pa_cons (pv 1) pa_nil))) pa_nil)))) (pa_cons (pv 1) (pa_cons pe_int pa_nil))))) (pe_own G_l_draw (hr.mono (by decide)) (by rfl) (pa_cons (pv 0) (pa_cons pe_int pa_nil))) (fun _ _ => rfl)))), ?_⟩
  refine ⟨.ref t, rfl, .int m, rfl, t, m, b + 2, rfl, by omega, by omega, hT, fun i1 H1 a1 b1 U1 T1 => ?_⟩
  refine ⟨_, _, rfl, rfl, .ref t, rfl, .int m, rfl, _, _, rfl, t, _, b + 1, rfl, (by split <;> omega), (by split <;> omega), T1, fun i2 H2 a2 b2 U2 T2 => ?_⟩
  refine ⟨_, _, rfl, rfl, .int m, rfl, (by show 4 ≤ sizeLine; decide), fun p H3 np S3 e3 => ?_⟩
  refine ⟨.ref t, rfl, t, 4, b, rfl, by decide, by decide, T2.same S3, fun i3 H4 a4 b4 U4 T4 => ?_⟩
  have e4 := U4 _ _ (T2.nn np) e3
  have U : Un t H H4 := U1.trans (U2.trans ((Un.same S3).trans U4))
  have h3 : i3 = 0 ∨ i3 = 1 ∨ i3 = 2 ∨ i3 = 3 := by omega
  have hb2 : i2 < m := by
    revert b2
    split <;> intro b2 <;> omega
  rcases h3 with rfl | rfl | rfl | rfl
  · exact .inl ⟨p, _, _, _, rfl, rfl, SqL.of e4, rfl, q _ _ (by omega) (by omega) U T4⟩
  · exact .inl ⟨p, _, _, _, rfl, rfl, SqL.of e4, rfl, q _ _ (by omega) (by omega) U T4⟩
  · exact .inl ⟨p, _, _, _, rfl, rfl, SqL.of e4, rfl, q _ _ (by omega) (by omega) U T4⟩
  · exact .inl ⟨p, _, _, _, rfl, rfl, SqL.of e4, rfl, q _ _ (by omega) (by omega) U T4⟩
noncomputable abbrev LV_l_word : Nat := 3
noncomputable def sp_l_word : Sp := fun vs H Q _ => ∃ (t : Addr) (c b : Nat) (hi : Int), vs = [.ref t, .int c, .int hi] ∧ 1 ≤ hi ∧ hi ≤ 24 ∧ 1 ≤ c ∧ c ≤ 100 ∧ Tp (b + (3 * c + 10)) H t ∧
  ∀ (p : Addr) (ws : List Int) (H' : Hp), Row ws c → Un t H H' → Tp b H' t → H' p = some (.tup (ws.map V.int)) → Q (.ref p) H'
theorem ok_l_word {f : Addr} {fd : FuncData} (F : Fun K "_law_word" "_law_word" s_l_word f fd) (Z : Bl mg) (G_l_draw : Kn P w K mg base "_law_draw" P_l_draw LV_l_draw sp_l_draw) (G_l_weight : Kn P w K mg base "_law_weight" P_l_weight LV_l_weight sp_l_weight) : FnOk P w K mg base CX0 LV_l_word f fd P_l_word sp_l_word := by
  refine F.ok sc_l_word (fun vs H Q E h => ?_) (fun cdv A outer s H vs Q E hr h => ?_)
  · obtain ⟨t, c, b, hi, rfl, _⟩ := h
    rfl
  obtain ⟨t, c, b, hi, rfl, hi1, hi2, hc1, hc2, hT, q⟩ := h
  refine ⟨_, (pss_cons (ps_par (i := 3) (j := 4) (by rfl) sc_l_word.nd rfl rfl (by decide) rfl rfl (pa_cons (pe_op op_add pe_int (pe_own G_l_draw (hr.mono (by decide)) (by rfl) (pa_cons (pv 0) (pa_cons (pv 1) pa_nil)))) (pa_cons (pe_own G_l_draw (hr.mono (by decide)) (by rfl) (pa_cons (pv 0) (pa_cons pe_int pa_nil))) pa_nil)) (by rfl))
    (pss_cons (ps_set (i := 5) sc_l_word.nd rfl (Or.inr rfl) (pe_lcN (own := [("_law_k", 6)]) (g := (gName 6)) (tt := tYes) (by rfl) sc_l_word.nd (pi_range1 (by rfl) Z.range (pa_cons (pe_ix (ixs (K := K)) (pe_lstN (pa_cons (pv 3) (pa_cons (pv 3) (pa_cons (pv 3) (pa_cons (pv 3) (pa_cons pe_int (pa_cons pe_int pa_nil))))))) (pv 4) (fun _ _ => rfl)) pa_nil)) (blkOk_by (own := [("_law_k", 6)]) (N := N_l_word) (sc := defScope s_l_word) (by decide +kernel)) (fun _ _ _ _ _ => (pg_name (i := 6) sc_l_word.nd rfl (Or.inl rfl))) (fun _ _ _ _ _ => pts_nil) (fun _ _ _ _ _ => (pe_own G_l_weight (hr.mono (by decide)) (by rfl) (pa_cons (pv 0) (pa_cons (pv 2) pa_nil))))))
    (pss_one (ps_ret (pe_callTy (call_tupleN (K := K)) (by rfl) Z.tuple (by decide +kernel) (pa_cons (pe_lcN (own := [("_law_k", 6)]) (g := (gName 6)) (tt := tYes) (by rfl) sc_l_word.nd (pi_range1 (by rfl) Z.range (pa_cons (pv 3) pa_nil)) (blkOk_by (own := [("_law_k", 6)]) (N := N_l_word) (sc := defScope s_l_word) (by decide +kernel)) (fun _ _ _ _ _ => (pg_name (i := 6) sc_l_word.nd rfl (Or.inl rfl))) (fun _ _ _ _ _ => pts_nil) (fun _ _ _ _ _ => (pe_ix (ixs (K := K)) (pv 5) (pe_op op_mod (pv 6) (pe_callB (call_lenN (K := K)) (by rfl) Z.len (by decide +kernel) (pa_cons (pv 5) pa_nil))) (fun _ _ => rfl)))) pa_nil)))))), ?_⟩
  refine ⟨.ref t, rfl, .int c, rfl, t, c, b + (3 * c + 9), rfl, by omega, by omega, hT, fun i1 H1 a1 b1 U1 T1 => ?_⟩
  refine ⟨_, _, rfl, rfl, .ref t, rfl, t, 6, b + (3 * c + 8), rfl, by decide, by decide, T1, fun i2 H2 a2 b2 U2 T2 => ?_⟩
  refine ⟨_, _, rfl, ?_⟩
  refine ⟨_, rfl, _, rfl, _, rfl, _, rfl, (by show 6 ≤ sizeLine; decide), fun p3 H3 np3 S3 e3 => ?_⟩
  obtain ⟨n, hn, hp⟩ := pick (xs := [1 + i1, 1 + i1, 1 + i1, 1 + i1, 1, 2]) a2 b2
  have hn' : n = 1 + i1 ∨ n = 1 ∨ n = 2 := by
    have : n = 1 + i1 ∨ n = 1 + i1 ∨ n = 1 + i1 ∨ n = 1 + i1 ∨ n = 1 ∨ n = 2 := by simpa using hn
    omega
  refine ⟨_, rfl, .inl ⟨p3, _, _, _, rfl, rfl, SqL.of e3, hp, n, rfl, by omega, by omega, lcDraw (t := t) (m := hi) (c := b) ((T2.same S3).le (by omega)) (by omega) (fun _ => rfl) (fun j H' b T R k => ⟨.ref t, rfl, .int hi, rfl, t, hi, b, rfl, by omega, by omega, T, k⟩) (fun D us H5 hl hw nD U5 T5 eD => ?_)⟩⟩
  have hpos : 0 < us.length := by omega
  refine ⟨_, rfl, 1 + i1, rfl, by omega, by omega, lcRanF (f := fun k => us.getD (k % us.length) 0) (by omega) (fun _ => rfl) (fun k hk H' R S r => ?_) (fun D6 H6 nD6 S6 eD6 => ?_)⟩
  · have eD' := S _ _ eD
    have hm : k % us.length < us.length := Nat.mod_lt _ hpos
    have e1 : ((0 : Int) + (k : Int)) % (((us.map V.int).length : Nat) : Int) = ((k % us.length : Nat) : Int) := by
      rw [List.length_map, Int.zero_add]
      omega
    have hat : atI (us.map V.int) (((0 : Int) + (k : Int)) % (((us.map V.int).length : Nat) : Int)) = some (.int (us.getD (k % us.length) 0)) := by
      rw [e1]
      refine atI_nat ?_
      rw [List.getElem?_map, List.getElem?_eq_getElem hm, List.getD_eq_getElem?_getD, List.getElem?_eq_getElem hm]
      rfl
    exact ⟨.ref D, rfl, _, rfl, .ref D, rfl, D, _, rfl, .inl (SqL.of eD'), _, _, rfl, rfl, (by show (0 : Int) < (((us.map V.int).length : Nat) : Int); rw [List.length_map]; omega), .inl ⟨D, _, _, _, rfl, rfl, SqL.of eD', hat, r H' (Same.refl _)⟩⟩
  · refine ⟨D6, _, rfl, SqL.of eD6, fun p7 H7 np7 S7 e7 => ?_⟩
    refine q p7 _ H7 ⟨?_, ?_, fun x hx => ?_⟩ (U1.trans (U2.trans ((Un.same S3).trans (U5.trans (Un.same (S6.trans S7)))))) (T5.same (S6.trans S7)) e7
    · intro z
      have z2 := congrArg List.length z
      rw [List.length_map, List.length_range] at z2
      simp at z2
      omega
    · rw [List.length_map, List.length_range]
      omega
    · obtain ⟨k, _, rfl⟩ := List.mem_map.mp hx
      have hm : k % us.length < us.length := Nat.mod_lt _ hpos
      have e2 : us.getD (k % us.length) 0 = us[k % us.length] := by
        rw [List.getD_eq_getElem?_getD, List.getElem?_eq_getElem hm]
        rfl
      rw [e2]
      have hz := hw _ (List.getElem_mem hm)
      exact ⟨hz.1, Int.le_trans hz.2 hi2⟩
noncomputable abbrev LV_l_net : Nat := 2
noncomputable def sp_l_net : Sp := fun vs H Q _ => ∃ (t nl : Addr) (zs : List Str) (most high b : Nat) (tog : Bool), vs = [.ref t, .ref nl, .int (most : Int), .int (high : Int), .bl tog] ∧ 1 ≤ most ∧ most ≤ 8 ∧ 1 ≤ high ∧ high ≤ 8 ∧ 0 < zs.length ∧ zs.length ≤ 26 ∧ nl ≠ t ∧ H nl = some (.lst (zs.map V.str)) ∧ Tp (b + 40) H t ∧
  ∀ (a : Addr) (N : List (Key × Key)) (H' : Hp), NetOk N high zs → N.length ≤ most → (tog = false → TreeOk N) → Un t H H' → Tp b H' t → Dt H' 2 (.ref a) (netD N) → Q (.ref a) H'
theorem ok_l_net {f : Addr} {fd : FuncData} (F : Fun K "_law_net" "_law_net" s_l_net f fd) (Z : Bl mg) (G_l_draw : Kn P w K mg base "_law_draw" P_l_draw LV_l_draw sp_l_draw) : FnOk P w K mg base CX0 LV_l_net f fd P_l_net sp_l_net := by
  refine F.ok sc_l_net (fun vs H Q E h => ?_) (fun cdv A outer s H vs Q E hr h => ?_)
  · obtain ⟨t, nl, zs, most, high, b, tog, rfl, _⟩ := h
    rfl
  obtain ⟨t, nl, zs, most, high, b, tog, rfl, hm1, hm8, hh1, hh8, hz0, hz26, nnt, enl, hT, q⟩ := h
  refine ⟨_, (pss_cons (ps_set (i := 5) sc_l_net.nd rfl (Or.inl rfl) (pe_cut (pe_op op_add pe_int (pe_own G_l_draw (hr.mono (by decide)) (by rfl) (pa_cons (pv 0) (pa_cons (pv 2) pa_nil))))))
    (pss_cons (ps_asg (pe_tupN (pa_cons (pe_lstN (pa_cons (pe_tupN (pa_cons pe_int (pa_cons pe_int pa_nil))) (pa_cons (pe_tupN (pa_cons pe_int (pa_cons pe_int pa_nil))) pa_nil))) (pa_cons (pe_op opRepN (pe_lstN (pa_cons pe_int pa_nil)) (pv 5)) (pa_cons pe_dnewTN pa_nil)))) (pg_tup rfl (pgs_cons (pg_name (i := 6) sc_l_net.nd rfl (Or.inl rfl)) (pgs_cons (pg_name (i := 7) sc_l_net.nd rfl (Or.inr rfl)) (pgs_cons (pg_name (i := 8) sc_l_net.nd rfl (Or.inr rfl)) pgs_nil)))))
    (pss_cons (ps_for PassesOwn.never rfl (pi_range2 (by rfl) Z.range (pa_cons pe_int (pa_cons (pv 5) pa_nil))) (pg_name (i := 9) sc_l_net.nd rfl (Or.inl rfl))
    (pss_cons (ps_setLcN (i := 11) (own := [("_law_pan", 10)]) (g := (gName 10)) (by rfl) sc_l_net.nd rfl rfl (sw_true rfl rfl rfl (by decide +kernel)) (pi_list (pv 6)) (blkOk_by (own := [("_law_pan", 10)]) (N := N_l_net) (sc := defScope s_l_net) (by decide +kernel)) (fun _ _ _ _ _ => (pg_name (i := 10) sc_l_net.nd rfl (Or.inl rfl))) (fun _ _ _ _ _ => (pts_one (pt_cmpR op_lt (pe_op op_add (pe_ix (ixs (K := K)) (pv 7) (pe_ix (ixs (K := K)) (pv 10) pe_int (fun _ _ => rfl)) (fun _ _ => rfl)) pe_int) (pv 3) (nomark _)))) (fun _ _ _ _ _ => (pv 10)))
    (pss_one (ps_if (pt_cmpR (neD (K := K) hr.units) (pv 11) (pe_lstN pa_nil) (nomark _)) (pss_cons (ps_set (i := 10) sc_l_net.nd rfl (Or.inr rfl) (pe_ix (ixs (K := K)) (pv 11) (pe_own G_l_draw (hr.mono (by decide)) (by rfl) (pa_cons (pv 0) (pa_cons (pe_callB (call_lenN (K := K)) (by rfl) Z.len (by decide +kernel) (pa_cons (pv 11) pa_nil)) pa_nil))) (fun _ _ => rfl)))
    (pss_cons (ps_expr (pe_bm PySem.F.plainAttrs_list PySem.F.slot_list_remove PySem.F.type_list_remove (mt_removeD (K := K) (u65 hr)) (pv 6) (pa_cons (pv 10) pa_nil)))
    (pss_cons (ps_dput (hu_of hr) (pv 8) (pv 10) (pv 9) rfl)
    (pss_cons (ps_asg (pe_op op_add (pe_ix (ixs (K := K)) (pv 7) (pe_ix (ixs (K := K)) (pv 10) pe_int (fun _ _ => rfl)) (fun _ _ => rfl)) pe_int) (pg_sub (pv 7) (pv 9) set_list))
    (pss_one (ps_set (i := 6) sc_l_net.nd rfl (Or.inl rfl) (pe_op op_catL (pv 6) (pe_lstN (pa_cons (pe_tupN (pa_cons (pv 9) (pa_cons pe_int pa_nil))) (pa_cons (pe_tupN (pa_cons (pv 9) (pa_cons pe_int pa_nil))) pa_nil)))))))))) pss_nil))))
    (pss_cons (ps_set (i := 12) sc_l_net.nd rfl (Or.inl rfl) (pe_op op_catL (pe_lstN (pa_cons pe_int pa_nil)) (pe_callB (cr_sortVals rfl) (by rfl) Z.sorted (by decide +kernel) (pa_cons (pe_vals (pv 8)) pa_nil))))
    (pss_cons (ps_for PassesOwn.never rfl (pi_list (pe_callB (sortP (K := K)) (by rfl) Z.sorted (by decide +kernel) (pa_cons (pv 6) pa_nil))) (pg_name (i := 10) sc_l_net.nd rfl (Or.inr rfl))
    (pss_cons (ps_setLcN (i := 13) (own := [("_law_k", 9)]) (g := (gName 9)) (by rfl) sc_l_net.nd rfl rfl (sw_true rfl rfl rfl (by decide +kernel)) (pi_list (pv 12)) (blkOk_by (own := [("_law_k", 9)]) (N := N_l_net) (sc := defScope s_l_net) (by decide +kernel)) (fun _ _ _ _ _ => (pg_name (i := 9) sc_l_net.nd rfl (Or.inl rfl))) (fun _ _ _ _ _ => (pts_one (PW.pt (pw_and (pt_cmpR op_gt (pv 9) (pe_ix (ixs (K := K)) (pv 10) pe_int (fun _ _ => rfl)) (nomark _)) (pw_and1 (pt_cmpR op_gt (pe_ix (ixs (K := K)) (pv 7) (pv 9) (fun _ _ => rfl)) (pe_ix (ixs (K := K)) (pv 7) (pe_ix (ixs (K := K)) (pv 10) pe_int (fun _ _ => rfl)) (fun _ _ => rfl)) (nomark _))))))) (fun _ _ _ _ _ => (pv 9)))
    (pss_cons (ps_dput (hu_of hr) (pv 8) (pv 10) (pe_ix (ixs (K := K)) (pv 1) (pe_own G_l_draw (hr.mono (by decide)) (by rfl) (pa_cons (pv 0) (pa_cons (pe_callB (call_lenN (K := K)) (by rfl) Z.len (by decide +kernel) (pa_cons (pv 1) pa_nil)) pa_nil))) (fun _ _ => rfl)) rfl)
    (pss_one (ps_if (PW.pt (pw_and (pt_val (pv 4)) (pw_and (pt_cmpR (neD (K := K) hr.units) (pv 13) (pe_lstN pa_nil) (nomark _)) (pw_and1 (pt_cmpR op_eq (pe_own G_l_draw (hr.mono (by decide)) (by rfl) (pa_cons (pv 0) (pa_cons pe_int pa_nil))) pe_int (nomark _)))))) (pss_one (ps_dput (hu_of hr) (pv 8) (pv 10) (pe_ix (ixs (K := K)) (pv 13) (pe_own G_l_draw (hr.mono (by decide)) (by rfl) (pa_cons (pv 0) (pa_cons (pe_callB (call_lenN (K := K)) (by rfl) Z.len (by decide +kernel) (pa_cons (pv 13) pa_nil)) pa_nil))) (fun _ _ => rfl)) rfl)) pss_nil)))))
    (pss_cons (ps_set (i := 14) sc_l_net.nd rfl (Or.inr rfl) (pe_callTy (call_dictP rfl) (by rfl) Z.dict (by decide +kernel) (pa_cons (pe_lcN (own := [("_law_at", 15), ("_law_k", 9)]) (g := (gTup K 2 (gCons (gName 15) (gCons (gName 9) gNil)))) (tt := tYes) (by rfl) sc_l_net.nd (pi_enum (by rfl) Z.enumerate (pa_cons (pv 12) pa_nil)) (blkOk_by (own := [("_law_at", 15), ("_law_k", 9)]) (N := N_l_net) (sc := defScope s_l_net) (by decide +kernel)) (fun _ _ _ _ _ => (pg_tup rfl (pgs_cons (pg_name (i := 15) sc_l_net.nd rfl (Or.inl rfl)) (pgs_cons (pg_name (i := 9) sc_l_net.nd rfl (Or.inl rfl)) pgs_nil)))) (fun _ _ _ _ _ => pts_nil) (fun _ _ _ _ _ => (pe_tupN (pa_cons (pv 9) (pa_cons (pv 15) pa_nil))))) pa_nil)))
    (pss_one (ps_ret (pe_callTy (call_tupleN (K := K)) (by rfl) Z.tuple (by decide +kernel) (pa_cons (pe_lcN (own := [("_law_k", 9)]) (g := (gName 9)) (tt := tYes) (by rfl) sc_l_net.nd (pi_list (pv 12)) (blkOk_by (own := [("_law_k", 9)]) (N := N_l_net) (sc := defScope s_l_net) (by decide +kernel)) (fun _ _ _ _ _ => (pg_name (i := 9) sc_l_net.nd rfl (Or.inr rfl))) (fun _ _ _ _ _ => pts_nil) (fun _ _ _ _ _ => (pe_callTy (call_tupleN (K := K)) (by rfl) Z.tuple (by decide +kernel) (pa_cons (pe_lcN (own := [("_law_side", 16)]) (g := (gName 16)) (tt := tYes) (by rfl) sc_l_net.nd (pi_tupN (K := K) (pe_tupN (pa_cons pe_int (pa_cons pe_int pa_nil)))) (blkOk_by (own := [("_law_side", 16)]) (N := N_l_net) (by with_unfolding_all rfl)) (fun _ _ _ _ _ => (pg_name (i := 16) sc_l_net.nd rfl (Or.inl rfl))) (fun _ _ _ _ _ => pts_nil) (fun _ _ _ _ _ => (pe_dget2 (hu_of hr) (pv 14) (pe_dget (hu_of hr) (pv 8) (pe_tupN (pa_cons (pv 9) (pa_cons (pv 16) pa_nil))) (fun _ _ => rfl)) (pe_dget (hu_of hr) (pv 8) (pe_tupN (pa_cons (pv 9) (pa_cons (pv 16) pa_nil))) (fun _ _ => rfl)) ⟨rfl, rfl, rfl, rfl⟩))) pa_nil)))) pa_nil)))))))))), ?_⟩
  have lzs : (zs.map V.str).length = zs.length := List.length_map ..
  refine ⟨fun v H' => ∃ n : Nat, v = .int (n : Int) ∧ 1 ≤ n ∧ n ≤ most ∧ Un t H H' ∧ Tp (b + 39) H' t, ?_, fun v H1 hR => ?_⟩
  · refine ⟨.ref t, rfl, _, rfl, t, most, b + 39, rfl, by omega, by omega, hT, fun i H1 a1 b1 U1 T1 => ⟨_, _, rfl, rfl, (1 + i).toNat, congrArg V.int ?_, by omega, by omega, U1, T1⟩⟩
    omega
  obtain ⟨n, rfl, hn1, hnm, U1, T1⟩ := hR
  -- begun
  refine ⟨(by show 2 ≤ sizeLine; decide), fun p1 H2 np1 S2 e1 => ⟨(by show 2 ≤ sizeLine; decide), fun p2 H3 np2 S3 e2 => ⟨(by show 2 ≤ sizeLine; decide), fun pl H4 npl S4 epl => ?_⟩⟩⟩
  refine ⟨(by show 1 ≤ sizeLine; decide), fun z5 H5 nz5 S5 ez5 => ⟨_, rfl, z5, (n : Int), _, rfl, rfl, ez5, by omega, by omega, (by show 1 * ((n : Int)).toNat ≤ sizeLine; exact sz (by omega)), fun hl H6 nhl S6 ehl => ?_⟩⟩
  refine fun dl H7 ndl S7 edl => ⟨(by show 3 ≤ sizeLine; decide), fun p8 H8 np8 S8 e8 => ?_⟩
  refine ⟨p8, _, rfl, SqT.of e8, rfl, _, _, rfl, _, _, rfl, _, _, rfl, rfl, ?_⟩
  have en : ((n : Int)).toNat = n := by omega
  have ehl' : H6 hl = some (.lst ((List.replicate n (0 : Int)).map V.int)) := by
    rw [← rep_flat, ← en]
    exact ehl
  have S48 : Same H4 H8 := S5.trans (S6.trans (S7.trans S8))
  have S18 : Same H1 H8 := S2.trans (S3.trans (S4.trans S48))
  have P0 : NSt H H8 t pl dl hl [(p1, 0, 0), (p2, 0, 1)] (kvL2 []) (List.replicate n 0) (b + 39) :=
    { un := U1.trans (Un.same S18), tp := T1.same S18, epl := S48 _ _ epl, edl := S8 _ _ edl, ehl := S8 _ _ (S7 _ _ ehl'),
      pan := fun x hx => by
        have : x = (p1, 0, 0) ∨ x = (p2, 0, 1) := by simpa using hx
        rcases this with rfl | rfl
        · exact S48 _ _ (S4 _ _ (S3 _ _ e1))
        · exact S48 _ _ (S4 _ _ e2)
      npl := un_free U1 T1 ((S2.trans S3).free npl)
      ndl := un_free U1 T1 ((S2.trans (S3.trans (S4.trans (S5.trans S6)))).free ndl)
      nhl := un_free U1 T1 ((S2.trans (S3.trans (S4.trans S5))).free nhl)
      npt := (T1.same (S2.trans S3)).nn npl
      nht := (T1.same (S2.trans (S3.trans (S4.trans S5)))).nn nhl
      nph := ne_of_none (S5 _ _ epl) nhl }
  refine ⟨_, rfl, 1, (n : Int), rfl, ⟨by decide, by decide, by omega, by omega⟩, for_range (lo := 1) (n := _) (fun i σ H' => ∃ (pl : Addr) (y9 y10 y11 y12 y13 y14 y15 y16 : Option V) (P : List (Addr × Nat × Nat)) (L : List ((Nat × Nat) × Nat)) (h : List Int), σ = [some (.ref t), some (.ref nl), some (.int (most : Int)), some (.int (high : Int)), some (.bl tog), some (.int (n : Int)), some (.ref pl), some (.ref hl), some (.ref dl), y9, y10, y11, y12, y13, y14, y15, y16] ∧ NSt H H' t pl dl hl P (kvL2 L) h (b + 39 - i) ∧ Grow (i + 1) n high (prs P) L h)
    ⟨pl, _, _, _, _, _, _, _, _, _, _, _, rfl, P0, Grow.begin hn1 hh1⟩ (fun i σ H9 hi hP => ?_) (fun σ H9 hP => ?_)⟩
  · obtain ⟨pl, y9, y10, y11, y12, y13, y14, y15, y16, P, L, h, rfl, ns, g⟩ := hP
    have hin : i + 1 < n := by omega
    have ek : (1 : Int) + (i : Int) = ((i + 1 : Nat) : Int) := by omega
    have hPl : P.length ≤ 12 := by
      have h1 := g.pln
      have h2 := g.lln
      have h3 : (prs P).length = P.length := List.length_map ..
      omega
    have hlt : ∀ x ∈ P, x.2.1 < h.length := fun x hx => by
      have := Th_lt g (g.pin x.2 (List.mem_map.mpr ⟨x, hx, rfl⟩)).1
      rw [g.hl]
      omega
    refine ⟨_, rfl, pl, rfl, ⟨_, SqL.of ns.epl⟩, fun D nD => ?_⟩
    have nsD := ns.same (same_upd nD (o := .lst []))
    refine lc_list (K := K) (a := pl) (xs := refs P) (fun j H' => Same H9 H' ∧ H' D = some (.lst (refs ((P.take j).filter fun x => decide (h.getD x.2.1 0 + 1 < (high : Int)))))) ⟨same_upd nD, upd_same⟩ (fun j H' _ hP => SqL.of (hP.1 _ _ ns.epl)) (fun j v HA hv hP => ?_) (fun HA hP => ?_)
    · obtain ⟨SA, eD⟩ := hP
      unfold refs at hv
      rw [List.getElem?_map] at hv
      cases ex : P[j]? with
      | none => rw [ex] at hv; cases hv
      | some x =>
        rw [ex] at hv
        have hv : V.ref x.1 = v := Option.some.inj hv
        subst hv
        have hxm := List.mem_of_getElem? ex
        have hjl : j < P.length := (List.getElem?_eq_some_iff.mp ex).1
        have etk : P.take (j + 1) = P.take j ++ [x] := by rw [List.take_add_one, ex]; rfl
        have ea := SA _ _ (ns.pan x hxm)
        have eh := SA _ _ ns.ehl
        refine ⟨rfl, _, rfl, _, rfl, .inr (.inl ⟨x.1, _, 0, _, rfl, rfl, SqT.of ea, rfl, .inl ⟨hl, _, _, _, rfl, rfl, SqL.of eh, getD_at (hlt x hxm), _, _, rfl, rfl, _, rfl, _, _, rfl, rfl, _, rfl, ?_⟩⟩)⟩
        by_cases c : h.getD x.2.1 0 + 1 < (high : Int)
        · refine iteD c ⟨_, rfl, _, eD, szl ?_, Same.of_upd SA nD, ?_⟩
          · unfold refs
            rw [List.length_map]
            have : ((P.take j).filter fun x => decide (h.getD x.2.1 0 + 1 < (high : Int))).length ≤ (P.take j).length := List.length_filter_le _ _
            rw [List.length_take] at this
            omega
          · have f1 : List.filter (fun x => decide (h.getD x.2.1 0 + 1 < (high : Int))) [x] = [x] := List.filter_cons_of_pos (p := fun x : Addr × Nat × Nat => decide (h.getD x.2.1 0 + 1 < (high : Int))) (decide_eq_true c)
            rw [upd_same, etk, List.filter_append, f1]
            unfold refs
            rw [List.map_append]
            rfl
        · refine iteDN c ⟨SA, ?_⟩
          rw [etk, List.filter_append]
          have : List.filter (fun x => decide (h.getD x.2.1 0 + 1 < (high : Int))) [x] = [] := List.filter_cons_of_neg (p := fun x : Addr × Nat × Nat => decide (h.getD x.2.1 0 + 1 < (high : Int))) (fun z => c (of_decide_eq_true z))
          rw [this, List.append_nil]
          exact eD
    obtain ⟨SA, eD⟩ := hP
    have eD : HA D = some (.lst (refs (P.filter fun x => decide (h.getD x.2.1 0 + 1 < (high : Int))))) := by
      have : (refs P).length = P.length := List.length_map ..
      rw [this, List.take_length] at eD
      exact eD
    have hF : ∀ x ∈ (P.filter fun x => decide (h.getD x.2.1 0 + 1 < (high : Int))), x ∈ P ∧ h.getD x.2.1 0 + 1 < (high : Int) := fun x hx => ⟨(List.mem_filter.mp hx).1, of_decide_eq_true (List.mem_filter.mp hx).2⟩
    have hFl : (P.filter fun x => decide (h.getD x.2.1 0 + 1 < (high : Int))).length ≤ 12 := Nat.le_trans (List.length_filter_le _ _) hPl
    have nA := ns.same SA
    generalize (P.filter fun x => decide (h.getD x.2.1 0 + 1 < (high : Int))) = F at eD hF hFl
    refine ⟨_, rfl, Nat.zero_le _, fun z HB nz SB ez => ?_⟩
    have nB := nA.same SB
    have eDB := SB _ _ eD
    refine ⟨.list ((prs F).map panD), .list [], .lst (SqL.of eDB) (pans_dp fun x hx => nB.pan x (hF x hx).1), .lst (SqL.of ez) .nil, Sh.ok (n := 2) (pans_ok _), Sh.ok (n := 1) (.list .nil), _, rfl, ?_⟩
    cases F with
    | nil => exact ⟨pl, _, _, _, _, _, _, _, _, P, L, h, rfl, nB.less (by omega), g.skip hin⟩
    | cons f0 F =>
      have hpos : 0 < (refs (f0 :: F)).length := Nat.succ_pos _
      have hlen : (refs (f0 :: F)).length = (f0 :: F).length := List.length_map ..
      refine ⟨_, rfl, .ref t, rfl, _, rfl, D, _, rfl, .inl (SqL.of eDB), t, _, b + 39 - (i + 1), rfl, by omega, by omega, nB.tp.le (by omega), fun d HC a1 b1 UC TC => ?_⟩
      have nC := nB.draw UC TC
      have nDt : D ≠ t := ns.tp.nn nD
      have eDC := UC _ _ nDt eDB
      obtain ⟨d', rfl⟩ : ∃ d' : Nat, d = (d' : Int) := ⟨d.toNat, by omega⟩
      have hd' : d' < (f0 :: F).length := by omega
      have ex : (f0 :: F)[d']? = some (f0 :: F)[d'] := List.getElem?_eq_getElem hd'
      generalize (f0 :: F)[d'] = x at ex
      obtain ⟨hxP, hxh⟩ := hF x (List.mem_of_getElem? ex)
      refine .inl ⟨D, _, _, _, rfl, rfl, SqL.of eDC, atI_nat (by unfold refs; rw [List.getElem?_map, ex]; rfl), ?_⟩
      -- it is hung
      obtain ⟨j, hj⟩ := List.mem_iff_getElem?.mp hxP
      have hj2 : (prs P)[j]? = some x.2 := by
        unfold prs
        rw [List.getElem?_map, hj]
        rfl
      have hj3 : ((prs P).map panD)[j]? = some (panD x.2) := by rw [List.getElem?_map, hj2]; rfl
      refine ⟨_, rfl, .inl ⟨rfl, _, SqL.of nC.epl⟩, _, rfl, pl, refs P, _, panD x.2, (prs P).map panD, j, rfl, rfl, nC.epl, pans_dp nC.pan, pan_dp (nC.pan x hxP), Sh.ok (n := 2) (pans_ok _), Sh.ok (n := 1) (panD_ok _), ⟨_, hj3, by rw [panD_eqv]; exact decide_eq_true rfl⟩, fun m z' hm hz' => ?_, ?_⟩
      · rw [List.getElem?_map] at hz'
        cases em : (prs P)[m]? with
        | none => rw [em] at hz'; cases hz'
        | some y =>
          rw [em] at hz'
          have hz' : panD y = z' := Option.some.inj hz'
          rw [← hz', panD_eqv]
          refine decide_eq_false fun w => ?_
          rw [w] at em
          obtain ⟨q1, q2⟩ := List.getElem?_eq_some_iff.mp em
          obtain ⟨q3, q4⟩ := List.getElem?_eq_some_iff.mp hj2
          exact (List.pairwise_iff_getElem.mp g.pnd) m j q1 q3 hm (q2.trans q4.symm)
      have er : (refs P).eraseIdx j = refs (P.eraseIdx j) := by
        unfold refs
        rw [erase_map]
      have sub : ∀ y ∈ P.eraseIdx j, y ∈ P := fun y hy => (erase_perm hj).mem_iff.mpr (List.mem_cons_of_mem _ hy)
      have nD1 := nC.remP sub
      have exD : PanAt (upd HC pl (.lst (refs (P.eraseIdx j)))) x := (nC.pan x hxP).upd (no_tup nC.epl fun _ z => nomatch z)
      rw [er]
      generalize upd HC pl (.lst (refs (P.eraseIdx j))) = HD at nD1 exD
      refine ⟨_, rfl, _, rfl, _, rfl, dl, _, rfl, DPut.t (k := k2 x.2.1 x.2.2) nD1.edl exD (szl ?_), ?_⟩
      · unfold kvL2
        rw [List.length_map]
        have := g.lln
        omega
      have hno : valV (kvL2 L) (k2 x.2.1 x.2.2) = none := kvL2_no (g.dis x.2 (List.mem_map.mpr ⟨x, hxP, rfl⟩))
      rw [putK_new _ hno, ek]
      have ekv : kvL2 L ++ [(k2 x.2.1 x.2.2, V.int ((i + 1 : Nat) : Int))] = kvL2 (L ++ [(x.2, i + 1)]) := (kvL2_snoc L (x.2, i + 1)).symm
      rw [ekv]
      have nE := nD1.put (kvs2 := kvL2 (L ++ [(x.2, i + 1)]))
      have exE : PanAt (upd HD dl (.dT (kvL2 (L ++ [(x.2, i + 1)])))) x := exD.upd (no_tup nD1.edl fun _ z => nomatch z)
      generalize upd HD dl (.dT (kvL2 (L ++ [(x.2, i + 1)]))) = HE at nE exE
      have hxl := hlt x hxP
      refine ⟨_, rfl, _, rfl, .inr (.inl ⟨x.1, _, 0, _, rfl, rfl, SqT.of exE, rfl, .inl ⟨hl, _, _, _, rfl, rfl, SqL.of nE.ehl, getD_at hxl, _, _, rfl, rfl, _, rfl, _, rfl, hl, _, _, i + 1, rfl, rfl, nE.ehl, ?_, ?_⟩⟩)⟩
      · rw [List.length_map]
        exact Evl.ixN_nat (by rw [g.hl]; exact hin)
      have es : (h.map V.int).set (i + 1) (V.int (h.getD x.2.1 0 + 1)) = (h.set (i + 1) (h.getD x.2.1 0 + 1)).map V.int := by rw [List.map_set]
      have nF := nE.seth (h2 := h.set (i + 1) (h.getD x.2.1 0 + 1))
      rw [← es] at nF
      generalize upd HE hl (.lst ((h.map V.int).set (i + 1) (V.int (h.getD x.2.1 0 + 1)))) = HF at nF
      refine ⟨_, rfl, _, rfl, (by show 2 ≤ sizeLine; decide), fun q1 HG nq1 SG eq1 => ⟨_, rfl, (by show 2 ≤ sizeLine; decide), fun q2 HI nq2 SI eq2 => ⟨(by show 2 ≤ sizeLine; decide), fun q3 HJ nq3 SJ eq3 => ?_⟩⟩⟩
      have nJ := nF.same (SG.trans (SI.trans SJ))
      refine ⟨pl, q3, _, _, rfl, rfl, nJ.epl, eq3, ?_, fun pl2 HK npl2 SK epl2 => ?_⟩
      · have : (refs (P.eraseIdx j)).length = (P.eraseIdx j).length := List.length_map ..
        have h2 := (erase_perm hj).length_eq
        rw [List.length_cons] at h2
        show _ + 2 ≤ 100000
        omega
      have nK := nJ.same SK
      have e9 : refs (P.eraseIdx j) ++ [V.ref q1, V.ref q2] = refs (P.eraseIdx j ++ [(q1, i + 1, 0), (q2, i + 1, 1)]) := by
        unfold refs
        rw [List.map_append]
        rfl
      rw [e9] at epl2
      refine ⟨pl2, _, _, _, _, _, _, _, _, P.eraseIdx j ++ [(q1, i + 1, 0), (q2, i + 1, 1)], L ++ [(x.2, i + 1)], _, rfl, { nK with epl := epl2, pan := fun y hy => ?_, npl := un_free nJ.un nJ.tp npl2, npt := nJ.tp.nn npl2, nph := (ne_of_none nJ.ehl npl2).symm }, ?_⟩
      · rcases List.mem_append.mp hy with z | z
        · exact nK.pan y z
        · have : y = (q1, i + 1, 0) ∨ y = (q2, i + 1, 1) := by simpa using z
          rcases this with rfl | rfl
          · exact SK _ _ (SJ _ _ (SI _ _ eq1))
          · exact SK _ _ (SJ _ _ eq2)
      · have e10 : prs (P.eraseIdx j ++ [(q1, i + 1, 0), (q2, i + 1, 1)]) = (prs P).eraseIdx j ++ [(i + 1, 0), (i + 1, 1)] := by
          unfold prs
          rw [List.map_append, erase_map]
          rfl
        rw [e10]
        exact g.step hin hj2 hxh
  obtain ⟨pl, y9, y10, y11, y12, y13, y14, y15, y16, P, L, h, rfl, ns, g⟩ := hP
  have ecnt : ((n : Int) - 1).toNat = n - 1 := by omega
  rw [ecnt] at ns g
  have g : Grow n n high (prs P) L h := by
    rw [show n - 1 + 1 = n by omega] at g
    exact g
  have hLn := g.lln
  have hPl : P.length = L.length + 2 := by
    have h1 := g.pln
    have h3 : (prs P).length = P.length := List.length_map ..
    omega
  -- those that are there
  refine ⟨(by show 1 ≤ sizeLine; decide), fun z0 HA nz0 SA ez0 => ⟨_, rfl, dl, kvL2 L, rfl, SA _ _ ns.edl, fun pv HB npv SB epv => ?_⟩⟩
  have nB := ns.same (SA.trans SB)
  refine ⟨pv, dl, kvL2 L, (L.map (·.2)).map (fun c : Nat => (c : Int)), rfl, epv, nB.edl, ?_, ?_, fun cs pc HC perm asc npc SC ec => ?_⟩
  · unfold kvL2
    rw [List.map_map, List.map_map, List.map_map]
    rfl
  · rw [List.length_map, List.length_map]
    omega
  have hcs : cs = (L.map (·.2)).map (fun c : Nat => (c : Int)) := by
    have a1 : ((L.map (·.2)).map (fun c : Nat => (c : Int))).Pairwise (· < ·) := List.pairwise_map.mpr (((List.pairwise_cons.mp g.asc).2).imp fun h => by omega)
    have nd : cs.Nodup := perm.nodup_iff.mpr (a1.imp fun h => by omega)
    exact asc_ext ((asc.and nd).imp fun ⟨a, b⟩ => by omega) a1 fun k => perm.mem_iff
  subst hcs
  refine ⟨z0, pc, _, _, rfl, rfl, SC _ _ (SB _ _ ez0), ec, ?_, fun th HD nth SD eth => ?_⟩
  · rw [List.length_map, List.length_map, List.length_map]
    show 1 + L.length ≤ 100000
    omega
  have nD := nB.same (SC.trans SD)
  have eth : HD th = some (.lst (((Th L).map (fun c : Nat => (c : Int))).map V.int)) := eth
  have nthH : H th = none := un_free (nB.same SC).un (nB.same SC).tp nth
  have ntht : th ≠ t := (nB.same SC).tp.nn nth
  have nthp : th ≠ pl := (ne_of_none (nB.same SC).epl nth).symm
  have nthh : th ≠ hl := (ne_of_none (nB.same SC).ehl nth).symm
  have hThl : (Th L).length ≤ 8 := by
    have : (Th L).length = L.length + 1 := by
      unfold Th
      rw [List.length_cons, List.length_map]
    omega
  -- the free pans
  refine ⟨_, rfl, pl, refs P, rfl, SqL.of nD.epl, fun v hv => ?_, fun ys py HE permy npy SE ey => ?_⟩
  · obtain ⟨x, hx, rfl⟩ := List.mem_map.mp hv
    exact ⟨x.1, _, _, rfl, nD.pan x hx⟩
  obtain ⟨Y, hY, rfl⟩ := perm_lift permy
  have nE := nD.same SE
  have ethE := SE _ _ eth
  have Ynd : (prs Y).Nodup := (hY.map (fun x : Addr × Nat × Nat => x.2)).nodup_iff.mpr g.pnd
  have nyt : py ≠ t := nD.tp.nn npy
  have nyd : py ≠ dl := (ne_of_none nD.edl npy).symm
  have nthd : th ≠ dl := ne_of eth nD.edl (fun z => nomatch z)
  have hYl : Y.length ≤ 9 := by
    rw [hY.length_eq]
    omega
  have ryl : (Y.map fun x => V.ref x.1).length = Y.length := List.length_map ..
  have Yin : ∀ {j : Nat} {x : Addr × Nat × Nat}, Y[j]? = some x → x ∈ P := fun e => hY.mem_iff.mp (List.mem_of_getElem? e)
  have hTl : ∀ {c : Nat}, c ∈ Th L → c < h.length := fun hc => by
    rw [g.hl]
    exact Th_lt g hc
  refine ⟨py, rfl, ⟨_, SqL.of ey⟩, for_list (K := K) (a := py) (xs := Y.map fun x => V.ref x.1) (fun j σ H' => (∃ (y9 y10 y11 y13 y14 y15 y16 : Option V), σ = [some (.ref t), some (.ref nl), some (.int (most : Int)), some (.int (high : Int)), some (.bl tog), some (.int (n : Int)), some (.ref pl), some (.ref hl), some (.ref dl), y9, y10, y11, some (.ref th), y13, y14, y15, y16]) ∧ ∃ kvs, NSt H H' t pl dl hl P kvs h (b + 32 - 3 * j) ∧ H' th = some (.lst (((Th L).map (fun c : Nat => (c : Int))).map V.int)) ∧ H' py = some (.lst (Y.map fun x => V.ref x.1)) ∧ kvs.length ≤ 20 + 2 * j ∧ (∀ e ∈ L, valV kvs (k2 e.1.1 e.1.2) = some (.int (e.2 : Int))) ∧
      ∀ i x, i < j → Y[i]? = some x → ∃ ld : Key, valV kvs (k2 x.2.1 x.2.2) = some (kV ld) ∧ LdOk (Th L) h zs x.2.1 ld ∧ (tog = false → ∃ z, ld = .inr z))
    ⟨⟨_, _, _, _, _, _, _, rfl⟩, kvL2 L, nE.less (by omega), ethE, ey, by unfold kvL2; rw [List.length_map]; omega, fun e he => kvL2_val g.knd he, fun i x hi => absurd hi (Nat.not_lt_zero _)⟩ (fun j σ H' _ hP => ?_) (fun j v σ HF hv hP => ?_) (fun σ HF hP => ?_)⟩
  · obtain ⟨_, kvs, _, _, e, _⟩ := hP
    exact SqL.of e
  · obtain ⟨⟨y9, y10, y11, y13, y14, y15, y16, rfl⟩, kvs, nF, ethF, eyF, hkl, hkL, hkY⟩ := hP
    rw [List.getElem?_map] at hv
    cases ex : Y[j]? with
    | none => rw [ex] at hv; cases hv
    | some x =>
      rw [ex] at hv
      have hv : V.ref x.1 = v := Option.some.inj hv
      subst hv
      have hxP := Yin ex
      have hjl : j < Y.length := (List.getElem?_eq_some_iff.mp ex).1
      have hxin := g.pin x.2 (List.mem_map.mpr ⟨x, hxP, rfl⟩)
      have hxl := hTl hxin.1
      -- the later ones
      refine ⟨_, rfl, th, rfl, ⟨_, SqL.of ethF⟩, fun D nD' => ?_⟩
      refine lc_list (K := K) (a := th) (xs := ((Th L).map (fun c : Nat => (c : Int))).map V.int) (fun m H' => Same HF H' ∧ ∃ M : List Nat, M.length ≤ m ∧ (∀ c ∈ M, c ∈ Th L ∧ x.2.1 < c ∧ h.getD x.2.1 0 < h.getD c 0) ∧ H' D = some (.lst ((M.map (fun c : Nat => (c : Int))).map V.int))) ⟨same_upd nD', [], Nat.le_refl _, (fun c hc => absurd hc List.not_mem_nil), upd_same⟩ (fun m H' _ hP => SqL.of (hP.1 _ _ ethF)) (fun m v HG hv hP => ?_) (fun HG hP => ?_)
      · obtain ⟨SG, M, hMl, hM, eD⟩ := hP
        obtain ⟨c0, _, rfl, hc0⟩ := item_int hv
        rw [List.getElem?_map] at hc0
        cases ec0 : (Th L)[m]? with
        | none => rw [ec0] at hc0; cases hc0
        | some c =>
          rw [ec0] at hc0
          have hc0 : (c : Int) = c0 := Option.some.inj hc0
          subst hc0
          have hcm := List.mem_of_getElem? ec0
          have hml : m < (Th L).length := (List.getElem?_eq_some_iff.mp ec0).1
          have ea := SG _ _ (nF.pan x hxP)
          have eh := SG _ _ nF.ehl
          refine ⟨rfl, _, rfl, _, rfl, .inr (.inl ⟨x.1, _, 0, _, rfl, rfl, SqT.of ea, rfl, _, _, rfl, rfl, _, rfl, ?_⟩)⟩
          by_cases c1 : (x.2.1 : Int) < (c : Int)
          · refine iteD c1 ⟨_, rfl, _, rfl, .inl ⟨hl, _, _, _, rfl, rfl, SqL.of eh, getD_at (hTl hcm), _, rfl, _, rfl, .inr (.inl ⟨x.1, _, 0, _, rfl, rfl, SqT.of ea, rfl, .inl ⟨hl, _, _, _, rfl, rfl, SqL.of eh, getD_at hxl, _, _, rfl, rfl, _, rfl, ?_⟩⟩)⟩⟩
            by_cases c2 : h.getD x.2.1 0 < h.getD c 0
            · refine iteD c2 ⟨_, rfl, _, eD, szl (by rw [List.length_map, List.length_map]; omega), Same.of_upd SG nD', M ++ [c], ?_, fun e he => ?_, ?_⟩
              · rw [List.length_append]
                show M.length + 1 ≤ m + 1
                omega
              · rcases List.mem_append.mp he with z | z
                · exact hM e z
                · have : e = c := by simpa using z
                  subst this
                  exact ⟨hcm, by omega, c2⟩
              · rw [upd_same, List.map_append, List.map_append]
                rfl
            · exact iteDN c2 ⟨SG, M, Nat.le_succ_of_le hMl, hM, eD⟩
          · exact iteDN c1 ⟨SG, M, Nat.le_succ_of_le hMl, hM, eD⟩
      obtain ⟨SG, M, hMl, hM, eD⟩ := hP
      have hMl : M.length ≤ 8 := by
        rw [List.length_map, List.length_map] at hMl
        omega
      have nG := nF.same SG
      have nDt : D ≠ t := nF.tp.nn nD'
      have nDd : D ≠ dl := (ne_of_none nF.edl nD').symm
      -- a name
      have enlG := nG.un _ _ nnt enl
      refine ⟨_, rfl, .ref t, rfl, _, rfl, nl, _, rfl, .inl (SqL.of enlG), t, _, b + 31 - 3 * j, rfl, by rw [lzs]; omega, by rw [lzs]; omega, nG.tp.le (by omega), fun d HI a1 b1 UI TI => ?_⟩
      have nI := nG.draw UI TI
      rw [lzs] at b1
      obtain ⟨d', rfl⟩ : ∃ d' : Nat, d = (d' : Int) := ⟨d.toNat, by omega⟩
      have hd' : d' < zs.length := by omega
      have ezd : zs[d']? = some zs[d'] := List.getElem?_eq_getElem hd'
      generalize zs[d'] = z at ezd
      refine .inl ⟨nl, _, _, _, rfl, rfl, SqL.of (nI.un _ _ nnt enl), atI_nat (by rw [List.getElem?_map, ezd]; rfl), ?_⟩
      refine ⟨_, rfl, _, rfl, dl, _, rfl, DPut.t (k := k2 x.2.1 x.2.2) nI.edl (nI.pan x hxP) (szl (by omega)), ?_⟩
      have base : ∀ {kvs' : List (List Key × V)} {v : V}, (∀ e ∈ L, valV kvs' (k2 e.1.1 e.1.2) = some (.int (e.2 : Int))) → (∀ i y, i < j → Y[i]? = some y → ∃ ld : Key, valV kvs' (k2 y.2.1 y.2.2) = some (kV ld) ∧ LdOk (Th L) h zs y.2.1 ld ∧ (tog = false → ∃ z, ld = .inr z)) →
          (∀ e ∈ L, valV (putK kvs' (k2 x.2.1 x.2.2) v) (k2 e.1.1 e.1.2) = some (.int (e.2 : Int))) ∧ (∀ i y, i < j → Y[i]? = some y → ∃ ld : Key, valV (putK kvs' (k2 x.2.1 x.2.2) v) (k2 y.2.1 y.2.2) = some (kV ld) ∧ LdOk (Th L) h zs y.2.1 ld ∧ (tog = false → ∃ z, ld = .inr z)) := fun {kvs' v} h1 h2 => by
        refine ⟨fun e he => ?_, fun i y hi ey => ?_⟩
        · rw [valV_put, if_neg (fun w => ?_)]
          · exact h1 e he
          · obtain ⟨w1, w2⟩ := k2_inj w
            exact g.dis x.2 (List.mem_map.mpr ⟨x, hxP, rfl⟩) (List.mem_map.mpr ⟨e, he, Prod.ext w1 w2⟩)
        · rw [valV_put, if_neg (fun w => ?_)]
          · exact h2 i y hi ey
          · obtain ⟨w1, w2⟩ := k2_inj w
            have e1 : (prs Y)[i]? = some y.2 := by unfold prs; rw [List.getElem?_map, ey]; rfl
            have e2 : (prs Y)[j]? = some x.2 := by unfold prs; rw [List.getElem?_map, ex]; rfl
            obtain ⟨q1, q2⟩ := List.getElem?_eq_some_iff.mp e1
            obtain ⟨q3, q4⟩ := List.getElem?_eq_some_iff.mp e2
            exact (List.pairwise_iff_getElem.mp Ynd) i j q1 q3 hi (q2.trans ((Prod.ext w1 w2).trans q4.symm))
      have fin : ∀ {kvs' : List (List Key × V)} {ld : Key}, (∀ i y, i < j → Y[i]? = some y → ∃ ld : Key, valV kvs' (k2 y.2.1 y.2.2) = some (kV ld) ∧ LdOk (Th L) h zs y.2.1 ld ∧ (tog = false → ∃ z, ld = .inr z)) → valV kvs' (k2 x.2.1 x.2.2) = some (kV ld) → LdOk (Th L) h zs x.2.1 ld → (tog = false → ∃ z, ld = .inr z) →
          ∀ i y, i < j + 1 → Y[i]? = some y → ∃ ld : Key, valV kvs' (k2 y.2.1 y.2.2) = some (kV ld) ∧ LdOk (Th L) h zs y.2.1 ld ∧ (tog = false → ∃ z, ld = .inr z) := fun {kvs' ld} h1 h2 h3 h4 i y hi ey => by
        by_cases c : i = j
        · subst c
          rw [ex] at ey
          have := Option.some.inj ey
          subst this
          exact ⟨ld, h2, h3, h4⟩
        · exact h1 i y (by omega) ey
      obtain ⟨hkL1, hkY1⟩ := base (v := .str z) hkL hkY
      have hv1 : valV (putK kvs (k2 x.2.1 x.2.2) (.str z)) (k2 x.2.1 x.2.2) = some (kV (.inr z)) := by rw [valV_put, if_pos rfl]; rfl
      have hl1 : (putK kvs (k2 x.2.1 x.2.2) (.str z)).length ≤ 21 + 2 * j := by
        have := length_putK kvs (k2 x.2.1 x.2.2) (.str z)
        omega
      have ld1 : LdOk (Th L) h zs x.2.1 (.inr z) := List.mem_of_getElem? ezd
      have nJ := nI.put (kvs2 := putK kvs (k2 x.2.1 x.2.2) (.str z))
      have ethJ : upd HI dl (.dT (putK kvs (k2 x.2.1 x.2.2) (.str z))) th = some (.lst (((Th L).map (fun c : Nat => (c : Int))).map V.int)) := by
        rw [upd_ne nthd]
        exact UI _ _ ntht (SG _ _ ethF)
      have eyJ : upd HI dl (.dT (putK kvs (k2 x.2.1 x.2.2) (.str z))) py = some (.lst (Y.map fun x => V.ref x.1)) := by
        rw [upd_ne nyd]
        exact UI _ _ nyt (SG _ _ eyF)
      have eDJ : upd HI dl (.dT (putK kvs (k2 x.2.1 x.2.2) (.str z))) D = some (.lst ((M.map (fun c : Nat => (c : Int))).map V.int)) := by
        rw [upd_ne nDd]
        exact UI _ _ nDt eD
      generalize upd HI dl (.dT (putK kvs (k2 x.2.1 x.2.2) (.str z))) = HJ at nJ ethJ eyJ eDJ
      generalize putK kvs (k2 x.2.1 x.2.2) (.str z) = kvs1 at nJ hkL1 hkY1 hv1 hl1
      have stop : ∀ {H' : Hp} {c : Nat}, NSt H H' t pl dl hl P kvs1 h c → b + 32 - 3 * (j + 1) ≤ c → H' th = some (.lst (((Th L).map (fun c : Nat => (c : Int))).map V.int)) → H' py = some (.lst (Y.map fun x => V.ref x.1)) → ∃ kvs, NSt H H' t pl dl hl P kvs h (b + 32 - 3 * (j + 1)) ∧ H' th = some (.lst (((Th L).map (fun c : Nat => (c : Int))).map V.int)) ∧ H' py = some (.lst (Y.map fun x => V.ref x.1)) ∧ kvs.length ≤ 20 + 2 * (j + 1) ∧ (∀ e ∈ L, valV kvs (k2 e.1.1 e.1.2) = some (.int (e.2 : Int))) ∧
          ∀ i x, i < j + 1 → Y[i]? = some x → ∃ ld : Key, valV kvs (k2 x.2.1 x.2.2) = some (kV ld) ∧ LdOk (Th L) h zs x.2.1 ld ∧ (tog = false → ∃ z, ld = .inr z) := fun ns hc e1 e2 => ⟨kvs1, ns.less hc, e1, e2, by omega, hkL1, fin hkY1 hv1 ld1 fun _ => ⟨z, rfl⟩⟩
      refine ⟨_, rfl, _, rfl, ?_⟩
      cases tog with
      | false => exact ⟨⟨_, _, _, _, _, _, _, rfl⟩, stop nJ (by omega) ethJ eyJ⟩
      | true =>
        refine ⟨_, rfl, Nat.zero_le _, fun zz HK nzz SK ezz => ?_⟩
        have nK := nJ.same SK
        have eDK := SK _ _ eDJ
        refine ⟨.list ((M.map (fun c : Nat => (c : Int))).map PyData.int), .list [], .lst (SqL.of eDK) (dpInts _), .lst (SqL.of ezz) .nil, Sh.ok (n := 1) (.list (.map _ fun x _ => .int _)), Sh.ok (n := 1) (.list .nil), _, rfl, ?_⟩
        cases M with
        | nil => exact ⟨⟨_, _, _, _, _, _, _, rfl⟩, stop nK (by omega) (SK _ _ ethJ) (SK _ _ eyJ)⟩
        | cons m0 M =>
          refine ⟨.ref t, rfl, t, 2, b + 30 - 3 * j, rfl, by decide, by decide, nK.tp.le (by omega), fun d2 HM a2 b2 UM TM => ⟨rfl, _, rfl, ite2 (fun c => ?_) (fun c => ?_)⟩⟩
          · have nM := nK.draw UM TM
            have eDM := UM _ _ nDt eDK
            have hMp : ((((m0 :: M).map (fun c : Nat => (c : Int))).map V.int)).length = (m0 :: M).length := by rw [List.length_map, List.length_map]
            refine ⟨_, rfl, .ref t, rfl, _, rfl, D, _, rfl, .inl (SqL.of eDM), t, _, b + 29 - 3 * j, rfl, by rw [hMp]; show (0 : Int) < ((M.length + 1 : Nat) : Int); omega, by rw [hMp]; omega, nM.tp.le (by omega), fun d3 HN a3 b3 UN TN => ?_⟩
            have nN := nM.draw UN TN
            rw [hMp] at b3
            obtain ⟨d4, rfl⟩ : ∃ d4 : Nat, d3 = (d4 : Int) := ⟨d3.toNat, by omega⟩
            have hd4 : d4 < (m0 :: M).length := by omega
            have emd : (m0 :: M)[d4]? = some (m0 :: M)[d4] := List.getElem?_eq_getElem hd4
            generalize (m0 :: M)[d4] = mm at emd
            have hmm := hM mm (List.mem_of_getElem? emd)
            refine .inl ⟨D, _, _, _, rfl, rfl, SqL.of (UN _ _ nDt eDM), atI_nat (by rw [List.getElem?_map, List.getElem?_map, emd]; rfl), ?_⟩
            refine ⟨_, rfl, _, rfl, dl, _, rfl, DPut.t (k := k2 x.2.1 x.2.2) nN.edl (nN.pan x hxP) (szl (by omega)), ?_⟩
            obtain ⟨hkL2, hkY2⟩ := base (v := .int (mm : Int)) hkL1 hkY1
            refine ⟨⟨_, _, _, _, _, _, _, rfl⟩, _, (nN.put (kvs2 := putK kvs1 (k2 x.2.1 x.2.2) (.int (mm : Int)))).less (by omega), ?_, ?_, ?_, hkL2, fin hkY2 (ld := .inl (mm : Int)) (by rw [valV_put, if_pos rfl]; rfl) ⟨mm, rfl, hmm⟩ (fun w => nomatch w)⟩
            · rw [upd_ne nthd]
              exact UN _ _ ntht (UM _ _ ntht (SK _ _ ethJ))
            · rw [upd_ne nyd]
              exact UN _ _ nyt (UM _ _ nyt (SK _ _ eyJ))
            · have := length_putK kvs1 (k2 x.2.1 x.2.2) (.int (mm : Int))
              omega
          · exact ⟨⟨_, _, _, _, _, _, _, rfl⟩, stop (nK.draw UM TM) (by omega) (UM _ _ ntht (SK _ _ ethJ)) (UM _ _ nyt (SK _ _ eyJ))⟩
  obtain ⟨⟨y9, y10, y11, y13, y14, y15, y16, rfl⟩, kvs, nF, ethF, eyF, hkl, hkL, hkY⟩ := hP
  rw [ryl] at hkY hkl nF
  have asc := g.asc
  have hex : ∀ b s, b ∈ Th L → s < 2 → ∃ ld : Key, valV kvs (k2 b s) = some (kV ld) ∧ LdOk (Th L) h zs b ld ∧ ((∃ e ∈ L, e.1 = (b, s) ∧ ld = .inl (e.2 : Int)) ∨ (b, s) ∈ prs P ∧ (tog = false → ∃ z, ld = .inr z)) := fun b s hb hs => by
    rcases g.all b s hb hs with w | w
    · obtain ⟨x, hx, ex⟩ := List.mem_map.mp w
      obtain ⟨j, hj⟩ := List.mem_iff_getElem?.mp (hY.mem_iff.mpr hx)
      obtain ⟨ld, l1, l2, l3⟩ := hkY j x (List.getElem?_eq_some_iff.mp hj).1 hj
      rw [ex] at l1 l2
      exact ⟨ld, l1, l2, .inr ⟨w, l3⟩⟩
    · obtain ⟨e, he, ee⟩ := List.mem_map.mp w
      have l1 := hkL e he
      have ee : e.1 = (b, s) := ee
      rw [ee] at l1
      obtain ⟨_, _, o3, o4⟩ := g.own e he
      rw [ee] at o3 o4
      exact ⟨.inl (e.2 : Int), l1, ⟨e.2, rfl, List.mem_cons_of_mem _ (List.mem_map.mpr ⟨e, he, rfl⟩), o3, o4⟩, .inl ⟨e, he, ee, rfl⟩⟩
  obtain ⟨ld, hld⟩ : ∃ ld : Nat → Nat → Key, ∀ b s, b ∈ Th L → s < 2 → valV kvs (k2 b s) = some (kV (ld b s)) ∧ LdOk (Th L) h zs b (ld b s) ∧ ((∃ e ∈ L, e.1 = (b, s) ∧ ld b s = .inl (e.2 : Int)) ∨ (b, s) ∈ prs P ∧ (tog = false → ∃ z, ld b s = .inr z)) := by
    refine ⟨fun b s => if hb : b ∈ Th L ∧ s < 2 then (hex b s hb.1 hb.2).choose else .inl 0, fun b s hb hs => ?_⟩
    have hc := (hex b s hb hs).choose_spec
    simp only [dif_pos (And.intro hb hs)]
    exact hc
  have hldL : ∀ e ∈ L, ld e.1.1 e.1.2 = .inl (e.2 : Int) := fun e he => by
    obtain ⟨o1, o2, _, _⟩ := g.own e he
    have h1 := (hld e.1.1 e.1.2 o1 o2).1
    rw [hkL e he] at h1
    have h1 : V.int (e.2 : Int) = kV (ld e.1.1 e.1.2) := Option.some.inj h1
    cases hx : ld e.1.1 e.1.2 with
    | inl k =>
      rw [hx] at h1
      rw [V.int.inj h1]
    | inr z =>
      rw [hx] at h1
      cases h1
  have hok : NetOk (netOf (Th L) ld) high zs := net_ok g (fun b hb s hs => (hld b s hb hs).2.1) hldL
  have htree : tog = false → TreeOk (netOf (Th L) ld) := fun ht => net_tree g (fun b hb s hs => (hld b s hb hs).2.1) hldL fun x hx => by
    obtain ⟨p1, p2⟩ := g.pin x hx
    rcases (hld x.1 x.2 p1 p2).2.2 with ⟨e, he, ee, _⟩ | ⟨_, h2⟩
    · exact absurd (List.mem_map.mpr ⟨e, he, ee⟩) (g.dis x hx)
    · exact h2 ht
  have lth : (((Th L).map (fun c : Nat => (c : Int))).map V.int).length = (Th L).length := by rw [List.length_map, List.length_map]
  have thAt : ∀ {i : Nat}, i < (Th L).length → (((Th L).map (fun c : Nat => (c : Int))).map V.int)[i]? = some (.int (((Th L).getD i 0 : Nat) : Int)) := fun hi => by
    rw [List.getElem?_map, List.getElem?_map, getD_mem hi]
    rfl
  -- their numbers
  refine ⟨_, rfl, th, _, rfl, SqL.of ethF, fun D nD3 => ?_⟩
  refine lc_it (walk_enum (K := K) (a := th) (xs := ((Th L).map (fun c : Nat => (c : Int))).map V.int)) (fun i H' => Same HF H' ∧ ∃ ps : List Addr, ps.length = i ∧ H' D = some (.lst (ps.map V.ref)) ∧ ∀ (j : Nat) (p : Addr), ps[j]? = some p → H' p = some (.tup [.int (((Th L).getD j 0 : Nat) : Int), .int (j : Int)]))
    ⟨same_upd nD3, [], rfl, upd_same, (fun j p e => by simp at e)⟩ (fun i H' _ hP => SqL.of (hP.1 _ _ ethF)) (fun i v H4 H5 hi hP hY' => ?_) (fun H4 hP => ?_)
  · obtain ⟨S4', ps, hps, eD, hpp⟩ := hP
    obtain ⟨T', x1, x2, rfl, nT, rfl, f1, f2⟩ := hY'
    have f1 : (V.int (i : Nat)) = x1 := Option.some.inj f1
    subst f1
    rw [lth] at hi
    have f2 : (((Th L).map (fun c : Nat => (c : Int))).map V.int)[i]? = some x2 := f2
    rw [thAt hi] at f2
    have f2 : V.int (((Th L).getD i 0 : Nat) : Int) = x2 := Option.some.inj f2
    subst f2
    have S5' : Same HF (upd H4 T' (.tup [.int (i : Nat), .int (((Th L).getD i 0 : Nat) : Int)])) := S4'.trans (same_upd nT)
    have eD5 : upd H4 T' (.tup [.int (i : Nat), .int (((Th L).getD i 0 : Nat) : Int)]) D = some (.lst (ps.map V.ref)) := same_upd nT _ _ eD
    have hpp5 : ∀ (j : Nat) (p : Addr), ps[j]? = some p → upd H4 T' (.tup [.int (i : Nat), .int (((Th L).getD i 0 : Nat) : Int)]) p = some (.tup [.int (((Th L).getD j 0 : Nat) : Int), .int (j : Int)]) := fun j p e => same_upd nT _ _ (hpp j p e)
    refine ⟨T', _, rfl, SqT.of upd_same, rfl, _, _, rfl, _, _, rfl, rfl, rfl, ?_⟩
    generalize upd H4 T' (.tup [.int (i : Nat), .int (((Th L).getD i 0 : Nat) : Int)]) = H5 at S5' eD5 hpp5
    refine ⟨_, rfl, _, rfl, (by show 2 ≤ sizeLine; decide), fun pp H6' npp S6' epp => ⟨_, S6' _ _ eD5, szl (by rw [List.length_map]; omega), Same.of_upd (S5'.trans S6') nD3, ps ++ [pp], by rw [List.length_append, hps]; rfl, ?_, fun j p e => ?_⟩⟩
    · rw [upd_same, List.map_append]
      rfl
    · rcases Nat.lt_trichotomy j ps.length with c | c | c
      · rw [List.getElem?_append_left c] at e
        have ep := S6' _ _ (hpp5 j p e)
        rw [upd_ne (ne_of ep (S6' _ _ eD5) (fun z => nomatch z))]
        exact ep
      · rw [List.getElem?_append_right (by omega), c, Nat.sub_self] at e
        have e : pp = p := Option.some.inj e
        subst e
        rw [upd_ne (ne_of epp (S6' _ _ eD5) (fun z => nomatch z)), c, hps]
        exact epp
      · rw [List.getElem?_eq_none (by rw [List.length_append]; show ps.length + 1 ≤ j; omega)] at e
        cases e
  obtain ⟨S4', ps, hps, eD, hpp⟩ := hP
  rw [lth] at hps
  refine ⟨D, ps, nkN (Th L) (Th L).length, rfl, SqL.of eD, paired_mk hps (fun j p e => SqT.of (hpp j p e)), fun pn npn => ?_⟩
  have emk : mergeK [] (nkN (Th L) (Th L).length) = nkN (Th L) (Th L).length := by
    rw [mergeK_new (fun _ _ => rfl) (nkN_nd asc _ (Nat.le_refl _))]
    rfl
  rw [emk]
  have n5 := nF.same (S4'.trans (same_upd npn (o := .dK (nkN (Th L) (Th L).length))))
  have epn : upd H4 pn (.dK (nkN (Th L) (Th L).length)) pn = some (.dK (nkN (Th L) (Th L).length)) := upd_same
  have eth5 := same_upd npn (o := .dK (nkN (Th L) (Th L).length)) _ _ (S4' _ _ ethF)
  generalize upd H4 pn (.dK (nkN (Th L) (Th L).length)) = H5 at n5 epn eth5
  -- the net
  refine ⟨_, rfl, th, rfl, ⟨_, SqL.of eth5⟩, fun D2 nD2 => ?_⟩
  refine lc_list (K := K) (a := th) (xs := ((Th L).map (fun c : Nat => (c : Int))).map V.int) (fun i H' => Same H5 H' ∧ ∃ us, H' D2 = some (.lst us) ∧ us.length = i ∧ DtA H' 1 us (((netOf (Th L) ld).take i).map pairD)) ⟨same_upd nD2, [], upd_same, rfl, .nil⟩ (fun i H' _ hP => SqL.of (hP.1 _ _ eth5)) (fun i v H6 hv hP => ?_) (fun H6 hP => ?_)
  · obtain ⟨S6', us, eD2, hul, hdt⟩ := hP
    have hil : i < (Th L).length := by
      have := (List.getElem?_eq_some_iff.mp hv).1
      rwa [lth] at this
    rw [thAt hil] at hv
    have hv : V.int (((Th L).getD i 0 : Nat) : Int) = v := Option.some.inj hv
    subst hv
    have hbm : (Th L).getD i 0 ∈ Th L := List.mem_of_getElem? (getD_mem hil)
    have hbi := getD_mem hil
    generalize (Th L).getD i 0 = bb at hbm hbi
    refine ⟨rfl, (by show 2 ≤ sizeLine; decide), fun q1 H7 nq1 S7' eq1 => ?_⟩
    refine ⟨q1, rfl, ⟨_, SqT.of eq1⟩, lcMapTV (f := fun v => match v with | .int s => kV (ren (Th L) (ld bb s.toNat)) | v => v) eq1 (by show 2 ≤ 1000; decide) (fun _ => rfl) (fun v hv H8 R S8' k => ?_) (fun D3 H8 nD3' S8' eD3 => ?_)⟩
    · have hv' : ∃ s : Nat, v = .int (s : Int) ∧ s < 2 := by
        have : v = .int 0 ∨ v = .int 1 := by simpa using hv
        rcases this with rfl | rfl
        · exact ⟨0, rfl, by decide⟩
        · exact ⟨1, rfl, by decide⟩
      obtain ⟨s, rfl, hs2⟩ := hv'
      obtain ⟨l1, l2, _⟩ := hld bb s hbm hs2
      have S58 : Same H5 H8 := S6'.trans (S7'.trans S8')
      refine ⟨_, rfl, pn, rfl, .inl ⟨_, .inl (S58 _ _ epn)⟩, _, rfl, _, rfl, _, rfl, (by show 2 ≤ sizeLine; decide), fun kk H9 nkk S9' ekk => ?_⟩
      have g1 : DGet H9 dl (.ref kk) (some (kV (ld bb s))) := by
        have h9 := DGet.t (k := k2 bb s) (S9' _ _ (S58 _ _ n5.edl)) ekk
        rw [l1] at h9
        exact h9
      refine ⟨dl, _, rfl, g1, ?_⟩
      refine ⟨_, rfl, _, rfl, _, rfl, (by show 2 ≤ sizeLine; decide), fun kk2 HA nkk2 SA' ekk2 => ?_⟩
      have g2 : DGet HA dl (.ref kk2) (some (kV (ld bb s))) := by
        have h9 := DGet.t (k := k2 bb s) (SA' _ _ (S9' _ _ (S58 _ _ n5.edl))) ekk2
        rw [l1] at h9
        exact h9
      refine ⟨dl, _, rfl, g2, _, DGet.k (k := ld bb s) (SA' _ _ (S9' _ _ (S58 _ _ epn))), ?_⟩
      rw [kV_ren asc l2]
      exact k HA (S9'.trans SA')
    have eD3 : H8 D3 = some (.lst [kV (ren (Th L) (ld bb 0)), kV (ren (Th L) (ld bb 1))]) := eD3
    refine ⟨D3, _, rfl, SqL.of eD3, fun pp H9 npp S9' epp => ?_⟩
    have S69 : Same H6 H9 := S7'.trans (S8'.trans S9')
    have eD9 := S69 _ _ eD2
    refine ⟨us, eD9, szl (by omega), Same.of_upd (S6'.trans S69) nD2, us ++ [.ref pp], upd_same, by rw [List.length_append, hul]; rfl, ?_⟩
    have hnet : (netOf (Th L) ld)[i]? = some (ren (Th L) (ld bb 0), ren (Th L) (ld bb 1)) := by
      unfold netOf
      rw [List.getElem?_map, hbi]
      rfl
    rw [List.take_add_one, hnet, List.map_append]
    refine dtA_snoc (dtTOA eD9 (hdt.same S69) fun d hd => ?_) (.tup (by rw [upd_ne (ne_of epp eD9 (fun z => nomatch z))]; exact epp) (by show 2 ≤ 50000; decide) (.cons (kD_dt _) (.cons (kD_dt _) .nil)))
    obtain ⟨p, _, rfl⟩ := List.mem_map.mp hd
    exact .two (.key _) (.key _)
  obtain ⟨S6', us, eD2, hul, hdt⟩ := hP
  rw [lth] at hdt hul
  have lnet : (netOf (Th L) ld).length = (Th L).length := List.length_map ..
  rw [← lnet, List.take_length] at hdt
  refine ⟨D2, us, rfl, SqL.of eD2, fun pa H7 npa S7' epa => ?_⟩
  have n7 := n5.same (S6'.trans S7')
  exact q pa _ H7 hok (by rw [lnet]; have : (Th L).length = L.length + 1 := (by unfold Th; rw [List.length_cons, List.length_map]); omega) htree n7.un (n7.tp.le (by omega)) (.tup epa (by omega) (hdt.same S7'))
end
section
variable {P : Program} {w : World} {K : PySem.W.Frag} {mg : Str → Option Value} {base : Heap} {T : List (Addr × Str)} {CW : Addr}
noncomputable abbrev LV_balances_led_to : Nat := 2
/-- pairs: the numbers that they lead to -/
noncomputable def numK : Key → List Int
  | .inl c => [c]
  | .inr _ => []
noncomputable def ledK (N : List (Key × Key)) : List Int := N.flatMap fun p => [p.1, p.2].flatMap numK
theorem numK_len (ks : List Key) : (ks.flatMap numK).length ≤ ks.length := by
  induction ks with
  | nil => exact Nat.le_refl _
  | cons y l ih =>
    rw [List.flatMap_cons, List.length_append, List.length_cons]
    cases y with
    | inl c => show 1 + _ ≤ _; omega
    | inr z => show 0 + _ ≤ _; omega
theorem ledK_len (N : List (Key × Key)) : (ledK N).length ≤ 2 * N.length := by
  induction N with
  | nil => exact Nat.le_refl _
  | cons y l ih =>
    show (_ ++ ledK l).length ≤ _
    rw [List.length_append, List.length_cons]
    have h2 : ((fun p : Key × Key => [p.1, p.2].flatMap numK) y).length ≤ 2 := numK_len [y.1, y.2]
    omega
/-- pairs in a list -/
noncomputable def PrsAt (H : Hp) (us : List V) (N : List (Key × Key)) : Prop := us.length = N.length ∧ ∀ (i : Nat) (p : Key × Key), N[i]? = some p → ∃ q, us[i]? = some (.ref q) ∧ H q = some (.tup [kV p.1, kV p.2])
theorem PrsAt.same {H H' : Hp} {us : List V} {N : List (Key × Key)} (h : PrsAt H us N) (S : Same H H') : PrsAt H' us N := ⟨h.1, fun i p e => by
  obtain ⟨q, h1, h2⟩ := h.2 i p e
  exact ⟨q, h1, S _ _ h2⟩⟩
theorem PrsAt.put {H : Hp} {us : List V} {N : List (Key × Key)} {q : Addr} {p : Key × Key} (h : PrsAt H us N) (e : H q = some (.tup [kV p.1, kV p.2])) : PrsAt H (us ++ [.ref q]) (N ++ [p]) := ⟨by rw [List.length_append, List.length_append, h.1]; rfl, fun i r hi => by
  by_cases c : i < N.length
  · rw [List.getElem?_append_left c] at hi
    obtain ⟨q', h1, h2⟩ := h.2 i r hi
    exact ⟨q', by rw [List.getElem?_append_left (by rw [h.1]; exact c)]; exact h1, h2⟩
  · rw [List.getElem?_append_right (by omega)] at hi
    have e0 : i - N.length = 0 := by
      have := (List.getElem?_eq_some_iff.mp hi).1
      have : ([p] : List (Key × Key)).length = 1 := rfl
      omega
    rw [e0] at hi
    have hi : p = r := Option.some.inj hi
    subst hi
    exact ⟨q, by rw [List.getElem?_append_right (by rw [h.1]; omega), h.1, e0]; rfl, e⟩⟩
/-- a list changes that is none of the pairs -/
theorem PrsAt.upd {H : Hp} {us : List V} {N : List (Key × Key)} {l : Addr} {xs : List V} {o : HO} (h : PrsAt H us N) (e : H l = some (.lst xs)) : PrsAt (upd H l o) us N := ⟨h.1, fun i p hi => by
  obtain ⟨q, h1, h2⟩ := h.2 i p hi
  exact ⟨q, h1, by rw [upd_ne (fun z => by rw [z, e] at h2; cases h2)]; exact h2⟩⟩
noncomputable def sp_balances_led_to : Sp := fun vs H Q _ => ∃ (a : Addr) (us : List V) (N : List (Key × Key)), vs = [.ref a] ∧ H a = some (.lst us) ∧ PrsAt H us N ∧ N.length ≤ 1000 ∧
  ∀ (l : Addr) (H' : Hp), H l = none → Same H H' → H' l = some (.lst ((ledK N).map V.int)) → Q (.ref l) H'
theorem ok_balances_led_to {f : Addr} {fd : FuncData} (F : Fun K "balances_led_to" "balances_led_to" s_balances_led_to f fd) (Z : Bl mg) (G_is_number : Kn P w K mg base "is_number" P_is_number LV_is_number sp_is_number) : FnOk P w K mg base CX0 LV_balances_led_to f fd P_balances_led_to sp_balances_led_to := by
  refine F.ok sc_balances_led_to (fun vs H Q E h => ?_) (fun cdv A outer s H vs Q E hr h => ?_)
  · obtain ⟨a, us, N, rfl, _⟩ := h
    rfl
  obtain ⟨a, us, N, rfl, ea, hN, hl, q⟩ := h
  refine ⟨_, (pss_one (ps_ret (pe_lc2 (own := [("pair", 1), ("lead", 2)]) (vs1 := [2]) (g := (gName 1)) (g1 := (gName 2)) (tt := tYes) rfl sc_balances_led_to.nd (pi_list (pv 0)) (blkOk_by (own := [("pair", 1), ("lead", 2)]) (N := N_balances_led_to) (sc := defScope s_balances_led_to) (by decide +kernel)) (by decide) (fun _ _ _ _ _ => (pg_name (i := 1) sc_balances_led_to.nd rfl (Or.inl rfl))) (fun _ _ _ _ _ => pts_nil) (fun _ _ _ _ _ => ((pi_tupN (K := K)) (pv 1))) (fun _ _ _ _ _ => (pg_name (i := 2) sc_balances_led_to.nd rfl (Or.inl rfl))) (fun _ _ _ _ _ => (pts_one (pt_val (pe_own G_is_number (hr.mono (by decide)) (by rfl) (pa_cons (pv 2) pa_nil))))) (fun _ _ _ _ _ => (pv 2))))), ?_⟩
  obtain ⟨hul, hat⟩ := hN
  refine ⟨_, rfl, a, rfl, ⟨_, SqL.of ea⟩, fun D nD => ?_⟩
  refine walk_out (walk_list (K := K) (a := a) (xs := us)) (fun i H' => Same H H' ∧ H' D = some (.lst ((ledK (N.take i)).map V.int))) ⟨same_upd nD, upd_same⟩ (fun i H' _ hP => SqL.of (hP.1 _ _ ea)) (fun i x H1 H2 hi hP hY => ?_) (fun H1 hP => ?_)
  · obtain ⟨S1, eD⟩ := hP
    obtain ⟨rfl, hx⟩ := hY
    have hiN : i < N.length := by omega
    obtain ⟨pq, eu, eq⟩ := hat i _ (List.getElem?_eq_getElem hiN)
    rw [eu] at hx
    have hx : V.ref pq = x := Option.some.inj hx
    subst hx
    have eL : H pq = some (.tup ([N[i].1, N[i].2].map kV)) := eq
    have etk : N.take (i + 1) = N.take i ++ [N[i]] := by rw [List.take_add_one, List.getElem?_eq_getElem hiN]; rfl
    have eled : ledK (N.take (i + 1)) = ledK (N.take i) ++ [N[i].1, N[i].2].flatMap numK := by
      rw [etk]
      unfold ledK
      rw [List.flatMap_append, List.flatMap_cons, List.flatMap_nil, List.append_nil]
    have hlb : (ledK (N.take i)).length ≤ 2000 := by
      have h1 := ledK_len (N.take i)
      rw [List.length_take] at h1
      omega
    generalize hks : [N[i].1, N[i].2] = ks at eL eled
    have hkl : ks.length = 2 := by rw [← hks]; rfl
    refine ⟨rfl, ?_⟩
    refine ⟨_, rfl, pq, rfl, ⟨_, SqT.of (S1 _ _ eL)⟩, ?_⟩
    refine walk_out (walk_tup (K := K) (a := pq) (xs := ks.map kV)) (fun j H' => Same H H' ∧ H' D = some (.lst ((ledK (N.take i) ++ (ks.take j).flatMap numK).map V.int))) ⟨S1, by rw [List.take_zero, List.flatMap_nil, List.append_nil]; exact eD⟩ (fun j H' _ hP => SqT.of (hP.1 _ _ eL)) (fun j v H3 H4 hj hP hY => ?_) (fun H3 hP => ?_)
    · obtain ⟨S3, eD3⟩ := hP
      obtain ⟨rfl, hv⟩ := hY
      rw [List.getElem?_map] at hv
      cases ex : ks[j]? with
      | none => rw [ex] at hv; cases hv
      | some y =>
        rw [ex] at hv
        have hv : kV y = v := Option.some.inj hv
        subst hv
        have hj2 : j < 2 := by rw [← hkl]; exact (List.getElem?_eq_some_iff.mp ex).1
        have etk2 : ks.take (j + 1) = ks.take j ++ [y] := by rw [List.take_add_one, ex]; rfl
        have hlen : ((ledK (N.take i) ++ (ks.take j).flatMap numK).map V.int).length < 90000 := by
          have h1 := numK_len (ks.take j)
          rw [List.length_take] at h1
          rw [List.length_map, List.length_append]
          omega
        refine ⟨rfl, ?_⟩
        cases y with
        | inl c =>
          refine ⟨_, rfl, _, 0, _, rfl, .int _, _, rfl, ?_⟩
          refine ⟨_, rfl, _, eD3, szl (by omega), Same.of_upd S3 nD, ?_⟩
          rw [upd_same, etk2, List.flatMap_append, ← List.append_assoc]
          exact congrArg (fun z => some (HO.lst z)) (List.map_append (f := V.int) (l₁ := ledK (N.take i) ++ (ks.take j).flatMap numK) (l₂ := [Sum.inl c].flatMap numK)).symm
        | inr z =>
          refine ⟨_, rfl, _, 0, _, rfl, .str _, _, rfl, ?_⟩
          refine ⟨S3, ?_⟩
          rw [etk2, List.flatMap_append]
          show _ = some (HO.lst ((_ ++ (_ ++ [])).map V.int))
          rw [List.append_nil]
          exact eD3
    · obtain ⟨S3, eD3⟩ := hP
      rw [List.length_map, List.take_length, ← eled] at eD3
      exact ⟨S3, eD3⟩
  · obtain ⟨S1, eD⟩ := hP
    rw [hul, List.take_length] at eD
    exact q D H1 nD S1 eD
noncomputable abbrev LV_figures_of : Nat := 1
noncomputable def sp_figures_of : Sp := fun vs H Q _ => ∃ (n : Int), vs = [.int n] ∧ 0 ≤ n ∧ n < 1000000000000000000 ∧ ∀ H', Same H H' → Q (.str (figT n)) H'
theorem ok_figures_of {f : Addr} {fd : FuncData} (F : Fun K "figures_of" "figures_of" s_figures_of f fd) (Z : Bl mg) : FnOk P w K mg base CX0 LV_figures_of f fd P_figures_of sp_figures_of := by
  refine F.ok sc_figures_of (fun vs H Q E h => ?_) (fun cdv A outer s H vs Q E hr h => ?_)
  · obtain ⟨n, rfl, _⟩ := h
    rfl
  obtain ⟨n, rfl, h0, h1, q⟩ := h
  refine ⟨_, (pss_cons (ps_set (i := 1) sc_figures_of.nd rfl (Or.inl rfl) (pe_lstN pa_nil))
    (pss_cons (ps_set (i := 2) sc_figures_of.nd rfl (Or.inl rfl) (pv 0))
    (pss_cons (ps_while PassesOwn.never (pt_cmpR op_ge (pv 2) (pe_constI Z.c_GROUP_END (by rfl)) (nomark _))
    (pss_cons (ps_asg (pe_callB call_divmodN (by rfl) Z.divmod (by decide +kernel) (pa_cons (pv 2) (pa_cons (pe_constI Z.c_GROUP_END (by rfl)) pa_nil))) (pg_tup rfl (pgs_cons (pg_name (i := 2) sc_figures_of.nd rfl (Or.inl rfl)) (pgs_cons (pg_name (i := 3) sc_figures_of.nd rfl (Or.inl rfl)) pgs_nil))))
    (pss_one (ps_expr (pe_bm PySem.F.plainAttrs_list PySem.F.slot_list_append PySem.F.type_list_append mt_append (pv 1) (pa_cons pe_never pa_nil))))))
    (pss_cons (ps_expr (pe_bm PySem.F.plainAttrs_list PySem.F.slot_list_append PySem.F.type_list_append mt_append (pv 1) (pa_cons (pe_callTy call_strX (by rfl) Z.str (by decide +kernel) (pa_cons (pv 2) pa_nil)) pa_nil)))
    (pss_one (ps_ret (pe_join pe_str (pe_revN (pv 1))))))))), ?_⟩
  refine ⟨(by show 0 ≤ sizeLine; decide), fun l H1 nl S1 el => ⟨_, rfl, ?_⟩⟩
  refine ⟨fun m σ H' => σ = [some (.int n), some (.ref l), some (.int n), none] ∧ H' = H1, ⟨0, rfl, rfl⟩, fun m σ H' hP => ?_⟩
  obtain ⟨rfl, rfl⟩ := hP
  refine ⟨_, rfl, _, _, rfl, rfl, _, rfl, ite2 (fun c => ?_) (fun _ => ?_)⟩
  · exact absurd (of_decide_eq_true c) (by omega)
  refine ⟨_, rfl, .inl ⟨rfl, _, SqL.of el⟩, _, rfl, .inl ⟨n, rfl, log_small (by omega), l, _, _, rfl, rfl, el, by show 0 < sizeLine; decide, ?_⟩⟩
  refine ⟨⟨_, rfl⟩, _, rfl, l, _, rfl, SqL.of upd_same, fun p H2 np S2 ep => ⟨_, p, [figT n], rfl, rfl, .inl (SqL.of ep), ?_, ?_⟩⟩
  · show ((figT n).length + 0) + 1 * 0 ≤ _
    have := fig_len h0 h1
    omega
  · have hq := q H2 (fun b o e => S2 _ _ (by
      rw [upd_ne (fun z => by rw [z, nl] at e; cases e)]
      exact S1 _ _ e))
    show Q (.str (Txt.join _ [figT n])) H2
    rw [join1]
    exact hq
noncomputable abbrev LV_is_plain : Nat := 1
noncomputable def sp_is_plain : Sp := fun vs H Q _ => ∃ (x : Str), vs = [.str x] ∧ x.length ≤ 640 ∧ ∀ H', Same H H' → Q (.bl (plainL (TL.tl x))) H'
theorem ok_is_plain {f : Addr} {fd : FuncData} (F : Fun K "is_plain" "is_plain" s_is_plain f fd) (Z : Bl mg) : FnOk P w K mg base CX0 LV_is_plain f fd P_is_plain sp_is_plain := by
  refine F.ok sc_is_plain (fun vs H Q E h => ?_) (fun cdv A outer s H vs Q E hr h => ?_)
  · obtain ⟨x, rfl, _⟩ := h
    rfl
  obtain ⟨x, rfl, hx, q⟩ := h
  refine ⟨_, (pss_cons (ps_if (PW.pt (pw_or (pt_not (pt_truth (pv 0) (by intro _; rfl))) (pw_or1 (pt_not (pt_val (pe_callB (allL (K := K) rfl) (by rfl) Z.all (by decide +kernel) (pa_cons (pe_lcN (own := [("sign", 1)]) (g := (gName 1)) (tt := tYes) (by rfl) sc_is_plain.nd (pi_str (pv 0)) (blkOk_by (own := [("sign", 1)]) (N := N_is_plain) (sc := defScope s_is_plain) (by decide +kernel)) (fun _ _ _ _ _ => (pg_name (i := 1) sc_is_plain.nd rfl (Or.inl rfl))) (fun _ _ _ _ _ => pts_nil) (fun _ _ _ _ _ => (pe_cmpR op_in_sign (pv 1) (pe_const Z.c_FIGURES (by rfl)) (by rfl)))) pa_nil))))))) (pss_one (ps_ret pe_bl)) pss_nil)
    (pss_one (ps_ret (pe_or (pe_cmpR op_eq (pv 0) pe_str (nomark _)) (pe_one (pe_cmpR op_ne (pe_ix ix_str (pv 0) pe_int (fun _ _ => rfl)) pe_str (nomark _))))))), ?_⟩
  have hx9 : x.length ≤ sizeLine := Nat.le_trans hx (by rw [sizeLine_eq]; decide)
  refine ⟨_, rfl, _, ⟨hx9, rfl⟩, ?_⟩
  by_cases c0 : TL.tl x = []
  · have e0 : ((x.length : Int) != 0) = false := by
      rw [len_tlI, c0]
      rfl
    rw [e0]
    have hq := q H (Same.refl _)
    rw [c0] at hq
    exact hq
  have e0 : ((x.length : Int) != 0) = true := by
    rw [len_tlI, bne_iff_ne]
    intro z
    exact c0 (List.eq_nil_of_length_eq_zero (by omega))
  rw [e0]
  refine ite2 (fun z => absurd z (by decide)) (fun _ => ?_)
  have hsz : x.cps.size = x.length := rfl
  have finish : ∀ H', Same H H' → (TL.tl x).all digB = true → tRet (tOrV (tOp rEq (tVar 0) (tC (V.str (Str.ofString "0")))) (tOp rNe (tOp rIxS (tVar 0) (tC (V.int 0))) (tC (V.str (Str.ofString "0"))))) { nx := fun x H' => Q V.non H', rt := Q } (L2.start N_is_plain [V.str x]) H' := fun H' S' hall => by
    obtain ⟨c, r, ec⟩ : ∃ c r, TL.tl x = c :: r := by
      cases e : TL.tl x with
      | nil => exact absurd e c0
      | cons c r => exact ⟨c, r, rfl⟩
    have hq := q H' S'
    have ep : plainL (TL.tl x) = (decide (x = ("0" : Str)) || decide (c ≠ 48)) := by
      unfold plainL
      rw [hall, ec]
      have e1 : ((c :: r) == [48]) = decide (x = ("0" : Str)) := by
        rw [decide_eq_decide.mpr (show x = ("0" : Str) ↔ c :: r = [48] by rw [str_eq0, ec])]
        by_cases k : c :: r = [48]
        · rw [decide_eq_true k]; exact beq_iff_eq.mpr k
        · rw [decide_eq_false k]; exact beq_eq_false_iff_ne.mpr k
      rw [e1]
      have e2 : ((c :: r).head? != some 48) = decide (c ≠ 48) := by
        by_cases k : c = 48
        · rw [k]; rfl
        · rw [decide_eq_true k]
          exact bne_iff_ne.mpr fun z => k (Option.some.inj z)
      rw [e2]
      rfl
    rw [ep] at hq
    refine ⟨_, rfl, rfl, _, rfl, ?_⟩
    by_cases k : x = ("0" : Str)
    · refine iteD (congrArg V.str k) ?_
      rw [decide_eq_true k] at hq
      exact hq
    · refine iteDN (fun z => k (V.str.inj z)) ?_
      rw [decide_eq_false k, Bool.false_or] at hq
      refine ⟨_, rfl, x, 0, c, rfl, rfl, ?_, ?_, rfl, ?_⟩
      · exact hx9
      · show atI (TL.tl x) 0 = some c
        rw [ec]
        exact atI_nat (j := 0) rfl
      · have e3 : (!decide (V.str ⟨#[c]⟩ = V.str (Str.ofString "0"))) = decide (c ≠ 48) := by
          by_cases z : c = 48
          · have : V.str ⟨#[c]⟩ = V.str (Str.ofString "0") := by rw [z]; exact congrArg V.str zero_eq.symm
            rw [decide_eq_true this, decide_eq_false (fun h => h z)]
            rfl
          · have : ¬ V.str ⟨#[c]⟩ = V.str (Str.ofString "0") := fun h => z (by
              have h2 := (V.str.inj h).trans zero_eq
              have h3 := congrArg TL.tl h2
              have h4 : [c] = [48] := h3
              exact (List.cons.inj h4).1)
            rw [decide_eq_false this, decide_eq_true z]
            rfl
        show Q (V.bl (!decide (V.str ⟨#[c]⟩ = V.str (Str.ofString "0")))) H'
        rw [e3]
        exact hq
  refine ⟨_, rfl, x, rfl, fun D nD => lc_it (walk_str (z := x)) (fun j H' => Same H H' ∧ H' D = some (.lst (((x.cps.toList.take j).map digB).map V.bl))) ⟨same_upd nD, upd_same⟩ (fun _ _ _ _ => trivial) (fun i v H1 H2 hi hP hY => ?_) (fun H1 hP => ?_)⟩
  · obtain ⟨S1, eD⟩ := hP
    obtain ⟨rfl, c, hc, rfl⟩ := hY
    have hc' : x.cps.toList[i]? = some c := by rw [Array.getElem?_toList]; exact hc
    have etk : x.cps.toList.take (i + 1) = x.cps.toList.take i ++ [c] := by rw [List.take_add_one, hc']; rfl
    have ed : decide (c ∈ (Str.ofString "0123456789").cps.toList) = digB c := decide_eq_decide.mpr (figs_eq c)
    refine ⟨rfl, _, rfl, c, _, rfl, rfl, ?_⟩
    rw [ed]
    refine ⟨_, eD, szl ?_, Same.of_upd S1 nD, ?_⟩
    · rw [List.length_map, List.length_map, List.length_take]
      omega
    · rw [upd_same, etk, List.map_append, List.map_append]
      rfl
  · obtain ⟨S1, eD⟩ := hP
    have eL : x.cps.toList.take x.cps.size = x.cps.toList := List.take_of_length_le (by rw [Array.length_toList]; exact Nat.le_refl _)
    rw [eL] at eD
    refine ⟨D, _, rfl, SqL.of eD, ?_⟩
    refine ⟨_, rfl, ?_⟩
    rw [List.all_map]
    by_cases ha : (TL.tl x).all digB = true
    · have ha' : (x.cps.toList.all (id ∘ digB)) = true := ha
      rw [ha']
      exact ite2 (fun z => absurd z (by decide)) (fun _ => finish H1 S1 ha)
    · have ha' : (x.cps.toList.all (id ∘ digB)) = false := by simpa using ha
      rw [ha']
      refine ite2 (fun _ => ?_) (fun z => absurd rfl z)
      have hq := q H1 S1
      have ep : plainL (TL.tl x) = false := by
        unfold plainL
        rw [show (TL.tl x).all digB = false by simpa using ha]
        simp
      rw [ep] at hq
      exact hq
noncomputable abbrev LV_number_in : Nat := 2
noncomputable def onV : Option Nat → V
  | none => .non
  | some n => .int (n : Int)
theorem rg18 : ∀ m : Nat, m ≤ 100 → RgC 0 ((18 * m : Nat) : Int) 18 m := fun m h => by
  have key : ∀ m : Nat, m < 101 → Builtin.Range.small 0 ((18 * m : Nat) : Int) 18 = true ∧ Builtin.Range.rangeSize 0 ((18 * m : Nat) : Int) 18 = m := by decide +kernel
  exact ⟨by decide, by decide, (key m (by omega)).1, (key m (by omega)).2⟩
noncomputable def sp_number_in : Sp := fun vs H Q _ => ∃ (x : Str), vs = [.str x] ∧ x.length ≤ 640 ∧ ∀ H', Same H H' → Q (onV (numT x)) H'
theorem ok_number_in {f : Addr} {fd : FuncData} (F : Fun K "number_in" "number_in" s_number_in f fd) (Z : Bl mg) (G_is_plain : Kn P w K mg base "is_plain" P_is_plain LV_is_plain sp_is_plain) : FnOk P w K mg base CX0 LV_number_in f fd P_number_in sp_number_in := by
  refine F.ok sc_number_in (fun vs H Q E h => ?_) (fun cdv A outer s H vs Q E hr h => ?_)
  · obtain ⟨x, rfl, _⟩ := h
    rfl
  obtain ⟨x, rfl, hx, q⟩ := h
  refine ⟨_, (pss_cons (ps_if (pt_not (pt_val (pe_own G_is_plain (hr.mono (by decide)) (by rfl) (pa_cons (pv 0) pa_nil)))) (pss_one (ps_ret pe_non)) pss_nil)
    (pss_cons (ps_set (i := 1) sc_number_in.nd rfl (Or.inl rfl) pe_int)
    (pss_cons (ps_set (i := 2) sc_number_in.nd rfl (Or.inl rfl) (pe_op op_add_str (pe_op op_mulT pe_str (pe_op op_mod (pe_un un_neg (pe_callB call_len_str (by rfl) Z.len (by decide +kernel) (pa_cons (pv 0) pa_nil))) (pe_constI Z.c_GROUP (by rfl)))) (pv 0)))
    (pss_cons (ps_for PassesOwn.never rfl (pi_range3 (by rfl) Z.range (pa_cons pe_int (pa_cons (pe_callB call_len_str (by rfl) Z.len (by decide +kernel) (pa_cons (pv 2) pa_nil)) (pa_cons (pe_constI Z.c_GROUP (by rfl)) pa_nil)))) (pg_name (i := 3) sc_number_in.nd rfl (Or.inl rfl))
    (pss_one (ps_set (i := 1) sc_number_in.nd rfl (Or.inl rfl) (pe_op op_add (pe_op op_mul (pv 1) (pe_constI Z.c_GROUP_END (by rfl))) (pe_callTy call_int_str (by rfl) Z.int (by decide +kernel) (pa_cons (pe_slice sl_str (pv 2) (po_some (pv 3)) (po_some (pe_op op_add (pv 3) (pe_constI Z.c_GROUP (by rfl))))) pa_nil))))))
    (pss_one (ps_ret (pv 1))))))), ?_⟩
  have hx9 : x.length ≤ sizeLine := Nat.le_trans hx (by rw [sizeLine_eq]; decide)
  refine ⟨_, rfl, x, rfl, hx, fun H1 S1 => ⟨_, rfl, ?_⟩⟩
  by_cases hp : plainL (TL.tl x) = true
  case neg =>
    have hp' : plainL (TL.tl x) = false := by simpa using hp
    rw [hp']
    refine ite2 (fun _ => ?_) (fun z => absurd rfl z)
    have hq := q H1 S1
    unfold numT numL at hq
    rw [if_neg hp] at hq
    exact hq
  rw [hp]
  refine ite2 (fun z => absurd z (by decide)) (fun _ => ?_)
  obtain ⟨hdig, hne⟩ := plain_dig hp
  have hnum : numT x = some (NumText.digitsVal (TL.tl x)) := by
    unfold numT numL
    rw [if_pos hp]
  obtain ⟨k, hk, hk18⟩ : ∃ k : Nat, (-(x.length : Int)) % 18 = (k : Int) ∧ k < 18 := ⟨((-(x.length : Int)) % 18).toNat, by omega, by omega⟩
  obtain ⟨m, hm⟩ : ∃ m : Nat, k + x.length = 18 * m := ⟨(k + x.length) / 18, by omega⟩
  have hz : (Str.ofString "0") = (⟨#[48]⟩ : Str) := zero_eq
  refine ⟨_, rfl, x, rfl, hx9, _, rfl, _, _, rfl, rfl, (by show (0 : Int) < 18; decide), _, k, rfl, congrArg V.int hk, by omega, by rw [hz]; show 1 ≤ 1000; decide, _, rfl, _, _, rfl, rfl, ?_, ?_⟩
  · rw [hz, TL.len_tl (repT _ _), repT_tl, List.length_replicate, sizeLine_eq]
    omega
  obtain ⟨pd, hpd⟩ : ∃ pd : Str, pd = repT (Str.ofString "0") k ++ x := ⟨_, rfl⟩
  obtain ⟨P, hP⟩ : ∃ P : List Nat, P = List.replicate k 48 ++ TL.tl x := ⟨_, rfl⟩
  have hpt : TL.tl pd = P := by rw [hpd, hP, TL.tl_append, hz, repT_tl]
  have hpl : pd.length = 18 * m := by
    rw [TL.len_tl, hpt, hP, List.length_append, List.length_replicate, ← TL.len_tl]
    exact hm
  have hPl : P.length = 18 * m := by rw [← hpt, ← TL.len_tl, hpl]
  have hPd : NumText.AllDigits P := fun c hc => by
    rw [hP] at hc
    rcases List.mem_append.mp hc with h | h
    · rw [(List.mem_replicate.mp h).2]
      decide
    · exact hdig c h
  rw [← hpd]
  have hpl9 : pd.length ≤ sizeLine := by rw [sizeLine_eq]; omega
  refine ⟨_, rfl, pd, rfl, hpl9, 0, ((18 * m : Nat) : Int), 18, m, by rw [hpl], rg18 m (by omega), ?_⟩
  refine for_it (walk_rangeC (lo := 0) (c := 18) (n := m)) (fun i σ H' => (∃ y3 : Option V, σ = [some (.str x), some (.int ((NumText.digitsVal (P.take (18 * i)) : Nat) : Int)), some (.str pd), y3]) ∧ H' = H1) ⟨⟨_, rfl⟩, rfl⟩ (fun _ _ _ _ _ => trivial) (fun i v σ H2 H3 hi hP2 hY => ?_) (fun σ H2 hP2 => ?_)
  · obtain ⟨⟨y3, rfl⟩, rfl⟩ := hP2
    obtain ⟨rfl, rfl⟩ := hY
    have ei : (0 : Int) + ((i : Nat) : Int) * 18 = ((18 * i : Nat) : Int) := by omega
    show gName 3 (V.int ((0 : Int) + ((i : Nat) : Int) * 18)) _ _ _
    rw [ei]
    obtain ⟨ch, hch⟩ : ∃ ch : Str, ch = cutS pd (some ((18 * i : Nat) : Int)) (some ((18 * i + 18 : Nat) : Int)) := ⟨_, rfl⟩
    have hct : TL.tl ch = (P.drop (18 * i)).take 18 := by
      rw [hch, cutS_tl (by omega), hpt]
      congr 1
      omega
    have hcl : (TL.tl ch).length = 18 := by
      rw [hct, List.length_take, List.length_drop, hPl]
      omega
    have hcd : NumText.AllDigits (TL.tl ch) := fun c hc => hPd c (by
      rw [hct] at hc
      exact List.mem_of_mem_drop (List.mem_of_mem_take hc))
    have hcn : TL.tl ch ≠ [] := fun z => by
      rw [z] at hcl
      cases hcl
    have hcL : ch.length = 18 := by rw [TL.len_tl]; exact hcl
    have hval : PySem.intText? ch = some ((NumText.digitsVal (TL.tl ch) : Nat) : Int) := intText_digits hcd hcn (by omega)
    have e18 : ((18 * i : Nat) : Int) + 18 = ((18 * i + 18 : Nat) : Int) := by omega
    refine ⟨_, rfl, _, _, rfl, rfl, .inr ⟨by decide, by decide⟩, _, rfl, _, rfl, _, rfl, _, rfl, _, _, rfl, rfl, _, rfl, pd, rfl, hpl9, ?_⟩
    show ∃ a n, _
    rw [e18, ← hch]
    refine ⟨ch, _, rfl, hval, by omega, _, _, rfl, rfl, ?_⟩
    refine ⟨⟨some (.int ((18 * i : Nat) : Int)), ?_⟩, rfl⟩
    have etk : P.take (18 * (i + 1)) = P.take (18 * i) ++ TL.tl ch := by
      rw [hct, show 18 * (i + 1) = 18 * i + 18 by omega, List.take_add]
    have e9 : ((NumText.digitsVal (P.take (18 * (i + 1))) : Nat) : Int) = ((NumText.digitsVal (P.take (18 * i)) : Nat) : Int) * 1000000000000000000 + ((NumText.digitsVal (TL.tl ch) : Nat) : Int) := by
      rw [etk, digitsVal_app, hcl, Int.natCast_add, Int.natCast_mul]
      rfl
    rw [e9]
    rfl
  obtain ⟨⟨y3, rfl⟩, rfl⟩ := hP2
  have ev : NumText.digitsVal (P.take (18 * m)) = NumText.digitsVal (TL.tl x) := by
    rw [← hPl, List.take_length, hP, digitsVal_pad]
  have hq := q H2 S1
  rw [hnum, ← ev] at hq
  exact ⟨_, rfl, hq⟩
noncomputable abbrev LV_word_text : Nat := 2
noncomputable def sp_word_text : Sp := fun vs H Q _ => ∃ (u : Addr) (ws : List Int), vs = [.ref u] ∧ H u = some (.tup (ws.map V.int)) ∧ ws.length ≤ 1000 ∧ (∀ x ∈ ws, 0 ≤ x ∧ x < 1000000000000000000) ∧ ∀ H', Same H H' → Q (.str (wordT ws)) H'
theorem ok_word_text {f : Addr} {fd : FuncData} (F : Fun K "word_text" "word_text" s_word_text f fd) (Z : Bl mg) (G_figures_of : Kn P w K mg base "figures_of" P_figures_of LV_figures_of sp_figures_of) : FnOk P w K mg base CX0 LV_word_text f fd P_word_text sp_word_text := by
  refine F.ok sc_word_text (fun vs H Q E h => ?_) (fun cdv A outer s H vs Q E hr h => ?_)
  · obtain ⟨u, ws, rfl, _⟩ := h
    rfl
  obtain ⟨u, ws, rfl, eu, hl, hw, q⟩ := h
  refine ⟨_, (pss_cons (ps_if (pt_not (pt_truth (pv 0) (by intro _; rfl))) (pss_one (ps_ret (pe_const Z.c_BARE (by rfl)))) pss_nil)
    (pss_one (ps_ret (pe_join pe_str (pe_lcN (own := [("weight", 1)]) (g := (gName 1)) (tt := tYes) (by rfl) sc_word_text.nd (pi_tup (pv 0)) (blkOk_by (own := [("weight", 1)]) (N := N_word_text) (sc := defScope s_word_text) (by decide +kernel)) (fun _ _ _ _ _ => (pg_name (i := 1) sc_word_text.nd rfl (Or.inl rfl))) (fun _ _ _ _ _ => pts_nil) (fun _ _ _ _ _ => (pe_own G_figures_of (hr.mono (by decide)) (by rfl) (pa_cons (pv 1) pa_nil)))))))), ?_⟩
  refine ⟨_, rfl, _, .inr (.inl ⟨_, SqT.of eu, rfl⟩), ?_⟩
  by_cases hws : ws = []
  · subst hws
    refine ite2 (fun _ => ?_) (fun z => absurd rfl z)
    exact q H (Same.refl _)
  have e0 : (ws.map V.int).isEmpty = false := by
    cases ws with
    | nil => exact absurd rfl hws
    | cons a b => rfl
  rw [e0]
  refine ite2 (fun z => absurd z (by decide)) (fun _ => ?_)
  refine ⟨⟨_, rfl⟩, _, rfl, u, rfl, ⟨_, SqT.of eu⟩, fun D nD => ?_⟩
  refine lc_tup (K := K) (a := u) (xs := ws.map V.int) (fun i H' => Same H H' ∧ H' D = some (.lst (((ws.take i).map figT).map V.str))) ⟨same_upd nD, upd_same⟩ (fun i H' _ hP => SqT.of (hP.1 _ _ eu)) (fun i v H1 hv hP => ?_) (fun H1 hP => ?_)
  · obtain ⟨S1, eD⟩ := hP
    rw [List.getElem?_map] at hv
    cases en : ws[i]? with
    | none => rw [en] at hv; cases hv
    | some m =>
      rw [en] at hv
      have hv : V.int m = v := Option.some.inj hv
      subst hv
      obtain ⟨m0, m1⟩ := hw m (List.mem_of_getElem? en)
      refine ⟨rfl, _, rfl, m, rfl, m0, m1, fun H2 S2 => ⟨_, S2 _ _ eD, szl ?_, Same.of_upd (S1.trans S2) nD, ?_⟩⟩
      · rw [List.length_map, List.length_map, List.length_take]
        omega
      · rw [upd_same, List.take_add_one, en, List.map_append, List.map_append]
        rfl
  obtain ⟨S1, eD⟩ := hP
  rw [List.length_map, List.take_length] at eD
  refine ⟨_, D, ws.map figT, rfl, rfl, .inl (SqL.of eD), ?_, ?_⟩
  · have h1 := sum_len (m := 18) (ps := ws.map figT) fun p hp => by
      obtain ⟨m, hm, rfl⟩ := List.mem_map.mp hp
      exact fig_len (hw m hm).1 (hw m hm).2
    rw [List.length_map] at h1
    rw [List.length_map]
    show _ + ws.length * 1 ≤ _
    omega
  · have hq := q H1 S1
    unfold wordT at hq
    rw [if_neg hws] at hq
    exact hq
noncomputable abbrev LV_net_text : Nat := 1
noncomputable def sp_net_text : Sp := fun vs H Q _ => ∃ (a : Addr) (k : Nat) (N : List (Key × Key)), vs = [.ref a] ∧ Dt H k (.ref a) (netD N) ∧ N.length ≤ 100 ∧ (∀ p ∈ N, KeyOk p.1 ∧ KeyOk p.2) ∧ ∀ H', Same H H' → Q (.str (netT N)) H'
theorem ok_net_text {f : Addr} {fd : FuncData} (F : Fun K "net_text" "net_text" s_net_text f fd) (Z : Bl mg) : FnOk P w K mg base CX0 LV_net_text f fd P_net_text sp_net_text := by
  refine F.ok sc_net_text (fun vs H Q E h => ?_) (fun cdv A outer s H vs Q E hr h => ?_)
  · obtain ⟨a, k, N, rfl, _⟩ := h
    rfl
  obtain ⟨a, k, N, rfl, hN, hl, hz, q⟩ := h
  refine ⟨_, (pss_one (ps_ret (pe_join pe_str (pe_lcN (own := [("left", 1), ("right", 2)]) (g := (gTup K 2 (gCons (gName 1) (gCons (gName 2) gNil)))) (tt := tYes) (by rfl) sc_net_text.nd (pi_tup (pv 0)) (blkOk_by (own := [("left", 1), ("right", 2)]) (N := N_net_text) (sc := defScope s_net_text) (by decide +kernel)) (fun _ _ _ _ _ => (pg_tup rfl (pgs_cons (pg_name (i := 1) sc_net_text.nd rfl (Or.inl rfl)) (pgs_cons (pg_name (i := 2) sc_net_text.nd rfl (Or.inl rfl)) pgs_nil)))) (fun _ _ _ _ _ => pts_nil) (fun _ _ _ _ _ => (pe_joinedN (PJ.cons (pe_fmt (pv 1)) (PJ.cons pe_str (PJ.cons (pe_fmt (pv 2)) PJ.nil))))))))), ?_⟩
  obtain ⟨us, ea, hul, hat⟩ := net_get hN
  refine ⟨⟨_, rfl⟩, _, rfl, a, rfl, ⟨_, SqT.of ea⟩, fun D nD => ?_⟩
  refine lc_tup (K := K) (a := a) (xs := us) (fun i H' => Same H H' ∧ H' D = some (.lst (((N.take i).map lineT).map V.str))) ⟨same_upd nD, upd_same⟩ (fun i H' _ hP => SqT.of (hP.1 _ _ ea)) (fun i v H1 hv hP => ?_) (fun H1 hP => ?_)
  · obtain ⟨S1, eD⟩ := hP
    have hiN : i < N.length := by rw [← hul]; exact (List.getElem?_eq_some_iff.mp hv).1
    have hi := List.getElem?_eq_getElem hiN
    obtain ⟨pq, eu, eq⟩ := hat i _ hi
    rw [eu] at hv
    have hv : V.ref pq = v := Option.some.inj hv
    subst hv
    obtain ⟨k1, k2⟩ := hz _ (List.getElem_mem hiN)
    have eq1 := S1 _ _ eq
    have l1 := key_len k1
    have l2 := key_len k2
    have lz := line_len k1 k2
    refine ⟨pq, _, rfl, SqT.of eq1, rfl, _, _, rfl, _, _, rfl, rfl, rfl, ?_⟩
    have b9 : ∀ {n : Nat}, n ≤ 50 → n ≤ sizeLine := fun h => by rw [sizeLine_eq]; omega
    have lsp : ((" " : Str)).length = 1 := by rw [sp_eq]; rfl
    have la : ∀ a b : Str, (a ++ b).length = a.length + b.length := fun a b => by rw [TL.len_tl, TL.tl_append, List.length_append, ← TL.len_tl, ← TL.len_tl]
    have l0 : (Str.empty : Str).length = 0 := rfl
    refine ⟨_, rfl, fmtK k1 ⟨_, rfl, b9 ?_, ⟨_, rfl, b9 ?_, _, rfl, fmtK k2 ⟨_, rfl, b9 ?_, ?_⟩⟩⟩⟩
    · rw [la, l0]; omega
    · rw [la, la, l0, lsp]; omega
    · rw [la, la, la, l0, lsp]; omega
    refine ⟨_, eD, szl ?_, Same.of_upd S1 nD, ?_⟩
    · rw [List.length_map, List.length_map, List.length_take]
      omega
    · rw [upd_same, List.take_add_one, hi, List.map_append, List.map_append]
      rfl
  obtain ⟨S1, eD⟩ := hP
  rw [hul, List.take_length] at eD
  refine ⟨_, D, N.map lineT, rfl, rfl, .inl (SqL.of eD), ?_, ?_⟩
  · have h1 := sum_len (m := 37) (ps := N.map lineT) fun p hp => by
      obtain ⟨m, hm, rfl⟩ := List.mem_map.mp hp
      exact line_len (hz m hm).1 (hz m hm).2
    rw [List.length_map] at h1
    rw [List.length_map]
    show _ + N.length * 1 ≤ _
    omega
  · exact q H1 S1
noncomputable abbrev LV_word_in : Nat := 6
noncomputable def wPart : Option Nat → Bool
  | some n => decide (1 ≤ n)
  | none => false
noncomputable def wordR (x : Str) : Option (List Int) := if x = ("-" : Str) then some [] else if ((Txt.split x (" " : Str)).map numT).all wPart then some (((Txt.split x (" " : Str)).map numT).map fun o => ((o.getD 0 : Nat) : Int)) else none
noncomputable def onD : Option Nat → PyData
  | none => .none
  | some n => .int (n : Int)
theorem onV_dt (H : Hp) : ∀ o : Option Nat, Dt H 0 (onV o) (onD o)
  | none => .non
  | some n => .int _
theorem onD_num : ∀ o : Option Nat, isNumB (onD o) = o.isSome
  | none => rfl
  | some n => rfl
theorem cut_640 {x : Str} (hx : x.length ≤ 640) {c : Nat} (hc : c < 256) : (Txt.split x ⟨#[c]⟩).length ≤ 641 := by
  rw [cut_len x c hc]
  have h1 := List.count_le_length (a := c) (l := TL.tl x)
  rw [← TL.len_tl] at h1
  omega
noncomputable def sp_word_in (K : PySem.W.Frag) : Sp := fun vs H Q E => ∃ x : Str, vs = [.str x] ∧ x.length ≤ 640 ∧
  (wordR x = none → ∀ (C d : Addr) (H' : Hp), NmC K "BadRow" C → Same H H' → H' d = some (.xd [("what", .int 0)]) → E (.ref C) (some d) H') ∧
  (∀ ws, wordR x = some ws → ∀ (p : Addr) (H' : Hp), Same H H' → H' p = some (.tup (ws.map V.int)) → Q (.ref p) H')
theorem ok_word_in {f : Addr} {fd : FuncData} (F : Fun K "word_in" "word_in" s_word_in f fd) (Z : Bl mg) (X_BadRow : ExK P w K mg base "BadRow" "ValueError") (G_is_number : Kn P w K mg base "is_number" P_is_number LV_is_number sp_is_number) (G_number_in : Kn P w K mg base "number_in" P_number_in LV_number_in sp_number_in) : FnOk P w K mg base (L2.CX P w) LV_word_in f fd P_word_in (sp_word_in K) := by
  obtain ⟨C_BadRow, fI_BadRow, nid_BadRow, iid_BadRow, bm_BadRow, fd_BadRow, F_BadRow, m_BadRow, _, _⟩ := id X_BadRow
  refine okX_mk F sc_word_in (fun vs H Q E h => ?_) (fun cdv A outer s0 H vs Q E hr tk pt h => ?_)
  · obtain ⟨x, rfl, _⟩ := h
    rfl
  obtain ⟨x, rfl, hx, qX, q⟩ := h
  refine ⟨_, (pss_cons (ps_if (pt_cmpR op_eq (pv 0) (pe_const Z.c_BARE (by rfl)) (nomark _)) (pss_one (ps_ret (pe_tupN pa_nil))) pss_nil)
    (pss_cons (ps_setLcN (i := 1) (own := [("part", 2)]) (g := (gName 2)) (tt := tYes) (by rfl) sc_word_in.nd rfl rfl (sw_true rfl rfl rfl (by decide +kernel)) (pi_list (pe_split (pv 0) pe_str)) (blkOk_by (own := [("part", 2)]) (N := N_word_in) (sc := defScope s_word_in) (by decide +kernel)) (fun _ _ _ _ _ => (pg_name (i := 2) sc_word_in.nd rfl (Or.inl rfl))) (fun _ _ _ _ _ => pts_nil) (fun _ _ _ _ _ => (pe_own G_number_in (hr.mono (by decide)) (by rfl) (pa_cons (pv 2) pa_nil))))
    (pss_cons (ps_if (pt_not (pt_val (pe_callB (allL (K := K) rfl) (by rfl) Z.all (by decide +kernel) (pa_cons (pe_lcN (own := [("weight", 3)]) (g := (gName 3)) (tt := tYes) (by rfl) sc_word_in.nd (pi_list (pv 1)) (blkOk_by (own := [("weight", 3)]) (N := N_word_in) (sc := defScope s_word_in) (by decide +kernel)) (fun _ _ _ _ _ => (pg_name (i := 3) sc_word_in.nd rfl (Or.inl rfl))) (fun _ _ _ _ _ => pts_nil) (fun _ _ _ _ _ => (pe_and (pe_own G_is_number (hr.mono (by decide)) (by rfl) (pa_cons (pv 3) pa_nil)) (pe_one (pe_cmpR op_ge (pv 3) pe_int (nomark _)))))) pa_nil)))) (pss_one (ps_raiseK X_BadRow (hr.mono (by decide)) rfl tk (by rfl) (pa_cons pe_int pa_nil))) pss_nil)
    (pss_one (ps_ret (pe_callTy (call_tupleN (K := K)) (by rfl) Z.tuple (by decide +kernel) (pa_cons (pv 1) pa_nil))))))), ?_⟩
  have hx9 : x.length + 2 ≤ sizeLine := by rw [sizeLine_eq]; omega
  refine ⟨_, rfl, rfl, _, rfl, ?_⟩
  by_cases hb : x = ("-" : Str)
  · refine iteD (congrArg V.str hb) ?_
    have hr9 : wordR x = some [] := by
      unfold wordR
      rw [if_pos hb]
    exact ⟨(by show 0 ≤ sizeLine; exact Nat.zero_le _), fun p H1 np S1 ep => q [] hr9 p H1 S1 ep⟩
  refine iteDN (fun e => hb (V.str.inj e)) ?_
  obtain ⟨ps, hps⟩ : ∃ ps, ps = Txt.split x (" " : Str) := ⟨_, rfl⟩
  have hpl : ps.length ≤ 641 := by
    rw [hps, sp_eq]
    exact cut_640 hx (by decide)
  have hpp : ∀ p ∈ ps, p.length ≤ 640 := fun p hp => by
    rw [hps, sp_eq] at hp
    exact Nat.le_trans (cut_part (by decide) hp) hx
  have hwr : wordR x = if (ps.map numT).all wPart then some ((ps.map numT).map fun o => ((o.getD 0 : Nat) : Int)) else none := by
    unfold wordR
    rw [if_neg hb, hps]
  refine ⟨_, rfl, ⟨_, rfl⟩, x, _, rfl, rfl, by decide +kernel, hx9, fun l nl => ?_⟩
  have S1 : Same H (upd H l (.lst (ps.map V.str))) := same_upd nl
  have el : upd H l (.lst (ps.map V.str)) l = some (.lst (ps.map V.str)) := upd_same
  rw [← hps]
  generalize upd H l (.lst (ps.map V.str)) = H1 at S1 el ⊢
  refine ⟨l, rfl, ⟨_, SqL.of el⟩, fun D nD => ?_⟩
  refine lc_list (K := K) (a := l) (xs := ps.map V.str) (fun i H' => Same H1 H' ∧ H' D = some (.lst (((ps.take i).map numT).map onV))) ⟨same_upd nD, upd_same⟩ (fun i H' _ hP => SqL.of (hP.1 _ _ el)) (fun i v H2 hv hP => ?_) (fun H2 hP => ?_)
  · obtain ⟨S2, eD⟩ := hP
    rw [List.getElem?_map] at hv
    cases en : ps[i]? with
    | none => rw [en] at hv; cases hv
    | some p =>
      rw [en] at hv
      have hv : V.str p = v := Option.some.inj hv
      subst hv
      refine ⟨rfl, _, rfl, p, rfl, hpp p (List.mem_of_getElem? en), fun H3 S3 => ⟨_, S3 _ _ eD, szl ?_, Same.of_upd (S2.trans S3) nD, ?_⟩⟩
      · rw [List.length_map, List.length_map, List.length_take]
        omega
      · rw [upd_same, List.take_add_one, en, List.map_append, List.map_append]
        rfl
  obtain ⟨S2, eD⟩ := hP
  rw [List.length_map, List.take_length] at eD
  obtain ⟨os, hos⟩ : ∃ os, os = ps.map numT := ⟨_, rfl⟩
  have hol : os.length ≤ 641 := by rw [hos, List.length_map]; exact hpl
  rw [← hos] at eD hwr
  refine ⟨_, rfl, D, rfl, ⟨_, SqL.of eD⟩, fun D2 nD2 => ?_⟩
  refine lc_list (K := K) (a := D) (xs := os.map onV) (fun i H' => Same H2 H' ∧ H' D2 = some (.lst (((os.take i).map wPart).map V.bl))) ⟨same_upd nD2, upd_same⟩ (fun i H' _ hP => SqL.of (hP.1 _ _ eD)) (fun i v H3 hv hP => ?_) (fun H3 hP => ?_)
  · obtain ⟨S3, eD2⟩ := hP
    rw [List.getElem?_map] at hv
    cases en : os[i]? with
    | none => rw [en] at hv; cases hv
    | some o =>
      rw [en] at hv
      have hv : onV o = v := Option.some.inj hv
      subst hv
      have fin : ∀ b : Bool, b = wPart o → ∃ acc, H3 D2 = some (.lst acc) ∧ acc.length < sizeLine ∧ Same H2 (upd H3 D2 (.lst (acc ++ [V.bl b]))) ∧ upd H3 D2 (.lst (acc ++ [V.bl b])) D2 = some (.lst (((os.take (i + 1)).map wPart).map V.bl)) := fun b hb => by
        refine ⟨_, eD2, szl ?_, Same.of_upd S3 nD2, ?_⟩
        · rw [List.length_map, List.length_map, List.length_take]
          omega
        · rw [upd_same, List.take_add_one, en, List.map_append, List.map_append, hb]
          rfl
      refine ⟨rfl, _, rfl, _, 0, onD o, rfl, onV_dt _ o, _, rfl, ?_⟩
      rw [onD_num]
      cases o with
      | none => exact ite2 (fun z => absurd z (by decide)) (fun _ => fin false rfl)
      | some n =>
        refine ite2 (fun _ => ?_) (fun z => absurd rfl z)
        exact ⟨_, rfl, _, _, rfl, rfl, fin _ (by
          show decide ((1 : Int) ≤ (n : Int)) = decide (1 ≤ n)
          exact decide_eq_decide.mpr (by omega))⟩
  obtain ⟨S3, eD2⟩ := hP
  rw [List.length_map, List.take_length] at eD2
  refine ⟨D2, _, rfl, SqL.of eD2, ?_⟩
  refine ⟨_, rfl, ?_⟩
  rw [List.all_map]
  by_cases ha : os.all wPart = true
  case neg =>
    have ha' : (os.all (id ∘ wPart)) = false := by
      have : os.all wPart = false := by simpa using ha
      exact this
    rw [ha']
    rw [if_neg ha] at hwr
    refine ite2 (fun _ => ?_) (fun z => absurd rfl z)
    exact ⟨_, rfl, fun C d hC nd => qX hwr C d _ hC (((S1.trans S2).trans S3).trans (same_upd nd)) upd_same⟩
  have ha' : (os.all (id ∘ wPart)) = true := ha
  rw [ha']
  rw [if_pos ha] at hwr
  refine ite2 (fun z => absurd z (by decide)) (fun _ => ?_)
  have emv : os.map onV = (os.map fun o => ((o.getD 0 : Nat) : Int)).map V.int := by
    rw [List.map_map]
    refine List.map_congr_left fun o ho => ?_
    have := List.all_eq_true.mp ha o ho
    cases o with
    | none => cases this
    | some n => rfl
  have eD3 := S3 _ _ eD
  rw [emv] at eD3
  exact ⟨_, rfl, D, _, rfl, SqL.of eD3, fun p H4 np S4 ep => q _ hwr p H4 (((S1.trans S2).trans S3).trans S4) ep⟩
noncomputable abbrev LV_lead_in : Nat := 3
noncomputable def leadV (x : Str) : V := if nameB (.str x) then .str x else onV (numT x)
noncomputable def sp_lead_in : Sp := fun vs H Q _ => ∃ x : Str, vs = [.str x] ∧ x.length ≤ 640 ∧ ∀ H', Same H H' → Q (leadV x) H'
theorem ok_lead_in {f : Addr} {fd : FuncData} (F : Fun K "lead_in" "lead_in" s_lead_in f fd) (Z : Bl mg) (G_is_name : Kn P w K mg base "is_name" P_is_name LV_is_name sp_is_name) (G_number_in : Kn P w K mg base "number_in" P_number_in LV_number_in sp_number_in) : FnOk P w K mg base CX0 LV_lead_in f fd P_lead_in sp_lead_in := by
  refine F.ok sc_lead_in (fun vs H Q E h => ?_) (fun cdv A outer s H vs Q E hr h => ?_)
  · obtain ⟨x, rfl, _⟩ := h
    rfl
  obtain ⟨x, rfl, hx, q⟩ := h
  refine ⟨_, (pss_cons (ps_if (pt_val (pe_own G_is_name (hr.mono (by decide)) (by rfl) (pa_cons (pv 0) pa_nil))) (pss_one (ps_ret (pv 0))) pss_nil)
    (pss_one (ps_ret (pe_own G_number_in (hr.mono (by decide)) (by rfl) (pa_cons (pv 0) pa_nil))))), ?_⟩
  refine ⟨_, rfl, .str x, 0, .str x, rfl, .str x, (fun z e => by cases e; omega), fun H1 S1 => ⟨_, rfl, ?_⟩⟩
  by_cases c : nameB (.str x) = true
  · rw [c]
    refine ite2 (fun _ => ?_) (fun z => absurd rfl z)
    have hq := q H1 S1
    unfold leadV at hq
    rw [if_pos c] at hq
    exact ⟨_, rfl, hq⟩
  · have c' : nameB (.str x) = false := by simpa using c
    rw [c']
    refine ite2 (fun z => absurd z (by decide)) (fun _ => ?_)
    refine ⟨_, rfl, x, rfl, hx, fun H2 S2 => ?_⟩
    have hq := q H2 (S1.trans S2)
    unfold leadV at hq
    rw [if_neg c] at hq
    exact hq
noncomputable abbrev LV_is_lead_among : Nat := 2
/-- a lead among so many balances, further on than one -/
noncomputable def leadR (k m : Nat) (x : Str) : Option Key := if nameB (.str x) then some (.inr x) else match numT x with
  | some n => if k < n ∧ n < m then some (.inl (n : Int)) else none
  | none => none
noncomputable def sp_is_lead_among : Sp := fun vs H Q _ => ∃ (x : Str) (k m : Nat), vs = [leadV x, .int (k : Int), .int (m : Int)] ∧ x.length ≤ 640 ∧ ∀ H', Same H H' → Q (.bl (leadR k m x).isSome) H'
theorem ok_is_lead_among {f : Addr} {fd : FuncData} (F : Fun K "is_lead_among" "is_lead_among" s_is_lead_among f fd) (Z : Bl mg) (G_is_number : Kn P w K mg base "is_number" P_is_number LV_is_number sp_is_number) (G_is_name : Kn P w K mg base "is_name" P_is_name LV_is_name sp_is_name) : FnOk P w K mg base CX0 LV_is_lead_among f fd P_is_lead_among sp_is_lead_among := by
  refine F.ok sc_is_lead_among (fun vs H Q E h => ?_) (fun cdv A outer s H vs Q E hr h => ?_)
  · obtain ⟨x, k, m, rfl, _⟩ := h
    rfl
  obtain ⟨x, k, m, rfl, hx, q⟩ := h
  refine ⟨_, (pss_cons (ps_if (pt_val (pe_own G_is_number (hr.mono (by decide)) (by rfl) (pa_cons (pv 0) pa_nil))) (pss_one (ps_ret (pe_chain op_lt op_lt (pv 1) (pv 0) (pv 2)))) pss_nil)
    (pss_one (ps_ret (pe_own G_is_name (hr.mono (by decide)) (by rfl) (pa_cons (pv 0) pa_nil))))), ?_⟩
  unfold leadV
  by_cases c : nameB (.str x) = true
  · rw [if_pos c]
    have hl : (leadR k m x).isSome = true := by
      unfold leadR
      rw [if_pos c]
      rfl
    rw [hl] at q
    refine ⟨_, rfl, _, 0, .str x, rfl, .str x, _, rfl, ite2 (fun z => absurd (show false = true from z) (by decide)) (fun _ => ?_)⟩
    refine ⟨_, rfl, .str x, 0, .str x, rfl, .str x, (fun z e => by cases e; omega), fun H1 S1 => ?_⟩
    rw [c]
    exact q H1 S1
  · rw [if_neg c]
    cases hn : numT x with
    | none =>
      have hl : (leadR k m x).isSome = false := by
        unfold leadR
        rw [if_neg c, hn]
        rfl
      rw [hl] at q
      refine ⟨_, rfl, _, 0, .none, rfl, .non, _, rfl, ite2 (fun z => absurd z (by decide)) (fun _ => ?_)⟩
      exact ⟨_, rfl, .non, 0, .none, rfl, .non, (fun z e => by cases e), fun H1 S1 => q H1 S1⟩
    | some n =>
      have hl : (leadR k m x).isSome = (decide ((k : Int) < (n : Int)) && decide ((n : Int) < (m : Int))) := by
        unfold leadR
        rw [if_neg c, hn]
        show (if k < n ∧ n < m then some (Sum.inl (n : Int) : Key) else none).isSome = _
        by_cases h1 : k < n
        · by_cases h2 : n < m
          · rw [if_pos ⟨h1, h2⟩, decide_eq_true (by omega), decide_eq_true (by omega)]
            rfl
          · rw [if_neg (fun z => h2 z.2), decide_eq_false (p := (n : Int) < (m : Int)) (by omega), Bool.and_false]
            rfl
        · rw [if_neg (fun z => h1 z.1), decide_eq_false (p := (k : Int) < (n : Int)) (by omega), Bool.false_and]
          rfl
      rw [hl] at q
      refine ⟨_, rfl, _, 0, .int n, rfl, .int _, _, rfl, ite2 (fun _ => ?_) (fun z => absurd rfl z)⟩
      refine ⟨_, rfl, _, rfl, _, _, rfl, rfl, _, rfl, ?_⟩
      by_cases h1 : (k : Int) < (n : Int)
      · rw [decide_eq_true h1] at q ⊢
        exact ite2 (fun _ => ⟨_, rfl, _, _, rfl, rfl, q H (Same.refl _)⟩) (fun z => absurd rfl z)
      · rw [decide_eq_false h1] at q ⊢
        exact ite2 (fun z => absurd z (by decide)) (fun _ => q H (Same.refl _))
noncomputable abbrev LV_net_in : Nat := 6
noncomputable def rowR (k m : Nat) (l : Str) : Option (Key × Key) := match Txt.split l (" " : Str) with
  | [a, b] => match leadR k m a, leadR k m b with
    | some x, some y => some (x, y)
    | _, _ => none
  | _ => none
noncomputable def rowsT (x : Str) : List Str := Txt.split x ("\n" : Str)
noncomputable def NetPre (x : Str) (N : List (Key × Key)) (i : Nat) : Prop := N.length = i ∧ ∀ (j : Nat) (p : Key × Key), N[j]? = some p → ∃ l, (rowsT x)[j]? = some l ∧ rowR j (rowsT x).length l = some p
inductive NetRes (x : Str) : Nat ⊕ List (Key × Key) → Prop
  | bad (k : Nat) (l : Str) (N : List (Key × Key)) : (rowsT x)[k]? = some l → rowR k (rowsT x).length l = none → NetPre x N k → NetRes x (.inl k)
  | lost (N : List (Key × Key)) (j : Nat) : NetPre x N (rowsT x).length → 1 ≤ j → j < (rowsT x).length → (j : Int) ∉ ledK N → (∀ i : Nat, 1 ≤ i → i < j → (i : Int) ∈ ledK N) → NetRes x (.inl j)
  | ok (N : List (Key × Key)) : NetPre x N (rowsT x).length → (∀ i : Nat, 1 ≤ i → i < (rowsT x).length → (i : Int) ∈ ledK N) → NetRes x (.inr N)
theorem lead_val {k m : Nat} {x : Str} {y : Key} (h : leadR k m x = some y) : leadV x = kV y := by
  unfold leadR at h
  unfold leadV
  by_cases c : nameB (.str x) = true
  · rw [if_pos c] at h ⊢
    cases h
    rfl
  · rw [if_neg c] at h ⊢
    cases hn : numT x with
    | none => rw [hn] at h; cases h
    | some n =>
      rw [hn] at h
      have h : (if k < n ∧ n < m then some (Sum.inl (n : Int) : Key) else none) = some y := h
      split at h
      · cases h
        rfl
      · cases h
theorem pre_put {x : Str} {N : List (Key × Key)} {i : Nat} {l : Str} {p : Key × Key} (h : NetPre x N i) (hl : (rowsT x)[i]? = some l) (hp : rowR i (rowsT x).length l = some p) : NetPre x (N ++ [p]) (i + 1) := ⟨by rw [List.length_append, h.1]; rfl, fun j r hj => by
  by_cases c : j < N.length
  · rw [List.getElem?_append_left c] at hj
    exact h.2 j r hj
  · rw [List.getElem?_append_right (by omega)] at hj
    have e0 : j - N.length = 0 := by
      have := (List.getElem?_eq_some_iff.mp hj).1
      have : ([p] : List (Key × Key)).length = 1 := rfl
      omega
    rw [e0] at hj
    cases hj
    have : j = i := by have := h.1; omega
    subst this
    exact ⟨l, hl, hp⟩⟩
theorem lead_ne {k m : Nat} {x : Str} {y : Key} (h : leadR k m x = some y) : 1 ≤ x.length := Classical.byContradiction fun c => by
  have e : TL.tl x = [] := List.eq_nil_of_length_eq_zero (by rw [← TL.len_tl]; omega)
  have ex : x = Str.empty := TL.ext_tl e
  subst ex
  have : leadR k m Str.empty = none := by
    unfold leadR
    rw [if_neg (by decide +kernel), show numT Str.empty = none by decide +kernel]
  rw [this] at h
  cases h
theorem rowR_get {k m : Nat} {l : Str} {p : Key × Key} (h : rowR k m l = some p) : ∃ a b, Txt.split l (" " : Str) = [a, b] ∧ leadR k m a = some p.1 ∧ leadR k m b = some p.2 := by
  unfold rowR at h
  split at h
  · rename_i a b e
    refine ⟨a, b, e, ?_⟩
    split at h
    · rename_i x y h1 h2
      cases h
      exact ⟨h1, h2⟩
    · cases h
  · cases h
theorem row_len {k m : Nat} {l : Str} {p : Key × Key} (h : rowR k m l = some p) : 3 ≤ l.length := by
  obtain ⟨a, b, e, h1, h2⟩ := rowR_get h
  have k1 := lead_ne h1
  have k2 := lead_ne h2
  rw [sp_eq] at e
  have hj := cut_lenJ l 32 (by decide)
  rw [e] at hj
  have hj : (TL.tl a).length + 1 + ((TL.tl b).length + 1 + 0) = (TL.tl l).length + 1 := hj
  rw [← TL.len_tl, ← TL.len_tl, ← TL.len_tl] at hj
  omega
theorem pre_len4 {x : Str} {N : List (Key × Key)} (h : NetPre x N (rowsT x).length) : 4 * N.length ≤ x.length + 1 := by
  have hj := cut_lenJ x 10 (by decide)
  have hr : Txt.split x ⟨#[10]⟩ = rowsT x := by unfold rowsT; rw [nl_eq]
  rw [hr] at hj
  have key : ∀ ls : List Str, (∀ l ∈ ls, 3 ≤ l.length) → 4 * ls.length ≤ lenJ (ls.map TL.tl) := by
    intro ls
    induction ls with
    | nil => intro _; exact Nat.le_refl 0
    | cons l ls ih =>
      intro hl
      have a := ih fun z hz => hl z (List.mem_cons_of_mem _ hz)
      have b := hl l List.mem_cons_self
      rw [TL.len_tl] at b
      show 4 * (ls.length + 1) ≤ ((TL.tl l).length + 1) + lenJ (ls.map TL.tl)
      omega
  have h4 := key (rowsT x) fun l hl => by
    obtain ⟨j, hj, e⟩ := List.mem_iff_getElem.mp hl
    have hjN : j < N.length := by rw [h.1]; exact hj
    obtain ⟨l', h1, h2⟩ := h.2 j _ (List.getElem?_eq_getElem hjN)
    rw [List.getElem?_eq_getElem hj, e] at h1
    have h1 : l = l' := Option.some.inj h1
    subst h1
    exact row_len h2
  rw [hj, ← TL.len_tl, ← h.1] at h4
  exact h4
theorem key_dt (H : Hp) : ∀ k : Key, Dt H 0 (kV k) (kD k)
  | .inl c => .int _
  | .inr z => .str _
theorem prs_dt {H : Hp} : ∀ {us : List V} {N : List (Key × Key)}, PrsAt H us N → DtA H 1 us (N.map pairD)
  | [], [], _ => .nil
  | [], _ :: _, h => nomatch h.1
  | _ :: _, [], h => nomatch h.1
  | v :: us, p :: N, h => by
    obtain ⟨q, h1, h2⟩ := h.2 0 p rfl
    have h1 : v = .ref q := Option.some.inj h1
    rw [h1]
    exact .cons (.tup (n := 0) h2 (by show 2 ≤ 50000; decide) (.cons (key_dt H p.1) (.cons (key_dt H p.2) .nil))) (prs_dt ⟨Nat.succ.inj h.1, fun i r e => h.2 (i + 1) r e⟩)
noncomputable def sp_net_in (K : PySem.W.Frag) : Sp := fun vs H Q E => ∃ x : Str, vs = [.str x] ∧ x.length ≤ 640 ∧
  (∀ k : Nat, NetRes x (.inl k) → ∀ (C d : Addr) (H' : Hp), NmC K "BadRow" C → Same H H' → H' d = some (.xd [("what", .int (k : Int))]) → E (.ref C) (some d) H') ∧
  (∀ N, NetRes x (.inr N) → ∀ (p : Addr) (H' : Hp), Same H H' → Dt H' 2 (.ref p) (netD N) → Q (.ref p) H')
theorem ok_net_in {f : Addr} {fd : FuncData} (F : Fun K "net_in" "net_in" s_net_in f fd) (Z : Bl mg) (X_BadRow : ExK P w K mg base "BadRow" "ValueError") (G_balances_led_to : Kn P w K mg base "balances_led_to" P_balances_led_to LV_balances_led_to sp_balances_led_to) (G_lead_in : Kn P w K mg base "lead_in" P_lead_in LV_lead_in sp_lead_in) (G_is_lead_among : Kn P w K mg base "is_lead_among" P_is_lead_among LV_is_lead_among sp_is_lead_among) : FnOk P w K mg base (L2.CX P w) LV_net_in f fd P_net_in (sp_net_in K) := by
  obtain ⟨C_BadRow, fI_BadRow, nid_BadRow, iid_BadRow, bm_BadRow, fd_BadRow, F_BadRow, m_BadRow, _, _⟩ := id X_BadRow
  refine okX_mk F sc_net_in (fun vs H Q E h => ?_) (fun cdv A outer s0 H vs Q E hr tk pt h => ?_)
  · obtain ⟨x, rfl, _⟩ := h
    rfl
  obtain ⟨x, rfl, hx, qX, q⟩ := h
  refine ⟨_, (pss_cons (ps_set (i := 1) sc_net_in.nd rfl (Or.inr rfl) (pe_split (pv 0) pe_str))
    (pss_cons (ps_set (i := 2) sc_net_in.nd rfl (Or.inl rfl) (pe_lstN pa_nil))
    (pss_cons (ps_for pt rfl (pi_enum (by rfl) Z.enumerate (pa_cons (pv 1) pa_nil)) (pg_tup rfl (pgs_cons (pg_name (i := 3) sc_net_in.nd rfl (Or.inr rfl)) (pgs_cons (pg_name (i := 4) sc_net_in.nd rfl (Or.inl rfl)) pgs_nil)))
    (pss_cons (ps_set (i := 5) sc_net_in.nd rfl (Or.inl rfl) (pe_callTy (call_tupleN (K := K)) (by rfl) Z.tuple (by decide +kernel) (pa_cons (pe_lcN (own := [("part", 8)]) (g := (gName 8)) (tt := tYes) (by rfl) sc_net_in.nd (pi_list (pe_split (pv 4) pe_str)) (blkOk_by (own := [("part", 8)]) (N := N_net_in) (sc := defScope s_net_in) (by decide +kernel)) (fun _ _ _ _ _ => (pg_name (i := 8) sc_net_in.nd rfl (Or.inl rfl))) (fun _ _ _ _ _ => pts_nil) (fun _ _ _ _ _ => (pe_own G_lead_in (hr.mono (by decide)) (by rfl) (pa_cons (pv 8) pa_nil)))) pa_nil)))
    (pss_cons (ps_if (PW.pt (pw_or (pt_cmpR op_ne (pe_callB (call_lenN (K := K)) (by rfl) Z.len (by decide +kernel) (pa_cons (pv 5) pa_nil)) pe_int (nomark _)) (pw_or1 (pt_not (pt_val (pe_callB (allL (K := K) rfl) (by rfl) Z.all (by decide +kernel) (pa_cons (pe_lcN (own := [("lead", 9)]) (g := (gName 9)) (tt := tYes) (by rfl) sc_net_in.nd ((pi_tupN (K := K)) (pv 5)) (blkOk_by (own := [("lead", 9)]) (N := N_net_in) (sc := defScope s_net_in) (by decide +kernel)) (fun _ _ _ _ _ => (pg_name (i := 9) sc_net_in.nd rfl (Or.inl rfl))) (fun _ _ _ _ _ => pts_nil) (fun _ _ _ _ _ => (pe_own G_is_lead_among (hr.mono (by decide)) (by rfl) (pa_cons (pv 9) (pa_cons (pv 3) (pa_cons (pe_callB (call_lenN (K := K)) (by rfl) Z.len (by decide +kernel) (pa_cons (pv 1) pa_nil)) pa_nil)))))) pa_nil))))))) (pss_one (ps_raiseK X_BadRow (hr.mono (by decide)) rfl tk (by rfl) (pa_cons (pv 3) pa_nil))) pss_nil)
    (pss_one (ps_expr (pe_bm PySem.F.plainAttrs_list PySem.F.slot_list_append PySem.F.type_list_append mt_append (pv 2) (pa_cons (pv 5) pa_nil)))))))
    (pss_cons (ps_set (i := 6) sc_net_in.nd rfl (Or.inl rfl) (pe_callTy (cr_setL (K := K) (w := w) rfl) (by rfl) Z.set (by decide +kernel) (pa_cons (pe_own G_balances_led_to (hr.mono (by decide)) (by rfl) (pa_cons (pv 2) pa_nil)) pa_nil)))
    (pss_cons (ps_for pt rfl (pi_range2 (by rfl) Z.range (pa_cons pe_int (pa_cons (pe_callB (call_lenN (K := K)) (by rfl) Z.len (by decide +kernel) (pa_cons (pv 2) pa_nil)) pa_nil))) (pg_name (i := 7) sc_net_in.nd rfl (Or.inl rfl))
    (pss_one (ps_if (pt_cmpR or_snotin (pv 7) (pv 6) (by rfl)) (pss_one (ps_raiseK X_BadRow (hr.mono (by decide)) rfl tk (by rfl) (pa_cons (pv 7) pa_nil))) pss_nil)))
    (pss_one (ps_ret (pe_callTy (call_tupleN (K := K)) (by rfl) Z.tuple (by decide +kernel) (pa_cons (pv 2) pa_nil))))))))), ?_⟩
  have hx9 : x.length + 2 ≤ sizeLine := by rw [sizeLine_eq]; omega
  obtain ⟨rs, hrs⟩ : ∃ rs, rs = rowsT x := ⟨_, rfl⟩
  have hrl : rs.length ≤ 641 := by
    rw [hrs]
    unfold rowsT
    rw [nl_eq]
    exact cut_640 hx (by decide)
  refine ⟨_, rfl, ⟨_, rfl⟩, x, _, rfl, rfl, by decide +kernel, hx9, fun l nl => ?_⟩
  have S1 : Same H (upd H l (.lst (rs.map V.str))) := same_upd nl
  have el : upd H l (.lst (rs.map V.str)) l = some (.lst (rs.map V.str)) := upd_same
  show gName _ _ _ (upd H l (.lst ((rowsT x).map V.str))) _
  rw [← hrs]
  generalize upd H l (.lst (rs.map V.str)) = H1 at S1 el ⊢
  refine ⟨(by show 0 ≤ sizeLine; exact Nat.zero_le _), fun pl H2 npl S2 epl => ?_⟩
  have el2 := S2 _ _ el
  have S12 := S1.trans S2
  have npl0 : H pl = none := S1.free npl
  have lpl : l ≠ pl := ne_of_none el npl
  have hm : (rowsT x).length = rs.length := by rw [hrs]
  refine ⟨_, rfl, l, _, rfl, SqL.of el2, for_it (walk_enum (K := K) (a := l) (xs := rs.map V.str)) (fun i σ H' => (∃ y3 y4 y5 : Option V, σ = [some (.str x), some (.ref l), some (.ref pl), y3, y4, y5, none, none, none, none]) ∧ Same H1 H' ∧ ∃ (us : List V) (N : List (Key × Key)), H' pl = some (.lst us) ∧ PrsAt H' us N ∧ NetPre x N i)
    ⟨⟨_, _, _, rfl⟩, S2, [], [], epl, ⟨rfl, fun i p h => by rw [List.getElem?_nil] at h; cases h⟩, rfl, fun i p h => by rw [List.getElem?_nil] at h; cases h⟩ (fun i σ H' _ hP => SqL.of (hP.2.1 _ _ el)) (fun i v σ H3 H4 hi hP hY => ?_) (fun σ H3 hP => ?_)⟩
  · obtain ⟨⟨y3, y4, y5, rfl⟩, S3, us, N, ep3, hpr, hpre⟩ := hP
    obtain ⟨T3, x1, x2, rfl, nT3, rfl, i1, i2⟩ := hY
    have i1 : (V.int (i : Nat)) = x1 := Option.some.inj i1
    subst i1
    obtain ⟨row, hrow, rfl⟩ : ∃ row, rs[i]? = some row ∧ x2 = .str row := by
      have i2 : (rs.map V.str)[i]? = some x2 := i2
      rw [List.getElem?_map] at i2
      cases en : rs[i]? with
      | none => rw [en] at i2; cases i2
      | some z =>
        rw [en] at i2
        exact ⟨z, rfl, (Option.some.inj i2).symm⟩
    have hrow' : (rowsT x)[i]? = some row := by rw [← hrs]; exact hrow
    have hrl9 : row.length ≤ 640 := by
      have hm := List.mem_of_getElem? hrow'
      unfold rowsT at hm
      rw [nl_eq] at hm
      exact Nat.le_trans (cut_part (by decide) hm) hx
    have ST : Same H3 (upd H3 T3 (.tup [.int (i : Nat), .str row])) := same_upd nT3
    have eT : upd H3 T3 (.tup [.int (i : Nat), .str row]) T3 = some (.tup [.int (i : Nat), .str row]) := upd_same
    generalize upd H3 T3 (.tup [.int (i : Nat), .str row]) = H4 at ST eT ⊢
    refine ⟨T3, _, rfl, SqT.of eT, rfl, _, _, rfl, _, _, rfl, rfl, ?_⟩
    obtain ⟨ps, hps⟩ : ∃ ps, ps = Txt.split row (" " : Str) := ⟨_, rfl⟩
    have hpp : ∀ p ∈ ps, p.length ≤ 640 := fun p hp => by
      rw [hps, sp_eq] at hp
      exact Nat.le_trans (cut_part (by decide) hp) hrl9
    have hpl : ps.length ≤ 641 := by
      rw [hps, sp_eq]
      exact cut_640 hrl9 (by decide)
    refine ⟨_, rfl, ⟨_, rfl⟩, row, _, rfl, rfl, by decide +kernel, by rw [sizeLine_eq]; omega, fun l2 nl2 => ?_⟩
    have S5 : Same H4 (upd H4 l2 (.lst (ps.map V.str))) := same_upd nl2
    have el5 : upd H4 l2 (.lst (ps.map V.str)) l2 = some (.lst (ps.map V.str)) := upd_same
    rw [← hps]
    generalize upd H4 l2 (.lst (ps.map V.str)) = H5 at S5 el5 ⊢
    refine ⟨l2, rfl, ⟨_, SqL.of el5⟩, fun D nD => ?_⟩
    refine lc_list (K := K) (a := l2) (xs := ps.map V.str) (fun j H' => Same H5 H' ∧ H' D = some (.lst ((ps.take j).map leadV))) ⟨same_upd nD, upd_same⟩ (fun j H' _ hP => SqL.of (hP.1 _ _ el5)) (fun j v H6 hv hP => ?_) (fun H6 hP => ?_)
    · obtain ⟨S6, eD⟩ := hP
      rw [List.getElem?_map] at hv
      cases en : ps[j]? with
      | none => rw [en] at hv; cases hv
      | some p =>
        rw [en] at hv
        have hv : V.str p = v := Option.some.inj hv
        subst hv
        refine ⟨rfl, _, rfl, p, rfl, hpp p (List.mem_of_getElem? en), fun H7 S7 => ⟨_, S7 _ _ eD, szl ?_, Same.of_upd (S6.trans S7) nD, ?_⟩⟩
        · rw [List.length_map, List.length_take]
          omega
        · rw [upd_same, List.take_add_one, en, List.map_append]
          rfl
    obtain ⟨S6, eD⟩ := hP
    rw [List.length_map, List.take_length] at eD
    refine ⟨D, _, rfl, SqL.of eD, fun pr H7 npr S7 epr => ?_⟩
    have S47 := S5.trans (S6.trans S7)
    have ep7 := S47 _ _ (ST _ _ ep3)
    have hpr7 := (hpr.same ST).same S47
    have S17 := S3.trans (ST.trans S47)
    have el7 := S17 _ _ el
    have hS7 : Same H H7 := S1.trans S17
    refine ⟨_, rfl, pr, _, rfl, .inr (SqT.of epr), rfl, _, rfl, ?_⟩
    rw [List.length_map]
    by_cases h2 : ps.length = 2
    case neg =>
      have hr : rowR i (rowsT x).length row = none := by
        unfold rowR
        rw [← hps]
        split
        · exact absurd rfl h2
        · rfl
      refine iteN (fun z => h2 (by have := V.int.inj z; omega)) ?_
      refine ite2 (fun _ => ?_) (fun z => absurd rfl z)
      exact ⟨_, rfl, _, rfl, fun C d hC nd => qX i (.bad i row N hrow' hr hpre) C d _ hC (hS7.trans (same_upd nd)) upd_same⟩
    rw [decide_eq_true (show V.int ((ps.length : Nat) : Int) = V.int 2 by rw [h2]; rfl)]
    refine ite2 (fun z => absurd z (by decide)) (fun _ => ?_)
    obtain ⟨pa, pb, rfl⟩ : ∃ pa pb, ps = [pa, pb] := by
      match ps, h2 with
      | [pa, pb], _ => exact ⟨pa, pb, rfl⟩
    refine ⟨_, rfl, pr, rfl, ⟨_, SqT.of epr⟩, fun D2 nD2 => ?_⟩
    refine lc_tup (K := K) (a := pr) (xs := [pa, pb].map leadV) (fun j H' => Same H7 H' ∧ H' D2 = some (.lst ((([pa, pb].take j).map fun p => (leadR i rs.length p).isSome).map V.bl))) ⟨same_upd nD2, upd_same⟩ (fun j H' _ hP => SqT.of (hP.1 _ _ epr)) (fun j v H8 hv hP => ?_) (fun H8 hP => ?_)
    · obtain ⟨S8, eD2⟩ := hP
      rw [List.getElem?_map] at hv
      cases en : [pa, pb][j]? with
      | none => rw [en] at hv; cases hv
      | some p =>
        rw [en] at hv
        have hv : leadV p = v := Option.some.inj hv
        subst hv
        refine ⟨rfl, _, rfl, _, rfl, _, rfl, l, _, rfl, .inl (SqL.of (S8 _ _ el7)), p, i, rs.length, by rw [List.length_map]; rfl, hpp p (List.mem_of_getElem? en), fun H9 S9 => ⟨_, S9 _ _ eD2, szl ?_, Same.of_upd (S8.trans S9) nD2, ?_⟩⟩
        · rw [List.length_map, List.length_map, List.length_take]
          show min j 2 < _
          omega
        · rw [upd_same, List.take_add_one, en, List.map_append, List.map_append]
          rfl
    obtain ⟨S8, eD2⟩ := hP
    have eD2 : H8 D2 = some (.lst ([(leadR i rs.length pa).isSome, (leadR i rs.length pb).isSome].map V.bl)) := eD2
    refine ⟨D2, _, rfl, SqL.of eD2, ?_⟩
    refine ⟨_, rfl, ?_⟩
    have hS8 := hS7.trans S8
    cases h1 : leadR i rs.length pa with
    | none =>
      have hr : rowR i (rowsT x).length row = none := by
        unfold rowR
        rw [← hps, hm]
        show (match leadR i rs.length pa, leadR i rs.length pb with | some x, some y => some (x, y) | _, _ => none) = none
        rw [h1]
      refine ite2 (fun _ => ?_) (fun z => absurd rfl z)
      exact ⟨_, rfl, _, rfl, fun C d hC nd => qX i (.bad i row N hrow' hr hpre) C d _ hC (hS8.trans (same_upd nd)) upd_same⟩
    | some ka =>
      cases h3 : leadR i rs.length pb with
      | none =>
        have hr : rowR i (rowsT x).length row = none := by
          unfold rowR
          rw [← hps, hm]
          show (match leadR i rs.length pa, leadR i rs.length pb with | some x, some y => some (x, y) | _, _ => none) = none
          rw [h1, h3]
        refine ite2 (fun _ => ?_) (fun z => absurd rfl z)
        exact ⟨_, rfl, _, rfl, fun C d hC nd => qX i (.bad i row N hrow' hr hpre) C d _ hC (hS8.trans (same_upd nd)) upd_same⟩
      | some kb =>
        have hr : rowR i (rowsT x).length row = some (ka, kb) := by
          unfold rowR
          rw [← hps, hm]
          show (match leadR i rs.length pa, leadR i rs.length pb with | some x, some y => some (x, y) | _, _ => none) = _
          rw [h1, h3]
        refine ite2 (fun z => absurd (show false = true from z) (by decide)) (fun _ => ?_)
        have epr8 : H8 pr = some (.tup [kV ka, kV kb]) := by
          rw [← lead_val h1, ← lead_val h3]
          exact S8 _ _ epr
        have ep8 := S8 _ _ ep7
        have hpr8 := hpr7.same S8
        have hus : us.length ≤ 641 := by
          have h5 := hpr8.1
          have h6 := hpre.1
          have h7 := (List.getElem?_eq_some_iff.mp hrow).1
          omega
        refine ⟨_, rfl, .inl ⟨rfl, _, SqL.of ep8⟩, _, rfl, pl, _, _, rfl, rfl, ep8, szl (by omega), ?_⟩
        refine ⟨⟨_, _, _, rfl⟩, Same.of_upd (S17.trans S8) npl, us ++ [.ref pr], N ++ [(ka, kb)], upd_same, (hpr8.put (p := (ka, kb)) epr8).upd ep8, pre_put hpre hrow' hr⟩
  obtain ⟨⟨y3, y4, y5, rfl⟩, S3, us, N, ep3, hpr, hpre⟩ := hP
  rw [List.length_map] at hpre
  have hpre : NetPre x N (rowsT x).length := by rw [hm]; exact hpre
  have h4 := pre_len4 hpre
  have hNl : N.length = rs.length := by rw [hpre.1, hm]
  have hS3 := S1.trans S3
  refine ⟨_, rfl, pl, us, N, rfl, ep3, hpr, by omega, fun lb H4 nlb S4 elb => ?_⟩
  refine ⟨lb, ledK N, rfl, SqL.of elb, ?_, fun st c H5 nst S5 est _ => ?_⟩
  · have := ledK_len N
    omega
  have hS5 := hS3.trans (S4.trans S5)
  have ep5 := S5 _ _ (S4 _ _ ep3)
  have hpr5 := (hpr.same S4).same S5
  have hul : us.length = rs.length := by rw [hpr.1]; exact hNl
  have hcn := cut_ne x 10 (by decide)
  have hr0 : 0 < rs.length := by
    rw [hrs]
    unfold rowsT
    rw [nl_eq]
    exact List.length_pos_iff.mpr hcn
  refine ⟨_, rfl, pl, _, rfl, .inl (SqL.of ep5), 1, (us.length : Int), rfl, by omega, for_range (lo := 1) (n := ((us.length : Int) - 1).toNat) (fun k σ H' => (∃ y7 : Option V, σ = [some (.str x), some (.ref l), some (.ref pl), y3, y4, y5, some (.ref st), y7, none, none]) ∧ H' = H5 ∧ ∀ i : Nat, 1 ≤ i → i < k + 1 → (i : Int) ∈ ledK N) ⟨⟨_, rfl⟩, rfl, fun i h1 h2 => absurd h1 (by omega)⟩ (fun k σ H' hk hP => ?_) (fun σ H' hP => ?_)⟩
  · obtain ⟨⟨y7, rfl⟩, rfl, hin⟩ := hP
    have e1 : (1 : Int) + ((k : Nat) : Int) = ((k + 1 : Nat) : Int) := by omega
    rw [e1]
    refine ⟨_, rfl, _, rfl, _, st, _, _, rfl, rfl, est, _, rfl, ?_⟩
    by_cases hm2 : ((k + 1 : Nat) : Int) ∈ ledK N
    · rw [decide_eq_true hm2]
      refine ite2 (fun z => absurd z (by decide)) (fun _ => ⟨⟨_, rfl⟩, rfl, fun i h1 h2 => ?_⟩)
      by_cases c : i = k + 1
      · rw [c]; exact hm2
      · exact hin i h1 (by omega)
    · rw [decide_eq_false hm2]
      refine ite2 (fun _ => ?_) (fun z => absurd rfl z)
      exact ⟨_, rfl, _, rfl, fun C d hC nd => qX (k + 1) (.lost N (k + 1) hpre (by omega) (by rw [hm]; omega) hm2 hin) C d _ hC (hS5.trans (same_upd nd)) upd_same⟩
  · obtain ⟨⟨y7, rfl⟩, rfl, hin⟩ := hP
    refine ⟨_, rfl, pl, _, rfl, SqL.of ep5, fun p H6 np S6 ep => ?_⟩
    refine q N (.ok N hpre fun i h1 h2 => hin i h1 (by rw [hm] at h2; omega)) p H6 (hS5.trans S6) ?_
    exact .tup (n := 1) ep (by omega) (prs_dt (hpr5.same S6))
noncomputable abbrev LV_greatest_bottom : Nat := 1
noncomputable abbrev BIG : Nat := 1298074214633706907132624082305023
noncomputable abbrev ShL := List (Str × Int × Int)
noncomputable def shD (p : Str × Int × Int) : PyData := .tuple [.str p.1, .tuple [.int p.2.1, .int p.2.2]]
theorem sh_get {H : Hp} {n : Nat} {us : List V} {L : ShL} {i : Nat} {v : V} (h : DtA H n us (L.map shD)) (e : us[i]? = some v) : ∃ p q x, v = .ref p ∧ L[i]? = some x ∧ H p = some (.tup [.str x.1, .ref q]) ∧ H q = some (.tup [.int x.2.1, .int x.2.2]) := by
  obtain ⟨d, hd, hv⟩ := h.at e
  rw [List.getElem?_map] at hd
  obtain ⟨x, hx, rfl⟩ := Option.map_eq_some_iff.mp hd
  unfold shD at hv
  cases hv with
  | @tup n' p xs ds ep z a =>
    cases a with
    | cons h1 t1 =>
      cases t1 with
      | cons h2 t2 =>
        cases t2
        cases h1
        cases h2 with
        | @tup n2 q ys es eq z2 b =>
          cases b with
          | cons g1 s1 =>
            cases s1 with
            | cons g2 s2 =>
              cases s2
              cases g1
              cases g2
              exact ⟨p, q, x, rfl, hx, ep, eq⟩
noncomputable def bots (L : ShL) : List Int := L.map (·.2.2)
noncomputable def gB (L : ShL) : Int := (bots L).foldl max 0
theorem foldl_max : ∀ (l : List Int) (a : Int), a ≤ l.foldl max a ∧ (∀ x ∈ l, x ≤ l.foldl max a) ∧ (l.foldl max a = a ∨ l.foldl max a ∈ l)
  | [], a => ⟨Int.le_refl _, fun x hx => absurd hx List.not_mem_nil, .inl rfl⟩
  | x :: l, a => by
    obtain ⟨h1, h2, h3⟩ := foldl_max l (max a x)
    refine ⟨by show a ≤ l.foldl max (max a x); omega, fun y hy => ?_, ?_⟩
    · rcases List.mem_cons.mp hy with e | hy
      · rw [e]
        show x ≤ l.foldl max (max a x)
        omega
      · exact h2 y hy
    · show l.foldl max (max a x) = a ∨ l.foldl max (max a x) ∈ x :: l
      rcases h3 with h3 | h3
      · rw [h3]
        by_cases c : a ≤ x
        · exact .inr (by rw [show max a x = x by omega]; exact List.mem_cons_self ..)
        · exact .inl (by omega)
      · exact .inr (List.mem_cons_of_mem _ h3)
theorem gB_is {L : ShL} (h1 : ∀ x ∈ bots L, 1 ≤ x) {m : Int} (hm : m ∈ bots L) (hx : ∀ y ∈ bots L, y ≤ m) : m = gB L := by
  obtain ⟨a, b, c⟩ := foldl_max (bots L) 0
  have hb := b m hm
  unfold gB
  rcases c with c | c
  · have := h1 m hm
    omega
  · have := hx _ c
    omega
noncomputable def sp_greatest_bottom : Sp := fun vs H Q _ => ∃ (p : Addr) (us : List V) (n : Nat) (L : ShL), vs = [.ref p] ∧ H p = some (.tup us) ∧ DtA H n us (L.map shD) ∧ L ≠ [] ∧ L.length ≤ 3000 ∧ (∀ x ∈ bots L, 1 ≤ x) ∧ ∀ (H' : Hp), Same H H' → Q (.int (gB L)) H'
theorem ok_greatest_bottom {f : Addr} {fd : FuncData} (F : Fun K "greatest_bottom" "greatest_bottom" s_greatest_bottom f fd) (Z : Bl mg) : FnOk P w K mg base CX0 LV_greatest_bottom f fd P_greatest_bottom sp_greatest_bottom := by
  refine F.ok sc_greatest_bottom (fun vs H Q E h => ?_) (fun cdv A outer s H vs Q E hr h => ?_)
  · obtain ⟨p, us, n, L, rfl, _⟩ := h
    rfl
  obtain ⟨p, us, n, L, rfl, ep, hd, hne, hl, hb, q⟩ := h
  refine ⟨_, (pss_one (ps_ret (pe_callB (maxL (K := K) rfl) (by rfl) Z.max (by decide +kernel) (pa_cons (pe_lcN (own := [("name", 1), ("top", 2), ("bottom", 3)]) (g := (gTup K 2 (gCons (gName 1) (gCons (gTup K 2 (gCons (gName 2) (gCons (gName 3) gNil))) gNil)))) (tt := tYes) (by rfl) sc_greatest_bottom.nd (pi_tup (pv 0)) (blkOk_by (own := [("name", 1), ("top", 2), ("bottom", 3)]) (N := N_greatest_bottom) (sc := defScope s_greatest_bottom) (by decide +kernel)) (fun _ _ _ _ _ => (pg_tup rfl (pgs_cons (pg_name (i := 1) sc_greatest_bottom.nd rfl (Or.inl rfl)) (pgs_cons (pg_tup rfl (pgs_cons (pg_name (i := 2) sc_greatest_bottom.nd rfl (Or.inl rfl)) (pgs_cons (pg_name (i := 3) sc_greatest_bottom.nd rfl (Or.inl rfl)) pgs_nil))) pgs_nil)))) (fun _ _ _ _ _ => pts_nil) (fun _ _ _ _ _ => (pv 3))) pa_nil)))), ?_⟩
  have hul : us.length = L.length := by rw [hd.len, List.length_map]
  refine ⟨_, rfl, p, rfl, ⟨_, SqT.of ep⟩, fun D nD => ?_⟩
  refine lc_tup (K := K) (a := p) (xs := us) (fun i H' => Same H H' ∧ H' D = some (.lst (((bots L).take i).map V.int))) ⟨same_upd nD, upd_same⟩ (fun i H' _ hP => SqT.of (hP.1 _ _ ep)) (fun i v H2 hv hP => ?_) (fun H2 hP => ?_)
  · obtain ⟨S2, eD⟩ := hP
    obtain ⟨q1, q2, x, rfl, hx, e1, e2⟩ := sh_get hd hv
    refine ⟨q1, _, rfl, SqT.of (S2 _ _ e1), rfl, _, _, rfl, _, _, rfl, q2, _, rfl, SqT.of (S2 _ _ e2), rfl, _, _, rfl, _, _, rfl, rfl, rfl, rfl, _, rfl, _, eD, szl (by rw [List.length_map, List.length_take]; unfold bots; rw [List.length_map]; omega), Same.of_upd S2 nD, ?_⟩
    have hb2 : (bots L)[i]? = some x.2.2 := by
      unfold bots
      rw [List.getElem?_map, hx]
      rfl
    rw [upd_same, List.take_add_one, hb2, List.map_append]
    rfl
  · obtain ⟨S2, eD⟩ := hP
    have e : (bots L).take us.length = bots L := List.take_of_length_le (by unfold bots; rw [List.length_map]; omega)
    rw [e] at eD
    refine ⟨D, bots L, rfl, SqL.of eD, by unfold bots; rw [List.length_map]; exact List.length_pos_iff.mpr hne, fun m hm hx => ?_⟩
    rw [gB_is hb hm hx]
    exact q H2 S2
noncomputable abbrev LV_parts_of : Nat := 1
/-- the parts of a whole -/
noncomputable def ptV (L : ShL) (W : Int) : List Int := L.map fun x => x.2.1 * (W / x.2.2)
/-- names with parts, told -/
noncomputable def PtA (H : Hp) (us : List V) (L : ShL) (W : Int) : Prop := us.length = L.length ∧ ∀ (i : Nat) v, us[i]? = some v → ∃ q x, v = .ref q ∧ L[i]? = some x ∧ H q = some (.tup [.str x.1, .int (x.2.1 * (W / x.2.2))])
/-- numbers as they are here -/
noncomputable def SmL (L : ShL) : Prop := ∀ x ∈ L, 1 ≤ x.2.1 ∧ x.2.1 ≤ BIG ∧ 1 ≤ x.2.2 ∧ x.2.2 ≤ BIG
theorem part_wide {a b W : Int} (h1 : 1 ≤ a) (h2 : a ≤ BIG) (h3 : 1 ≤ b) (h4 : b ≤ BIG) (h5 : 0 ≤ W) (h6 : W ≤ BIG) : CDivW W b ∧ CMulW a (W / b) := by
  have h2 : a ≤ 1298074214633706907132624082305023 := h2
  have h4 : b ≤ 1298074214633706907132624082305023 := h4
  have h6 : W ≤ 1298074214633706907132624082305023 := h6
  refine ⟨wide_div (b := 111) (by omega) (by omega) (by decide) (by decide), wide_mul (a := 111) (b := 111) (by omega) ?_ (by decide) (by decide) (by decide)⟩
  have e1 : 0 ≤ W / b := Int.ediv_nonneg h5 (by omega)
  have e2 : W / b ≤ W := Int.ediv_le_self _ h5
  omega
noncomputable def sp_parts_of : Sp := fun vs H Q _ => ∃ (p : Addr) (us : List V) (n : Nat) (L : ShL) (W : Int), vs = [.ref p, .int W] ∧ H p = some (.tup us) ∧ DtA H n us (L.map shD) ∧ L.length ≤ 3000 ∧ SmL L ∧ 0 ≤ W ∧ W ≤ BIG ∧
  ∀ (l : Addr) (vs' : List V) (H' : Hp), H l = none → Same H H' → H' l = some (.lst vs') → PtA H' vs' L W → Q (.ref l) H'
theorem ok_parts_of {f : Addr} {fd : FuncData} (F : Fun K "parts_of" "parts_of" s_parts_of f fd) (Z : Bl mg) : FnOk P w K mg base CX0 LV_parts_of f fd P_parts_of sp_parts_of := by
  refine F.ok sc_parts_of (fun vs H Q E h => ?_) (fun cdv A outer s H vs Q E hr h => ?_)
  · obtain ⟨p, us, n, L, W, rfl, _⟩ := h
    rfl
  obtain ⟨p, us, n, L, W, rfl, ep, hd, hl, hs, hW0, hW1, q⟩ := h
  refine ⟨_, (pss_one (ps_ret (pe_lcN (own := [("name", 2), ("top", 3), ("bottom", 4)]) (g := (gTup K 2 (gCons (gName 2) (gCons (gTup K 2 (gCons (gName 3) (gCons (gName 4) gNil))) gNil)))) (tt := tYes) (by rfl) sc_parts_of.nd (pi_tup (pv 0)) (blkOk_by (own := [("name", 2), ("top", 3), ("bottom", 4)]) (N := N_parts_of) (sc := defScope s_parts_of) (by decide +kernel)) (fun _ _ _ _ _ => (pg_tup rfl (pgs_cons (pg_name (i := 2) sc_parts_of.nd rfl (Or.inl rfl)) (pgs_cons (pg_tup rfl (pgs_cons (pg_name (i := 3) sc_parts_of.nd rfl (Or.inl rfl)) (pgs_cons (pg_name (i := 4) sc_parts_of.nd rfl (Or.inl rfl)) pgs_nil))) pgs_nil)))) (fun _ _ _ _ _ => pts_nil) (fun _ _ _ _ _ => (pe_tupN (pa_cons (pv 2) (pa_cons (pe_op op_mulW (pv 3) (pe_op op_fdivW (pv 1) (pv 4))) pa_nil))))))), ?_⟩
  have hul : us.length = L.length := by rw [hd.len, List.length_map]
  refine ⟨_, rfl, p, rfl, ⟨_, SqT.of ep⟩, fun D nD => ?_⟩
  refine lc_tup (K := K) (a := p) (xs := us) (fun i H' => Same H H' ∧ ∃ ws, H' D = some (.lst ws) ∧ ws.length = i ∧ ∀ (j : Nat) v, ws[j]? = some v → ∃ q x, v = .ref q ∧ L[j]? = some x ∧ H' q = some (.tup [.str x.1, .int (x.2.1 * (W / x.2.2))])) ⟨same_upd nD, [], upd_same, rfl, fun j v z => nomatch z⟩ (fun i H' _ hP => SqT.of (hP.1 _ _ ep)) (fun i v H2 hv hP => ?_) (fun H2 hP => ?_)
  · obtain ⟨S2, ws, eD, hwl, hat⟩ := hP
    obtain ⟨q1, q2, x, rfl, hx, e1, e2⟩ := sh_get hd hv
    obtain ⟨b1, b2, b3, b4⟩ := hs x (List.mem_of_getElem? hx)
    obtain ⟨w1, w2⟩ := part_wide b1 b2 b3 b4 hW0 hW1
    have hil : i < us.length := (List.getElem?_eq_some_iff.mp hv).1
    refine ⟨q1, _, rfl, SqT.of (S2 _ _ e1), rfl, _, _, rfl, _, _, rfl, q2, _, rfl, SqT.of (S2 _ _ e2), rfl, _, _, rfl, _, _, rfl, rfl, rfl, rfl, ?_⟩
    refine ⟨_, rfl, _, rfl, _, rfl, _, rfl, _, _, rfl, rfl, w1, _, _, rfl, rfl, w2, (by show 2 ≤ sizeLine; decide), fun pn H3 n3 S3 e3 => ?_⟩
    have eD3 := S3 _ _ eD
    have npn : pn ≠ D := fun z => by rw [z, eD3] at e3; cases e3
    refine ⟨ws, eD3, szl (by omega), Same.of_upd (S2.trans S3) nD, ws ++ [.ref pn], upd_same, by rw [List.length_append, hwl]; rfl, fun j v hj => ?_⟩
    by_cases c : j < i
    · rw [List.getElem?_append_left (by omega)] at hj
      obtain ⟨q, y, a1, a2, a3⟩ := hat j v hj
      exact ⟨q, y, a1, a2, by rw [upd_ne (fun z => by rw [z, eD] at a3; cases a3)]; exact S3 _ _ a3⟩
    · have hjl := (List.getElem?_eq_some_iff.mp hj).1
      rw [List.length_append] at hjl
      have hjl : j < ws.length + 1 := hjl
      have e : j = i := by omega
      subst e
      rw [List.getElem?_append_right (by omega), hwl, Nat.sub_self] at hj
      cases hj
      exact ⟨pn, x, rfl, hx, by rw [upd_ne npn]; exact e3⟩
  · obtain ⟨S2, ws, eD, hwl, hat⟩ := hP
    exact q D ws H2 nD S2 eD ⟨hwl.trans hul, hat⟩
noncomputable abbrev LV_tree_of : Nat := 2
structure TdOk (L : ShL) (D : Nat) : Prop where
  two : 2 ≤ L.length
  nd : (L.map (·.1)).Nodup
  nm : ∀ x ∈ L, NameOk x.1
  five : D ≤ 5
  gb : gB L = ((2 ^ D : Nat) : Int)
  fr : ∀ x ∈ L, ∃ t e : Nat, x.2 = ((t : Int), ((2 ^ e : Nat) : Int)) ∧ 1 ≤ t ∧ e ≤ D ∧ t * 2 ^ (D - e) < 2 ^ D ∧ Nat.gcd t (2 ^ e) = 1
  sum : (ptV L (gB L)).sum = gB L
/-- names and parts -/
noncomputable def ptP (L : ShL) (D : Nat) : PtL := L.map fun x => (x.1, (x.2.1 * (((2 ^ D : Nat) : Int) / x.2.2)).toNat)
noncomputable def trL (L : ShL) (D : Nat) : List (Key × Key) := trG (ptP L D) D 1 []
theorem two_div {D e : Nat} (h : e ≤ D) : (((2 ^ D : Nat) : Int) / ((2 ^ e : Nat) : Int)) = ((2 ^ (D - e) : Nat) : Int) := by
  rw [← Int.natCast_ediv]
  refine congrArg Nat.cast ?_
  rw [Nat.pow_div h (by decide)]
theorem TdOk.part {L : ShL} {D : Nat} (h : TdOk L D) {x : Str × Int × Int} (hx : x ∈ L) : ∃ m : Nat, x.2.1 * (((2 ^ D : Nat) : Int) / x.2.2) = (m : Int) ∧ m < 2 ^ D ∧ 1 ≤ m ∧ (x.2.1 * (((2 ^ D : Nat) : Int) / x.2.2)).toNat = m := by
  obtain ⟨t, e, e1, h1, h2, h3, _⟩ := h.fr x hx
  have ea : x.2.1 = (t : Int) := congrArg (·.1) e1
  have eb : x.2.2 = ((2 ^ e : Nat) : Int) := congrArg (·.2) e1
  have e3 : x.2.1 * (((2 ^ D : Nat) : Int) / x.2.2) = ((t * 2 ^ (D - e) : Nat) : Int) := by rw [ea, eb, two_div h2, Int.natCast_mul]
  exact ⟨t * 2 ^ (D - e), e3, h3, Nat.mul_pos h1 (Nat.two_pow_pos _), by rw [e3, Int.toNat_natCast]⟩
theorem ptP_nm (L : ShL) (D : Nat) : (ptP L D).map (·.1) = L.map (·.1) := by
  unfold ptP
  rw [List.map_map]
  rfl
theorem sumM_plain : ∀ {P : PtL} {D : Nat}, (∀ x ∈ P, x.2 < 2 ^ D) → sumM P D = (P.map (·.2)).sum
  | [], _, _ => rfl
  | x :: P, D, h => by
    show x.2 % 2 ^ D + sumM P D = x.2 + (P.map (·.2)).sum
    rw [sumM_plain fun y hy => h y (List.mem_cons_of_mem _ hy), Nat.mod_eq_of_lt (h x List.mem_cons_self)]
theorem TdOk.lt {L : ShL} {D : Nat} (h : TdOk L D) : ∀ x ∈ ptP L D, x.2 < 2 ^ D := fun x hx => by
  obtain ⟨y, hy, rfl⟩ := List.mem_map.mp hx
  obtain ⟨m, _, h2, _, h4⟩ := h.part hy
  show (y.2.1 * (((2 ^ D : Nat) : Int) / y.2.2)).toNat < 2 ^ D
  rw [h4]
  exact h2
theorem TdOk.sumM {L : ShL} {D : Nat} (h : TdOk L D) : sumM (ptP L D) D = 2 ^ D := by
  rw [sumM_plain h.lt]
  have hs := h.sum
  rw [h.gb] at hs
  have key : ∀ (M : ShL), (∀ x ∈ M, x ∈ L) → (ptV M ((2 ^ D : Nat) : Int)).sum = ((((ptP M D).map (·.2)).sum : Nat) : Int) := fun M => by
    induction M with
    | nil => intro _; rfl
    | cons x M ih =>
      intro hM
      obtain ⟨m, h1, _, _, h4⟩ := h.part (hM x List.mem_cons_self)
      show x.2.1 * (((2 ^ D : Nat) : Int) / x.2.2) + (ptV M ((2 ^ D : Nat) : Int)).sum = (((x.2.1 * (((2 ^ D : Nat) : Int) / x.2.2)).toNat + ((ptP M D).map (·.2)).sum : Nat) : Int)
      rw [ih fun y hy => hM y (List.mem_cons_of_mem _ hy), h4, h1, Int.natCast_add]
  have := key L fun x hx => hx
  rw [hs] at this
  exact (Int.ofNat.inj this).symm
theorem cB_le (P : PtL) : ∀ k, cB P k ≤ Pan.sumM P k
  | 0 => Nat.zero_le _
  | d + 1 => by
    show (lvN P d).length + cB P d ≤ _
    rw [sumM_step]
    have := cB_le P d
    have h2 : (lvN P d).length * 1 ≤ (lvN P d).length * 2 ^ d := Nat.mul_le_mul_left _ (Nat.two_pow_pos d)
    omega
theorem TdOk.tree {L : ShL} {D : Nat} (h : TdOk L D) : TrF (ptP L D) D (trL L D) := tr_all (by rw [ptP_nm]; exact h.nd) h.sumM h.lt
theorem two_five {D : Nat} (h : D ≤ 5) : 2 ^ D ≤ 32 := Nat.pow_le_pow_right (by decide) h
theorem TdOk.size {L : ShL} {D : Nat} (h : TdOk L D) : (trL L D).length ≤ 31 := by
  have h1 := h.tree.cnt
  have h2 := cB_le (ptP L D) D
  rw [h.sumM] at h2
  have := two_five h.five
  omega
theorem TdOk.len {L : ShL} {D : Nat} (h : TdOk L D) : L.length ≤ 32 := by
  have h2 := h.sumM
  rw [sumM_plain h.lt] at h2
  have key : ∀ (M : ShL), (∀ x ∈ M, x ∈ L) → M.length ≤ ((ptP M D).map (·.2)).sum := fun M => by
    induction M with
    | nil => intro _; exact Nat.le_refl _
    | cons x M ih =>
      intro hM
      obtain ⟨m, _, _, h3, h4⟩ := h.part (hM x List.mem_cons_self)
      have := ih fun y hy => hM y (List.mem_cons_of_mem _ hy)
      show M.length + 1 ≤ (x.2.1 * (((2 ^ D : Nat) : Int) / x.2.2)).toNat + ((ptP M D).map (·.2)).sum
      rw [h4]
      omega
  have := key L fun x hx => hx
  have := two_five h.five
  omega
/-- a net under way, in a list -/
noncomputable def NtA (H : Hp) (ns : List V) (N : List (Key × Key)) : Prop := ns.length = N.length ∧ ∀ (i : Nat) v, ns[i]? = some v → ∃ q pr, v = .ref q ∧ N[i]? = some pr ∧ H q = some (.tup [kV pr.1, kV pr.2])
theorem NtA.same {H H' : Hp} {ns : List V} {N : List (Key × Key)} (S : Same H H') (h : NtA H ns N) : NtA H' ns N := ⟨h.1, fun i v e => by
  obtain ⟨q, pr, h1, h2, h3⟩ := h.2 i v e
  exact ⟨q, pr, h1, h2, S _ _ h3⟩⟩
theorem NtA.updL {H : Hp} {ns : List V} {N : List (Key × Key)} {l : Addr} {xs : List V} {o : HO} (e : H l = some (.lst xs)) (h : NtA H ns N) : NtA (upd H l o) ns N := ⟨h.1, fun i v ev => by
  obtain ⟨q, pr, h1, h2, h3⟩ := h.2 i v ev
  exact ⟨q, pr, h1, h2, by rw [upd_ne (fun z => by rw [z, e] at h3; cases h3)]; exact h3⟩⟩
theorem PtA.same {H H' : Hp} {us : List V} {L : ShL} {W : Int} (S : Same H H') (h : PtA H us L W) : PtA H' us L W := ⟨h.1, fun i v e => by
  obtain ⟨q, x, h1, h2, h3⟩ := h.2 i v e
  exact ⟨q, x, h1, h2, S _ _ h3⟩⟩
theorem NtA.net {H : Hp} {ns : List V} {N : List (Key × Key)} {t : Addr} (h : NtA H ns N) (e : H t = some (.tup ns)) (hl : N.length ≤ 1000) : Dt H 2 (.ref t) (netD N) := by
  refine .tup e (Nat.le_trans (by rw [h.1]; exact hl) (by decide)) ?_
  have key : ∀ (N : List (Key × Key)) (ns : List V), NtA H ns N → DtA H 1 ns (N.map pairD) := fun N => by
    induction N with
    | nil =>
      intro ns h
      have : ns = [] := List.length_eq_zero_iff.mp h.1
      subst this
      exact .nil
    | cons p N ih =>
      intro ns h
      match ns, h with
      | v :: ns, h =>
        obtain ⟨q, pr, rfl, h2, h3⟩ := h.2 0 v rfl
        cases h2
        refine .cons (.tup h3 (by show 2 ≤ _; decide) (.cons (kD_dt _) (.cons (kD_dt _) .nil))) (ih ns ⟨Nat.succ.inj h.1, fun i v e => h.2 (i + 1) v e⟩)
      | [], h => exact absurd h.1 (by show ¬ 0 = _ + 1; omega)
  exact key N ns h
noncomputable def sp_tree_of : Sp := fun vs H Q _ => ∃ (p : Addr) (us : List V) (n : Nat) (L : ShL) (D : Nat), vs = [.ref p] ∧ H p = some (.tup us) ∧ DtA H n us (L.map shD) ∧ TdOk L D ∧
  ∀ (t : Addr) (H' : Hp), Same H H' → Dt H' 2 (.ref t) (netD (trL L D)) → Q (.ref t) H'
theorem ok_tree_of {f : Addr} {fd : FuncData} (F : Fun K "tree_of" "tree_of" s_tree_of f fd) (Z : Bl mg) (G_greatest_bottom : Kn P w K mg base "greatest_bottom" P_greatest_bottom LV_greatest_bottom sp_greatest_bottom) (G_parts_of : Kn P w K mg base "parts_of" P_parts_of LV_parts_of sp_parts_of) : FnOk P w K mg base CX0 LV_tree_of f fd P_tree_of sp_tree_of := by
  refine F.ok sc_tree_of (fun vs H Q E h => ?_) (fun cdv A outer s H vs Q E hr h => ?_)
  · obtain ⟨p, us, n, L, D, rfl, _⟩ := h
    rfl
  obtain ⟨p, us, n, L, D, rfl, ep, hd, htd, q⟩ := h
  refine ⟨_, (pss_cons (ps_set (i := 1) sc_tree_of.nd rfl (Or.inl rfl) (pe_own G_greatest_bottom (hr.mono (by decide)) (by rfl) (pa_cons (pv 0) pa_nil)))
    (pss_cons (ps_set (i := 2) sc_tree_of.nd rfl (Or.inl rfl) (pe_own G_parts_of (hr.mono (by decide)) (by rfl) (pa_cons (pv 0) (pa_cons (pv 1) pa_nil))))
    (pss_cons (ps_set (i := 3) sc_tree_of.nd rfl (Or.inl rfl) (pe_lstN pa_nil))
    (pss_cons (ps_set (i := 4) sc_tree_of.nd rfl (Or.inl rfl) pe_int)
    (pss_cons (ps_set (i := 5) sc_tree_of.nd rfl (Or.inr rfl) (pe_op op_fdivW (pv 1) pe_int))
    (pss_cons (ps_while PassesOwn.never (pt_truth (pv 4) (by intro _; rfl))
    (pss_cons (ps_setLcN (i := 6) (own := [("name", 9), ("many", 10)]) (g := (gTup K 2 (gCons (gName 9) (gCons (gName 10) gNil)))) (by rfl) sc_tree_of.nd rfl rfl (sw_true rfl rfl rfl (by decide +kernel)) ((pi_listN (K := K)) (pv 2)) (blkOk_by (own := [("name", 9), ("many", 10)]) (N := N_tree_of) (sc := defScope s_tree_of) (by decide +kernel)) (fun _ _ _ _ _ => (pg_tup rfl (pgs_cons (pg_name (i := 9) sc_tree_of.nd rfl (Or.inl rfl)) (pgs_cons (pg_name (i := 10) sc_tree_of.nd rfl (Or.inl rfl)) pgs_nil)))) (fun _ _ _ _ _ => (pts_one (pt_truthN (K := K) rfl (pe_op op_and (pv 10) (pv 5)) (by intro _; rfl)))) (fun _ _ _ _ _ => (pv 9)))
    (pss_cons (ps_set (i := 7) sc_tree_of.nd rfl (Or.inl rfl) (pe_op op_mul pe_int (pv 4)))
    (pss_cons (ps_set (i := 8) sc_tree_of.nd rfl (Or.inl rfl) (pe_op op_add (pe_callB (call_lenN (K := K)) (by rfl) Z.len (by decide +kernel) (pa_cons (pv 3) pa_nil)) (pv 4)))
    (pss_cons (ps_set (i := 4) sc_tree_of.nd rfl (Or.inl rfl) (pe_op op_sub (pv 7) (pe_callB (call_lenN (K := K)) (by rfl) Z.len (by decide +kernel) (pa_cons (pv 6) pa_nil))))
    (pss_cons (ps_aug (i := 6) sc_tree_of.nd rfl (Or.inl rfl) (pe_listRg rfl (by rfl) Z.list (prg_2 (by rfl) Z.range (pv 8) (pe_op op_add (pv 8) (pv 4)))) ip_ext)
    (pss_cons (ps_aug (i := 3) sc_tree_of.nd rfl (Or.inl rfl) (pe_listZip rfl (by rfl) Z.list (by rfl) Z.zip (pa_cons (pe_altN (K := K) rfl (pv 6)) (pa_cons (pe_alt1 (K := K) rfl (pv 6)) pa_nil))) ip_ext)
    (pss_one (ps_aug (i := 5) sc_tree_of.nd rfl (Or.inr rfl) pe_int ip_fdiv)))))))))
    (pss_one (ps_ret (pe_callTy (call_tupleN (K := K)) (by rfl) Z.tuple (by decide +kernel) (pa_cons (pv 3) pa_nil)))))))))), ?_⟩
  have hW : gB L = ((2 ^ D : Nat) : Int) := htd.gb
  have hul : us.length = L.length := by rw [hd.len, List.length_map]
  have hL32 := htd.len
  have h32 := two_five htd.five
  have hne : L ≠ [] := fun z => by
    have := htd.two
    rw [z] at this
    exact absurd this (by decide)
  have hb1 : ∀ x ∈ bots L, 1 ≤ x := fun x hx => by
    obtain ⟨y, hy, rfl⟩ := List.mem_map.mp hx
    obtain ⟨t, e, e1, _⟩ := htd.fr y hy
    rw [e1]
    have := Nat.two_pow_pos e
    show (1 : Int) ≤ ((2 ^ e : Nat) : Int)
    omega
  have hsm : SmL L := fun x hx => by
    obtain ⟨t, e, e1, h1, h2, h3, _⟩ := htd.fr x hx
    have h4 := Nat.two_pow_pos e
    have h5 : 2 ^ e ≤ 2 ^ D := Nat.pow_le_pow_right (by decide) h2
    have h6 : t ≤ t * 2 ^ (D - e) := Nat.le_mul_of_pos_right _ (Nat.two_pow_pos _)
    rw [e1]
    refine ⟨?_, ?_, ?_, ?_⟩
    · show (1 : Int) ≤ (t : Int); omega
    · show (t : Int) ≤ 1298074214633706907132624082305023; omega
    · show (1 : Int) ≤ ((2 ^ e : Nat) : Int); omega
    · show ((2 ^ e : Nat) : Int) ≤ 1298074214633706907132624082305023; omega
  refine ⟨_, rfl, p, us, n, L, rfl, ep, hd, hne, by omega, hb1, fun H1 S1 => ?_⟩
  rw [hW]
  refine ⟨_, rfl, _, rfl, p, us, n, L, _, rfl, S1 _ _ ep, hd.same S1, by omega, hsm, Int.natCast_nonneg _, Int.ofNat_le.mpr (Nat.le_trans h32 (by decide)), fun lp ps H2 nlp S2 elp hps => ?_⟩
  refine ⟨Nat.zero_le _, fun ln H3 nln S3 eln => ?_⟩
  refine ⟨_, rfl, _, _, rfl, rfl, wide_div (b := 111) (by decide) (by decide) (by decide) (by decide), ?_⟩
  obtain ⟨PP, hP⟩ : ∃ PP, PP = ptP L D := ⟨_, rfl⟩
  obtain ⟨M, hM⟩ : ∃ M, M = (trL L D).length := ⟨_, rfl⟩
  have hPn : (PP.map (·.1)).Nodup := by rw [hP, ptP_nm]; exact htd.nd
  have hM31 : M ≤ 31 := by rw [hM]; exact htd.size
  have htr : trL L D = trG PP D 1 [] := by rw [hP]; rfl
  have hfirst : TrI PP D M D 1 [] (2 ^ M) := by rw [hP]; exact tr_first htd.sumM htd.lt
  have hdiv : ∀ k : Nat, (((2 ^ (k + 1) : Nat) : Int) / 2) = ((2 ^ k : Nat) : Int) := fun k => by
    rw [Nat.pow_succ]
    omega
  refine ⟨fun m σ H' => ∃ (k b u : Nat) (N : List (Key × Key)) (ns : List V) (y6 y7 y8 : Option V), σ = [some (.ref p), some (.int ((2 ^ D : Nat) : Int)), some (.ref lp), some (.ref ln), some (.int (b : Int)), some (.int (((2 ^ k : Nat) : Int) / 2)), y6, y7, y8, none, none] ∧ m = k ∧ TrI PP D M k b N u ∧ trG PP k b N = trL L D ∧ 0 < N.length + b ∧ Same H2 H' ∧ H' ln = some (.lst ns) ∧ NtA H' ns N,
    ⟨D, D, 1, 2 ^ M, [], [], none, none, none, rfl, rfl, hfirst, htr.symm, by decide, S3, eln, rfl, fun i v e => nomatch e⟩, fun m σ H4 hWv => ?_⟩
  obtain ⟨k, b, u, N, ns, y6, y7, y8, rfl, rfl, hI, hG, hpos, S4, eln4, hns⟩ := hWv
  have hNM : N.length ≤ M := by
    rw [hM, ← hG]
    exact trG_len PP m b N
  by_cases c : b = 0
  · subst c
    have hN : N = trL L D := by
      rw [← hG]
      cases m with
      | zero => rfl
      | succ d => rfl
    refine ⟨_, rfl, false, rfl, ?_⟩
    refine ⟨_, rfl, ln, ns, rfl, SqL.of eln4, fun t H5 nt S5 e5 => ?_⟩
    rw [← hN] at q
    exact q t H5 ((S1.trans S2).trans (S4.trans S5)) ((hns.same S5).net e5 (by omega))
  cases m with
  | zero => exact absurd (by have h := hI.sm; rw [sumM_zero, Nat.pow_zero, Nat.mul_one] at h; exact h) c
  | succ d =>
  obtain ⟨hcle, _⟩ := hI.few
  have hG2 : trG PP (d + 1) b N = trG PP d (2 * b - (lvN PP d).length) (N ++ prK (ldK PP d b N.length)) := if_neg c
  rw [hG2] at hG
  have hNb : N.length + b ≤ M := by
    have hl := trG_len PP d (2 * b - (lvN PP d).length) (N ++ prK (ldK PP d b N.length))
    rw [hG, ← hM, List.length_append, (prK_two b _ (ldK_len hcle)).1] at hl
    exact hl
  obtain ⟨hI2, hlen2⟩ := hI.step hPn c hNb
  refine ⟨_, rfl, true, ?_, ?_⟩
  · show true = ((b : Int) != 0)
    exact (bne_iff_ne.mpr (by omega)).symm
  refine ⟨fun σ' H' => ∃ (ns2 : List V) (y6 y7 y8 : Option V), σ' = [some (.ref p), some (.int ((2 ^ D : Nat) : Int)), some (.ref lp), some (.ref ln), some (.int ((2 * b - (lvN PP d).length : Nat) : Int)), some (.int (((2 ^ d : Nat) : Int) / 2)), y6, y7, y8, none, none] ∧ Same H2 H' ∧ H' ln = some (.lst ns2) ∧ NtA H' ns2 (N ++ prK (ldK PP d b N.length)), fun σ' H' hN' => ?_, ?_⟩
  · obtain ⟨ns2, y6, y7, y8, rfl, a1, a2, a3⟩ := hN'
    exact ⟨d, Nat.lt_succ_self _, d, _, _, _, ns2, y6, y7, y8, rfl, rfl, hI2, hG, by rw [hlen2]; omega, a1, a2, a3⟩
  have hps4 := hps.same S4
  have hplen : ps.length = L.length := hps.1
  rw [hdiv d]
  refine ⟨_, rfl, lp, rfl, ⟨_, SqL.of (S4 _ _ elp)⟩, fun lf nlf => ?_⟩
  refine lc_list (K := K) (a := lp) (xs := ps) (fun i H' => Same H4 H' ∧ H' lf = some (.lst ((lvN (PP.take i) d).map V.str))) ⟨same_upd nlf, upd_same⟩ (fun i H' _ hQ => SqL.of ((S4.trans hQ.1) _ _ elp)) (fun i v H5 hv hQ => ?_) (fun H5 hQ => ?_)
  · obtain ⟨S5, elf⟩ := hQ
    obtain ⟨q1, x, rfl, hx, e1⟩ := hps4.2 i v hv
    obtain ⟨m, hm1, hm2, _, hm4⟩ := htd.part (List.mem_of_getElem? hx)
    rw [hm1] at e1
    have hPi : PP[i]? = some (x.1, m) := by
      rw [hP]
      unfold ptP
      rw [List.getElem?_map, hx]
      show some (x.1, (x.2.1 * (((2 ^ D : Nat) : Int) / x.2.2)).toNat) = _
      rw [hm4]
    have hbit : m.testBit d = (Builtin.bitAnd (m : Int) ((2 ^ d : Nat) : Int) != 0) := by
      rw [PyProof.Rows.bitAnd_pp (Int.natCast_nonneg _) (Int.natCast_nonneg _), Int.toNat_natCast, Int.toNat_natCast]
      have h1 : (m &&& 2 ^ d).testBit d = m.testBit d := by rw [Nat.testBit_and, Nat.testBit_two_pow_self, Bool.and_true]
      by_cases hz : m &&& 2 ^ d = 0
      · rw [hz, Nat.zero_testBit] at h1
        rw [hz, ← h1]
        rfl
      · have h2 : m.testBit d = true := by
          cases hc : m.testBit d with
          | true => rfl
          | false =>
            refine absurd (Nat.eq_of_testBit_eq fun j => ?_) hz
            rw [Nat.testBit_and, Nat.testBit_two_pow, Nat.zero_testBit]
            by_cases e : d = j
            · rw [← e, hc]; rfl
            · rw [decide_eq_false e, Bool.and_false]
        rw [h2]
        exact (bne_iff_ne.mpr (by omega)).symm
    have hlv : lvN (PP.take (i + 1)) d = lvN (PP.take i) d ++ (if m.testBit d then [x.1] else []) := by
      unfold lvN
      rw [List.take_add_one, hPi, List.filter_append, List.map_append]
      refine congrArg (_ ++ ·) ?_
      show (List.filter (fun x => x.2.testBit d) [(x.1, m)]).map (·.1) = _
      rw [List.filter_cons]
      cases m.testBit d <;> rfl
    refine ⟨q1, _, rfl, SqT.of (S5 _ _ e1), rfl, _, _, rfl, _, _, rfl, rfl, rfl, ?_⟩
    refine ⟨_, rfl, _, rfl, _, _, rfl, rfl, m.testBit d, hbit, ?_⟩
    have hlvl : (lvN (PP.take i) d).length ≤ 32 := by
      unfold lvN
      rw [List.length_map]
      have h1 := List.length_filter_le (fun x : Str × Nat => x.2.testBit d) (PP.take i)
      rw [List.length_take] at h1
      have h2 : PP.length = L.length := by rw [hP]; unfold ptP; rw [List.length_map]
      omega
    cases hbt : m.testBit d with
    | true =>
      rw [hbt, if_pos rfl] at hlv
      refine ⟨_, rfl, _, elf, szl (by rw [List.length_map]; omega), Same.of_upd S5 nlf, ?_⟩
      rw [upd_same, hlv, List.map_append]
      rfl
    | false =>
      rw [hbt, if_neg (by decide), List.append_nil] at hlv
      exact ⟨S5, by rw [hlv]; exact elf⟩
  obtain ⟨S5, elf⟩ := hQ
  have hPl : PP.length = L.length := by rw [hP]; unfold ptP; rw [List.length_map]
  rw [List.take_of_length_le (by omega)] at elf
  have S45 := S4.trans S5
  have eln5 := S5 _ _ eln4
  have hns5 := hns.same S5
  have hlvM : ((lvN PP d).map V.str).length = (lvN PP d).length := List.length_map _
  refine ⟨_, rfl, _, _, rfl, rfl, .inl ⟨by decide, by decide⟩, ?_⟩
  refine ⟨_, rfl, ln, ns, rfl, .inl (SqL.of eln5), _, rfl, _, _, rfl, rfl, ?_⟩
  refine ⟨_, rfl, _, rfl, lf, _, rfl, .inl (SqL.of elf), _, _, rfl, rfl, ?_⟩
  refine ⟨_, rfl, _, rfl, _, rfl, _, rfl, _, _, rfl, rfl, _, _, rfl, rfl, ?_⟩
  have hnl : ns.length = N.length := hns.1
  have hb31 : b ≤ 31 := by omega
  refine ⟨RgOk.of_le (by omega) (by omega) (by omega) (by omega), fun lr nlr => ?_⟩
  have hrg : rgV ((ns.length : Int) + (b : Int)) ((ns.length : Int) + (b : Int) + (2 * (b : Int) - (((lvN PP d).map V.str).length : Int))) = ((List.range (2 * b - (lvN PP d).length)).map fun i => Sum.inl ((N.length + b + i : Nat) : Int)).map kV := by
    unfold rgV
    rw [List.map_map, hlvM, show ((ns.length : Int) + (b : Int) + (2 * (b : Int) - ((lvN PP d).length : Int)) - ((ns.length : Int) + (b : Int))).toNat = 2 * b - (lvN PP d).length by omega]
    refine List.map_congr_left fun i _ => ?_
    show V.int _ = V.int _
    refine congrArg V.int ?_
    omega
  have hld : (lvN PP d).map V.str ++ ((List.range (2 * b - (lvN PP d).length)).map fun i => Sum.inl ((N.length + b + i : Nat) : Int)).map kV = (ldK PP d b N.length).map kV := by
    unfold ldK
    rw [List.map_append, List.map_map (l := lvN PP d)]
    rfl
  have hldl := ldK_len (n := N.length) hcle
  have hrl : (rgV ((ns.length : Int) + (b : Int)) ((ns.length : Int) + (b : Int) + (2 * (b : Int) - (((lvN PP d).map V.str).length : Int)))).length ≤ 64 := by
    rw [hrg, List.length_map, List.length_map, List.length_range]
    omega
  have S6 : Same H5 (upd H5 lr (.lst (rgV ((ns.length : Int) + (b : Int)) ((ns.length : Int) + (b : Int) + (2 * (b : Int) - (((lvN PP d).map V.str).length : Int)))))) := same_upd nlr
  have elf6 := S6 _ _ elf
  refine ⟨lf, lr, _, _, rfl, rfl, elf6, upd_same, by omega, ?_⟩
  rw [hrg, hld] at *
  have S7 : Same H4 (upd (upd H5 lr (.lst (((List.range (2 * b - (lvN PP d).length)).map fun i => Sum.inl ((N.length + b + i : Nat) : Int)).map kV))) lf (.lst ((ldK PP d b N.length).map kV))) := Same.of_upd (S5.trans S6) nlf
  have elf7 : (upd (upd H5 lr (.lst (((List.range (2 * b - (lvN PP d).length)).map fun i => Sum.inl ((N.length + b + i : Nat) : Int)).map kV))) lf (.lst ((ldK PP d b N.length).map kV))) lf = some (.lst ((ldK PP d b N.length).map kV)) := upd_same
  generalize upd (upd H5 lr (.lst (((List.range (2 * b - (lvN PP d).length)).map fun i => Sum.inl ((N.length + b + i : Nat) : Int)).map kV))) lf (.lst ((ldK PP d b N.length).map kV)) = H7 at S7 elf7 ⊢
  have eln7 := S7 _ _ eln4
  have hkl : ((ldK PP d b N.length).map kV).length = 2 * b := by rw [List.length_map, hldl]
  refine ⟨_, rfl, _, rfl, lf, _, 0, rfl, SqL.of elf7, .inl ⟨rfl, rfl⟩, fun p1 H8 n1 S8 e8 => ?_⟩
  refine ⟨_, rfl, _, rfl, lf, _, 1, rfl, SqL.of (S8 _ _ elf7), .inr ⟨rfl, rfl, by omega⟩, fun p2 H9 n2 S9 e9 => ?_⟩
  refine ⟨p1, p2, _, _, rfl, S9 _ _ e8, e9, by rw [altG_len, altG_len, hkl]; omega, fun l vs HA nl SA el hvl hz => ?_⟩
  have S7A := S8.trans (S9.trans SA)
  have elnA := S7A _ _ eln7
  have hvb : vs.length = b := by
    rw [hvl, altG_len, hkl]
    omega
  refine ⟨ln, l, _, _, rfl, rfl, elnA, el, by omega, ?_⟩
  refine ⟨_, rfl, _, _, rfl, rfl, by decide, by decide, ?_⟩
  have e4 : 2 * (b : Int) - (((lvN PP d).map V.str).length : Int) = ((2 * b - (lvN PP d).length : Nat) : Int) := by rw [hlvM]; omega
  have hnsA := hns.same (S7.trans S7A)
  have hnet : NtA HA (ns ++ vs) (N ++ prK (ldK PP d b N.length)) := by
    obtain ⟨hp1, _⟩ := prK_two b _ hldl
    refine ⟨by rw [List.length_append, List.length_append, hp1, hnl, hvb], fun i v hi => ?_⟩
    by_cases ci : i < N.length
    · rw [List.getElem?_append_left (by omega)] at hi
      obtain ⟨q1, pr, h1, h2, h3⟩ := hnsA.2 i v hi
      exact ⟨q1, pr, h1, by rw [List.getElem?_append_left ci]; exact h2, h3⟩
    · have hil := (List.getElem?_eq_some_iff.mp hi).1
      rw [List.length_append] at hil
      rw [List.getElem?_append_right (by omega), hnl] at hi
      obtain ⟨T, x, y, h1, h2, h3, h4⟩ := hz _ v hi
      have hj : i - N.length < b := by omega
      obtain ⟨x', y', g1, g2, g3⟩ := prK_at hldl hj
      rw [altG_at _ 0 (by rw [hkl]; omega), List.getElem?_map, Nat.zero_add, g1] at h2
      rw [altG_at _ 1 (by rw [hkl]; omega), List.getElem?_map, Nat.add_comm 1, g2] at h3
      have h2 : kV x' = x := Option.some.inj h2
      have h3 : kV y' = y := Option.some.inj h3
      subst h2 h3
      exact ⟨T, (x', y'), h1, by rw [List.getElem?_append_right (by omega)]; exact g3, h4⟩
  exact ⟨ns ++ vs, some (.ref lf), some (.int (2 * (b : Int))), some (.int ((ns.length : Int) + (b : Int))), congrArg (fun z : Int => ([some (V.ref p), some (V.int ((2 ^ D : Nat) : Int)), some (V.ref lp), some (V.ref ln), some (V.int z), some (V.int (((2 ^ d : Nat) : Int) / 2)), some (V.ref lf), some (V.int (2 * (b : Int))), some (V.int ((ns.length : Int) + (b : Int))), none, none] : L2.St)) e4, Same.of_upd (S4.trans (S7.trans S7A)) nln, upd_same, hnet.updL elnA⟩
noncomputable abbrev LV_l_text : Nat := 1
noncomputable def sp_l_text : Sp := fun vs H Q _ => ∃ (a : Addr) (k : Nat) (N : List (Key × Key)), vs = [.ref a] ∧ Dt H k (.ref a) (netD N) ∧ N.length ≤ 100 ∧ (∀ p ∈ N, KeyOk p.1 ∧ KeyOk p.2) ∧ ∀ (l : Addr) (H' : Hp), H l = none → Same H H' → H' l = some (.lst ((N.map lineT).map V.str)) → Q (.ref l) H'
theorem ok_l_text {f : Addr} {fd : FuncData} (F : Fun K "_law_text" "_law_text" s_l_text f fd) (Z : Bl mg) : FnOk P w K mg base CX0 LV_l_text f fd P_l_text sp_l_text := by
  refine F.ok sc_l_text (fun vs H Q E h => ?_) (fun cdv A outer s H vs Q E hr h => ?_)
  · obtain ⟨a, k, N, rfl, _⟩ := h
    rfl
  obtain ⟨a, k, N, rfl, hN, hl, hz, q⟩ := h
  refine ⟨_, (pss_one (ps_ret (pe_lcN (own := [("_law_leads", 1)]) (g := (gName 1)) (tt := tYes) (by rfl) sc_l_text.nd (pi_tup (pv 0)) (blkOk_by (own := [("_law_leads", 1)]) (N := N_l_text) (sc := defScope s_l_text) (by decide +kernel)) (fun _ _ _ _ _ => (pg_name (i := 1) sc_l_text.nd rfl (Or.inl rfl))) (fun _ _ _ _ _ => pts_nil) (fun _ _ _ _ _ => (pe_joinK (K := K) rfl pe_str (pe_lcN (own := [("_law_lead", 2)]) (g := (gName 2)) (tt := tYes) (by rfl) sc_l_text.nd ((pi_tupN (K := K)) (pv 1)) (blkOk_by (own := [("_law_lead", 2)]) (N := N_l_text) (by with_unfolding_all rfl)) (fun _ _ _ _ _ => (pg_name (i := 2) sc_l_text.nd rfl (Or.inl rfl))) (fun _ _ _ _ _ => pts_nil) (fun _ _ _ _ _ => (pe_callTy call_strX (by rfl) Z.str (by decide +kernel) (pa_cons (pv 2) pa_nil))))))))), ?_⟩
  obtain ⟨us, ea, hul, hat⟩ := net_get hN
  refine ⟨_, rfl, a, rfl, ⟨_, SqT.of ea⟩, fun D nD => ?_⟩
  refine lc_tup (K := K) (a := a) (xs := us) (fun i H' => Same H H' ∧ H' D = some (.lst (((N.take i).map lineT).map V.str))) ⟨same_upd nD, upd_same⟩ (fun i H' _ hP => SqT.of (hP.1 _ _ ea)) (fun i v H1 hv hP => ?_) (fun H1 hP => ?_)
  · obtain ⟨S1, eD⟩ := hP
    have hiN : i < N.length := by rw [← hul]; exact (List.getElem?_eq_some_iff.mp hv).1
    have hi := List.getElem?_eq_getElem hiN
    obtain ⟨pq, eu, eq⟩ := hat i _ hi
    rw [eu] at hv
    have hv : V.ref pq = v := Option.some.inj hv
    subst hv
    obtain ⟨k1, k2⟩ := hz _ (List.getElem_mem hiN)
    have eq1 := S1 _ _ eq
    have l1 := key_len k1
    have l2 := key_len k2
    refine ⟨rfl, ⟨_, rfl⟩, _, rfl, pq, rfl, ⟨_, SqT.of eq1⟩, fun D2 nD2 => ?_⟩
    refine lc_tup (K := K) (a := pq) (xs := [N[i].1, N[i].2].map kV) (fun j H' => Same H1 H' ∧ H' D2 = some (.lst ((([N[i].1, N[i].2].take j).map keyT).map V.str))) ⟨same_upd nD2, upd_same⟩ (fun j H' _ hP => SqT.of (hP.1 _ _ eq1)) (fun j v H2 hv hP => ?_) (fun H2 hP => ?_)
    · obtain ⟨S2, eD2⟩ := hP
      rw [List.getElem?_map] at hv
      cases en : [N[i].1, N[i].2][j]? with
      | none => rw [en] at hv; cases hv
      | some y =>
        rw [en] at hv
        have hv : kV y = v := Option.some.inj hv
        subst hv
        have ky : KeyOk y := by
          rcases List.mem_cons.mp (List.mem_of_getElem? en) with e | e
          · rw [e]; exact k1
          · rw [List.mem_singleton.mp e]; exact k2
        refine ⟨rfl, _, rfl, ?_⟩
        refine strK (R := fun z => ∃ acc, H2 D2 = some (.lst acc) ∧ acc.length < sizeLine ∧ Same H1 (upd H2 D2 (.lst (acc ++ [.str z]))) ∧ upd H2 D2 (.lst (acc ++ [.str z])) D2 = some (.lst ((([N[i].1, N[i].2].take (j + 1)).map keyT).map V.str))) ky ⟨_, eD2, szl ?_, Same.of_upd S2 nD2, ?_⟩
        · rw [List.length_map, List.length_map, List.length_take]
          show min j 2 < _
          omega
        · rw [upd_same, List.take_add_one, en, List.map_append, List.map_append]
          rfl
    obtain ⟨S2, eD2⟩ := hP
    have eD2 : H2 D2 = some (.lst ([keyT N[i].1, keyT N[i].2].map V.str)) := eD2
    refine ⟨_, D2, [keyT N[i].1, keyT N[i].2], rfl, rfl, .inl (SqL.of eD2), ?_, ?_⟩
    · show ((keyT N[i].1).length + ((keyT N[i].2).length + 0)) + 2 * 1 ≤ _
      omega
    · refine ⟨_, S2 _ _ eD, szl ?_, Same.of_upd (S1.trans S2) nD, ?_⟩
      · rw [List.length_map, List.length_map, List.length_take]
        omega
      · rw [upd_same, List.take_add_one, hi, List.map_append, List.map_append, ← line_join]
        rfl
  obtain ⟨S1, eD⟩ := hP
  rw [hul, List.take_length] at eD
  exact q D H1 nD S1 eD
noncomputable abbrev LV_l_number : Nat := 1
theorem iteNot {c A B : Prop} [Decidable c] (hc : c) (h : B) : if (!decide c) = true then A else B := by
  rw [decide_eq_true hc]
  exact h
noncomputable def sp_l_number : Sp := fun vs H Q _ => ∃ (x : Str), vs = [.str x] ∧ x.length ≤ 640 ∧ ∀ H', Same H H' → Q (onV (numT x)) H'
theorem ok_l_number {f : Addr} {fd : FuncData} (F : Fun K "_law_number" "_law_number" s_l_number f fd) (Z : Bl mg) : FnOk P w K mg base CX0 LV_l_number f fd P_l_number sp_l_number := by
  refine F.ok sc_l_number (fun vs H Q E h => ?_) (fun cdv A outer s H vs Q E hr h => ?_)
  · obtain ⟨x, rfl, _⟩ := h
    rfl
  obtain ⟨x, rfl, hx, q⟩ := h
  refine ⟨_, (pss_cons (ps_if (PW.pt (pw_or (pt_cmpR op_eq (pv 0) pe_str (nomark _)) (pw_or (pt_not (pt_val (pe_callB (allL (K := K) rfl) (by rfl) Z.all (by decide +kernel) (pa_cons (pe_lcN (own := [("_law_sign", 1)]) (g := (gName 1)) (tt := tYes) (by rfl) sc_l_number.nd (pi_str (pv 0)) (blkOk_by (own := [("_law_sign", 1)]) (N := N_l_number) (sc := defScope s_l_number) (by decide +kernel)) (fun _ _ _ _ _ => (pg_name (i := 1) sc_l_number.nd rfl (Or.inl rfl))) (fun _ _ _ _ _ => pts_nil) (fun _ _ _ _ _ => (pe_cmpR op_in_sign (pv 1) pe_str (by rfl)))) pa_nil)))) (pw_or1 (PW.pt (pw_and (pt_cmpR op_eq (pe_ix ix_str (pv 0) pe_int (fun _ _ => rfl)) pe_str (nomark _)) (pw_and1 (pt_cmpR op_ne (pv 0) pe_str (nomark _))))))))) (pss_one (ps_ret pe_non)) pss_nil)
    (pss_one (ps_ret (pe_callTy call_int_str (by rfl) Z.int (by decide +kernel) (pa_cons (pv 0) pa_nil))))), ?_⟩
  have hx9 : x.length ≤ sizeLine := Nat.le_trans hx (by rw [sizeLine_eq]; decide)
  have hno : ∀ H', Same H H' → plainL (TL.tl x) = false → Q V.non H' := fun H' S' h => by
    have hq := q H' S'
    have e : numT x = none := by
      unfold numT numL
      rw [h]
      rfl
    rw [e] at hq
    exact hq
  have hyes : ∀ H', Same H H' → plainL (TL.tl x) = true → ∃ a n, [V.str x] = [V.str a] ∧ PySem.intText? a = some n ∧ a.length ≤ 640 ∧ Q (V.int n) H' := fun H' S' h => by
    have hq := q H' S'
    have e : numT x = some (NumText.digitsVal (TL.tl x)) := by
      unfold numT numL
      rw [if_pos h]
    rw [e] at hq
    obtain ⟨hdig, hne⟩ := plain_dig h
    exact ⟨x, _, rfl, intText_digits hdig hne (by omega), hx, hq⟩
  refine ⟨_, rfl, rfl, _, rfl, ?_⟩
  by_cases c0 : TL.tl x = []
  · have ex : x = Str.ofString "" := TL.ext_tl (by rw [c0]; rfl)
    refine iteD (congrArg V.str ex) (ite2 (fun _ => hno H (Same.refl _) (by rw [c0]; rfl)) (fun z => absurd rfl z))
  refine iteDN (fun e => c0 (by rw [V.str.inj e]; rfl)) ?_
  refine ⟨_, rfl, x, rfl, fun D nD => lc_it (walk_str (z := x)) (fun j H' => Same H H' ∧ H' D = some (.lst (((x.cps.toList.take j).map digB).map V.bl))) ⟨same_upd nD, upd_same⟩ (fun _ _ _ _ => trivial) (fun i v H1 H2 hi hP hY => ?_) (fun H1 hP => ?_)⟩
  · obtain ⟨S1, eD⟩ := hP
    obtain ⟨rfl, c, hc, rfl⟩ := hY
    have hc' : x.cps.toList[i]? = some c := by rw [Array.getElem?_toList]; exact hc
    have etk : x.cps.toList.take (i + 1) = x.cps.toList.take i ++ [c] := by rw [List.take_add_one, hc']; rfl
    have ed : decide (c ∈ (Str.ofString "0123456789").cps.toList) = digB c := decide_eq_decide.mpr (figs_eq c)
    have hsz : x.cps.size = x.length := rfl
    refine ⟨rfl, _, rfl, c, _, rfl, rfl, ?_⟩
    rw [ed]
    refine ⟨_, eD, szl ?_, Same.of_upd S1 nD, ?_⟩
    · rw [List.length_map, List.length_map, List.length_take]
      omega
    · rw [upd_same, etk, List.map_append, List.map_append]
      rfl
  obtain ⟨S1, eD⟩ := hP
  have eL : x.cps.toList.take x.cps.size = x.cps.toList := List.take_of_length_le (by rw [Array.length_toList]; exact Nat.le_refl _)
  rw [eL] at eD
  refine ⟨D, _, rfl, SqL.of eD, ?_⟩
  refine ⟨_, rfl, ?_⟩
  rw [List.all_map]
  by_cases ha : (TL.tl x).all digB = true
  case neg =>
    have ha' : (x.cps.toList.all (id ∘ digB)) = false := by simpa using ha
    rw [ha']
    have ep : plainL (TL.tl x) = false := by
      unfold plainL
      rw [show (TL.tl x).all digB = false by simpa using ha]
      simp
    exact ite2 (fun _ => ite2 (fun _ => hno H1 S1 ep) (fun z => absurd rfl z)) (fun z => absurd rfl z)
  have ha' : (x.cps.toList.all (id ∘ digB)) = true := ha
  rw [ha']
  refine ite2 (fun z => absurd z (by decide)) (fun _ => ?_)
  obtain ⟨c, r, ec⟩ : ∃ c r, TL.tl x = c :: r := by
    cases e : TL.tl x with
    | nil => exact absurd e c0
    | cons c r => exact ⟨c, r, rfl⟩
  have ep : plainL (TL.tl x) = !(decide (c = 48) && !decide (x = ("0" : Str))) := by
    unfold plainL
    rw [ha, ec]
    have e1 : ((c :: r) == [48]) = decide (x = ("0" : Str)) := by
      rw [decide_eq_decide.mpr (show x = ("0" : Str) ↔ c :: r = [48] by rw [str_eq0, ec])]
      by_cases k : c :: r = [48]
      · rw [decide_eq_true k]; exact beq_iff_eq.mpr k
      · rw [decide_eq_false k]; exact beq_eq_false_iff_ne.mpr k
    rw [e1]
    have e2 : ((c :: r).head? != some 48) = !decide (c = 48) := by
      by_cases k : c = 48
      · rw [k]; rfl
      · rw [decide_eq_false k]
        exact bne_iff_ne.mpr fun z => k (Option.some.inj z)
    rw [e2]
    cases decide (x = ("0" : Str)) <;> cases decide (c = 48) <;> rfl
  refine ⟨_, rfl, x, 0, c, rfl, rfl, hx9, ?_, rfl, _, rfl, ?_⟩
  · show atI (TL.tl x) 0 = some c
    rw [ec]
    exact atI_nat (j := 0) rfl
  have e3 : decide (V.str ⟨#[c]⟩ = V.str (Str.ofString "0")) = decide (c = 48) := by
    refine decide_eq_decide.mpr ⟨fun h => ?_, fun z => ?_⟩
    · have h2 := (V.str.inj h).trans zero_eq
      have h3 := congrArg TL.tl h2
      have h4 : [c] = [48] := h3
      exact (List.cons.inj h4).1
    · rw [z]
      exact congrArg V.str zero_eq.symm
  by_cases k : c = 48
  case neg =>
    rw [decide_eq_false k] at ep
    refine iteDN (fun h => k (of_decide_eq_true (e3.symm.trans (decide_eq_true h)))) ?_
    exact ite2 (fun z => absurd z (by decide)) (fun _ => ⟨_, rfl, hyes H1 S1 ep⟩)
  refine iteD (of_decide_eq_true (e3.trans (decide_eq_true k))) ?_
  rw [decide_eq_true k, Bool.true_and, Bool.not_not] at ep
  refine ⟨_, rfl, rfl, _, rfl, ?_⟩
  by_cases k0 : x = ("0" : Str)
  · rw [decide_eq_true k0] at ep
    exact iteNot (congrArg V.str k0) ⟨_, rfl, hyes H1 S1 ep⟩
  · rw [decide_eq_false k0] at ep
    exact iteN (fun e => k0 (V.str.inj e)) (hno H1 S1 ep)
noncomputable abbrev LV_l_word_due : Nat := 2
theorem inV_none : ∀ os : List (Option Nat), inV .non (os.map onV) = os.any (fun o => o.isNone)
  | [] => rfl
  | none :: os => rfl
  | some n :: os => (inV_none os)
theorem inV_zero : ∀ os : List (Option Nat), inV (.int 0) (os.map onV) = os.any (fun o => o == some 0)
  | [] => rfl
  | none :: os => (inV_zero os)
  | some n :: os => by
    show ((((n : Nat) : Int) == 0) || inV (.int 0) (os.map onV)) = _
    rw [inV_zero os]
    show _ = ((some n == some 0) || _)
    congr 1
    by_cases k : n = 0
    · rw [k]; rfl
    · rw [beq_eq_false_iff_ne.mpr (show ((n : Nat) : Int) ≠ 0 by omega), beq_eq_false_iff_ne.mpr (fun e => k (Option.some.inj e))]
theorem flat_on (os : List (Option Nat)) : (os.map onV).all flatV = true := by
  rw [List.all_map]
  refine List.all_eq_true.mpr fun o _ => ?_
  cases o <;> rfl
theorem part_all : ∀ os : List (Option Nat), os.all wPart = !(os.any (fun o => o.isNone) || os.any (fun o => o == some 0))
  | [] => rfl
  | none :: os => rfl
  | some n :: os => by
    show (wPart (some n) && os.all wPart) = !((false || _) || ((some n == some 0) || _))
    rw [part_all os]
    by_cases k : n = 0
    · rw [k]
      cases os.any (fun o => o.isNone) <;> rfl
    · rw [beq_eq_false_iff_ne.mpr (show some n ≠ some 0 from fun e => k (Option.some.inj e)), show wPart (some n) = true from decide_eq_true (by omega)]
      rfl
noncomputable def sp_l_word_due : Sp := fun vs H Q _ => ∃ (x : Str), vs = [.str x] ∧ x.length ≤ 640 ∧ (wordR x = none → ∀ H', Same H H' → Q (.int 0) H') ∧
  (∀ ws, wordR x = some ws → ∀ (p : Addr) (H' : Hp), Same H H' → H' p = some (.tup (ws.map V.int)) → Q (.ref p) H')
theorem ok_l_word_due {f : Addr} {fd : FuncData} (F : Fun K "_law_word_due" "_law_word_due" s_l_word_due f fd) (Z : Bl mg) (G_l_number : Kn P w K mg base "_law_number" P_l_number LV_l_number sp_l_number) : FnOk P w K mg base CX0 LV_l_word_due f fd P_l_word_due sp_l_word_due := by
  refine F.ok sc_l_word_due (fun vs H Q E h => ?_) (fun cdv A outer s H vs Q E hr h => ?_)
  · obtain ⟨x, rfl, _⟩ := h
    rfl
  obtain ⟨x, rfl, hx, qX, q⟩ := h
  refine ⟨_, (pss_cons (ps_set (i := 1) sc_l_word_due.nd rfl (Or.inl rfl) (pe_cut (pe_ifExp (pt_cmpR op_eq (pv 0) pe_str (nomark _)) (pe_lstN pa_nil) (pe_lcN (own := [("_law_part", 2)]) (g := (gName 2)) (tt := tYes) (by rfl) sc_l_word_due.nd (pi_list (pe_split (pv 0) pe_str)) (blkOk_by (own := [("_law_part", 2)]) (N := N_l_word_due) (sc := defScope s_l_word_due) (by decide +kernel)) (fun _ _ _ _ _ => (pg_name (i := 2) sc_l_word_due.nd rfl (Or.inl rfl))) (fun _ _ _ _ _ => pts_nil) (fun _ _ _ _ _ => (pe_own G_l_number (hr.mono (by decide)) (by rfl) (pa_cons (pv 2) pa_nil)))))))
    (pss_one (ps_ret (pe_ifExp (PW.pt (pw_or (pt_cmpR op_in_seq pe_non (pv 1) (by rfl)) (pw_or1 (pt_cmpR op_in_seq pe_int (pv 1) (by rfl))))) pe_int (pe_callTy (call_tupleN (K := K)) (by rfl) Z.tuple (by decide +kernel) (pa_cons (pv 1) pa_nil)))))), ?_⟩
  have hx9 : x.length + 2 ≤ sizeLine := by rw [sizeLine_eq]; omega
  refine ⟨fun v H' => ∃ (D : Addr) (os : List (Option Nat)), v = .ref D ∧ Same H H' ∧ H' D = some (.lst (os.map onV)) ∧ os.length ≤ 641 ∧ wordR x = (if os.all wPart then some (os.map fun o => ((o.getD 0 : Nat) : Int)) else none), ?_, fun v H1 hv => ?_⟩
  · refine ⟨_, rfl, rfl, _, rfl, ?_⟩
    by_cases hb : x = ("-" : Str)
    · refine iteD (congrArg V.str hb) ?_
      refine ⟨(by show 0 ≤ sizeLine; exact Nat.zero_le _), fun D H1 nD S1 eD => ⟨D, [], rfl, S1, eD, Nat.zero_le _, ?_⟩⟩
      unfold wordR
      rw [if_pos hb]
      rfl
    refine iteDN (fun e => hb (V.str.inj e)) ?_
    obtain ⟨ps, hps⟩ : ∃ ps, ps = Txt.split x (" " : Str) := ⟨_, rfl⟩
    have hpl : ps.length ≤ 641 := by
      rw [hps, sp_eq]
      exact cut_640 hx (by decide)
    have hpp : ∀ p ∈ ps, p.length ≤ 640 := fun p hp => by
      rw [hps, sp_eq] at hp
      exact Nat.le_trans (cut_part (by decide) hp) hx
    have hwr : wordR x = if (ps.map numT).all wPart then some ((ps.map numT).map fun o => ((o.getD 0 : Nat) : Int)) else none := by
      unfold wordR
      rw [if_neg hb, hps]
    refine ⟨_, rfl, ⟨_, rfl⟩, x, _, rfl, rfl, by decide +kernel, hx9, fun l nl => ?_⟩
    have S1 : Same H (upd H l (.lst (ps.map V.str))) := same_upd nl
    have el : upd H l (.lst (ps.map V.str)) l = some (.lst (ps.map V.str)) := upd_same
    rw [← hps]
    generalize upd H l (.lst (ps.map V.str)) = H1 at S1 el ⊢
    refine ⟨l, rfl, ⟨_, SqL.of el⟩, fun D nD => ?_⟩
    refine lc_list (K := K) (a := l) (xs := ps.map V.str) (fun i H' => Same H1 H' ∧ H' D = some (.lst (((ps.take i).map numT).map onV))) ⟨same_upd nD, upd_same⟩ (fun i H' _ hP => SqL.of (hP.1 _ _ el)) (fun i v H2 hv hP => ?_) (fun H2 hP => ?_)
    · obtain ⟨S2, eD⟩ := hP
      rw [List.getElem?_map] at hv
      cases en : ps[i]? with
      | none => rw [en] at hv; cases hv
      | some p =>
        rw [en] at hv
        have hv : V.str p = v := Option.some.inj hv
        subst hv
        refine ⟨rfl, _, rfl, p, rfl, hpp p (List.mem_of_getElem? en), fun H3 S3 => ⟨_, S3 _ _ eD, szl ?_, Same.of_upd (S2.trans S3) nD, ?_⟩⟩
        · rw [List.length_map, List.length_map, List.length_take]
          omega
        · rw [upd_same, List.take_add_one, en, List.map_append, List.map_append]
          rfl
    obtain ⟨S2, eD⟩ := hP
    rw [List.length_map, List.take_length] at eD
    exact ⟨D, ps.map numT, rfl, S1.trans S2, eD, by rw [List.length_map]; exact hpl, hwr⟩
  obtain ⟨D, os, rfl, S1, eD, hol, hwr⟩ := hv
  rw [part_all] at hwr
  refine ⟨_, rfl, D, _, rfl, .inl (SqL.of eD), rfl, flat_on os, _, rfl, ?_⟩
  show if inV .non (os.map onV) = true then _ else _
  rw [inV_none]
  by_cases c1 : (os.any fun o => o.isNone) = true
  · rw [c1] at hwr ⊢
    exact ite2 (fun _ => ite2 (fun _ => qX hwr H1 S1) (fun z => absurd rfl z)) (fun z => absurd rfl z)
  have c1' : (os.any fun o => o.isNone) = false := Bool.eq_false_iff.mpr c1
  rw [c1'] at hwr ⊢
  refine ite2 (fun z => absurd z (by decide)) (fun _ => ?_)
  refine ⟨_, rfl, D, _, rfl, .inl (SqL.of eD), rfl, flat_on os, _, rfl, ?_⟩
  show if inV (.int 0) (os.map onV) = true then _ else _
  rw [inV_zero]
  by_cases c2 : (os.any fun o => o == some 0) = true
  · rw [c2] at hwr ⊢
    exact ite2 (fun _ => qX hwr H1 S1) (fun z => absurd rfl z)
  have c2' : (os.any fun o => o == some 0) = false := Bool.eq_false_iff.mpr c2
  rw [c2'] at hwr ⊢
  refine ite2 (fun z => absurd z (by decide)) (fun _ => ?_)
  have emv : os.map onV = (os.map fun o => ((o.getD 0 : Nat) : Int)).map V.int := by
    rw [List.map_map]
    refine List.map_congr_left fun o ho => ?_
    cases o with
    | none => exact absurd (List.any_eq_true.mpr ⟨none, ho, rfl⟩) c1
    | some n => rfl
  rw [emv] at eD
  exact ⟨_, rfl, D, _, rfl, SqL.of eD, fun p H4 np S4 ep => q _ hwr p H4 (S1.trans S4) ep⟩
noncomputable abbrev LV_l_net_due : Nat := 2
theorem name_eq (z : Str) : nameB (.str z) = ((decide ((0 : Int) < (z.length : Int)) && decide ((z.length : Int) < 9)) && decide (V.str (Txt.stripChars z (Str.ofString "abcdefghijklmnopqrstuvwxyz")) = V.str (Str.ofString ""))) := by
  have e1 : decide (V.str (Txt.stripChars z (Str.ofString "abcdefghijklmnopqrstuvwxyz")) = V.str (Str.ofString "")) = z.cps.toList.all letB := by
    have h0 : (Str.ofString "") = Str.empty := TL.ext_tl rfl
    have hs := strip_nil z (Str.ofString "abcdefghijklmnopqrstuvwxyz")
    by_cases c : z.cps.toList.all letB = true
    · rw [c]
      refine decide_eq_true (congrArg V.str ?_)
      rw [h0]
      exact hs.mpr fun y hy => of_decide_eq_true (List.all_eq_true.mp c y hy)
    · rw [Bool.eq_false_iff.mpr c]
      refine decide_eq_false fun e => c (List.all_eq_true.mpr fun y hy => decide_eq_true (hs.mp ?_ y hy))
      rw [← h0]
      exact V.str.inj e
  rw [e1]
  show ((decide (1 ≤ (z.length : Int)) && decide ((z.length : Int) ≤ 8)) && _) = _
  rw [decide_eq_decide.mpr (show (1 : Int) ≤ (z.length : Int) ↔ (0 : Int) < (z.length : Int) by omega), decide_eq_decide.mpr (show (z.length : Int) ≤ 8 ↔ (z.length : Int) < 9 by omega)]
theorem rowR_none {k m : Nat} {l p : Str} (hp : p ∈ Txt.split l (" " : Str)) (h : leadR k m p = none) : rowR k m l = none := by
  cases e : rowR k m l with
  | none => rfl
  | some r =>
    obtain ⟨a, b, e1, h1, h2⟩ := rowR_get e
    rw [e1] at hp
    rcases List.mem_cons.mp hp with z | z
    · rw [z, h1] at h; cases h
    · rw [List.mem_singleton.mp z, h2] at h; cases h
theorem inV_led (c : Int) : ∀ N : List (Key × Key), inV (.int c) (N.flatMap fun p => [kV p.1, kV p.2]) = decide (c ∈ ledK N)
  | [] => rfl
  | p :: N => by
    have ih := inV_led c N
    have one : ∀ k : Key, eqV (kV k) (.int c) = decide (c ∈ numK k) := fun k => by
      cases k with
      | inl n =>
        show (n == c) = decide (c ∈ [n])
        by_cases z : n = c
        · rw [z]
          exact (beq_self_eq_true c).trans (decide_eq_true List.mem_cons_self).symm
        · rw [beq_eq_false_iff_ne.mpr z]
          exact (decide_eq_false fun h => z (List.mem_singleton.mp h).symm).symm
      | inr n => rfl
    show (eqV (kV p.1) (.int c) || (eqV (kV p.2) (.int c) || inV (.int c) (N.flatMap fun p => [kV p.1, kV p.2]))) = decide (c ∈ (numK p.1 ++ (numK p.2 ++ [])) ++ ledK N)
    rw [ih, one, one]
    have e : (c ∈ (numK p.1 ++ (numK p.2 ++ [])) ++ ledK N) ↔ (c ∈ numK p.1 ∨ (c ∈ numK p.2 ∨ c ∈ ledK N)) := by
      rw [List.append_nil, List.append_assoc, List.mem_append, List.mem_append]
    rw [decide_eq_decide.mpr e, Bool.decide_or, Bool.decide_or]
theorem flat_led (N : List (Key × Key)) : (N.flatMap fun p => [kV p.1, kV p.2]).all flatV = true := by
  have one : ∀ k : Key, flatV (kV k) = true := fun k => by cases k <;> rfl
  refine List.all_eq_true.mpr fun v hv => ?_
  obtain ⟨p, _, h⟩ := List.mem_flatMap.mp hv
  rcases List.mem_cons.mp h with e | e
  · rw [e]; exact one _
  · rw [List.mem_singleton.mp e]; exact one _
/-- those that nothing leads to -/
noncomputable def lostN (N : List (Key × Key)) (n : Nat) : List Nat := (List.range n).filter fun t => !decide ((((t + 1 : Nat) : Int)) ∈ ledK N)
noncomputable def sp_l_net_due : Sp := fun vs H Q _ => ∃ (x : Str), vs = [.str x] ∧ x.length ≤ 640 ∧
  (∀ k : Nat, NetRes x (.inl k) → ∀ H', Same H H' → Q (.int (k : Int)) H') ∧
  (∀ N, NetRes x (.inr N) → ∀ (p : Addr) (H' : Hp), Same H H' → Dt H' 2 (.ref p) (netD N) → Q (.ref p) H')
theorem ok_l_net_due {f : Addr} {fd : FuncData} (F : Fun K "_law_net_due" "_law_net_due" s_l_net_due f fd) (Z : Bl mg) (G_l_number : Kn P w K mg base "_law_number" P_l_number LV_l_number sp_l_number) : FnOk P w K mg base CX0 LV_l_net_due f fd P_l_net_due sp_l_net_due := by
  refine F.ok sc_l_net_due (fun vs H Q E h => ?_) (fun cdv A outer s H vs Q E hr h => ?_)
  · obtain ⟨x, rfl, _⟩ := h
    rfl
  obtain ⟨x, rfl, hx, qX, q⟩ := h
  refine ⟨_, (pss_cons (ps_par (i := 1) (j := 2) (by rfl) sc_l_net_due.nd rfl rfl (by decide) rfl rfl (pa_cons (pe_split (pv 0) pe_str) (pa_cons (pe_lstN pa_nil) pa_nil)) (by rfl))
    (pss_cons (ps_for PassesOwn.never rfl (pi_enum (by rfl) Z.enumerate (pa_cons (pv 1) pa_nil)) (pg_tup rfl (pgs_cons (pg_name (i := 3) sc_l_net_due.nd rfl (Or.inl rfl)) (pgs_cons (pg_name (i := 4) sc_l_net_due.nd rfl (Or.inl rfl)) pgs_nil)))
    (pss_cons (ps_set (i := 5) sc_l_net_due.nd rfl (Or.inl rfl) (pe_lstN pa_nil))
    (pss_cons (ps_for PassesOwn.never rfl (pi_list (pe_split (pv 4) pe_str)) (pg_name (i := 6) sc_l_net_due.nd rfl (Or.inl rfl))
    (pss_cons (ps_set (i := 7) sc_l_net_due.nd rfl (Or.inl rfl) (pe_own G_l_number (hr.mono (by decide)) (by rfl) (pa_cons (pv 6) pa_nil)))
    (pss_cons (ps_set (i := 8) sc_l_net_due.nd rfl (Or.inl rfl) (pe_cut (pe_and (pe_chain op_lt op_lt pe_int (pe_callB call_len_str (by rfl) Z.len (by decide +kernel) (pa_cons (pv 6) pa_nil)) pe_int) (pe_one (pe_cmpR op_eq (pe_stripC (pv 6) pe_str) pe_str (nomark _))))))
    (pss_cons (ps_if (pt_cut (PW.pt (pw_and (pt_not (pt_val (pv 8))) (pw_and1 (PW.pt (pw_or (pt_cmpR op_isN (pv 7) pe_non (nomark _)) (pw_or1 (pt_not (pt_chain op_lt op_lt (pv 3) (pv 7) (pe_callB (call_lenN (K := K)) (by rfl) Z.len (by decide +kernel) (pa_cons (pv 1) pa_nil))))))))))) (pss_one (ps_ret (pv 3))) pss_nil)
    (pss_one (ps_expr (pe_bm PySem.F.plainAttrs_list PySem.F.slot_list_append PySem.F.type_list_append mt_append (pv 5) (pa_cons (pe_cut (pe_ifExp (pt_val (pv 8)) (pv 6) (pv 7))) pa_nil))))))))
    (pss_cons (ps_if (pt_cmpR op_ne (pe_callB (call_lenN (K := K)) (by rfl) Z.len (by decide +kernel) (pa_cons (pv 5) pa_nil)) pe_int (nomark _)) (pss_one (ps_ret (pv 3))) pss_nil)
    (pss_one (ps_expr (pe_bm PySem.F.plainAttrs_list PySem.F.slot_list_append PySem.F.type_list_append mt_append (pv 2) (pa_cons (pe_callTy (call_tupleN (K := K)) (by rfl) Z.tuple (by decide +kernel) (pa_cons (pv 5) pa_nil)) pa_nil))))))))
    (pss_cons (ps_set (i := 9) sc_l_net_due.nd rfl (Or.inr rfl) (pe_lstN pa_nil))
    (pss_cons (ps_for PassesOwn.never rfl (pi_list (pv 2)) (pg_name (i := 5) sc_l_net_due.nd rfl (Or.inl rfl))
    (pss_one (ps_expr (pe_bm PySem.F.plainAttrs_list PySem.F.slot_list_extend PySem.F.type_list_extend mt_extendT (pv 9) (pa_cons (pv 5) pa_nil)))))
    (pss_cons (ps_setLcN (i := 10) (own := [("_law_k", 3)]) (g := (gName 3)) (by rfl) sc_l_net_due.nd rfl rfl (sw_true rfl rfl rfl (by decide +kernel)) (pi_range2 (by rfl) Z.range (pa_cons pe_int (pa_cons (pe_callB (call_lenN (K := K)) (by rfl) Z.len (by decide +kernel) (pa_cons (pv 1) pa_nil)) pa_nil))) (blkOk_by (own := [("_law_k", 3)]) (N := N_l_net_due) (sc := defScope s_l_net_due) (by decide +kernel)) (fun _ _ _ _ _ => (pg_name (i := 3) sc_l_net_due.nd rfl (Or.inl rfl))) (fun _ _ _ _ _ => (pts_one (pt_cmpR (op_notInT (K := K)) (pv 3) (pv 9) (by rfl)))) (fun _ _ _ _ _ => (pv 3)))
    (pss_one (ps_ret (pe_ifExp (pt_cmpR (neD (K := K) hr.units) (pv 10) (pe_lstN pa_nil) (nomark _)) (pe_ix (ixs (K := K)) (pv 10) pe_int (fun _ _ => rfl)) (pe_callTy (call_tupleN (K := K)) (by rfl) Z.tuple (by decide +kernel) (pa_cons (pv 2) pa_nil)))))))))), ?_⟩
  have hx9 : x.length + 2 ≤ sizeLine := by rw [sizeLine_eq]; omega
  obtain ⟨rs, hrs⟩ : ∃ rs, rs = rowsT x := ⟨_, rfl⟩
  have hrl : rs.length ≤ 641 := by
    rw [hrs]
    unfold rowsT
    rw [nl_eq]
    exact cut_640 hx (by decide)
  refine ⟨_, rfl, ⟨_, rfl⟩, x, _, rfl, rfl, by decide +kernel, hx9, fun l nl => ?_⟩
  have S1 : Same H (upd H l (.lst (rs.map V.str))) := same_upd nl
  have el : upd H l (.lst (rs.map V.str)) l = some (.lst (rs.map V.str)) := upd_same
  show tLstN _ _ (upd H l (.lst ((rowsT x).map V.str))) _
  rw [← hrs]
  generalize upd H l (.lst (rs.map V.str)) = H1 at S1 el ⊢
  refine ⟨(by show 0 ≤ sizeLine; exact Nat.zero_le _), fun pf H2 npf S2 epf => ?_⟩
  have el2 := S2 _ _ el
  have hm : (rowsT x).length = rs.length := by rw [hrs]
  refine ⟨_, _, rfl, _, rfl, l, _, rfl, SqL.of el2, for_it (walk_enum (K := K) (a := l) (xs := rs.map V.str)) (fun i σ H' => (∃ y3 y4 y5 y6 y7 y8 : Option V, σ = [some (.str x), some (.ref l), some (.ref pf), y3, y4, y5, y6, y7, y8, none, none]) ∧ Same H1 H' ∧ ∃ (us : List V) (N : List (Key × Key)), H' pf = some (.lst us) ∧ PrsAt H' us N ∧ NetPre x N i)
    ⟨⟨_, _, _, _, _, _, rfl⟩, S2, [], [], epf, ⟨rfl, fun i p h => by rw [List.getElem?_nil] at h; cases h⟩, rfl, fun i p h => by rw [List.getElem?_nil] at h; cases h⟩ (fun i σ H' _ hP => SqL.of (hP.2.1 _ _ el)) (fun i v σ H3 H4 hi hP hY => ?_) (fun σ H3 hP => ?_)⟩
  · obtain ⟨⟨y3, y4, y5, y6, y7, y8, rfl⟩, S3, us, N, ep3, hpr, hpre⟩ := hP
    obtain ⟨T3, x1, x2, rfl, nT3, rfl, i1, i2⟩ := hY
    have i1 : (V.int (i : Nat)) = x1 := Option.some.inj i1
    subst i1
    obtain ⟨row, hrow, rfl⟩ : ∃ row, rs[i]? = some row ∧ x2 = .str row := by
      have i2 : (rs.map V.str)[i]? = some x2 := i2
      rw [List.getElem?_map] at i2
      cases en : rs[i]? with
      | none => rw [en] at i2; cases i2
      | some z =>
        rw [en] at i2
        exact ⟨z, rfl, (Option.some.inj i2).symm⟩
    have hrow' : (rowsT x)[i]? = some row := by rw [← hrs]; exact hrow
    have hrl9 : row.length ≤ 640 := by
      have hm := List.mem_of_getElem? hrow'
      unfold rowsT at hm
      rw [nl_eq] at hm
      exact Nat.le_trans (cut_part (by decide) hm) hx
    have ST : Same H3 (upd H3 T3 (.tup [.int (i : Nat), .str row])) := same_upd nT3
    have eT : upd H3 T3 (.tup [.int (i : Nat), .str row]) T3 = some (.tup [.int (i : Nat), .str row]) := upd_same
    generalize upd H3 T3 (.tup [.int (i : Nat), .str row]) = H4 at ST eT ⊢
    refine ⟨T3, _, rfl, SqT.of eT, rfl, _, _, rfl, _, _, rfl, rfl, ?_⟩
    obtain ⟨ps, hps⟩ : ∃ ps, ps = Txt.split row (" " : Str) := ⟨_, rfl⟩
    have hpp : ∀ p ∈ ps, p.length ≤ 640 := fun p hp => by
      rw [hps, sp_eq] at hp
      exact Nat.le_trans (cut_part (by decide) hp) hrl9
    have hpl : ps.length ≤ 641 := by
      rw [hps, sp_eq]
      exact cut_640 hrl9 (by decide)
    refine ⟨(by show 0 ≤ sizeLine; exact Nat.zero_le _), fun ll H5 nll S5 ell => ?_⟩
    refine ⟨_, rfl, ⟨_, rfl⟩, row, _, rfl, rfl, by decide +kernel, by rw [sizeLine_eq]; omega, fun l2 nl2 => ?_⟩
    have ll2 : l2 ≠ ll := fun z => by rw [z, ell] at nl2; cases nl2
    have S6 : Same H5 (upd H5 l2 (.lst (ps.map V.str))) := same_upd nl2
    have el6 : upd H5 l2 (.lst (ps.map V.str)) l2 = some (.lst (ps.map V.str)) := upd_same
    rw [← hps]
    generalize upd H5 l2 (.lst (ps.map V.str)) = H6 at S6 el6 ⊢
    have hnone : ∀ p ∈ ps, leadR i rs.length p = none → rowR i (rowsT x).length row = none := fun p hp h => by
      rw [hps] at hp
      rw [hm]
      exact rowR_none hp h
    refine ⟨l2, rfl, ⟨_, SqL.of el6⟩, for_it (walk_list (K := K) (a := l2) (xs := ps.map V.str)) (fun j σ H' => (∃ y6 y7 y8 : Option V, σ = [some (.str x), some (.ref l), some (.ref pf), some (.int (i : Nat)), some (.str row), some (.ref ll), y6, y7, y8, none, none]) ∧ Same H4 H' ∧ H' l2 = some (.lst (ps.map V.str)) ∧ ∃ ks : List Key, H' ll = some (.lst (ks.map kV)) ∧ ks.map some = (ps.take j).map (leadR i rs.length))
      ⟨⟨_, _, _, rfl⟩, S5.trans S6, el6, [], S6 _ _ ell, rfl⟩ (fun j σ H' _ hP => SqL.of hP.2.2.1) (fun j v σ H7 H8 hj hP hY => ?_) (fun σ H7 hP => ?_)⟩
    · obtain ⟨⟨y6, y7, y8, rfl⟩, S7, e2, ks, elk, hks⟩ := hP
      obtain ⟨rfl, hv⟩ := hY
      rw [List.getElem?_map] at hv
      cases en : ps[j]? with
      | none => rw [en] at hv; cases hv
      | some p =>
        rw [en] at hv
        have hv : V.str p = v := Option.some.inj hv
        subst hv
        have hpm : p ∈ ps := List.mem_of_getElem? en
        have hp6 := hpp p hpm
        have hkl : ks.length ≤ 641 := by
          have h := congrArg List.length hks
          rw [List.length_map, List.length_map, List.length_take] at h
          omega
        refine ⟨_, rfl, p, rfl, hp6, fun H9 S9 => ?_⟩
        have hS9 : Same H1 H9 := S3.trans (ST.trans (S7.trans S9))
        have elk9 := S9 _ _ elk
        have hp99 : p.length ≤ sizeLine := by rw [sizeLine_eq]; omega
        refine ⟨fun v H' => v = .bl (nameB (.str p)) ∧ H' = H9, ?_, ?_⟩
        · rw [name_eq]
          refine ⟨_, rfl, p, rfl, hp99, _, _, rfl, rfl, _, rfl, ?_⟩
          by_cases h1 : (0 : Int) < (p.length : Int)
          case neg =>
            rw [decide_eq_false h1]
            exact ite2 (fun z => absurd z (by decide)) (fun _ => ⟨_, rfl, ite2 (fun z => absurd z (by decide)) (fun _ => ⟨rfl, rfl⟩)⟩)
          rw [decide_eq_true h1]
          refine ite2 (fun _ => ⟨_, _, rfl, rfl, _, rfl, ?_⟩) (fun z => absurd rfl z)
          by_cases h2 : (p.length : Int) < 9
          case neg =>
            rw [decide_eq_false h2]
            exact ite2 (fun z => absurd z (by decide)) (fun _ => ⟨rfl, rfl⟩)
          rw [decide_eq_true h2]
          exact ite2 (fun _ => ⟨_, rfl, ⟨_, rfl⟩, p, _, rfl, rfl, hp99, rfl, rfl, rfl⟩) (fun z => absurd rfl z)
        rintro _ H9' ⟨rfl, hH⟩
        subst hH
        refine ⟨fun b H' => b = !(leadR i rs.length p).isSome ∧ H' = H9', ?_, ?_⟩
        · refine ⟨_, rfl, _, rfl, ?_⟩
          by_cases c : nameB (.str p) = true
          · have hl : (leadR i rs.length p).isSome = true := by
              unfold leadR
              rw [if_pos c]
              rfl
            rw [hl, c]
            exact ite2 (fun z => absurd z (by decide)) (fun _ => ⟨rfl, rfl⟩)
          rw [Bool.eq_false_iff.mpr c]
          refine ite2 (fun _ => ⟨_, rfl, rfl, _, rfl, ?_⟩) (fun z => absurd rfl z)
          cases hn : numT p with
          | none =>
            have hl : (leadR i rs.length p).isSome = false := by
              unfold leadR
              rw [if_neg c, hn]
              rfl
            rw [hl]
            exact iteD rfl ⟨rfl, rfl⟩
          | some n =>
            have hl : (leadR i rs.length p).isSome = (decide ((i : Int) < (n : Int)) && decide ((n : Int) < ((rs.map V.str).length : Int))) := by
              unfold leadR
              rw [if_neg c, hn, List.length_map]
              show (if i < n ∧ n < rs.length then some (Sum.inl (n : Int) : Key) else none).isSome = _
              by_cases h1 : i < n
              · by_cases h2 : n < rs.length
                · rw [if_pos ⟨h1, h2⟩, decide_eq_true (by omega), decide_eq_true (by omega)]
                  rfl
                · rw [if_neg (fun z => h2 z.2), decide_eq_false (p := (n : Int) < (rs.length : Int)) (by omega), Bool.and_false]
                  rfl
              · rw [if_neg (fun z => h1 z.1), decide_eq_false (p := (i : Int) < (n : Int)) (by omega), Bool.false_and]
                rfl
            rw [hl]
            refine iteDN (fun z => by cases z) ?_
            refine ⟨_, rfl, _, rfl, _, _, rfl, rfl, _, rfl, ?_⟩
            by_cases h1 : (i : Int) < (n : Int)
            · rw [decide_eq_true h1]
              exact ite2 (fun _ => ⟨_, rfl, l, _, rfl, .inl (SqL.of (hS9 _ _ el)), _, _, rfl, rfl, _, rfl, rfl, rfl⟩) (fun z => absurd rfl z)
            · rw [decide_eq_false h1]
              exact ite2 (fun z => absurd z (by decide)) (fun _ => ⟨_, rfl, rfl, rfl⟩)
        rintro _ H9 ⟨rfl, hH⟩
        subst hH
        cases hl : leadR i rs.length p with
        | none => exact ite2 (fun _ => ⟨_, rfl, qX i (.bad i row N hrow' (hnone p hpm hl) hpre) _ (S1.trans hS9)⟩) (fun z => absurd rfl z)
        | some y =>
          refine ite2 (fun z => absurd (show false = true from z) (by decide)) (fun _ => ?_)
          refine ⟨_, rfl, .inl ⟨rfl, _, SqL.of elk9⟩, fun v H' => v = kV y ∧ H' = H9, ?_, ?_⟩
          · have hv := lead_val hl
            unfold leadV at hv
            refine ⟨_, rfl, _, rfl, ?_⟩
            by_cases c : nameB (.str p) = true
            · rw [if_pos c] at hv
              rw [c]
              exact ite2 (fun _ => ⟨_, rfl, hv, rfl⟩) (fun z => absurd rfl z)
            · rw [if_neg c] at hv
              rw [Bool.eq_false_iff.mpr c]
              exact ite2 (fun z => absurd z (by decide)) (fun _ => ⟨_, rfl, hv, rfl⟩)
          rintro _ H9' ⟨rfl, hH⟩
          subst hH
          refine ⟨ll, _, _, rfl, rfl, elk9, szl (by rw [List.length_map]; omega), ⟨_, _, _, rfl⟩, Same.of_upd (S7.trans S9) nll, (upd_ne ll2).trans (S9 _ _ e2), ks ++ [y], ?_, ?_⟩
          · rw [upd_same, List.map_append]
            rfl
          · rw [List.map_append, hks, List.take_add_one, en, List.map_append]
            show _ ++ [some y] = _ ++ [leadR i rs.length p]
            rw [hl]
    obtain ⟨⟨y6, y7, y8, rfl⟩, S7, e2, ks, elk, hks⟩ := hP
    rw [List.length_map, List.take_length] at hks
    have hkl : ks.length = ps.length := by
      have h := congrArg List.length hks
      rw [List.length_map, List.length_map] at h
      exact h
    have hS7 : Same H1 H7 := S3.trans (ST.trans S7)
    have ep7 := S7 _ _ (ST _ _ ep3)
    have hpr7 := (hpr.same ST).same S7
    refine ⟨_, rfl, ll, _, rfl, .inl (SqL.of elk), rfl, _, rfl, ?_⟩
    rw [List.length_map, hkl]
    by_cases h2 : ps.length = 2
    case neg =>
      have hr : rowR i (rowsT x).length row = none := by
        unfold rowR
        rw [← hps]
        split
        · exact absurd rfl h2
        · rfl
      refine iteN (fun z => h2 (by have := V.int.inj z; omega)) ?_
      exact ⟨_, rfl, qX i (.bad i row N hrow' hr hpre) _ (S1.trans hS7)⟩
    rw [decide_eq_true (show V.int ((ps.length : Nat) : Int) = V.int 2 by rw [h2]; rfl)]
    refine ite2 (fun z => absurd z (by decide)) (fun _ => ?_)
    obtain ⟨pa, pb, rfl⟩ : ∃ pa pb, ps = [pa, pb] := by
      match ps, h2 with
      | [pa, pb], _ => exact ⟨pa, pb, rfl⟩
    obtain ⟨ka, kb, rfl⟩ : ∃ ka kb, ks = [ka, kb] := by
      match ks, hkl with
      | [ka, kb], _ => exact ⟨ka, kb, rfl⟩
    have hk1 : leadR i rs.length pa = some ka := (List.cons.inj hks).1.symm
    have hk2 : leadR i rs.length pb = some kb := (List.cons.inj (List.cons.inj hks).2).1.symm
    have hr : rowR i (rowsT x).length row = some (ka, kb) := by
      unfold rowR
      rw [← hps, hm]
      show (match leadR i rs.length pa, leadR i rs.length pb with | some x, some y => some (x, y) | _, _ => none) = _
      rw [hk1, hk2]
    have hus : us.length ≤ 641 := by
      have h5 := hpr7.1
      have h6 := hpre.1
      have h7 := (List.getElem?_eq_some_iff.mp hrow).1
      omega
    refine ⟨_, rfl, .inl ⟨rfl, _, SqL.of ep7⟩, _, rfl, ll, _, rfl, SqL.of elk, fun pr H8 npr S8 epr => ?_⟩
    refine ⟨pf, us, _, rfl, rfl, S8 _ _ ep7, szl (by omega), ⟨_, _, _, _, _, _, rfl⟩, Same.of_upd (hS7.trans S8) npf, us ++ [.ref pr], N ++ [(ka, kb)], upd_same, ((hpr7.same S8).put (p := (ka, kb)) epr).upd (S8 _ _ ep7), pre_put hpre hrow' hr⟩
  obtain ⟨⟨y3, y4, y5, y6, y7, y8, rfl⟩, S3, us, N, ep3, hpr, hpre⟩ := hP
  rw [List.length_map] at hpre
  have hpre : NetPre x N (rowsT x).length := by rw [hm]; exact hpre
  have hNl : N.length = rs.length := by rw [hpre.1, hm]
  have hS3 := S1.trans S3
  have hul : us.length = N.length := hpr.1
  refine ⟨(by show 0 ≤ sizeLine; exact Nat.zero_le _), fun ld H4 nld S4 eld => ?_⟩
  have ep4 := S4 _ _ ep3
  refine ⟨_, rfl, pf, rfl, ⟨_, SqL.of ep4⟩, for_it (walk_list (K := K) (a := pf) (xs := us)) (fun i σ H' => (∃ y5 : Option V, σ = [some (.str x), some (.ref l), some (.ref pf), y3, y4, y5, y6, y7, y8, some (.ref ld), none]) ∧ Same H3 H' ∧ H' ld = some (.lst ((N.take i).flatMap fun p => [kV p.1, kV p.2])))
    ⟨⟨_, rfl⟩, S4, eld⟩ (fun i σ H' _ hP => SqL.of (hP.2.1 _ _ ep3)) (fun i v σ H5 H6 hi hP hY => ?_) (fun σ H5 hP => ?_)⟩
  · obtain ⟨⟨y5, rfl⟩, S5, e5⟩ := hP
    obtain ⟨rfl, hv⟩ := hY
    have hiN : i < N.length := by omega
    obtain ⟨q, eq1, eq2⟩ := hpr.2 i _ (List.getElem?_eq_getElem hiN)
    rw [eq1] at hv
    have hv : V.ref q = v := Option.some.inj hv
    subst hv
    have hln : ((N.take i).flatMap fun p => [kV p.1, kV p.2]).length ≤ 2 * 641 := by
      have key : ∀ M : List (Key × Key), (M.flatMap fun p => [kV p.1, kV p.2]).length = 2 * M.length := by
        intro M
        induction M with
        | nil => rfl
        | cons y M ih =>
          rw [List.flatMap_cons, List.length_append, ih]
          show 2 + _ = 2 * (M.length + 1)
          omega
      rw [key, List.length_take]
      omega
    refine ⟨_, rfl, .inl ⟨rfl, _, SqL.of e5⟩, _, rfl, ld, q, _, _, rfl, rfl, e5, S5 _ _ eq2, ?_, ⟨_, rfl⟩, Same.of_upd S5 nld, ?_⟩
    · rw [sizeLine_eq]
      show _ + 2 ≤ _
      omega
    · rw [upd_same, List.take_add_one, List.getElem?_eq_getElem hiN, List.flatMap_append]
      rfl
  obtain ⟨⟨y5, rfl⟩, S5, e5⟩ := hP
  rw [hul, List.take_length] at e5
  have el5 := S5 _ _ (S3 _ _ el)
  have hr0 : 0 < rs.length := by
    rw [hrs]
    unfold rowsT
    rw [nl_eq]
    exact List.length_pos_iff.mpr (cut_ne x 10 (by decide))
  refine ⟨_, rfl, l, _, rfl, .inl (SqL.of el5), 1, _, rfl, ?_, fun D nD => ?_⟩
  · rw [List.length_map]
    omega
  have hn : (((rs.map V.str).length : Int) - 1).toNat = rs.length - 1 := by
    rw [List.length_map]
    omega
  rw [hn]
  refine lc_range (lo := 1) (n := rs.length - 1) (fun j H' => Same H5 H' ∧ H' D = some (.lst (((lostN N j).map fun t : Nat => (((t + 1 : Nat)) : Int)).map V.int))) ⟨same_upd nD, upd_same⟩ (fun j H6 hj hP => ?_) (fun H6 hP => ?_)
  · obtain ⟨S6, eD⟩ := hP
    have e1 : (1 : Int) + ((j : Nat) : Int) = ((j + 1 : Nat) : Int) := by omega
    rw [e1]
    have hll : (lostN N j).length ≤ 641 := by
      have h := List.length_filter_le (fun t : Nat => !decide ((((t + 1 : Nat) : Int)) ∈ ledK N)) (List.range j)
      rw [List.length_range] at h
      unfold lostN
      omega
    have etk : lostN N (j + 1) = lostN N j ++ (if (!decide ((((j + 1 : Nat) : Int)) ∈ ledK N)) = true then [j] else []) := by
      unfold lostN
      rw [List.range_succ, List.filter_append]
      congr 1
      rw [List.filter_cons, List.filter_nil]
    refine ⟨rfl, _, rfl, _, rfl, ld, _, rfl, .inl (SqL.of (S6 _ _ e5)), rfl, flat_led N, _, rfl, ?_⟩
    show if (!inV (.int ((j + 1 : Nat) : Int)) (N.flatMap fun p => [kV p.1, kV p.2])) = true then _ else _
    rw [inV_led]
    by_cases c : (((j + 1 : Nat) : Int)) ∈ ledK N
    · rw [decide_eq_true c] at etk ⊢
      refine ite2 (fun z => absurd z (by decide)) (fun _ => ⟨S6, ?_⟩)
      rw [etk]
      show _ = some (HO.lst (((lostN N j ++ []).map fun t : Nat => (((t + 1 : Nat)) : Int)).map V.int))
      rw [List.append_nil]
      exact eD
    · rw [decide_eq_false c] at etk ⊢
      refine ite2 (fun _ => ⟨_, rfl, _, eD, szl (by rw [List.length_map, List.length_map]; omega), Same.of_upd S6 nD, ?_⟩) (fun z => absurd rfl z)
      rw [upd_same, etk, List.map_append, List.map_append]
      rfl
  obtain ⟨S6, eD⟩ := hP
  have hS6 := hS3.trans (S5.trans S6)
  refine ⟨_, rfl, (by show 0 ≤ sizeLine; exact Nat.zero_le _), fun ez H7 nez S7 eez => ?_⟩
  refine ⟨.list (((lostN N (rs.length - 1)).map fun t : Nat => (((t + 1 : Nat)) : Int)).map PyData.int), .list [], .lst (SqL.of (S7 _ _ eD)) (dpInts _), .lst (SqL.of eez) .nil, Sh.ok (n := 1) (.list (.map _ fun x _ => .int _)), Sh.ok (n := 1) (.list .nil), _, rfl, ?_⟩
  have hfind : (lostN N (rs.length - 1)).head? = (List.range (rs.length - 1)).find? fun t => !decide ((((t + 1 : Nat) : Int)) ∈ ledK N) := List.head?_filter ..
  cases hL : lostN N (rs.length - 1) with
  | nil =>
    rw [hL] at hfind
    have hall := List.find?_eq_none.mp hfind.symm
    refine ite2 (fun z => absurd (show false = true from z) (by decide)) (fun _ => ?_)
    refine ⟨_, rfl, pf, _, rfl, SqL.of (S7 _ _ (S6 _ _ (S5 _ _ ep3))), fun p H8 np S8 ep => ?_⟩
    refine q N (.ok N hpre fun i h1 h2 => ?_) p H8 (hS6.trans (S7.trans S8)) ?_
    · have h := hall (i - 1) (List.mem_range.mpr (by rw [hm] at h2; omega))
      rw [show i - 1 + 1 = i by omega] at h
      simpa using h
    · exact .tup (n := 1) ep (by omega) (prs_dt (((hpr.same S5).same S6).same (S7.trans S8)))
  | cons t r =>
    rw [hL] at hfind
    obtain ⟨h1, h2, h3⟩ := List.find?_range_eq_some.mp hfind.symm
    have h2 := List.mem_range.mp h2
    rw [hL] at eD
    refine ite2 (fun _ => ?_) (fun z => absurd rfl z)
    refine ⟨_, rfl, .inl ⟨D, _, 0, .int ((t + 1 : Nat) : Int), rfl, rfl, SqL.of (S7 _ _ eD), atI_nat (j := 0) rfl, ?_⟩⟩
    refine qX (t + 1) (.lost N (t + 1) hpre (by omega) (by rw [hm]; omega) (by simpa using h1) fun i i1 i2 => ?_) _ (hS6.trans S7)
    have h := h3 (i - 1) (by omega)
    rw [show i - 1 + 1 = i by omega] at h
    simpa using h
noncomputable abbrev LV_l_read : Nat := 7
theorem pure_injE {α : Type} {a b : α} (h : (pure a : Sem α) = pure b) : a = b := by
  injection h
theorem kit_base {K : PySem.W.Frag} {x : Str} {C fI : Addr} {B nid iid : String} {bm : List Value} (F : ExF K x C fI B nid iid bm) (T : String) (hm : PySem.W.kitMeta T = true) : PySem.W.kitOne K (.ref C) (.type T) = some (bm.contains (.type T)) := by
  unfold PySem.W.kitOne PySem.W.kitCls
  rw [if_neg (by intro z; cases beq_iff_eq.mp z)]
  show (if PySem.W.kitMeta T = true then PySem.W.subIn K (.ref C) (.type T) else _) = _
  rw [if_pos hm, F.own.subs, List.contains_cons]
  rfl
theorem bm_val {K : PySem.W.Frag} {x : Str} {C fI : Addr} {nid iid : String} {bm : List Value} (F : ExF K x C fI "ValueError" nid iid bm) : bm = [.type "ValueError", .type "Exception", .type "BaseException", .type "object"] := pure_injE (F.own.base.mroIs.symm.trans PySem.F.excBase_ValueError.mroIs)
noncomputable def sp_l_read : Sp := fun vs H Q _ => ∃ (x : Str) (way : Nat), vs = [.str x, .int (way : Int)] ∧ way < 4 ∧ x.length ≤ 640 ∧
  (way % 2 = 0 → (wordR x = none → ∀ H', Same H H' → Q (.int 0) H') ∧ (∀ ws, wordR x = some ws → ∀ (p : Addr) (H' : Hp), Same H H' → H' p = some (.tup (ws.map V.int)) → Q (.ref p) H')) ∧
  (way % 2 = 1 → (∀ k : Nat, NetRes x (.inl k) → ∀ H', Same H H' → Q (.int (k : Int)) H') ∧ (∀ N, NetRes x (.inr N) → ∀ (p : Addr) (H' : Hp), Same H H' → Dt H' 2 (.ref p) (netD N) → Q (.ref p) H'))
theorem ok_l_read {f : Addr} {fd : FuncData} (F : Fun K "_law_read" "_law_read" s_l_read f fd) (Z : Bl mg) (X_BadRow : ExK P w K mg base "BadRow" "ValueError") (G_word_in : KnX P w K mg base "word_in" P_word_in LV_word_in (sp_word_in K)) (G_net_in : KnX P w K mg base "net_in" P_net_in LV_net_in (sp_net_in K)) (GK_net_in_0_text : KnKX P w K mg base "net_in" P_net_in LV_net_in (sp_net_in K) 0 ["text"] [0]) (GK_word_in_0_text : KnKX P w K mg base "word_in" P_word_in LV_word_in (sp_word_in K) 0 ["text"] [0]) : FnOk P w K mg base CX0 LV_l_read f fd P_l_read sp_l_read := by
  refine F.ok sc_l_read (fun vs H Q E h => ?_) (fun cdv A outer s H vs Q E hr h => ?_)
  · obtain ⟨x, way, rfl, _⟩ := h
    rfl
  obtain ⟨C_BadRow, fI_BadRow, nid_BadRow, iid_BadRow, bm_BadRow, fd_BadRow, F_BadRow, m_BadRow, _, _⟩ := id X_BadRow
  obtain ⟨x, way, rfl, hw, hx, q0, q1⟩ := h
  refine ⟨_, (pss_cons (ps_asg (pe_tupN (pa_cons pe_non (pa_cons pe_non pa_nil))) (pg_tup rfl (pgs_cons (pg_name (i := 2) sc_l_read.nd rfl (Or.inl rfl)) (pgs_cons (pg_name (i := 3) sc_l_read.nd rfl (Or.inl rfl)) pgs_nil))))
    (Evl.pss_cut (ps_try_one (i := 4) rfl rfl sc_l_read.nd rfl rfl (fun _ _ => ⟨by rfl, by decide, .inl m_BadRow⟩) takes0 (fun _ _ _ tk pt => (pss_one (ps_if (pt_cmpR op_eq (pe_op op_mod (pv 1) pe_int) pe_int (nomark _)) (pss_one (ps_set (i := 3) sc_l_read.nd rfl (Or.inl rfl) (pe_ifExp (pt_cmpR op_eq (pv 1) pe_int (nomark _)) (pe_ownX G_word_in (hr.mono (by decide)) tk (by rfl) (pa_cons (pv 0) pa_nil)) (pe_ownK0S GK_word_in_0_text (hr.mono (by decide)) tk (by rfl) (pk_cons (pv 0) pk_nil))))) (pss_one (ps_set (i := 3) sc_l_read.nd rfl (Or.inl rfl) (pe_ifExp (pt_cmpR op_eq (pv 1) pe_int (nomark _)) (pe_ownX G_net_in (hr.mono (by decide)) tk (by rfl) (pa_cons (pv 0) pa_nil)) (pe_ownK0S GK_net_in_0_text (hr.mono (by decide)) tk (by rfl) (pk_cons (pv 0) pk_nil)))))))) (fun _ _ => (pss_one (ps_set (i := 2) sc_l_read.nd rfl (Or.inl rfl) (pv 4)))))
    (pss_cons (ps_if (pt_cmpR op_isN (pv 2) pe_non (nomark _)) (pss_one (ps_ret (pv 3))) pss_nil)
    (pss_one (ps_ret (pe_ifExp (pt_val (pe_callB (isiQ (K := K)) (by rfl) Z.isinstance (by decide +kernel) (pa_cons (pv 2) (pa_cons (pe_bltn (v := .ty "ValueError") (by rfl) Z.ValueError (by decide +kernel) rfl) pa_nil)))) (pe_held (pv 2)) pe_str)))))), ?_⟩
  have hb := bm_val F_BadRow
  have c1 := F_BadRow.c1
  refine ⟨(by show 2 ≤ sizeLine; decide), fun pp H1 npp S1 epp => ⟨pp, _, rfl, SqT.of epp, rfl, _, _, rfl, _, _, rfl, rfl, ?_⟩⟩
  refine ⟨fun σ H' => (∃ v : V, σ = [some (.str x), some (.int (way : Int)), some .non, some v, none] ∧ Q v H') ∨ (∃ (ex d : Addr) (i : Int), σ = [some (.str x), some (.int (way : Int)), some (.ref ex), some .non, none] ∧ H' ex = some (exq ex (.ref C_BadRow) (some d)) ∧ H' d = some (.xd [("what", .int i)]) ∧ Q (.int i) H'), ?cutA, fun σ H' hR => ?cutB⟩
  case cutB =>
    rcases hR with ⟨v, rfl, hq⟩ | ⟨ex, d, i, rfl, eE, ed, hq⟩
    · exact ⟨_, rfl, rfl, _, rfl, iteD rfl ⟨_, rfl, hq⟩⟩
    · refine ⟨_, rfl, rfl, _, rfl, iteDN (fun z => by cases z) ?_⟩
      refine ⟨_, rfl, ex, C_BadRow, d, _, _, _, rfl, eE, ed, c1, .inr (.inl ⟨_, rfl, (kit_base F_BadRow "ValueError" (by decide +kernel)).trans (by rw [hb])⟩), _, rfl, ?_⟩
      refine ite2 (fun _ => ?_) (fun z => absurd rfl z)
      exact ⟨_, rfl, ex, C_BadRow, d, _, _, rfl, eE, ed, c1, F_BadRow.what, rfl, hq⟩
  have hw4 : way = 0 ∨ way = 1 ∨ way = 2 ∨ way = 3 := by omega
  rcases hw4 with rfl | rfl | rfl | rfl
  · refine ⟨_, rfl, _, _, rfl, rfl, (by show (0 : Int) < 2; decide), rfl, _, rfl, iteD rfl ⟨_, rfl, rfl, _, rfl, iteD rfl ⟨_, rfl, x, rfl, hx, ?_, ?_⟩⟩⟩
    · exact fun hn C d H' hC S' ed => by
        rw [hC.eq F_BadRow.nm]
        exact wone_as c1 (by show 4 < 5; decide) fun ex nex => .inr ⟨ex, d, 0, rfl, upd_same, (upd_ne (ne_of_none ed nex)).trans ed, (q0 rfl).1 hn _ ((S1.trans S').trans (same_upd nex))⟩
    · exact fun ws hw p H' S' ep => .inl ⟨_, rfl, (q0 rfl).2 ws hw p H' (S1.trans S') ep⟩
  · refine ⟨_, rfl, _, _, rfl, rfl, (by show (0 : Int) < 2; decide), rfl, _, rfl, iteDN (by decide) ⟨_, rfl, rfl, _, rfl, iteD rfl ⟨_, rfl, x, rfl, hx, ?_, ?_⟩⟩⟩
    · exact fun k hk C d H' hC S' ed => by
        rw [hC.eq F_BadRow.nm]
        exact wone_as c1 (by show 4 < 5; decide) fun ex nex => .inr ⟨ex, d, k, rfl, upd_same, (upd_ne (ne_of_none ed nex)).trans ed, (q1 rfl).1 k hk _ ((S1.trans S').trans (same_upd nex))⟩
    · exact fun N hN p H' S' ep => .inl ⟨_, rfl, (q1 rfl).2 N hN p H' (S1.trans S') ep⟩
  · refine ⟨_, rfl, _, _, rfl, rfl, (by show (0 : Int) < 2; decide), rfl, _, rfl, iteD rfl ⟨_, rfl, rfl, _, rfl, iteDN (by decide) ⟨_, rfl, rfl, x, rfl, hx, ?_, ?_⟩⟩⟩
    · exact fun hn C d H' hC S' ed => by
        rw [hC.eq F_BadRow.nm]
        exact wone_as c1 (by show 4 < 5; decide) fun ex nex => .inr ⟨ex, d, 0, rfl, upd_same, (upd_ne (ne_of_none ed nex)).trans ed, (q0 rfl).1 hn _ ((S1.trans S').trans (same_upd nex))⟩
    · exact fun ws hw p H' S' ep => .inl ⟨_, rfl, (q0 rfl).2 ws hw p H' (S1.trans S') ep⟩
  · refine ⟨_, rfl, _, _, rfl, rfl, (by show (0 : Int) < 2; decide), rfl, _, rfl, iteDN (by decide) ⟨_, rfl, rfl, _, rfl, iteDN (by decide) ⟨_, rfl, rfl, x, rfl, hx, ?_, ?_⟩⟩⟩
    · exact fun k hk C d H' hC S' ed => by
        rw [hC.eq F_BadRow.nm]
        exact wone_as c1 (by show 4 < 5; decide) fun ex nex => .inr ⟨ex, d, k, rfl, upd_same, (upd_ne (ne_of_none ed nex)).trans ed, (q1 rfl).1 k hk _ ((S1.trans S').trans (same_upd nex))⟩
    · exact fun N hN p H' S' ep => .inl ⟨_, rfl, (q1 rfl).2 N hN p H' (S1.trans S') ep⟩
noncomputable abbrev LV_l_spoilt : Nat := 2
noncomputable def JL (ys : List Str) : Nat := (ys.map fun y => y.length + 1).sum
theorem JL_eq : ∀ ys : List Str, JL ys = lenJ (ys.map TL.tl)
  | [] => rfl
  | y :: ys => by
    show (y.length + 1) + JL ys = ((TL.tl y).length + 1) + lenJ (ys.map TL.tl)
    rw [JL_eq ys, TL.len_tl]
theorem JL_app (a b : List Str) : JL (a ++ b) = JL a + JL b := by
  unfold JL
  rw [List.map_append, List.sum_append]
theorem JL_part (ys : List Str) (i j : Nat) : JL ((ys.drop i).take j) ≤ JL ys := by
  have h1 := JL_app (ys.take i) (ys.drop i)
  have h2 := JL_app ((ys.drop i).take j) ((ys.drop i).drop j)
  rw [List.take_append_drop] at h1 h2
  omega
theorem JL_rev (ys : List Str) : JL ys.reverse = JL ys := by
  unfold JL
  rw [List.map_reverse, List.sum_reverse]
theorem JL_set : ∀ (ys : List Str) (k : Nat) (r y : Str), ys[k]? = some r → JL (ys.set k y) + (r.length + 1) = JL ys + (y.length + 1)
  | [], k, r, y, h => by rw [List.getElem?_nil] at h; cases h
  | z :: ys, 0, r, y, h => by
    have h : z = r := Option.some.inj h
    subst h
    show (y.length + 1) + JL ys + (z.length + 1) = (z.length + 1) + JL ys + (y.length + 1)
    omega
  | z :: ys, k + 1, r, y, h => by
    have ih := JL_set ys k r y h
    show (z.length + 1) + JL (ys.set k y) + (r.length + 1) = (z.length + 1) + JL ys + (y.length + 1)
    omega
theorem JL_len (ys : List Str) : ys.length ≤ JL ys := by
  induction ys with
  | nil => exact Nat.le_refl 0
  | cons y ys ih =>
    show ys.length + 1 ≤ (y.length + 1) + JL ys
    omega
theorem JL_sum (y : Str) (hy : y.length = 1) (ys : List Str) : (ys.map (·.length)).sum + ys.length * y.length = JL ys := by
  rw [hy, Nat.mul_one]
  induction ys with
  | nil => rfl
  | cons z ys ih =>
    rw [List.map_cons, List.sum_cons, List.length_cons]
    show _ = (z.length + 1) + JL ys
    omega
theorem JL_join {c : Nat} {ys : List Str} (h : ys ≠ []) : (Txt.join (⟨#[c]⟩ : Str) ys).length + 1 = JL ys := by
  rw [JL_eq, ← join_lenJ c (fun e => h (List.map_eq_nil_iff.mp e)), TL.len_tl, TL.join_eq, TL.tl_join]
theorem JL_le {c : Nat} (ys : List Str) : (Txt.join (⟨#[c]⟩ : Str) ys).length ≤ JL ys := by
  by_cases h : ys = []
  · rw [h, TL.join_eq]; exact Nat.zero_le _
  · have := JL_join (c := c) h
    omega
theorem JL_cut (x : Str) {c : Nat} (hc : c < 256) : JL (Txt.split x ⟨#[c]⟩) = x.length + 1 := by
  rw [JL_eq, cut_lenJ x c hc, TL.len_tl]
theorem cutS_le (z : Str) (lo hi : Option Int) : (cutS z lo hi).length ≤ z.length := by
  unfold cutS
  rw [TL.len_tl, TL.tl_mk, List.length_take, List.length_drop]
  have : z.cps.toList.length = z.length := (TL.len_tl z).symm
  omega
theorem cutV_strs (ys : List Str) (lo hi : Option Int) : ∃ zs : List Str, cutV (ys.map V.str) lo hi = zs.map V.str ∧ JL zs ≤ JL ys ∧ zs.length ≤ ys.length := by
  refine ⟨(ys.drop (HT.sIx ys.length 0 lo)).take (HT.sIx ys.length ys.length hi - HT.sIx ys.length 0 lo), ?_, JL_part _ _ _, ?_⟩
  · unfold cutV
    rw [List.length_map, List.map_take, List.map_drop]
  · rw [List.length_take, List.length_drop]
    omega
noncomputable def sp_l_spoilt : Sp := fun vs H Q _ => ∃ (t : Addr) (x : Str) (b : Nat), vs = [.ref t, .str x] ∧ x.length ≤ 640 ∧ Tp (b + 5) H t ∧
  ∀ (z : Str) (H' : Hp), z.length ≤ 2 * x.length + 2 → Un t H H' → Tp b H' t → Q (.str z) H'
theorem ok_l_spoilt {f : Addr} {fd : FuncData} (F : Fun K "_law_spoilt" "_law_spoilt" s_l_spoilt f fd) (Z : Bl mg) (G_l_draw : Kn P w K mg base "_law_draw" P_l_draw LV_l_draw sp_l_draw) : FnOk P w K mg base CX0 LV_l_spoilt f fd P_l_spoilt sp_l_spoilt := by
  refine F.ok sc_l_spoilt (fun vs H Q E h => ?_) (fun cdv A outer s H vs Q E hr h => ?_)
  · obtain ⟨t, x, b, rfl, _⟩ := h
    rfl
  obtain ⟨t, x, b, rfl, hx, hT, q⟩ := h
  refine ⟨_, (pss_cons (ps_set (i := 2) sc_l_spoilt.nd rfl (Or.inl rfl) pe_str)
    (pss_cons (ps_par (i := 3) (j := 4) (by rfl) sc_l_spoilt.nd rfl rfl (by decide) rfl rfl (pa_cons (pe_own G_l_draw (hr.mono (by decide)) (by rfl) (pa_cons (pv 0) (pa_cons (pe_op op_add (pe_callB call_len_str (by rfl) Z.len (by decide +kernel) (pa_cons (pv 1) pa_nil)) pe_int) pa_nil))) (pa_cons (pe_own G_l_draw (hr.mono (by decide)) (by rfl) (pa_cons (pv 0) (pa_cons pe_int pa_nil))) pa_nil)) (by rfl))
    (pss_cons (ps_par (i := 5) (j := 6) (by rfl) sc_l_spoilt.nd rfl rfl (by decide) rfl rfl (pa_cons (pe_ix ix_str (pv 2) (pe_own G_l_draw (hr.mono (by decide)) (by rfl) (pa_cons (pv 0) (pa_cons (pe_callB call_len_str (by rfl) Z.len (by decide +kernel) (pa_cons (pv 2) pa_nil)) pa_nil))) (fun _ _ => rfl)) (pa_cons (pe_split (pv 1) pe_str) pa_nil)) (by rfl))
    (pss_cons (ps_if (pt_cmpR op_eq (pv 4) pe_int (nomark _)) (pss_one (ps_ret (pe_op op_add_str (pe_op op_add_str (pe_slice sl_str (pv 1) po_none (po_some (pv 3))) (pv 5)) (pe_slice sl_str (pv 1) (po_some (pv 3)) po_none)))) pss_nil)
    (pss_cons (ps_if (pt_cmpR op_eq (pv 4) pe_int (nomark _)) (pss_one (ps_ret (pe_op op_add_str (pe_slice sl_str (pv 1) po_none (po_some (pv 3))) (pe_slice sl_str (pv 1) (po_some (pe_op op_add (pv 3) pe_int)) po_none)))) pss_nil)
    (pss_cons (ps_if (pt_cmpR op_eq (pv 4) pe_int (nomark _)) (pss_one (ps_ret (pe_op op_add_str (pe_op op_add_str (pe_slice sl_str (pv 1) po_none (po_some (pv 3))) (pv 5)) (pe_slice sl_str (pv 1) (po_some (pe_op op_add (pv 3) pe_int)) po_none)))) pss_nil)
    (pss_cons (ps_set (i := 7) sc_l_spoilt.nd rfl (Or.inl rfl) (pe_own G_l_draw (hr.mono (by decide)) (by rfl) (pa_cons (pv 0) (pa_cons (pe_callB (call_lenN (K := K)) (by rfl) Z.len (by decide +kernel) (pa_cons (pv 6) pa_nil)) pa_nil))))
    (pss_cons (ps_if (pt_cmpR op_eq (pv 4) pe_int (nomark _)) (pss_one (ps_ret (pe_join pe_str (pe_op op_catL (pe_slice (sl_listN (K := K)) (pv 6) po_none (po_some (pv 7))) (pe_slice (sl_listN (K := K)) (pv 6) (po_some (pe_op op_add (pv 7) pe_int)) po_none))))) pss_nil)
    (pss_cons (ps_if (pt_cmpR op_eq (pv 4) pe_int (nomark _)) (pss_one (ps_ret (pe_join pe_str (pe_op op_catL (pe_slice (sl_listN (K := K)) (pv 6) po_none (po_some (pe_op op_add (pv 7) pe_int))) (pe_slice (sl_listN (K := K)) (pv 6) (po_some (pv 7)) po_none))))) pss_nil)
    (pss_cons (ps_set (i := 8) sc_l_spoilt.nd rfl (Or.inl rfl) (pe_split (pe_ix (ixs (K := K)) (pv 6) (pv 7) (fun _ _ => rfl)) pe_str))
    (pss_cons (ps_asg (pe_join pe_str (pe_cut (pe_ifExp (pt_cmpR op_eq (pv 4) pe_int (nomark _)) (pe_revN (pv 8)) (pe_op op_catL (pe_slice (sl_listN (K := K)) (pv 8) po_none (po_some pe_int)) (pv 8))))) (pg_sub (pv 6) (pv 7) set_list))
    (pss_one (ps_ret (pe_join pe_str (pv 6))))))))))))))), ?_⟩
  have hx9 : x.length + 2 ≤ sizeLine := by rw [sizeLine_eq]; omega
  obtain ⟨sg, hsg⟩ : ∃ sg : Str, sg = Str.ofString "0123456789 -abz\n\n  01A/+" := ⟨_, rfl⟩
  have hsl : sg.length = 24 := by rw [hsg]; decide +kernel
  rw [← hsg]
  have hs9 : sg.length ≤ sizeLine := by rw [sizeLine_eq]; omega
  have big : 100000 ≤ sizeLine := by rw [sizeLine_eq]; decide
  have lap : ∀ a b : Str, (a ++ b).length = a.length + b.length := fun a b => by rw [TL.len_tl, TL.tl_append, List.length_append, ← TL.len_tl, ← TL.len_tl]
  refine ⟨_, rfl, _, rfl, x, rfl, by omega, _, _, rfl, rfl, t, _, b + 4, rfl, by omega, by omega, hT, fun a0 H1 a1 a2 U1 T1 => ?_⟩
  obtain ⟨at_, rfl⟩ : ∃ at_ : Nat, a0 = (at_ : Int) := ⟨a0.toNat, by omega⟩
  refine ⟨_, rfl, t, 7, b + 3, rfl, by decide, by decide, T1, fun way H2 w1 w2 U2 T2 => ?_⟩
  refine ⟨_, _, rfl, ?_⟩
  refine ⟨_, rfl, _, rfl, _, rfl, sg, rfl, hs9, t, _, b + 2, rfl, by omega, by omega, T2, fun d3 H3 c1 c2 U3 T3 => ?_⟩
  obtain ⟨d4, rfl⟩ : ∃ d4 : Nat, d3 = (d4 : Int) := ⟨d3.toNat, by omega⟩
  have hd4 : d4 < sg.cps.toList.length := by
    have : sg.cps.toList.length = sg.length := (TL.len_tl sg).symm
    omega
  refine ⟨sg, _, _, rfl, rfl, hs9, atI_nat (List.getElem?_eq_getElem hd4), ?_⟩
  generalize sg.cps.toList[d4] = c
  obtain ⟨rs, hrs⟩ : ∃ rs, rs = Txt.split x ("\n" : Str) := ⟨_, rfl⟩
  have hnl9 : ((("\n" : Str)).length == 0) = false := by decide +kernel
  refine ⟨_, rfl, ⟨_, rfl⟩, x, _, rfl, rfl, hnl9, hx9, fun l nl => ?_⟩
  rw [← hrs]
  have hJ : JL rs = x.length + 1 := by
    rw [hrs, nl_eq]
    exact JL_cut x (by decide)
  have hrl : rs.length ≤ 641 := by
    have := JL_len rs
    omega
  have hne : rs ≠ [] := by
    rw [hrs, nl_eq]
    exact cut_ne x 10 (by decide)
  have S4 : Same H3 (upd H3 l (.lst (rs.map V.str))) := same_upd nl
  have el : upd H3 l (.lst (rs.map V.str)) l = some (.lst (rs.map V.str)) := upd_same
  generalize upd H3 l (.lst (rs.map V.str)) = H4 at S4 el ⊢
  have U4 : Un t H H4 := U1.trans (U2.trans (U3.trans (Un.same S4)))
  have T4 := T3.same S4
  have nlt : l ≠ t := T3.nn nl
  refine ⟨_, _, rfl, ?_⟩
  have lc : ((⟨#[c]⟩ : Str)).length = 1 := rfl
  refine ⟨_, rfl, rfl, _, rfl, ?_⟩
  by_cases k0 : way = 0
  · refine iteD (congrArg V.int k0) ?_
    have c1 := cutS_le x none (some (at_ : Int))
    have c2 := cutS_le x (some (at_ : Int)) none
    refine ⟨_, rfl, _, rfl, _, rfl, x, rfl, by omega, _, rfl, _, _, rfl, rfl, ?_, _, rfl, _, rfl, _, rfl, x, rfl, by omega, _, _, rfl, rfl, ?_, q _ _ ?_ U4 (T4.le (by omega))⟩
    · rw [lc]; omega
    · rw [lap, lc]; omega
    · rw [lap, lap, lc]; omega
  refine iteDN (fun z => k0 (V.int.inj z)) ?_
  refine ⟨_, rfl, rfl, _, rfl, ?_⟩
  by_cases k1 : way = 1
  · refine iteD (congrArg V.int k1) ?_
    have c1 := cutS_le x none (some (at_ : Int))
    have c2 := cutS_le x (some ((at_ : Int) + 1)) none
    refine ⟨_, rfl, _, rfl, _, rfl, x, rfl, by omega, _, rfl, _, rfl, _, _, rfl, rfl, _, rfl, x, rfl, by omega, _, _, rfl, rfl, ?_, q _ _ ?_ U4 (T4.le (by omega))⟩
    · omega
    · rw [lap]; omega
  refine iteDN (fun z => k1 (V.int.inj z)) ?_
  refine ⟨_, rfl, rfl, _, rfl, ?_⟩
  by_cases k2 : way = 2
  · refine iteD (congrArg V.int k2) ?_
    have c1 := cutS_le x none (some (at_ : Int))
    have c2 := cutS_le x (some ((at_ : Int) + 1)) none
    refine ⟨_, rfl, _, rfl, _, rfl, x, rfl, by omega, _, rfl, _, _, rfl, rfl, ?_, _, rfl, _, rfl, _, _, rfl, rfl, _, rfl, x, rfl, by omega, _, _, rfl, rfl, ?_, q _ _ ?_ U4 (T4.le (by omega))⟩
    · rw [lc]; omega
    · rw [lap, lc]; omega
    · rw [lap, lap, lc]; omega
  refine iteDN (fun z => k2 (V.int.inj z)) ?_
  have hml : ((rs.map V.str).length : Int) = (rs.length : Int) := by rw [List.length_map]
  have hr0 : 0 < rs.length := List.length_pos_iff.mpr hne
  refine ⟨_, rfl, _, rfl, l, _, rfl, .inl (SqL.of el), t, _, b + 1, rfl, by rw [hml]; omega, by rw [hml]; omega, T4.le (by omega), fun k9 H5 e1 e2 U5 T5 => ?_⟩
  rw [hml] at e2
  obtain ⟨k, rfl⟩ : ∃ k : Nat, k9 = (k : Int) := ⟨k9.toNat, by omega⟩
  have el5 := U5 _ _ nlt el
  have U6 := U4.trans U5
  have hl0 : H l = none := un_none (U1.trans (U2.trans U3)) T3.has l nl
  have fin : ∀ (ys : List Str) (H' : Hp) (p : Addr), H' p = some (.lst (ys.map V.str)) → JL ys ≤ 2 * JL rs → Un t H H' → Tp b H' t → ∃ (a : Str) (p' : Addr) (zs : List Str), V.str (Str.ofString "\n") = .str a ∧ [V.ref p] = [.ref p'] ∧ (SqL K H' p' (zs.map V.str) ∨ SqT K H' p' (zs.map V.str)) ∧ (zs.map (·.length)).sum + zs.length * a.length ≤ 16777216 ∧ Q (.str (Txt.join a zs)) H' := fun ys H' p ep hy U' T' => by
    refine ⟨_, p, ys, rfl, rfl, .inl (SqL.of ep), ?_, q _ H' ?_ U' T'⟩
    · rw [JL_sum _ (show (("\n" : Str)).length = 1 by rw [nl_eq]; rfl)]
      omega
    · show (Txt.join ("\n" : Str) ys).length ≤ _
      rw [nl_eq]
      have := JL_le (c := 10) ys
      omega
  refine ⟨_, rfl, rfl, _, rfl, ?_⟩
  by_cases k3 : way = 3
  · refine iteD (congrArg V.int k3) ?_
    obtain ⟨z1, ez1, j1, n1⟩ := cutV_strs rs none (some (k : Int))
    obtain ⟨z2, ez2, j2, n2⟩ := cutV_strs rs (some ((k : Int) + 1)) none
    refine ⟨⟨_, rfl⟩, _, rfl, _, rfl, _, rfl, l, _, rfl, SqL.of el5, fun p1 H7 np1 S7 e7 => ⟨_, rfl, _, rfl, _, _, rfl, rfl, _, rfl, l, _, rfl, SqL.of (S7 _ _ el5), fun p2 H8 np2 S8 e8 => ?_⟩⟩
    rw [ez1] at e7
    rw [ez2] at e8
    refine ⟨p1, p2, _, _, rfl, rfl, S8 _ _ e7, e8, by rw [List.length_map, List.length_map]; omega, fun p3 H9 np3 S9 e9 => ?_⟩
    have S79 := S7.trans (S8.trans S9)
    rw [← List.map_append] at e9
    exact fin (z1 ++ z2) H9 p3 e9 (by rw [JL_app]; omega) (U6.trans (Un.same S79)) ((T5.same S79).le (by omega))
  refine iteDN (fun z => k3 (V.int.inj z)) ?_
  refine ⟨_, rfl, rfl, _, rfl, ?_⟩
  by_cases k4 : way = 4
  · refine iteD (congrArg V.int k4) ?_
    obtain ⟨z1, ez1, j1, n1⟩ := cutV_strs rs none (some ((k : Int) + 1))
    obtain ⟨z2, ez2, j2, n2⟩ := cutV_strs rs (some (k : Int)) none
    refine ⟨⟨_, rfl⟩, _, rfl, _, rfl, _, _, rfl, rfl, _, rfl, l, _, rfl, SqL.of el5, fun p1 H7 np1 S7 e7 => ⟨_, rfl, _, rfl, _, rfl, l, _, rfl, SqL.of (S7 _ _ el5), fun p2 H8 np2 S8 e8 => ?_⟩⟩
    rw [ez1] at e7
    rw [ez2] at e8
    refine ⟨p1, p2, _, _, rfl, rfl, S8 _ _ e7, e8, by rw [List.length_map, List.length_map]; omega, fun p3 H9 np3 S9 e9 => ?_⟩
    have S79 := S7.trans (S8.trans S9)
    rw [← List.map_append] at e9
    exact fin (z1 ++ z2) H9 p3 e9 (by rw [JL_app]; omega) (U6.trans (Un.same S79)) ((T5.same S79).le (by omega))
  refine iteDN (fun z => k4 (V.int.inj z)) ?_
  have hk : k < rs.length := by omega
  have ek := List.getElem?_eq_getElem hk
  obtain ⟨row, hrow⟩ : ∃ row, row = rs[k] := ⟨_, rfl⟩
  rw [← hrow] at ek
  have hJr := JL_set rs k row row ek
  obtain ⟨ws, hws⟩ : ∃ ws, ws = Txt.split row (" " : Str) := ⟨_, rfl⟩
  have hrl9 : row.length ≤ x.length := by
    have := List.mem_of_getElem? ek
    rw [hrs, nl_eq] at this
    exact cut_part (by decide) this
  have hJw : JL ws = row.length + 1 := by
    rw [hws, sp_eq]
    exact JL_cut row (by decide)
  have hwne : ws ≠ [] := by
    rw [hws, sp_eq]
    exact cut_ne row 32 (by decide)
  have hwl := JL_len ws
  refine ⟨_, rfl, _, rfl, .inl ⟨l, _, (k : Int), .str row, rfl, rfl, SqL.of el5, atI_nat (by rw [List.getElem?_map, ek]; rfl), ⟨_, rfl⟩, row, _, rfl, rfl, by decide +kernel, by omega, fun l2 nl2 => ?_⟩⟩
  rw [← hws]
  have S7 : Same H5 (upd H5 l2 (.lst (ws.map V.str))) := same_upd nl2
  have el7 : upd H5 l2 (.lst (ws.map V.str)) l2 = some (.lst (ws.map V.str)) := upd_same
  generalize upd H5 l2 (.lst (ws.map V.str)) = H7 at S7 el7 ⊢
  refine ⟨⟨_, rfl⟩, fun v H' => ∃ (p : Addr) (ys : List Str), v = .ref p ∧ Same H7 H' ∧ H' p = some (.lst (ys.map V.str)) ∧ JL ys ≤ 2 * JL ws ∧ ys ≠ [], ?_, ?_⟩
  · refine ⟨_, rfl, rfl, _, rfl, ?_⟩
    by_cases k5 : way = 5
    · refine iteD (congrArg V.int k5) ?_
      refine ⟨_, rfl, l2, _, rfl, SqL.of el7, fun p H8 np S8 e8 => ⟨p, ws.reverse, rfl, S8, by rw [e8, List.map_reverse], by rw [JL_rev]; omega, fun z => hwne (List.reverse_eq_nil_iff.mp z)⟩⟩
    · refine iteDN (fun z => k5 (V.int.inj z)) ?_
      obtain ⟨z1, ez1, j1, n1⟩ := cutV_strs ws none (some (1 : Int))
      refine ⟨_, rfl, _, rfl, l2, _, rfl, SqL.of el7, fun p1 H8 np1 S8 e8 => ⟨_, rfl, ?_⟩⟩
      rw [ez1] at e8
      refine ⟨p1, l2, _, _, rfl, rfl, e8, S8 _ _ el7, by rw [List.length_map, List.length_map]; omega, fun p3 H9 np3 S9 e9 => ⟨p3, z1 ++ ws, rfl, S8.trans S9, by rw [e9, List.map_append], by rw [JL_app]; omega, fun z => hwne (List.append_eq_nil_iff.mp z).2⟩⟩
  rintro _ H8 ⟨p, ys, rfl, S8, e8, hy, hyn⟩
  refine ⟨_, p, ys, rfl, rfl, .inl (SqL.of e8), ?_, ?_⟩
  · rw [JL_sum _ (show ((" " : Str)).length = 1 by rw [sp_eq]; rfl)]
    omega
  obtain ⟨nr, hnr⟩ : ∃ nr, nr = Txt.join (" " : Str) ys := ⟨_, rfl⟩
  have hnl : nr.length + 1 = JL ys := by
    rw [hnr, sp_eq]
    exact JL_join hyn
  show ∃ v, _
  rw [← hnr]
  refine ⟨_, rfl, _, rfl, l, _, (k : Int), k, rfl, rfl, S8 _ _ (S7 _ _ el5), ?_, ?_⟩
  · rw [List.length_map]
    unfold ixN
    rw [if_pos (by omega), if_pos (by omega), Int.toNat_natCast]
  have hJn := JL_set rs k row nr ek
  refine ⟨⟨_, rfl⟩, _, rfl, ?_⟩
  have S58 := S7.trans S8
  have hU : Un t H (upd H8 l (.lst ((rs.map V.str).set k (.str nr)))) := fun a o na ea => by
    rw [upd_ne (fun z => by rw [z, hl0] at ea; cases ea)]
    exact (U6.trans (Un.same S58)) a o na ea
  have hT8 : Tp b (upd H8 l (.lst ((rs.map V.str).set k (.str nr)))) t := by
    obtain ⟨a1, a2, a3, h1, h2⟩ := (T5.same S58).le (c := b) (by omega)
    exact ⟨a1, a2, a3, by rw [upd_ne (fun z => nlt z.symm)]; exact h1, h2⟩
  refine ⟨_, l, rs.set k nr, rfl, rfl, .inl (SqL.of (by rw [upd_same, List.map_set])), ?_, q _ _ ?_ hU hT8⟩
  · rw [JL_sum _ (show (("\n" : Str)).length = 1 by rw [nl_eq]; rfl)]
    omega
  · show (Txt.join ("\n" : Str) (rs.set k nr)).length ≤ _
    rw [nl_eq]
    have h := JL_join (c := 10) (ys := rs.set k nr) (fun z => hne (by
      have := congrArg List.length z
      rw [List.length_set] at this
      exact List.eq_nil_of_length_eq_zero this))
    omega
noncomputable abbrev LV_l_far_right : Nat := 9
theorem name_not_fig (m : Nat) : ¬ nameB (.str (figT (m : Int))) = true := fun h => by
  have h : ((decide (1 ≤ ((figT (m : Int)).length : Int)) && decide (((figT (m : Int)).length : Int) ≤ 8)) && (figT (m : Int)).cps.toList.all letB) = true := h
  rw [Bool.and_eq_true, Bool.and_eq_true, decide_eq_true_eq] at h
  obtain ⟨⟨h1, _⟩, h3⟩ := h
  have hd := fig_digits m
  cases e : TL.tl (figT (m : Int)) with
  | nil =>
    have : (figT (m : Int)).length = 0 := by rw [TL.len_tl, e]; rfl
    omega
  | cons c r =>
    have hc : c ∈ TL.tl (figT (m : Int)) := by rw [e]; exact List.mem_cons_self
    have a := hd c hc
    have b := (letB_iff c).mp (List.all_eq_true.mp h3 c hc)
    have a2 : c ≤ 57 := a.2
    omega
theorem lead_key {i n : Nat} {zs : List Str} {y : Key} (h : LdIn n zs i y) (hz : ∀ z ∈ zs, NameOk z) : leadR i n (keyT y) = some y := by
  cases y with
  | inl k =>
    obtain ⟨c, rfl, h1, h2⟩ := h
    show leadR i n (figT (c : Int)) = _
    unfold leadR
    rw [if_neg (name_not_fig c), fig_num]
    exact if_pos ⟨h1, h2⟩
  | inr z =>
    show leadR i n z = _
    unfold leadR
    rw [if_pos (hz z h).nameB]
theorem lead_ok {i n : Nat} {zs : List Str} {y : Key} (h : LdIn n zs i y) (hz : ∀ z ∈ zs, NameOk z) (hn : n ≤ 1000) : KeyOk y := by
  cases y with
  | inl k =>
    obtain ⟨c, rfl, h1, h2⟩ := h
    exact ⟨by omega, by omega⟩
  | inr z => exact hz z h
/-- a net as it must be -/
structure NtG (N : List (Key × Key)) (zs : List Str) : Prop where
  pos : 0 < N.length
  few : N.length ≤ 100
  nm : ∀ z ∈ zs, NameOk z
  lead : ∀ (i : Nat) (p : Key × Key), N[i]? = some p → LdIn N.length zs i p.1 ∧ LdIn N.length zs i p.2
  led : ∀ k : Nat, 0 < k → k < N.length → ∃ (i : Nat) (p : Key × Key), N[i]? = some p ∧ (p.1 = .inl (k : Int) ∨ p.2 = .inl (k : Int))
theorem NtG.ok {N : List (Key × Key)} {zs : List Str} (h : NtG N zs) : ∀ p ∈ N, KeyOk p.1 ∧ KeyOk p.2 := fun p hp => by
  obtain ⟨i, hi⟩ := List.mem_iff_getElem?.mp hp
  obtain ⟨h1, h2⟩ := h.lead i p hi
  exact ⟨lead_ok h1 h.nm (by have := h.few; omega), lead_ok h2 h.nm (by have := h.few; omega)⟩
theorem NtG.rows {N : List (Key × Key)} {zs : List Str} (h : NtG N zs) : rowsT (netT N) = N.map lineT := net_cut (fun e => by have := h.pos; rw [e] at this; cases this) h.ok
theorem NtG.read {N : List (Key × Key)} {zs : List Str} (h : NtG N zs) : NetRes (netT N) (.inr N) := by
  have hr := h.rows
  refine .ok N ⟨by rw [hr, List.length_map], fun j p hj => ⟨lineT p, by rw [hr, List.getElem?_map, hj]; rfl, ?_⟩⟩ fun i h1 h2 => ?_
  · obtain ⟨k1, k2⟩ := h.ok p (List.mem_of_getElem? hj)
    obtain ⟨l1, l2⟩ := h.lead j p hj
    unfold rowR
    rw [line_cut k1 k2, hr, List.length_map]
    show (match leadR j N.length (keyT p.1), leadR j N.length (keyT p.2) with | some x, some y => some (x, y) | _, _ => none) = _
    rw [lead_key l1 h.nm, lead_key l2 h.nm]
  · rw [hr, List.length_map] at h2
    obtain ⟨k, p, hk, hp⟩ := h.led i h1 h2
    refine List.mem_flatMap.mpr ⟨p, List.mem_of_getElem? hk, List.mem_flatMap.mpr ?_⟩
    rcases hp with e | e
    · exact ⟨p.1, List.mem_cons_self, by rw [e]; exact List.mem_cons_self⟩
    · exact ⟨p.2, List.mem_cons_of_mem _ List.mem_cons_self, by rw [e]; exact List.mem_cons_self⟩
/-- what is read is one -/
theorem pre_same {x : Str} {N M : List (Key × Key)} {i j : Nat} (h : NetPre x N i) (h' : NetPre x M j) : ∀ (k : Nat) (p q : Key × Key), N[k]? = some p → M[k]? = some q → p = q := fun k p q hp hq => by
  obtain ⟨l, e1, r1⟩ := h.2 k p hp
  obtain ⟨l', e2, r2⟩ := h'.2 k q hq
  rw [e1] at e2
  cases e2
  rw [r1] at r2
  exact Option.some.inj r2
theorem pre_eq {x : Str} {N M : List (Key × Key)} {i : Nat} (h : NetPre x N i) (h' : NetPre x M i) : N = M := by
  refine List.ext_getElem (by rw [h.1, h'.1]) fun k k1 k2 => ?_
  exact pre_same h h' k _ _ (List.getElem?_eq_getElem k1) (List.getElem?_eq_getElem k2)
theorem pre_bad {x : Str} {N : List (Key × Key)} {i k : Nat} {l : Str} (h : NetPre x N i) (hl : (rowsT x)[k]? = some l) (hb : rowR k (rowsT x).length l = none) : i ≤ k := Classical.byContradiction fun c => by
  have hk : k < N.length := by rw [h.1]; omega
  obtain ⟨l', e1, r1⟩ := h.2 k _ (List.getElem?_eq_getElem hk)
  rw [hl] at e1
  cases e1
  rw [hb] at r1
  cases r1
theorem net_uniq {x : Str} {r r' : Nat ⊕ List (Key × Key)} (h : NetRes x r) (h' : NetRes x r') : r = r' := by
  have len : ∀ {k : Nat} {l : Str}, (rowsT x)[k]? = some l → k < (rowsT x).length := fun e => (List.getElem?_eq_some_iff.mp e).1
  cases h with
  | bad k l N h1 h2 h3 =>
    cases h' with
    | bad k' l' N' g1 g2 g3 =>
      have a := pre_bad h3 g1 g2
      have b := pre_bad g3 h1 h2
      rw [show k = k' by omega]
    | lost N' j g1 g2 g3 g4 g5 =>
      have a := pre_bad g1 h1 h2
      have b := len h1
      omega
    | ok N' g1 g2 =>
      have a := pre_bad g1 h1 h2
      have b := len h1
      omega
  | lost N j h1 h2 h3 h4 h5 =>
    cases h' with
    | bad k' l' N' g1 g2 g3 =>
      have a := pre_bad h1 g1 g2
      have b := len g1
      omega
    | lost N' j' g1 g2 g3 g4 g5 =>
      have e := pre_eq h1 g1
      subst e
      by_cases c1 : j < j'
      · exact absurd (g5 j h2 c1) h4
      · by_cases c2 : j' < j
        · exact absurd (h5 j' g2 c2) g4
        · rw [show j = j' by omega]
    | ok N' g1 g2 =>
      have e := pre_eq h1 g1
      subst e
      exact absurd (g2 j h2 h3) h4
  | ok N h1 h2 =>
    cases h' with
    | bad k' l' N' g1 g2 g3 =>
      have a := pre_bad h1 g1 g2
      have b := len g1
      omega
    | lost N' j g1 g2 g3 g4 g5 =>
      have e := pre_eq h1 g1
      subst e
      exact absurd (h2 j g2 g3) g4
    | ok N' g1 g2 => rw [pre_eq h1 g1]
theorem word_right {ws : List Int} (h : ∀ x ∈ ws, 1 ≤ x) : wordR (wordT ws) = some ws := by
  by_cases c : ws = []
  · rw [c]
    unfold wordT wordR
    rw [if_pos rfl, if_pos rfl]
  have hcut := word_cut c fun x hx => by have := h x hx; omega
  have ew : wordT ws = Txt.join (" " : Str) (ws.map figT) := by
    unfold wordT
    rw [if_neg c]
  have hnum : ∀ x ∈ ws, numT (figT x) = some x.toNat := fun x hx => by
    obtain ⟨m, rfl⟩ := Int.eq_ofNat_of_zero_le (show 0 ≤ x by have := h x hx; omega)
    exact fig_num m
  have hb : ¬ wordT ws = ("-" : Str) := fun e => by
    rw [ew] at e
    rw [e] at hcut
    have h1 : Txt.split ("-" : Str) (" " : Str) = [("-" : Str)] := by decide +kernel
    rw [h1] at hcut
    cases ws with
    | nil => exact c rfl
    | cons w ws =>
      have h2 : ("-" : Str) = figT w := (List.cons.inj hcut).1
      have h3 := hnum w List.mem_cons_self
      rw [← h2, show numT ("-" : Str) = none by decide +kernel] at h3
      cases h3
  unfold wordR
  rw [if_neg hb, ew, hcut, List.map_map]
  have hall : ((ws.map (numT ∘ figT)).all wPart) = true := by
    refine List.all_eq_true.mpr fun o ho => ?_
    obtain ⟨x, hx, rfl⟩ := List.mem_map.mp ho
    show wPart (numT (figT x)) = true
    rw [hnum x hx]
    exact decide_eq_true (by have := h x hx; omega)
  rw [if_pos hall, List.map_map]
  refine congrArg some ?_
  have : ws.map ((fun o => ((o.getD 0 : Nat) : Int)) ∘ (numT ∘ figT)) = ws.map id := List.map_congr_left fun x hx => by
    show (((numT (figT x)).getD 0 : Nat) : Int) = x
    rw [hnum x hx]
    show ((x.toNat : Nat) : Int) = x
    have := h x hx
    omega
  rw [this, List.map_id]
theorem fig_len' (k : Nat) {n : Int} (h0 : 0 ≤ n) (h1 : n < ((10 ^ (k + 1) : Nat) : Int)) : (figT n).length ≤ k + 1 := by
  obtain ⟨m, rfl⟩ := Int.eq_ofNat_of_zero_le h0
  rw [TL.len_tl, fig_tl, List.length_map]
  exact toD_len k m (by omega)
theorem word_len {ws : List Int} {m : Nat} (hm : ws.length ≤ m) (k : Nat) (h : ∀ x ∈ ws, 0 ≤ x ∧ x < ((10 ^ (k + 1) : Nat) : Int)) : (wordT ws).length ≤ 1 + m * (k + 2) := by
  unfold wordT
  by_cases c : ws = []
  · rw [if_pos c, show (("-" : Str)).length = 1 by decide +kernel]
    omega
  · rw [if_neg c]
    have h1 := join_len (" " : Str) (by rw [sp_eq]; rfl) (m := k + 1) (ps := ws.map figT) fun p hp => by
      obtain ⟨x, hx, rfl⟩ := List.mem_map.mp hp
      exact fig_len' k (h x hx).1 (h x hx).2
    rw [List.length_map] at h1
    have h2 := Nat.mul_le_mul_right (k + 1 + 1) hm
    have e : k + 1 + 1 = k + 2 := rfl
    rw [e] at h1 h2
    omega
theorem NtG.len {N : List (Key × Key)} {zs : List Str} (h : NtG N zs) (d : Nat) (hd : d ≤ 1) (hl : N.length ≤ 10 ^ (d + 1)) : (netT N).length ≤ N.length * 18 := by
  have key : ∀ {i : Nat} {y : Key}, LdIn N.length zs i y → (keyT y).length ≤ 8 := fun {i y} hy => by
    cases y with
    | inl k =>
      obtain ⟨c, rfl, h1, h2⟩ := hy
      have := fig_len' d (n := (c : Int)) (by omega) (by omega)
      show (figT (c : Int)).length ≤ 8
      omega
    | inr z => exact (h.nm z hy).2.2
  have h1 := join_len ("\n" : Str) (by rw [nl_eq]; rfl) (m := 17) (ps := N.map lineT) fun l hl => by
    obtain ⟨p, hp, rfl⟩ := List.mem_map.mp hl
    obtain ⟨i, hi⟩ := List.mem_iff_getElem?.mp hp
    obtain ⟨a, b⟩ := h.lead i p hi
    have a := key a
    have b := key b
    unfold lineT
    rw [TL.len_tl] at *
    rw [TL.tl_append, TL.tl_append, TL.tl_append, sp_eq, List.length_append, List.length_append, List.length_append]
    show 0 + (TL.tl (keyT p.1)).length + 1 + (TL.tl (keyT p.2)).length ≤ _
    omega
  rw [List.length_map] at h1
  exact h1
noncomputable def ldB (n : Nat) (zs : List Str) (i : Nat) : Key → Bool
  | .inl k => decide ((i : Int) < k) && decide (k < (n : Int))
  | .inr z => decide (z ∈ zs)
theorem ldB_ok {n : Nat} {zs : List Str} {i : Nat} : ∀ {y : Key}, ldB n zs i y = true → LdIn n zs i y
  | .inl k, h => by
    have h : (decide ((i : Int) < k) && decide (k < (n : Int))) = true := h
    rw [Bool.and_eq_true, decide_eq_true_eq, decide_eq_true_eq] at h
    exact ⟨k.toNat, by omega, by omega, by omega⟩
  | .inr z, h => (of_decide_eq_true (p := z ∈ zs) h)
noncomputable def chkN (N : List (Key × Key)) (zs : List Str) : Bool := (decide (N.length = 13) && ((List.range N.length).all fun i => match N[i]? with
    | some p => ldB N.length zs i p.1 && ldB N.length zs i p.2
    | none => true)) && ((List.range N.length).all fun k => decide (k = 0) || (N.any fun p => decide (p.1 = .inl (k : Int)) || decide (p.2 = .inl (k : Int))))
theorem chk_ok {N : List (Key × Key)} {zs : List Str} (hz : ∀ z ∈ zs, NameOk z) (h : chkN N zs = true) : NtG N zs ∧ N.length = 13 := by
  unfold chkN at h
  rw [Bool.and_eq_true, Bool.and_eq_true, decide_eq_true_eq] at h
  obtain ⟨⟨h1, h2⟩, h3⟩ := h
  refine ⟨⟨by omega, by omega, hz, fun i p hp => ?_, fun k k1 k2 => ?_⟩, h1⟩
  · have hi := (List.getElem?_eq_some_iff.mp hp).1
    have := List.all_eq_true.mp h2 i (List.mem_range.mpr hi)
    rw [hp] at this
    have this : (ldB N.length zs i p.1 && ldB N.length zs i p.2) = true := this
    rw [Bool.and_eq_true] at this
    exact ⟨ldB_ok this.1, ldB_ok this.2⟩
  · have := List.all_eq_true.mp h3 k (List.mem_range.mpr k2)
    rw [decide_eq_false (show ¬ k = 0 by omega), Bool.false_or] at this
    obtain ⟨p, hp, hc⟩ := List.any_eq_true.mp this
    obtain ⟨i, hi⟩ := List.mem_iff_getElem?.mp hp
    refine ⟨i, p, hi, ?_⟩
    rw [Bool.or_eq_true, decide_eq_true_eq, decide_eq_true_eq] at hc
    exact hc
noncomputable def L6 : ShL := [((⟨#[97]⟩ : Str), 11, 32), (⟨#[98]⟩, 7, 32), (⟨#[99]⟩, 7, 32), (⟨#[100]⟩, 3, 32), (⟨#[101]⟩, 3, 32), (⟨#[102]⟩, 1, 32)]
noncomputable def zs6 : List Str := L6.map (·.1)
theorem zs6_ok : ∀ z ∈ zs6, NameOk z := by
  unfold NameOk LetS
  decide +kernel
theorem td6 : TdOk L6 5 := by
  refine ⟨by decide, by decide +kernel, fun x hx => zs6_ok _ (List.mem_map.mpr ⟨x, hx, rfl⟩), by decide, by decide +kernel, fun x hx => ?_, by decide +kernel⟩
  have h : ∀ x ∈ L6, x.2 = ((x.2.1.toNat : Int), ((2 ^ 5 : Nat) : Int)) ∧ 1 ≤ x.2.1.toNat ∧ 5 ≤ 5 ∧ x.2.1.toNat * 2 ^ (5 - 5) < 2 ^ 5 ∧ Nat.gcd x.2.1.toNat (2 ^ 5) = 1 := by decide +kernel
  exact ⟨x.2.1.toNat, 5, h x hx⟩
theorem net13 : NtG (trL L6 5) zs6 ∧ (trL L6 5).length = 13 := chk_ok zs6_ok (by decide +kernel)
theorem get6 {i c : Nat} {y : V} (hc : (Str.ofString "abcdef").cps[i]? = some c) (hy : ([.int 11, .int 7, .int 7, .int 3, .int 3, .int 1] : List V)[i]? = some y) : ∃ x, L6[i]? = some x ∧ x.1 = ⟨#[c]⟩ ∧ y = .int x.2.1 ∧ x.2.2 = 32 := by
  have e : (Str.ofString "abcdef").cps.toList = [97, 98, 99, 100, 101, 102] := by decide +kernel
  rw [← Array.getElem?_toList, e] at hc
  have hi : i < 6 := (List.getElem?_eq_some_iff.mp hy).1
  have h6 : i = 0 ∨ i = 1 ∨ i = 2 ∨ i = 3 ∨ i = 4 ∨ i = 5 := by omega
  rcases h6 with rfl | rfl | rfl | rfl | rfl | rfl <;> cases hc <;> cases hy <;> exact ⟨_, rfl, rfl, rfl, rfl⟩
noncomputable def sp_l_far_right : Sp := fun vs H Q _ => ∃ (t : Addr) (b : Nat), vs = [.ref t] ∧ Tp (b + 4) H t ∧ ∀ H', Un t H H' → Tp b H' t → Q (.bl true) H'
theorem ok_l_far_right {f : Addr} {fd : FuncData} (F : Fun K "_law_far_right" "_law_far_right" s_l_far_right f fd) (Z : Bl mg) (G_net_text : Kn P w K mg base "net_text" P_net_text LV_net_text sp_net_text) (G_word_in : KnX P w K mg base "word_in" P_word_in LV_word_in (sp_word_in K)) (G_net_in : KnX P w K mg base "net_in" P_net_in LV_net_in (sp_net_in K)) (G_tree_of : Kn P w K mg base "tree_of" P_tree_of LV_tree_of sp_tree_of) (G_l_draw : Kn P w K mg base "_law_draw" P_l_draw LV_l_draw sp_l_draw) (G_l_same : Kn P w K mg base "_law_same" P_l_same LV_l_same sp_l_same) (G_l_text : Kn P w K mg base "_law_text" P_l_text LV_l_text sp_l_text) : FnOk P w K mg base CX0 LV_l_far_right f fd P_l_far_right sp_l_far_right := by
  refine F.ok sc_l_far_right (fun vs H Q E h => ?_) (fun cdv A outer s H vs Q E hr h => ?_)
  · obtain ⟨t, b, rfl, _⟩ := h
    rfl
  obtain ⟨t, b, rfl, hT, q⟩ := h
  refine ⟨_, (pss_cons (ps_set (i := 1) sc_l_far_right.nd rfl (Or.inl rfl) (pe_own G_tree_of (hr.mono (by decide)) (by rfl) (pa_cons (pe_callTy (call_tupleN (K := K)) (by rfl) Z.tuple (by decide +kernel) (pa_cons (pe_lcN (own := [("_law_name", 4), ("_law_high", 5)]) (g := (gTup K 2 (gCons (gName 4) (gCons (gName 5) gNil)))) (tt := tYes) (by rfl) sc_l_far_right.nd ((pi_zipXT (K := K)) (by rfl) Z.zip (pa_cons pe_str (pa_cons (pe_tupN (pa_cons pe_int (pa_cons pe_int (pa_cons pe_int (pa_cons pe_int (pa_cons pe_int (pa_cons pe_int pa_nil))))))) pa_nil))) (blkOk_by (own := [("_law_name", 4), ("_law_high", 5)]) (N := N_l_far_right) (sc := defScope s_l_far_right) (by decide +kernel)) (fun _ _ _ _ _ => (pg_tup rfl (pgs_cons (pg_name (i := 4) sc_l_far_right.nd rfl (Or.inl rfl)) (pgs_cons (pg_name (i := 5) sc_l_far_right.nd rfl (Or.inl rfl)) pgs_nil)))) (fun _ _ _ _ _ => pts_nil) (fun _ _ _ _ _ => (pe_tupN (pa_cons (pv 4) (pa_cons (pe_tupN (pa_cons (pv 5) (pa_cons pe_int pa_nil))) pa_nil))))) pa_nil)) pa_nil)))
    (pss_cons (ps_set (i := 2) sc_l_far_right.nd rfl (Or.inl rfl) (pe_join pe_str (pe_own G_l_text (hr.mono (by decide)) (by rfl) (pa_cons (pv 1) pa_nil))))
    (pss_cons (ps_if (PW.pt (pw_or (pt_cmpR op_ne (pe_callB (call_lenN (K := K)) (by rfl) Z.len (by decide +kernel) (pa_cons (pv 1) pa_nil)) pe_int (nomark _)) (pw_or1 (pt_not (pt_val (pe_own G_l_same (hr.mono (by decide)) (by rfl) (pa_cons (pe_lstN (pa_cons (pe_own G_net_text (hr.mono (by decide)) (by rfl) (pa_cons (pv 1) pa_nil)) (pa_cons (pe_ownX G_net_in (hr.mono (by decide)) takes0 (by rfl) (pa_cons (pv 2) pa_nil)) pa_nil))) (pa_cons (pe_lstN (pa_cons (pv 2) (pa_cons (pv 1) pa_nil))) pa_nil)))))))) (pss_one (ps_ret pe_bl)) pss_nil)
    (pss_cons (ps_set (i := 3) sc_l_far_right.nd rfl (Or.inl rfl) (pe_callTy (call_tupleN (K := K)) (by rfl) Z.tuple (by decide +kernel) (pa_cons (pe_op op_catL (pe_lcN (own := [("_law_wide", 6)]) (g := (gName 6)) (tt := tYes) (by rfl) sc_l_far_right.nd (pi_tup (pe_tupN (pa_cons (pe_op op_pow pe_int pe_int) (pa_cons (pe_op op_pow pe_int pe_int) (pa_cons (pe_op op_pow pe_int pe_int) (pa_cons (pe_op op_pow pe_int pe_int) pa_nil)))))) (blkOk_by (own := [("_law_wide", 6)]) (N := N_l_far_right) (sc := defScope s_l_far_right) (by decide +kernel)) (fun _ _ _ _ _ => (pg_name (i := 6) sc_l_far_right.nd rfl (Or.inl rfl))) (fun _ _ _ _ _ => pts_nil) (fun _ _ _ _ _ => (pe_op op_add pe_int (pe_own G_l_draw (hr.mono (by decide)) (by rfl) (pa_cons (pv 0) (pa_cons (pv 6) pa_nil)))))) (pe_lstN (pa_cons (pe_op op_pow pe_int pe_int) pa_nil))) pa_nil)))
    (pss_one (ps_ret (pe_own G_l_same (hr.mono (by decide)) (by rfl) (pa_cons (pe_ownX G_word_in (hr.mono (by decide)) takes0 (by rfl) (pa_cons (pe_join pe_str (pe_lcN (own := [("_law_weight_here", 7)]) (g := (gName 7)) (tt := tYes) (by rfl) sc_l_far_right.nd (pi_tup (pv 3)) (blkOk_by (own := [("_law_weight_here", 7)]) (N := N_l_far_right) (sc := defScope s_l_far_right) (by decide +kernel)) (fun _ _ _ _ _ => (pg_name (i := 7) sc_l_far_right.nd rfl (Or.inl rfl))) (fun _ _ _ _ _ => pts_nil) (fun _ _ _ _ _ => (pe_callTy call_strX (by rfl) Z.str (by decide +kernel) (pa_cons (pv 7) pa_nil))))) pa_nil)) (pa_cons (pv 3) pa_nil))))))))), ?_⟩
  have w6 : (6 : Nat) ≤ sizeLine := by decide
  have w2 : (2 : Nat) ≤ sizeLine := by decide
  refine ⟨w6, fun tp H1 ntp S1 etp => ⟨_, tp, _, rfl, SqT.of etp, fun D nD => ?_⟩⟩
  refine lc_it (walk_zipXT (K := K) (a := Str.ofString "abcdef") (b := tp) (ys := [.int 11, .int 7, .int 7, .int 3, .int 3, .int 1]) (by decide +kernel)) (fun i H' => Same H1 H' ∧ ∃ us : List V, H' D = some (.lst us) ∧ us.length = i ∧ DtA H' 2 us ((L6.take i).map shD)) ⟨same_upd nD, [], upd_same, rfl, .nil⟩ (fun i H' _ hP => SqT.of (hP.1 _ _ etp)) (fun i v H2 H3 hi hP hY => ?_) (fun H2 hP => ?_)
  · obtain ⟨S2, us, eD, hul, hda⟩ := hP
    obtain ⟨T, c, y, rfl, nT, rfl, hc, hy⟩ := hY
    obtain ⟨x, hx, hx1, rfl, hx3⟩ := get6 hc hy
    have ST : Same H2 (upd H2 T (.tup [.str ⟨#[c]⟩, .int x.2.1])) := same_upd nT
    have eT : upd H2 T (.tup [.str ⟨#[c]⟩, .int x.2.1]) T = some (.tup [.str ⟨#[c]⟩, .int x.2.1]) := upd_same
    generalize upd H2 T (.tup [.str ⟨#[c]⟩, .int x.2.1]) = H3 at ST eT ⊢
    refine ⟨T, _, rfl, SqT.of eT, rfl, _, _, rfl, _, _, rfl, rfl, rfl, ?_⟩
    refine ⟨_, rfl, _, rfl, w2, fun p1 H5 np1 S5 e1 => ⟨w2, fun p2 H6 np2 S6 e2 => ?_⟩⟩
    have S26 := ST.trans (S5.trans S6)
    have hi6 : i < 6 := hi
    have nDU : H2 D ≠ none := by rw [eD]; exact fun z => by cases z
    refine ⟨us, S26 _ _ eD, szl (by omega), ?_, us ++ [.ref p2], upd_same, by rw [List.length_append, hul]; rfl, ?_⟩
    · exact Same.of_upd (S2.trans S26) nD
    · have hx' : L6.take (i + 1) = L6.take i ++ [x] := by rw [List.take_add_one, hx]; rfl
      rw [hx', List.map_append]
      have hne : ∀ a : Addr, (∃ xs, H6 a = some (.tup xs)) → a ≠ D := fun a ⟨xs, e⟩ z => by rw [z, S26 _ _ eD] at e; cases e
      have hd6 : DtA H6 2 (us ++ [.ref p2]) ((L6.take i).map shD ++ [shD x]) := dtA_snoc (hda.same S26) (by
        unfold shD
        rw [hx1, hx3]
        exact .tup (n := 1) e2 (by show 2 ≤ 50000; decide) (.cons (.str _) (.cons (.tup (n := 0) (S6 _ _ e1) (by show 2 ≤ 50000; decide) (.cons (.int _) (.cons (.int _) .nil))) .nil)))
      refine dtTOA (S26 _ _ eD) hd6 fun d hd => ?_
      have hd : d ∈ (L6.take i ++ [x]).map shD := by rw [List.map_append]; exact hd
      obtain ⟨y, _, rfl⟩ := List.mem_map.mp hd
      exact TO.two (.str _) (TO.two (.int _) (.int _))
  obtain ⟨S2, us, eD, hul, hda⟩ := hP
  have hda : DtA H2 2 us (L6.map shD) := hda
  refine ⟨D, _, rfl, SqL.of eD, fun pt H7 npt S7 ept => ?_⟩
  refine ⟨pt, us, 2, L6, 5, rfl, ept, hda.same S7, td6, fun hs H8 S8 hN => ?_⟩
  obtain ⟨hG, h13⟩ := net13
  generalize trL L6 5 = N at hG h13 hN
  have S08 : Same H H8 := S1.trans (S2.trans (S7.trans S8))
  have hlen : (netT N).length ≤ 234 := by
    have := hG.len 1 (by decide) (by rw [h13]; decide)
    rw [h13] at this
    omega
  refine ⟨⟨_, rfl⟩, _, rfl, hs, 2, N, rfl, hN, hG.few, hG.ok, fun l H9 nl S9 el => ?_⟩
  refine ⟨_, l, N.map lineT, rfl, rfl, .inl (SqL.of el), ?_, ?_⟩
  · have h1 := sum_len (m := 37) (ps := N.map lineT) fun p hp => by
      obtain ⟨q, hq, rfl⟩ := List.mem_map.mp hp
      exact line_len (hG.ok q hq).1 (hG.ok q hq).2
    rw [List.length_map, h13] at h1
    have h2 : (Str.ofString "\n").length = 1 := by decide +kernel
    rw [List.length_map, h13, h2]
    omega
  show tSeq _ _ _ ([some (.ref t), some (.ref hs), some (.str (netT N)), none, none, none, none, none]) H9
  have hN9 := hN.same S9
  obtain ⟨vs, ea, hvl, _⟩ := net_get hN9
  have hv13 : vs.length = 13 := by rw [hvl, h13]
  refine ⟨_, rfl, hs, vs, rfl, .inr (SqT.of ea), rfl, _, rfl, ?_⟩
  rw [hv13]
  refine ite2 (fun z => absurd z (by decide)) (fun _ => ?_)
  refine ⟨_, rfl, hs, 2, N, rfl, hN9, hG.few, hG.ok, fun Ha Sa => ?_⟩
  refine ⟨_, rfl, netT N, rfl, by omega, fun k hk => absurd (net_uniq hk hG.read) (fun z => nomatch z), fun M hM p Hb Sb hp => ?_⟩
  have eM : N = M := Sum.inr.inj (net_uniq hG.read hM)
  subst eM
  refine ⟨w2, fun l1 Hc nc Sc ec => ⟨_, rfl, _, rfl, w2, fun l2 Hd nd Sd ed => ?_⟩⟩
  have S9d := Sa.trans (Sb.trans (Sc.trans Sd))
  refine ⟨_, _, .list [.str (netT N), netD N], rfl, .lst (n := 6) (Sd _ _ ec) (by show 2 ≤ 50000; decide) (.cons (.str _) (.cons ((hp.same (Sc.trans Sd)).up (by decide)) .nil)), .lst (n := 6) ed (by show 2 ≤ 50000; decide) (.cons (.str _) (.cons ((hN9.same S9d).up (by decide)) .nil)), fun He Se => ⟨_, rfl, ?_⟩⟩
  refine ite2 (fun z => absurd (show false = true from z) (by decide)) (fun _ => ?_)
  have S0e : Same H He := S08.trans (S9.trans (S9d.trans Se))
  have Te := hT.same S0e
  refine ⟨_, _, rfl, rfl, ⟨by decide, by decide, by decide⟩, _, _, rfl, rfl, ⟨by decide, by decide, by decide⟩, _, _, rfl, rfl, ⟨by decide, by decide, by decide⟩, _, _, rfl, rfl, ⟨by decide, by decide, by decide⟩, (by show 4 ≤ sizeLine; decide), fun wp Hf nf Sf ef => ?_⟩
  have ef : Hf wp = some (.tup (([1000, 1000000, 1000000000, 1000000000000] : List Int).map V.int)) := ef
  have Tf := Te.same Sf
  have nwt : wp ≠ t := Tf.ne ef
  refine ⟨wp, rfl, ⟨_, SqT.of ef⟩, fun D2 nD2 => ?_⟩
  have nDt : D2 ≠ t := Tf.nn nD2
  refine lc_tup (K := K) (a := wp) (xs := ([1000, 1000000, 1000000000, 1000000000000] : List Int).map V.int) (fun i H' => ∃ ws : List Int, H' D2 = some (.lst (ws.map V.int)) ∧ ws.length = i ∧ (∀ x ∈ ws, 1 ≤ x ∧ x < 10000000000000) ∧ Un t Hf H' ∧ Tp (b + (4 - i)) H' t ∧ H D2 = none) ⟨[], upd_same, rfl, fun x hx => (nomatch hx), Un.same (same_upd nD2), Tf.same (same_upd nD2), (S0e.trans Sf).free nD2⟩ (fun i H' _ hP => by obtain ⟨ws, _, _, _, U, _⟩ := hP; exact SqT.of (U _ _ nwt ef)) (fun i v Hg hv hP => ?_) (fun Hg hP => ?_)
  · obtain ⟨ws, eD, hwl, hws, U, T, hD0⟩ := hP
    rw [List.getElem?_map] at hv
    cases en : ([1000, 1000000, 1000000000, 1000000000000] : List Int)[i]? with
    | none => rw [en] at hv; cases hv
    | some m =>
      rw [en] at hv
      have hv : V.int m = v := Option.some.inj hv
      subst hv
      have hb : ∀ m ∈ ([1000, 1000000, 1000000000, 1000000000000] : List Int), 0 < m ∧ m ≤ 1000000000000 := by decide
      obtain ⟨m1, m2⟩ := hb m (List.mem_of_getElem? en)
      have hi : i < 4 := (List.getElem?_eq_some_iff.mp en).1
      refine ⟨rfl, _, rfl, _, rfl, t, m, b + (3 - i), rfl, m1, by omega, T.le (by omega), fun d Hh d1 d2 U2 T2 => ⟨_, _, rfl, rfl, _, U2 _ _ nDt eD, szl (by rw [List.length_map]; omega), ws ++ [1 + d], ?_, ?_, fun x hx => ?_, fun a o na ea => ?_, ?_, hD0⟩⟩
      · rw [upd_same, List.map_append]
        rfl
      · rw [List.length_append, hwl]
        rfl
      · rcases List.mem_append.mp hx with h | h
        · exact hws x h
        · rw [List.mem_singleton.mp h]
          omega
      · rw [upd_ne (ne_of_none ea nD2)]
        exact U2 _ _ na (U _ _ na ea)
      · obtain ⟨a1, a2, a3, h1, h2⟩ := T2.le (c := b + (4 - (i + 1))) (by omega)
        exact ⟨a1, a2, a3, by rw [upd_ne (fun z => nDt z.symm)]; exact h1, h2⟩
  obtain ⟨ws, eD2, hwl, hws, U, T, hD0⟩ := hP
  have hwl : ws.length = 4 := hwl
  refine ⟨_, _, rfl, rfl, ⟨by decide, by decide, by decide⟩, (by show 1 ≤ sizeLine; decide), fun l9 Hh n9 S9h e9 => ?_⟩
  have e9 : Hh l9 = some (.lst (([1000000000000] : List Int).map V.int)) := e9
  refine ⟨D2, l9, _, _, rfl, rfl, S9h _ _ eD2, e9, by rw [List.length_map, hwl]; decide, fun l8 Hi n8 S8i e8 => ?_⟩
  rw [← List.map_append] at e8
  refine ⟨l8, _, rfl, SqL.of e8, fun rp Hj nr Sj er => ?_⟩
  obtain ⟨rw_, hrw⟩ : ∃ rw_, rw_ = ws ++ [1000000000000] := ⟨_, rfl⟩
  rw [← hrw] at er
  have hr5 : rw_.length = 5 := by rw [hrw, List.length_append, hwl]; rfl
  have hrb : ∀ x ∈ rw_, 1 ≤ x ∧ x < 10000000000000 := fun x hx => by
    rw [hrw] at hx
    rcases List.mem_append.mp hx with h | h
    · exact hws x h
    · rw [List.mem_singleton.mp h]
      omega
  have hrne : rw_ ≠ [] := fun z => by rw [z] at hr5; cases hr5
  have Uj : Un t H Hj := (Un.same (S0e.trans Sf)).trans (U.trans (Un.same (S9h.trans (S8i.trans Sj))))
  have Tj := T.same (S9h.trans (S8i.trans Sj))
  have Tj : Tp b Hj t := Tj.le (by omega)
  refine ⟨⟨_, rfl⟩, _, rfl, rp, rfl, ⟨_, SqT.of er⟩, fun D3 nD3 => ?_⟩
  refine lc_tup (K := K) (a := rp) (xs := rw_.map V.int) (fun i H' => Same Hj H' ∧ H' D3 = some (.lst (((rw_.take i).map figT).map V.str))) ⟨same_upd nD3, upd_same⟩ (fun i H' _ hP => SqT.of (hP.1 _ _ er)) (fun i v Hk hv hP => ?_) (fun Hk hP => ?_)
  · obtain ⟨Sk, eD⟩ := hP
    rw [List.getElem?_map] at hv
    cases en : rw_[i]? with
    | none => rw [en] at hv; cases hv
    | some m =>
      rw [en] at hv
      have hv : V.int m = v := Option.some.inj hv
      subst hv
      have hm := hrb m (List.mem_of_getElem? en)
      refine ⟨rfl, _, rfl, .inl ⟨m, rfl, log_small (by omega), _, eD, szl ?_, Same.of_upd Sk nD3, ?_⟩⟩
      · rw [List.length_map, List.length_map, List.length_take]
        omega
      · rw [upd_same, List.take_add_one, en, List.map_append, List.map_append]
        rfl
  obtain ⟨Sk, eD⟩ := hP
  rw [List.length_map, List.take_length] at eD
  have hwt : wordT rw_ = Txt.join (" " : Str) (rw_.map figT) := by
    unfold wordT
    rw [if_neg hrne]
  refine ⟨_, D3, rw_.map figT, rfl, rfl, .inl (SqL.of eD), ?_, ?_⟩
  · have h1 := sum_len (m := 18) (ps := rw_.map figT) fun p hp => by
      obtain ⟨x, hx, rfl⟩ := List.mem_map.mp hp
      have := hrb x hx
      exact fig_len (by omega) (by omega)
    rw [List.length_map, hr5] at h1
    have h2 : (Str.ofString " ").length = 1 := by decide +kernel
    rw [List.length_map, hr5, h2]
    omega
  have hw1 := word_len (ws := rw_) (m := 5) (by omega) 12 fun x hx => by
    have := hrb x hx
    have e : ((10 ^ (12 + 1) : Nat) : Int) = 10000000000000 := by decide
    rw [e]
    omega
  have hR := word_right (ws := rw_) fun x hx => (hrb x hx).1
  refine ⟨wordT rw_, ?_, by omega, fun hn => ?_, fun ws' hw' p Hl Sl ep => ?_⟩
  · rw [hwt]
  · rw [hR] at hn
    cases hn
  · rw [hR] at hw'
    cases hw'
    refine ⟨_, rfl, _, _, .tuple (rw_.map PyData.int), rfl, .tup (n := 6) ep (by rw [List.length_map]; omega) (dtInts _), .tup (n := 6) ((Sk.trans Sl) _ _ er) (by rw [List.length_map]; omega) (dtInts _), fun Hm Sm => ?_⟩
    have SS := Sk.trans (Sl.trans Sm)
    exact q Hm (Uj.trans (Un.same SS)) (Tj.same SS)
noncomputable abbrev LV_l_right : Nat := 10
noncomputable def resD : Nat ⊕ List (Key × Key) → PyData
  | .inl k => .int (k : Int)
  | .inr N => netD N
noncomputable def wrdD : Option (List Int) → PyData
  | none => .int 0
  | some ws => .tuple (ws.map PyData.int)
/-- what is due -/
noncomputable def DueD (x : Str) (way : Nat) (d : PyData) : Prop := (way % 2 = 0 ∧ d = wrdD (wordR x)) ∨ (way % 2 = 1 ∧ ∃ r, NetRes x r ∧ d = resD r)
theorem due_uniq {x : Str} {way : Nat} {d d' : PyData} (h : DueD x way d) (h' : DueD x way d') : d = d' := by
  rcases h with ⟨a, e⟩ | ⟨a, r, hr, e⟩
  · rcases h' with ⟨a', e'⟩ | ⟨a', _⟩
    · rw [e, e']
    · omega
  · rcases h' with ⟨a', _⟩ | ⟨a', r', hr', e'⟩
    · omega
    · rw [e, e', net_uniq hr hr']
theorem wordR_len {x : Str} {ws : List Int} (hx : x.length ≤ 640) (h : wordR x = some ws) : ws.length ≤ 641 := by
  unfold wordR at h
  split at h
  · cases h
    decide
  · split at h
    · cases h
      rw [List.length_map, List.length_map, sp_eq]
      exact cut_640 hx (by decide)
    · cases h
noncomputable def ReadR (H : Hp) (x : Str) (way : Nat) : VK := fun v H' => Same H H' ∧ ∃ d, DueD x way d ∧ Dt H' 2 v d
theorem read_all {H : Hp} {x : Str} {way : Nat} {E : XK} (hw : way < 4) (hx : x.length ≤ 640) : sp_l_read [.str x, .int (way : Int)] H (ReadR H x way) E :=
  ⟨x, way, rfl, hw, hx, fun h0 => ⟨fun hn H' S => ⟨S, .int 0, .inl ⟨h0, by rw [hn]; rfl⟩, .int 0⟩, fun ws hws p H' S e => ⟨S, .tuple (ws.map PyData.int), .inl ⟨h0, by rw [hws]; rfl⟩, .tup (n := 1) e (by have := wordR_len hx hws; rw [List.length_map]; omega) (dtInts _)⟩⟩,
    fun h1 => ⟨fun i hi H' S => ⟨S, .int (i : Int), .inr ⟨h1, .inl i, hi, rfl⟩, .int _⟩, fun N hN p H' S e => ⟨S, netD N, .inr ⟨h1, .inr N, hN, rfl⟩, e⟩⟩⟩
theorem wdue_all {H0 H : Hp} {x : Str} {way : Nat} {E : XK} (S0 : Same H0 H) (hw : way % 2 = 0) (hx : x.length ≤ 640) : sp_l_word_due [.str x] H (ReadR H0 x way) E :=
  ⟨x, rfl, hx, fun hn H' S => ⟨S0.trans S, .int 0, .inl ⟨hw, by rw [hn]; rfl⟩, .int 0⟩, fun ws hws p H' S e => ⟨S0.trans S, .tuple (ws.map PyData.int), .inl ⟨hw, by rw [hws]; rfl⟩, .tup (n := 1) e (by have := wordR_len hx hws; rw [List.length_map]; omega) (dtInts _)⟩⟩
theorem ndue_all {H0 H : Hp} {x : Str} {way : Nat} {E : XK} (S0 : Same H0 H) (hw : way % 2 = 1) (hx : x.length ≤ 640) : sp_l_net_due [.str x] H (ReadR H0 x way) E :=
  ⟨x, rfl, hx, fun i hi H' S => ⟨S0.trans S, .int (i : Int), .inr ⟨hw, .inl i, hi, rfl⟩, .int _⟩, fun N hN p H' S e => ⟨S0.trans S, netD N, .inr ⟨hw, .inr N, hN, rfl⟩, e⟩⟩
theorem due_bare (x : Str) (h1 : rowsT x = [x]) (h2 : rowR 0 1 x = none) : DueD x 1 (.int 0) := .inr ⟨rfl, .inl 0, .bad 0 x [] (by rw [h1]; rfl) (by rw [h1]; exact h2) ⟨rfl, fun j p h => by rw [List.getElem?_nil] at h; cases h⟩, rfl⟩
theorem due_e0 : DueD (Str.ofString "") 0 (.int 0) := .inl ⟨rfl, by rw [show wordR (Str.ofString "") = none by decide +kernel]; rfl⟩
theorem due_e1 : DueD (Str.ofString "") 1 (.int 0) := due_bare _ (by decide +kernel) (by decide +kernel)
theorem due_b1 : DueD (Str.ofString "-") 1 (.int 0) := due_bare _ (by decide +kernel) (by decide +kernel)
theorem NetOk.ntg {N : List (Key × Key)} {high : Nat} {zs : List Str} (h : NetOk N high zs) (hz : ∀ z ∈ zs, NameOk z) (hl : N.length ≤ 100) : NtG N zs := ⟨h.pos, hl, hz, h.lead, h.led⟩
noncomputable def sp_l_right : Sp := fun vs H Q _ => ∃ (t : Addr) (b : Nat), vs = [.ref t] ∧ Tp (b + 900) H t ∧ ∀ (H' : Hp), Un t H H' → Q (.bl true) H'
theorem ok_l_right {f : Addr} {fd : FuncData} (F : Fun K "_law_right" "_law_right" s_l_right f fd) (Z : Bl mg) (G_word_text : Kn P w K mg base "word_text" P_word_text LV_word_text sp_word_text) (G_net_text : Kn P w K mg base "net_text" P_net_text LV_net_text sp_net_text) (G_l_draw : Kn P w K mg base "_law_draw" P_l_draw LV_l_draw sp_l_draw) (G_l_same : Kn P w K mg base "_law_same" P_l_same LV_l_same sp_l_same) (G_l_names : Kn P w K mg base "_law_names" P_l_names LV_l_names sp_l_names) (G_l_word : Kn P w K mg base "_law_word" P_l_word LV_l_word sp_l_word) (G_l_net : Kn P w K mg base "_law_net" P_l_net LV_l_net sp_l_net) (G_l_text : Kn P w K mg base "_law_text" P_l_text LV_l_text sp_l_text) (G_l_word_due : Kn P w K mg base "_law_word_due" P_l_word_due LV_l_word_due sp_l_word_due) (G_l_net_due : Kn P w K mg base "_law_net_due" P_l_net_due LV_l_net_due sp_l_net_due) (G_l_read : Kn P w K mg base "_law_read" P_l_read LV_l_read sp_l_read) (G_l_spoilt : Kn P w K mg base "_law_spoilt" P_l_spoilt LV_l_spoilt sp_l_spoilt) (G_l_far_right : Kn P w K mg base "_law_far_right" P_l_far_right LV_l_far_right sp_l_far_right) (GK_net_text_0_net : KnK P w K mg base "net_text" P_net_text LV_net_text sp_net_text 0 ["net"] [0]) (GK_word_text_0_word : KnK P w K mg base "word_text" P_word_text LV_word_text sp_word_text 0 ["word"] [0]) : FnOk P w K mg base CX0 LV_l_right f fd P_l_right sp_l_right := by
  refine F.ok sc_l_right (fun vs H Q E h => ?_) (fun cdv A outer s H vs Q E hr h => ?_)
  · obtain ⟨t, b, rfl, _⟩ := h
    rfl
  obtain ⟨V_l_word_due, fd_l_word_due, ok_l_word_due, M_l_word_due, kp_l_word_due, bd_l_word_due⟩ := id G_l_word_due
  obtain ⟨V_l_net_due, fd_l_net_due, ok_l_net_due, M_l_net_due, kp_l_net_due, bd_l_net_due⟩ := id G_l_net_due
  have KV : KnV P w K mg base 2 [(V_l_word_due, sp_l_word_due), (V_l_net_due, sp_l_net_due)] := fun f sp hm => by
    rcases List.mem_cons.mp hm with e | hm
    · cases e
      exact ⟨_, _, ok_l_word_due, kp_l_word_due, bd_l_word_due⟩
    · cases List.mem_singleton.mp hm
      exact ⟨_, _, ok_l_net_due, kp_l_net_due, bd_l_net_due⟩
  obtain ⟨t, b, rfl, hT, q⟩ := h
  refine ⟨_, (pss_cons (ps_set (i := 1) sc_l_right.nd rfl (Or.inl rfl) (pe_slice sl_tupW (pe_own G_l_word (hr.mono (by decide)) (by rfl) (pa_cons (pv 0) (pa_cons pe_int (pa_cons pe_int pa_nil)))) po_none (po_some (pe_own G_l_draw (hr.mono (by decide)) (by rfl) (pa_cons (pv 0) (pa_cons pe_int pa_nil))))))
    (pss_cons (ps_set (i := 2) sc_l_right.nd rfl (Or.inl rfl) (pe_own G_l_net (hr.mono (by decide)) (by rfl) (pa_cons (pv 0) (pa_cons (pe_own G_l_names (hr.mono (by decide)) (by rfl) (pa_cons (pv 0) (pa_cons pe_int pa_nil))) (pa_cons pe_int (pa_cons pe_int (pa_cons (pe_cmpR op_eq (pe_own G_l_draw (hr.mono (by decide)) (by rfl) (pa_cons (pv 0) (pa_cons pe_int pa_nil))) pe_int (nomark _)) pa_nil)))))))
    (pss_cons (ps_set (i := 3) sc_l_right.nd rfl (Or.inl rfl) (pe_lstN (pa_cons (pe_cut (pe_ifExp (pt_cmpR (neD (K := K) hr.units) (pv 1) (pe_tupN pa_nil) (nomark _)) (pe_join pe_str (pe_lcN (own := [("_law_weight_here", 10)]) (g := (gName 10)) (tt := tYes) (by rfl) sc_l_right.nd (pi_tup (pv 1)) (blkOk_by (own := [("_law_weight_here", 10)]) (N := N_l_right) (sc := defScope s_l_right) (by decide +kernel)) (fun _ _ _ _ _ => (pg_name (i := 10) sc_l_right.nd rfl (Or.inl rfl))) (fun _ _ _ _ _ => pts_nil) (fun _ _ _ _ _ => (pe_callTy call_strX (by rfl) Z.str (by decide +kernel) (pa_cons (pv 10) pa_nil))))) pe_str)) (pa_cons (pe_join pe_str (pe_own G_l_text (hr.mono (by decide)) (by rfl) (pa_cons (pv 2) pa_nil))) pa_nil))))
    (pss_cons (ps_set (i := 4) sc_l_right.nd rfl (Or.inl rfl) (pe_lstN (pa_cons (pe_own G_word_text (hr.mono (by decide)) (by rfl) (pa_cons (pv 1) pa_nil)) (pa_cons (pe_own G_net_text (hr.mono (by decide)) (by rfl) (pa_cons (pv 2) pa_nil)) (pa_cons (pe_ownK0 GK_word_text_0_word (hr.mono (by decide)) (by rfl) (pk_cons (pv 1) pk_nil)) (pa_cons (pe_ownK0 GK_net_text_0_net (hr.mono (by decide)) (by rfl) (pk_cons (pv 2) pk_nil)) pa_nil))))))
    (pss_cons (ps_if (pt_not (pt_val (pe_own G_l_same (hr.mono (by decide)) (by rfl) (pa_cons (pv 4) (pa_cons (pe_op op_catL (pv 3) (pv 3)) pa_nil))))) (pss_one (ps_ret pe_bl)) pss_nil)
    (pss_cons (ps_for PassesOwn.never rfl (pi_enum (by rfl) Z.enumerate (pa_cons (pe_op op_catL (pv 3) (pv 3)) pa_nil)) (pg_tup rfl (pgs_cons (pg_name (i := 5) sc_l_right.nd rfl (Or.inl rfl)) (pgs_cons (pg_name (i := 6) sc_l_right.nd rfl (Or.inl rfl)) pgs_nil)))
    (pss_cons (ps_if (pt_not (pt_val (pe_own G_l_same (hr.mono (by decide)) (by rfl) (pa_cons (pe_cut (pe_own G_l_read (hr.mono (by decide)) (by rfl) (pa_cons (pv 6) (pa_cons (pv 5) pa_nil)))) (pa_cons (pe_cut (pe_ix (ixs (K := K)) (pe_lstN (pa_cons (pv 1) (pa_cons (pv 2) pa_nil))) (pe_op op_mod (pv 5) pe_int) (fun _ _ => rfl))) pa_nil))))) (pss_one (ps_ret pe_bl)) pss_nil)
    (pss_one (ps_for PassesOwn.never rfl (pi_range1 (by rfl) Z.range (pa_cons pe_int pa_nil)) (pg_name (i := 7) sc_l_right.nd rfl (Or.inl rfl))
    (pss_cons (ps_set (i := 8) sc_l_right.nd rfl (Or.inl rfl) (pe_own G_l_spoilt (hr.mono (by decide)) (by rfl) (pa_cons (pv 0) (pa_cons (pv 6) pa_nil))))
    (pss_cons (ps_set (i := 8) sc_l_right.nd rfl (Or.inl rfl) (pe_cut (pe_ifExp (pt_cmpR op_gt (pv 7) pe_int (nomark _)) (pe_own G_l_spoilt (hr.mono (by decide)) (by rfl) (pa_cons (pv 0) (pa_cons (pv 8) pa_nil))) (pv 8))))
    (pss_cons (ps_set (i := 9) sc_l_right.nd rfl (Or.inl rfl) (pe_cut (pe_callV KV (hr.mono (by decide)) (pe_ix (ixs (K := K)) (pe_lstN (pa_cons (pe_glob (v := .ref V_l_word_due) (by rfl) M_l_word_due rfl) (pa_cons (pe_glob (v := .ref V_l_net_due) (by rfl) M_l_net_due rfl) pa_nil))) (pe_op op_mod (pv 5) pe_int) (fun _ _ => rfl)) (pa_cons (pv 8) pa_nil))))
    (pss_one (ps_if (pt_not (pt_val (pe_own G_l_same (hr.mono (by decide)) (by rfl) (pa_cons (pe_cut (pe_own G_l_read (hr.mono (by decide)) (by rfl) (pa_cons (pv 8) (pa_cons (pv 5) pa_nil)))) (pa_cons (pv 9) pa_nil))))) (pss_one (ps_ret pe_bl)) pss_nil)))))))))
    (pss_one (ps_ret (pe_and (pe_own G_l_same (hr.mono (by decide)) (by rfl) (pa_cons (pe_lstN (pa_cons (pe_cut (pe_own G_l_read (hr.mono (by decide)) (by rfl) (pa_cons pe_str (pa_cons pe_int pa_nil)))) (pa_cons (pe_cut (pe_own G_l_read (hr.mono (by decide)) (by rfl) (pa_cons pe_str (pa_cons pe_int pa_nil)))) (pa_cons (pe_cut (pe_own G_l_read (hr.mono (by decide)) (by rfl) (pa_cons pe_str (pa_cons pe_int pa_nil)))) pa_nil)))) (pa_cons (pe_lstN (pa_cons pe_int (pa_cons pe_int (pa_cons pe_int pa_nil)))) pa_nil))) (pe_one (pe_own G_l_far_right (hr.mono (by decide)) (by rfl) (pa_cons (pv 0) pa_nil)))))))))))), ?_⟩
  have w2 : (2 : Nat) ≤ sizeLine := by decide
  have w4 : (4 : Nat) ≤ sizeLine := by decide
  have w3 : (3 : Nat) ≤ sizeLine := by decide
  refine ⟨_, rfl, t, 12, b + 850, 24, rfl, by decide, by decide, by decide, by decide, hT.le (by omega), fun p0 ws0 H1 hrow U1 T1 e0 => ?_⟩
  refine ⟨_, rfl, t, 13, b + 849, rfl, by decide, by decide, T1, fun d H2 d1 d2 U2 T2 => ?_⟩
  refine ⟨_, rfl, p0, _, rfl, U2 _ _ (T1.ne e0) e0, fun rp H3 S3 erp => ?_⟩
  rw [cut_map] at erp
  obtain ⟨ws, hws, hwl, hwb⟩ : ∃ ws : List Int, H3 rp = some (.tup (ws.map V.int)) ∧ ws.length ≤ 12 ∧ ∀ x ∈ ws, 1 ≤ x ∧ x ≤ 24 := by
    refine ⟨_, erp, ?_, fun x hx => ?_⟩
    · unfold cutI
      rw [List.length_take, List.length_drop]
      have := hrow.2.1
      omega
    · unfold cutI at hx
      exact hrow.2.2 x (List.mem_of_mem_drop (List.mem_of_mem_take hx))
  have U3 : Un t H H3 := U1.trans (U2.trans (Un.same S3))
  have T3 := T2.same S3
  refine ⟨_, rfl, _, rfl, t, 5, b + 829, rfl, by decide, T3, fun nl zs H4 hzl hz hznd nnl U4 T4 enl => ?_⟩
  refine ⟨_, rfl, t, 2, b + 828, rfl, by decide, by decide, T4, fun g H5 g1 g2 U5 T5 => ?_⟩
  have nnt : nl ≠ t := T3.nn nnl
  refine ⟨rfl, t, nl, zs, 8, 5, b + 788, _, rfl, by decide, by decide, by decide, by decide, by omega, by omega, nnt, U5 _ _ nnt enl, T5, fun hs N H6 hok hNl _ U6 T6 hN => ?_⟩
  have hG : NtG N zs := hok.ntg hz (by omega)
  have hNt : (netT N).length ≤ 144 := by
    have := hG.len 0 (by decide) (by show N.length ≤ 10; omega)
    omega
  have hWt : (wordT ws).length ≤ 37 := word_len hwl 1 fun x hx => by
    have := hwb x hx
    have e : ((10 ^ (1 + 1) : Nat) : Int) = 100 := by decide
    rw [e]
    omega
  have hWr := word_right (ws := ws) fun x hx => (hwb x hx).1
  have hNr := hG.read
  have hwb2 : ∀ x ∈ ws, 0 ≤ x ∧ x < 1000000000000000000 := fun x hx => by
    have := hwb x hx
    omega
  have U36 := U4.trans (U5.trans U6)
  have er6 := U36 _ _ (T3.ne erp) hws
  have U6 := U3.trans U36
  clear U1 U2 U3 U4 U5 T1 T2 T3 T4 T5
  -- the texts
  refine ⟨fun v H' => v = .str (wordT ws) ∧ Same H6 H', ?_, ?_⟩
  · refine ⟨_, rfl, (by show 0 ≤ sizeLine; exact Nat.zero_le _), fun ez H7 nez S7 eez => ?_⟩
    refine ⟨.tuple (ws.map PyData.int), .tuple [], .tup (SqT.of (S7 _ _ er6)) (dpInts _), .tup (SqT.of eez) .nil, Sh.ok (n := 1) (.tup (.map _ fun x _ => .int _)), Sh.ok (n := 1) (.tup .nil), _, rfl, ?_⟩
    by_cases c : ws = []
    · rw [c]
      refine ite2 (fun z => absurd (show false = true from z) (by decide)) (fun _ => ⟨?_, S7⟩)
      unfold wordT
      rw [if_pos rfl]
    have ee : PyData.eqv (.tuple (ws.map PyData.int)) (.tuple []) = false := by
      cases ws with
      | nil => exact absurd rfl c
      | cons x xs => rfl
    rw [ee]
    refine ite2 (fun _ => ?_) (fun z => absurd rfl z)
    have er7 := S7 _ _ er6
    refine ⟨⟨_, rfl⟩, _, rfl, rp, rfl, ⟨_, SqT.of er7⟩, fun D nD => ?_⟩
    refine lc_tup (K := K) (a := rp) (xs := ws.map V.int) (fun i H' => Same H7 H' ∧ H' D = some (.lst (((ws.take i).map figT).map V.str))) ⟨same_upd nD, upd_same⟩ (fun i H' _ hP => SqT.of (hP.1 _ _ er7)) (fun i v Hk hv hP => ?_) (fun Hk hP => ?_)
    · obtain ⟨Sk, eD⟩ := hP
      rw [List.getElem?_map] at hv
      cases en : ws[i]? with
      | none => rw [en] at hv; cases hv
      | some m =>
        rw [en] at hv
        have hv : V.int m = v := Option.some.inj hv
        subst hv
        have hm := hwb m (List.mem_of_getElem? en)
        refine ⟨rfl, _, rfl, .inl ⟨m, rfl, log_small (by omega), _, eD, szl ?_, Same.of_upd Sk nD, ?_⟩⟩
        · rw [List.length_map, List.length_map, List.length_take]
          omega
        · rw [upd_same, List.take_add_one, en, List.map_append, List.map_append]
          rfl
    obtain ⟨Sk, eD⟩ := hP
    rw [List.length_map, List.take_length] at eD
    refine ⟨_, D, ws.map figT, rfl, rfl, .inl (SqL.of eD), ?_, ?_, S7.trans Sk⟩
    · have h1 := sum_len (m := 18) (ps := ws.map figT) fun p hp => by
        obtain ⟨x, hx, rfl⟩ := List.mem_map.mp hp
        have := hwb x hx
        exact fig_len (by omega) (by omega)
      have h2 : (Str.ofString " ").length = 1 := by decide +kernel
      rw [List.length_map] at h1
      rw [List.length_map, h2]
      omega
    · unfold wordT
      rw [if_neg c]
  rintro _ H7 ⟨rfl, S7⟩
  refine ⟨⟨_, rfl⟩, _, rfl, hs, 2, N, rfl, hN.same S7, hG.few, hG.ok, fun l H8 nl8 S8 el => ?_⟩
  refine ⟨_, l, N.map lineT, rfl, rfl, .inl (SqL.of el), ?_, ?_⟩
  · have h1 := sum_len (m := 37) (ps := N.map lineT) fun p hp => by
      obtain ⟨q, hq, rfl⟩ := List.mem_map.mp hp
      exact line_len (hG.ok q hq).1 (hG.ok q hq).2
    rw [List.length_map] at h1
    have h2 : (Str.ofString "\n").length = 1 := by decide +kernel
    rw [List.length_map, h2]
    omega
  refine ⟨w2, fun l3 H9 n3 S9 e3 => ?_⟩
  have e3 : H9 l3 = some (.lst [.str (wordT ws), .str (netT N)]) := e3
  have S69 := S7.trans (S8.trans S9)
  have er9 := S69 _ _ er6
  have hN9 := hN.same S69
  have hwl9 : ws.length ≤ 1000 := by omega
  refine ⟨_, rfl, rp, ws, rfl, er9, hwl9, hwb2, fun Ha Sa => ⟨_, rfl, hs, 2, N, rfl, hN9.same Sa, hG.few, hG.ok, fun Hb Sb => ⟨_, rfl, rfl, rp, ws, rfl, (Sa.trans Sb) _ _ er9, hwl9, hwb2, fun Hc Sc => ⟨_, rfl, rfl, hs, 2, N, rfl, hN9.same (Sa.trans (Sb.trans Sc)), hG.few, hG.ok, fun Hd Sd => ⟨w4, fun l4 He n4 Se e4 => ?_⟩⟩⟩⟩⟩
  have S9e := Sa.trans (Sb.trans (Sc.trans (Sd.trans Se)))
  have e3e := S9e _ _ e3
  refine ⟨_, rfl, _, rfl, _, rfl, l3, l3, _, _, rfl, rfl, e3e, e3e, by show 2 + 2 ≤ 100000; decide, fun l5 Hf n5 Sf e5 => ?_⟩
  have e5 : Hf l5 = some (.lst (([wordT ws, netT N, wordT ws, netT N] : List Str).map V.str)) := e5
  have e4 : Hf l4 = some (.lst (([wordT ws, netT N, wordT ws, netT N] : List Str).map V.str)) := Sf _ _ e4
  refine ⟨_, _, .list (([wordT ws, netT N, wordT ws, netT N] : List Str).map PyData.str), rfl, .lst (n := 6) e4 (by show 4 ≤ 50000; decide) (dtStrs _), .lst (n := 6) e5 (by show 4 ≤ 50000; decide) (dtStrs _), fun Hg Sg => ⟨_, rfl, ?_⟩⟩
  refine ite2 (fun z => absurd (show false = true from z) (by decide)) (fun _ => ?_)
  have e3g := (Sf.trans Sg) _ _ e3e
  refine ⟨_, rfl, _, rfl, l3, l3, _, _, rfl, rfl, e3g, e3g, by show 2 + 2 ≤ 100000; decide, fun l6 Hh n6 Sh e6 => ?_⟩
  have e6 : Hh l6 = some (.lst (([wordT ws, netT N, wordT ws, netT N] : List Str).map V.str)) := e6
  have S6h := S69.trans (S9e.trans (Sf.trans (Sg.trans Sh)))
  have Th := T6.same S6h
  have n6t : l6 ≠ t := (T6.same (S69.trans (S9e.trans (Sf.trans Sg)))).nn n6
  have erh := S6h _ _ er6
  have hNh := hN.same S6h
  have hpg : ∀ (i : Nat) (pg : Str), ([wordT ws, netT N, wordT ws, netT N] : List Str)[i]? = some pg → pg.length ≤ 144 ∧ i < 4 ∧ ((i % 2 = 0 ∧ pg = wordT ws) ∨ (i % 2 = 1 ∧ pg = netT N)) := fun i pg h => by
    have hi : i < 4 := (List.getElem?_eq_some_iff.mp h).1
    have h4 : i = 0 ∨ i = 1 ∨ i = 2 ∨ i = 3 := by omega
    rcases h4 with rfl | rfl | rfl | rfl <;> cases h
    · exact ⟨by omega, by decide, .inl ⟨rfl, rfl⟩⟩
    · exact ⟨by omega, by decide, .inr ⟨rfl, rfl⟩⟩
    · exact ⟨by omega, by decide, .inl ⟨rfl, rfl⟩⟩
    · exact ⟨by omega, by decide, .inr ⟨rfl, rfl⟩⟩
  have fit : Un t H Hh := U6.trans (Un.same S6h)
  refine ⟨l6, _, rfl, SqL.of e6, for_it (walk_enum (K := K) (a := l6) (xs := ([wordT ws, netT N, wordT ws, netT N] : List Str).map V.str)) (fun i σ H' => (∃ y5 y6 y7 y8 y9 : Option V, σ = [some (.ref t), some (.ref rp), some (.ref hs), some (.ref l3), some (.ref l4), y5, y6, y7, y8, y9, none]) ∧ Un t Hh H' ∧ Tp (b + 4 + 160 * (4 - i)) H' t)
    ⟨⟨_, _, _, _, _, rfl⟩, Un.refl _ _, Th.le (by omega)⟩ (fun i σ H' _ hP => SqL.of (hP.2.1 _ _ n6t e6)) (fun i v σ H7 H8 hi hP hY => ?_) (fun σ H7 hP => ?_)⟩
  · obtain ⟨⟨y5, y6, y7, y8, y9, rfl⟩, U7, T7⟩ := hP
    obtain ⟨T3, x1, x2, rfl, nT3, rfl, i1, i2⟩ := hY
    have i1 : (V.int (i : Nat)) = x1 := Option.some.inj i1
    subst i1
    obtain ⟨pg, hpg1, rfl⟩ : ∃ pg, ([wordT ws, netT N, wordT ws, netT N] : List Str)[i]? = some pg ∧ x2 = .str pg := by
      have i2 : (([wordT ws, netT N, wordT ws, netT N] : List Str).map V.str)[i]? = some x2 := i2
      rw [List.getElem?_map] at i2
      cases en : ([wordT ws, netT N, wordT ws, netT N] : List Str)[i]? with
      | none => rw [en] at i2; cases i2
      | some z =>
        rw [en] at i2
        exact ⟨z, rfl, (Option.some.inj i2).symm⟩
    obtain ⟨hpl, hi4, hway⟩ := hpg i pg hpg1
    have ST : Same H7 (upd H7 T3 (.tup [.int (i : Nat), .str pg])) := same_upd nT3
    have eT : upd H7 T3 (.tup [.int (i : Nat), .str pg]) T3 = some (.tup [.int (i : Nat), .str pg]) := upd_same
    generalize upd H7 T3 (.tup [.int (i : Nat), .str pg]) = H8 at ST eT ⊢
    have T8 := T7.same ST
    have U8 : Un t Hh H8 := U7.trans (Un.same ST)
    refine ⟨T3, _, rfl, SqT.of eT, rfl, _, _, rfl, _, _, rfl, rfl, ?_⟩
    refine ⟨ReadR H8 pg i, ⟨_, rfl, _, rfl, read_all (E := E0) hi4 (by omega)⟩, ?_⟩
    rintro v H9 ⟨S9', d, hd, hv⟩
    have T9 := T8.same S9'
    have U9 : Un t Hh H9 := U8.trans (Un.same S9')
    have nrt : rp ≠ t := Th.ne erh
    refine ⟨fun v H' => Same H9 H' ∧ Dt H' 2 v d, ?_, ?_⟩
    · refine ⟨_, rfl, _, rfl, w2, fun lq Hq nq Sq eq => ⟨_, rfl, _, _, rfl, rfl, (by show (0 : Int) < 2; decide), ?_⟩⟩
      rcases hway with ⟨hp, rfl⟩ | ⟨hp, rfl⟩
      · refine .inl ⟨lq, _, ((0 : Nat) : Int), .ref rp, rfl, congrArg V.int (by omega), SqL.of eq, atI_nat rfl, Sq, ?_⟩
        rw [due_uniq hd (.inl ⟨hp, by rw [hWr]; rfl⟩ : DueD _ i (.tuple (ws.map PyData.int)))]
        exact .tup (n := 1) (Sq _ _ (U9 _ _ nrt erh)) (by rw [List.length_map]; omega) (dtInts _)
      · refine .inl ⟨lq, _, ((1 : Nat) : Int), .ref hs, rfl, congrArg V.int (by omega), SqL.of eq, atI_nat rfl, Sq, ?_⟩
        rw [due_uniq hd (.inr ⟨hp, .inr N, hNr, rfl⟩ : DueD _ i (netD N))]
        obtain ⟨_, _, _, et, _⟩ := Th
        exact (dtUn et U9 hNh (TO.net N)).same Sq
    rintro vd Hr ⟨Sr, hvd⟩
    refine ⟨_, _, d, rfl, (hv.same Sr).up (by decide), hvd.up (by decide), fun Hs Ss => ⟨_, rfl, ?_⟩⟩
    refine ite2 (fun z => absurd (show false = true from z) (by decide)) (fun _ => ?_)
    have SS := Sr.trans Ss
    have Ts := T9.same SS
    have Us := U9.trans (Un.same SS)
    refine ⟨15, rfl, by decide, by decide, for_range (lo := 0) (n := 15) (fun j σ H' => (∃ y7 y8 y9 : Option V, σ = [some (.ref t), some (.ref rp), some (.ref hs), some (.ref l3), some (.ref l4), some (.int (i : Nat)), some (.str pg), y7, y8, y9, none]) ∧ Un t Hh H' ∧ Tp (b + 4 + 160 * (3 - i) + 10 * (15 - j)) H' t)
      ⟨⟨_, _, _, rfl⟩, Us, Ts.le (by omega)⟩ (fun j σ Hu hj hP => ?_) (fun σ Hu hP => ?_)⟩
    · obtain ⟨⟨y7, y8, y9, rfl⟩, Uu, Tu⟩ := hP
      refine ⟨_, rfl, _, rfl, t, pg, b + 4 + 160 * (3 - i) + 10 * (15 - (j + 1)) + 5, rfl, by omega, Tu.le (by omega), fun z Hv hzl Uv Tv => ?_⟩
      refine ⟨fun v H' => ∃ z2 : Str, v = .str z2 ∧ z2.length ≤ 640 ∧ Un t Hv H' ∧ Tp (b + 4 + 160 * (3 - i) + 10 * (15 - (j + 1))) H' t, ?_, ?_⟩
      · refine ⟨_, rfl, _, _, rfl, rfl, _, rfl, ite2 (fun _ => ?_) (fun _ => ⟨_, rfl, z, rfl, by omega, Un.refl _ _, Tv.le (by omega)⟩)⟩
        exact ⟨_, rfl, _, rfl, t, z, b + 4 + 160 * (3 - i) + 10 * (15 - (j + 1)), rfl, by omega, Tv, fun z2 Hw h2 Uw Tw => ⟨z2, rfl, by omega, Uw, Tw⟩⟩
      rintro _ Hw ⟨z2, rfl, hz2, Uw, Tw⟩
      refine ⟨ReadR Hw z2 i, ?_, ?_⟩
      · refine ⟨w2, fun lf Hx nx Sx ex => ⟨_, rfl, _, _, rfl, rfl, (by show (0 : Int) < 2; decide), ?_⟩⟩
        have h2 : i % 2 = 0 ∨ i % 2 = 1 := by omega
        rcases h2 with h2 | h2
        · exact .inl ⟨lf, _, ((0 : Nat) : Int), .ref V_l_word_due, rfl, congrArg V.int (by omega), SqL.of ex, atI_nat rfl, V_l_word_due, sp_l_word_due, rfl, List.mem_cons_self, _, rfl, wdue_all (E := E0) (H := Hx) Sx h2 hz2⟩
        · exact .inl ⟨lf, _, ((1 : Nat) : Int), .ref V_l_net_due, rfl, congrArg V.int (by omega), SqL.of ex, atI_nat rfl, V_l_net_due, sp_l_net_due, rfl, List.mem_cons_of_mem _ List.mem_cons_self, _, rfl, ndue_all (E := E0) (H := Hx) Sx h2 hz2⟩
      rintro vdue Hx ⟨Sx, dd, hdd, hvdd⟩
      refine ⟨ReadR Hx z2 i, ⟨_, rfl, _, rfl, read_all (E := E0) hi4 hz2⟩, ?_⟩
      rintro v2 Hy ⟨Sy, d2, hd2, hv2⟩
      have ed := due_uniq hd2 hdd
      subst ed
      refine ⟨_, rfl, _, _, d2, rfl, hv2.up (by decide), (hvdd.same Sy).up (by decide), fun Hz Sz => ⟨_, rfl, ?_⟩⟩
      refine ite2 (fun z => absurd (show false = true from z) (by decide)) (fun _ => ?_)
      have SZ := Sx.trans (Sy.trans Sz)
      exact ⟨⟨_, _, _, rfl⟩, Uu.trans (Uv.trans (Uw.trans (Un.same SZ))), Tw.same SZ⟩
    · obtain ⟨⟨y7, y8, y9, rfl⟩, Uu, Tu⟩ := hP
      exact ⟨⟨_, _, _, _, _, rfl⟩, Uu, Tu.le (by omega)⟩
  obtain ⟨⟨y5, y6, y7, y8, y9, rfl⟩, U7, T7⟩ := hP
  refine ⟨ReadR H7 (Str.ofString "") 0, read_all (E := E0) (by decide) (by decide +kernel), ?_⟩
  rintro v0 Hi ⟨Si, d0, hd0, hv0⟩
  refine ⟨ReadR Hi (Str.ofString "") 1, read_all (E := E0) (by decide) (by decide +kernel), ?_⟩
  rintro v1 Hj ⟨Sj, d1, hd1, hv1⟩
  refine ⟨ReadR Hj (Str.ofString "-") 1, read_all (E := E0) (by decide) (by decide +kernel), ?_⟩
  rintro v2 Hk ⟨Sk, d2, hd2, hv2⟩
  rw [due_uniq hd0 due_e0] at hv0
  rw [due_uniq hd1 due_e1] at hv1
  rw [due_uniq hd2 due_b1] at hv2
  refine ⟨w3, fun la Hl na Sl ea => ⟨w3, fun lb Hm nb Sm eb => ?_⟩⟩
  have S2 := Sl.trans Sm
  refine ⟨_, _, .list [.int 0, .int 0, .int 0], rfl, .lst (n := 6) (Sm _ _ ea) (by show 3 ≤ 50000; decide) (.cons ((hv0.same (Sj.trans (Sk.trans S2))).up (by decide)) (.cons ((hv1.same (Sk.trans S2)).up (by decide)) (.cons ((hv2.same S2).up (by decide)) .nil))), .lst (n := 6) eb (by show 3 ≤ 50000; decide) (.cons (.int 0) (.cons (.int 0) (.cons (.int 0) .nil))), fun Hn Sn => ⟨_, rfl, ite2 (fun _ => ?_) (fun z => absurd rfl z)⟩⟩
  have SN := Si.trans (Sj.trans (Sk.trans (S2.trans Sn)))
  exact ⟨_, rfl, t, b, rfl, (T7.same SN).le (by omega), fun Ho Uo To => q Ho (fit.trans (U7.trans ((Un.same SN).trans Uo)))⟩
noncomputable abbrev LV_law : Nat := 11
noncomputable def spLaw (K : PySem.W.Frag) : Sp := fun vs H Q _ => ∃ (a : Addr) (ns : List Int), vs = [.ref a] ∧ SqL K H a (ns.map V.int) ∧ ns.length ≤ 63 ∧ ∀ H', Q (.bl true) H'
theorem ok_law {f : Addr} {fd : FuncData} (F : Fun K "law" "law" s_law f fd) (Z : Bl mg) (G_l_tape : Kn P w K mg base "_law_tape" P_l_tape LV_l_tape sp_l_tape) (G_l_folded : Kn P w K mg base "_law_folded" P_l_folded LV_l_folded (sp_l_folded K)) (G_l_right : Kn P w K mg base "_law_right" P_l_right LV_l_right sp_l_right) : FnOk P w K mg base CX0 LV_law f fd P_law (spLaw K) := by
  refine F.ok sc_law (fun vs H Q E h => ?_) (fun cdv A outer s H vs Q E hr h => ?_)
  · obtain ⟨a, ns, rfl, _⟩ := h
    rfl
  obtain ⟨a, ns, rfl, ha, hl, q⟩ := h
  refine ⟨_, (pss_cons (ps_set (i := 1) sc_law.nd rfl (Or.inl rfl) (pe_cut (pe_ifExp (pt_cmpR (neD (K := K) hr.units) (pv 0) (pe_lstN pa_nil) (nomark _)) (pe_own G_l_folded (hr.mono (by decide)) (by rfl) (pa_cons (pv 0) (pa_cons pe_int pa_nil))) (pe_lstN (pa_cons pe_int pa_nil)))))
    (pss_cons (ps_for PassesOwn.never rfl (pi_range1 (by rfl) Z.range (pa_cons (pe_callB (call_lenN (K := K)) (by rfl) Z.len (by decide +kernel) (pa_cons (pv 1) pa_nil)) pa_nil)) (pg_name (i := 2) sc_law.nd rfl (Or.inl rfl))
    (pss_one (ps_if (pt_not (pt_val (pe_own G_l_right (hr.mono (by decide)) (by rfl) (pa_cons (pe_own G_l_tape (hr.mono (by decide)) (by rfl) (pa_cons (pv 1) (pa_cons (pv 2) pa_nil))) pa_nil)))) (pss_one (ps_ret pe_bl)) pss_nil)))
    (pss_one (ps_ret pe_bl)))), ?_⟩
  refine ⟨fun v H' => ∃ (p : Addr) (cs : List Int), v = .ref p ∧ H' p = some (.lst (cs.map V.int)) ∧ cs.length ≤ 3, ?_, fun v H1 hR => ?_⟩
  · refine ⟨_, rfl, Nat.zero_le _, fun p1 H1 np1 S1 e1 => ?_⟩
    refine ⟨.list (ns.map PyData.int), .list [], .lst (S1.seq ha) (dpInts _), .lst (SqL.of e1) .nil, Sh.ok (n := 1) (.list (.map _ fun x _ => .int _)), Sh.ok (n := 1) (.list .nil), _, rfl, ?_⟩
    cases ns with
    | nil => exact ⟨(by show 1 ≤ sizeLine; decide), fun p2 H2 np2 S2 e2 => ⟨p2, [0], rfl, e2, by decide⟩⟩
    | cons x xs =>
      refine ⟨_, rfl, a, x :: xs, 3, rfl, S1.seq ha, hl, by decide, by decide, fun p cs H2 np S2 e2 hc => ⟨p, cs, rfl, e2, hc⟩⟩
  obtain ⟨p, cs, rfl, e1, hc⟩ := hR
  refine ⟨_, rfl, p, _, rfl, .inl (SqL.of e1), _, rfl, ?_⟩
  have hlen : (cs.map V.int).length ≤ 3 := by rw [List.length_map]; exact hc
  refine ⟨by omega, by omega, for_range (lo := 0) (n := _) (fun k σ H' => (∃ y2, σ = [some (.ref a), some (.ref p), y2]) ∧ Same H1 H') ⟨⟨none, rfl⟩, Same.refl _⟩ (fun j σ H' hj hP => ?_) (fun σ H' hP => ?_)⟩
  · obtain ⟨⟨y2, rfl⟩, S⟩ := hP
    refine ⟨_, rfl, _, rfl, p, cs, _, rfl, S _ _ e1, by omega, by omega, fun t H2 nt S2 T2 => ?_⟩
    refine ⟨t, 100, rfl, T2.le (by decide), fun H3 U3 => ⟨_, rfl, ?_⟩⟩
    exact ⟨⟨_, rfl⟩, S.trans (U3.fresh S2 nt)⟩
  · obtain ⟨⟨y2, rfl⟩, S⟩ := hP
    exact q _
end
theorem len_1 {fd : FuncData} {ps : List Str} (h : ∀ x0 : Value, bindArgs fd { pos := [x0] } = pure (ps.zip [x0])) : ∀ us : List Value, us.length = 1 → bindArgs fd { pos := us } = pure (ps.zip us)
  | [x0], _ => h x0
theorem len_2 {fd : FuncData} {ps : List Str} (h : ∀ x0 x1 : Value, bindArgs fd { pos := [x0, x1] } = pure (ps.zip [x0, x1])) : ∀ us : List Value, us.length = 2 → bindArgs fd { pos := us } = pure (ps.zip us)
  | [x0, x1], _ => h x0 x1
theorem len_3 {fd : FuncData} {ps : List Str} (h : ∀ x0 x1 x2 : Value, bindArgs fd { pos := [x0, x1, x2] } = pure (ps.zip [x0, x1, x2])) : ∀ us : List Value, us.length = 3 → bindArgs fd { pos := us } = pure (ps.zip us)
  | [x0, x1, x2], _ => h x0 x1 x2
theorem len_5 {fd : FuncData} {ps : List Str} (h : ∀ x0 x1 x2 x3 x4 : Value, bindArgs fd { pos := [x0, x1, x2, x3, x4] } = pure (ps.zip [x0, x1, x2, x3, x4])) : ∀ us : List Value, us.length = 5 → bindArgs fd { pos := us } = pure (ps.zip us)
  | [x0, x1, x2, x3, x4], _ => h x0 x1 x2 x3 x4
theorem all_mk {l : PySem.W.OpenLaw} {w : World} {K : PySem.W.Frag} {h : Heap} {mg : Str → Option Value} {fa f0 f1 f2 f3 f4 f5 f6 f7 : Addr} (X : K.In h) (G : h.Ns mainGlobals mg) (hfa : mg "law" = some (.ref fa))
    {od0 an0 od1 an1 od2 an2 od3 an3 od4 an4 od5 an5 od6 an6 od7 an7 : Option Addr} {sl0 sl1 sl2 sl3 sl4 sl5 sl6 sl7 : Array (Option Value)} {oc0 kV0 dc0 pm0 cd0 ct0 oc1 kV1 dc1 pm1 cd1 ct1 oc2 kV2 dc2 pm2 cd2 ct2 oc3 kV3 dc3 pm3 cd3 ct3 oc4 kV4 dc4 pm4 cd4 ct4 oc5 kV5 dc5 pm5 cd5 ct5 oc6 kV6 dc6 pm6 cd6 ct6 oc7 kV7 dc7 pm7 cd7 ct7 : Value}
    (a0 : PySem.W.nsIn K mainGlobals "is_number" = some (some (.ref f0))) (l0 : K.lookup f0 = some ⟨oc0, od0, .func (PySem.W.fnOf "is_number" "is_number" (defArgs s_is_number) (defBody s_is_number) (defScope s_is_number) .none kV0 dc0 pm0 an0 cd0 ct0), sl0⟩) (c0 : PySem.W.codeIn K cd0 "is_number" = true) (k0 : PySem.W.keepIn K (.ref f0) = true)
    (a1 : PySem.W.nsIn K mainGlobals "is_name" = some (some (.ref f1))) (l1 : K.lookup f1 = some ⟨oc1, od1, .func (PySem.W.fnOf "is_name" "is_name" (defArgs s_is_name) (defBody s_is_name) (defScope s_is_name) .none kV1 dc1 pm1 an1 cd1 ct1), sl1⟩) (c1 : PySem.W.codeIn K cd1 "is_name" = true) (k1 : PySem.W.keepIn K (.ref f1) = true)
    (a2 : PySem.W.nsIn K mainGlobals "balances_led_to" = some (some (.ref f2))) (l2 : K.lookup f2 = some ⟨oc2, od2, .func (PySem.W.fnOf "balances_led_to" "balances_led_to" (defArgs s_balances_led_to) (defBody s_balances_led_to) (defScope s_balances_led_to) .none kV2 dc2 pm2 an2 cd2 ct2), sl2⟩) (c2 : PySem.W.codeIn K cd2 "balances_led_to" = true) (k2 : PySem.W.keepIn K (.ref f2) = true)
    (a3 : PySem.W.nsIn K mainGlobals "figures_of" = some (some (.ref f3))) (l3 : K.lookup f3 = some ⟨oc3, od3, .func (PySem.W.fnOf "figures_of" "figures_of" (defArgs s_figures_of) (defBody s_figures_of) (defScope s_figures_of) .none kV3 dc3 pm3 an3 cd3 ct3), sl3⟩) (c3 : PySem.W.codeIn K cd3 "figures_of" = true) (k3 : PySem.W.keepIn K (.ref f3) = true)
    (a4 : PySem.W.nsIn K mainGlobals "is_plain" = some (some (.ref f4))) (l4 : K.lookup f4 = some ⟨oc4, od4, .func (PySem.W.fnOf "is_plain" "is_plain" (defArgs s_is_plain) (defBody s_is_plain) (defScope s_is_plain) .none kV4 dc4 pm4 an4 cd4 ct4), sl4⟩) (c4 : PySem.W.codeIn K cd4 "is_plain" = true) (k4 : PySem.W.keepIn K (.ref f4) = true)
    (a5 : PySem.W.nsIn K mainGlobals "number_in" = some (some (.ref f5))) (l5 : K.lookup f5 = some ⟨oc5, od5, .func (PySem.W.fnOf "number_in" "number_in" (defArgs s_number_in) (defBody s_number_in) (defScope s_number_in) .none kV5 dc5 pm5 an5 cd5 ct5), sl5⟩) (c5 : PySem.W.codeIn K cd5 "number_in" = true) (k5 : PySem.W.keepIn K (.ref f5) = true)
    (a6 : PySem.W.nsIn K mainGlobals "word_text" = some (some (.ref f6))) (l6 : K.lookup f6 = some ⟨oc6, od6, .func (PySem.W.fnOf "word_text" "word_text" (defArgs s_word_text) (defBody s_word_text) (defScope s_word_text) .none kV6 dc6 pm6 an6 cd6 ct6), sl6⟩) (c6 : PySem.W.codeIn K cd6 "word_text" = true) (k6 : PySem.W.keepIn K (.ref f6) = true)
    (a7 : PySem.W.nsIn K mainGlobals "net_text" = some (some (.ref f7))) (l7 : K.lookup f7 = some ⟨oc7, od7, .func (PySem.W.fnOf "net_text" "net_text" (defArgs s_net_text) (defBody s_net_text) (defScope s_net_text) .none kV7 dc7 pm7 an7 cd7 ct7), sl7⟩) (c7 : PySem.W.codeIn K cd7 "net_text" = true) (k7 : PySem.W.keepIn K (.ref f7) = true)
    (a8 : PySem.W.nsIn K mainGlobals "word_in" = some (some (.ref f8))) (l8 : K.lookup f8 = some ⟨oc8, od8, .func (PySem.W.fnOf "word_in" "word_in" (defArgs s_word_in) (defBody s_word_in) (defScope s_word_in) .none kV8 dc8 pm8 an8 cd8 ct8), sl8⟩) (c8 : PySem.W.codeIn K cd8 "word_in" = true) (k8 : PySem.W.keepIn K (.ref f8) = true)
    (a9 : PySem.W.nsIn K mainGlobals "lead_in" = some (some (.ref f9))) (l9 : K.lookup f9 = some ⟨oc9, od9, .func (PySem.W.fnOf "lead_in" "lead_in" (defArgs s_lead_in) (defBody s_lead_in) (defScope s_lead_in) .none kV9 dc9 pm9 an9 cd9 ct9), sl9⟩) (c9 : PySem.W.codeIn K cd9 "lead_in" = true) (k9 : PySem.W.keepIn K (.ref f9) = true)
    (a10 : PySem.W.nsIn K mainGlobals "is_lead_among" = some (some (.ref f10))) (l10 : K.lookup f10 = some ⟨oc10, od10, .func (PySem.W.fnOf "is_lead_among" "is_lead_among" (defArgs s_is_lead_among) (defBody s_is_lead_among) (defScope s_is_lead_among) .none kV10 dc10 pm10 an10 cd10 ct10), sl10⟩) (c10 : PySem.W.codeIn K cd10 "is_lead_among" = true) (k10 : PySem.W.keepIn K (.ref f10) = true)
    (a11 : PySem.W.nsIn K mainGlobals "net_in" = some (some (.ref f11))) (l11 : K.lookup f11 = some ⟨oc11, od11, .func (PySem.W.fnOf "net_in" "net_in" (defArgs s_net_in) (defBody s_net_in) (defScope s_net_in) .none kV11 dc11 pm11 an11 cd11 ct11), sl11⟩) (c11 : PySem.W.codeIn K cd11 "net_in" = true) (k11 : PySem.W.keepIn K (.ref f11) = true)
    (a12 : PySem.W.nsIn K mainGlobals "greatest_bottom" = some (some (.ref f12))) (l12 : K.lookup f12 = some ⟨oc12, od12, .func (PySem.W.fnOf "greatest_bottom" "greatest_bottom" (defArgs s_greatest_bottom) (defBody s_greatest_bottom) (defScope s_greatest_bottom) .none kV12 dc12 pm12 an12 cd12 ct12), sl12⟩) (c12 : PySem.W.codeIn K cd12 "greatest_bottom" = true) (k12 : PySem.W.keepIn K (.ref f12) = true)
    (a13 : PySem.W.nsIn K mainGlobals "parts_of" = some (some (.ref f13))) (l13 : K.lookup f13 = some ⟨oc13, od13, .func (PySem.W.fnOf "parts_of" "parts_of" (defArgs s_parts_of) (defBody s_parts_of) (defScope s_parts_of) .none kV13 dc13 pm13 an13 cd13 ct13), sl13⟩) (c13 : PySem.W.codeIn K cd13 "parts_of" = true) (k13 : PySem.W.keepIn K (.ref f13) = true)
    (a14 : PySem.W.nsIn K mainGlobals "tree_of" = some (some (.ref f14))) (l14 : K.lookup f14 = some ⟨oc14, od14, .func (PySem.W.fnOf "tree_of" "tree_of" (defArgs s_tree_of) (defBody s_tree_of) (defScope s_tree_of) .none kV14 dc14 pm14 an14 cd14 ct14), sl14⟩) (c14 : PySem.W.codeIn K cd14 "tree_of" = true) (k14 : PySem.W.keepIn K (.ref f14) = true)
    (a15 : PySem.W.nsIn K mainGlobals "_law_tape" = some (some (.ref f15))) (l15 : K.lookup f15 = some ⟨oc15, od15, .func (PySem.W.fnOf "_law_tape" "_law_tape" (defArgs s_l_tape) (defBody s_l_tape) (defScope s_l_tape) .none kV15 dc15 pm15 an15 cd15 ct15), sl15⟩) (c15 : PySem.W.codeIn K cd15 "_law_tape" = true) (k15 : PySem.W.keepIn K (.ref f15) = true)
    (a16 : PySem.W.nsIn K mainGlobals "_law_draw" = some (some (.ref f16))) (l16 : K.lookup f16 = some ⟨oc16, od16, .func (PySem.W.fnOf "_law_draw" "_law_draw" (defArgs s_l_draw) (defBody s_l_draw) (defScope s_l_draw) .none kV16 dc16 pm16 an16 cd16 ct16), sl16⟩) (c16 : PySem.W.codeIn K cd16 "_law_draw" = true) (k16 : PySem.W.keepIn K (.ref f16) = true)
    (a17 : PySem.W.nsIn K mainGlobals "_law_folded" = some (some (.ref f17))) (l17 : K.lookup f17 = some ⟨oc17, od17, .func (PySem.W.fnOf "_law_folded" "_law_folded" (defArgs s_l_folded) (defBody s_l_folded) (defScope s_l_folded) .none kV17 dc17 pm17 an17 cd17 ct17), sl17⟩) (c17 : PySem.W.codeIn K cd17 "_law_folded" = true) (k17 : PySem.W.keepIn K (.ref f17) = true)
    (a18 : PySem.W.nsIn K mainGlobals "_law_same" = some (some (.ref f18))) (l18 : K.lookup f18 = some ⟨oc18, od18, .func (PySem.W.fnOf "_law_same" "_law_same" (defArgs s_l_same) (defBody s_l_same) (defScope s_l_same) .none kV18 dc18 pm18 an18 cd18 ct18), sl18⟩) (c18 : PySem.W.codeIn K cd18 "_law_same" = true) (k18 : PySem.W.keepIn K (.ref f18) = true)
    (a19 : PySem.W.nsIn K mainGlobals "_law_names" = some (some (.ref f19))) (l19 : K.lookup f19 = some ⟨oc19, od19, .func (PySem.W.fnOf "_law_names" "_law_names" (defArgs s_l_names) (defBody s_l_names) (defScope s_l_names) .none kV19 dc19 pm19 an19 cd19 ct19), sl19⟩) (c19 : PySem.W.codeIn K cd19 "_law_names" = true) (k19 : PySem.W.keepIn K (.ref f19) = true)
    (a20 : PySem.W.nsIn K mainGlobals "_law_weight" = some (some (.ref f20))) (l20 : K.lookup f20 = some ⟨oc20, od20, .func (PySem.W.fnOf "_law_weight" "_law_weight" (defArgs s_l_weight) (defBody s_l_weight) (defScope s_l_weight) .none kV20 dc20 pm20 an20 cd20 ct20), sl20⟩) (c20 : PySem.W.codeIn K cd20 "_law_weight" = true) (k20 : PySem.W.keepIn K (.ref f20) = true)
    (a21 : PySem.W.nsIn K mainGlobals "_law_word" = some (some (.ref f21))) (l21 : K.lookup f21 = some ⟨oc21, od21, .func (PySem.W.fnOf "_law_word" "_law_word" (defArgs s_l_word) (defBody s_l_word) (defScope s_l_word) .none kV21 dc21 pm21 an21 cd21 ct21), sl21⟩) (c21 : PySem.W.codeIn K cd21 "_law_word" = true) (k21 : PySem.W.keepIn K (.ref f21) = true)
    (a22 : PySem.W.nsIn K mainGlobals "_law_net" = some (some (.ref f22))) (l22 : K.lookup f22 = some ⟨oc22, od22, .func (PySem.W.fnOf "_law_net" "_law_net" (defArgs s_l_net) (defBody s_l_net) (defScope s_l_net) .none kV22 dc22 pm22 an22 cd22 ct22), sl22⟩) (c22 : PySem.W.codeIn K cd22 "_law_net" = true) (k22 : PySem.W.keepIn K (.ref f22) = true)
    (a23 : PySem.W.nsIn K mainGlobals "_law_text" = some (some (.ref f23))) (l23 : K.lookup f23 = some ⟨oc23, od23, .func (PySem.W.fnOf "_law_text" "_law_text" (defArgs s_l_text) (defBody s_l_text) (defScope s_l_text) .none kV23 dc23 pm23 an23 cd23 ct23), sl23⟩) (c23 : PySem.W.codeIn K cd23 "_law_text" = true) (k23 : PySem.W.keepIn K (.ref f23) = true)
    (a24 : PySem.W.nsIn K mainGlobals "_law_number" = some (some (.ref f24))) (l24 : K.lookup f24 = some ⟨oc24, od24, .func (PySem.W.fnOf "_law_number" "_law_number" (defArgs s_l_number) (defBody s_l_number) (defScope s_l_number) .none kV24 dc24 pm24 an24 cd24 ct24), sl24⟩) (c24 : PySem.W.codeIn K cd24 "_law_number" = true) (k24 : PySem.W.keepIn K (.ref f24) = true)
    (a25 : PySem.W.nsIn K mainGlobals "_law_word_due" = some (some (.ref f25))) (l25 : K.lookup f25 = some ⟨oc25, od25, .func (PySem.W.fnOf "_law_word_due" "_law_word_due" (defArgs s_l_word_due) (defBody s_l_word_due) (defScope s_l_word_due) .none kV25 dc25 pm25 an25 cd25 ct25), sl25⟩) (c25 : PySem.W.codeIn K cd25 "_law_word_due" = true) (k25 : PySem.W.keepIn K (.ref f25) = true)
    (a26 : PySem.W.nsIn K mainGlobals "_law_net_due" = some (some (.ref f26))) (l26 : K.lookup f26 = some ⟨oc26, od26, .func (PySem.W.fnOf "_law_net_due" "_law_net_due" (defArgs s_l_net_due) (defBody s_l_net_due) (defScope s_l_net_due) .none kV26 dc26 pm26 an26 cd26 ct26), sl26⟩) (c26 : PySem.W.codeIn K cd26 "_law_net_due" = true) (k26 : PySem.W.keepIn K (.ref f26) = true)
    (a27 : PySem.W.nsIn K mainGlobals "_law_read" = some (some (.ref f27))) (l27 : K.lookup f27 = some ⟨oc27, od27, .func (PySem.W.fnOf "_law_read" "_law_read" (defArgs s_l_read) (defBody s_l_read) (defScope s_l_read) .none kV27 dc27 pm27 an27 cd27 ct27), sl27⟩) (c27 : PySem.W.codeIn K cd27 "_law_read" = true) (k27 : PySem.W.keepIn K (.ref f27) = true)
    (a28 : PySem.W.nsIn K mainGlobals "_law_spoilt" = some (some (.ref f28))) (l28 : K.lookup f28 = some ⟨oc28, od28, .func (PySem.W.fnOf "_law_spoilt" "_law_spoilt" (defArgs s_l_spoilt) (defBody s_l_spoilt) (defScope s_l_spoilt) .none kV28 dc28 pm28 an28 cd28 ct28), sl28⟩) (c28 : PySem.W.codeIn K cd28 "_law_spoilt" = true) (k28 : PySem.W.keepIn K (.ref f28) = true)
    (a29 : PySem.W.nsIn K mainGlobals "_law_right" = some (some (.ref f29))) (l29 : K.lookup f29 = some ⟨oc29, od29, .func (PySem.W.fnOf "_law_right" "_law_right" (defArgs s_l_right) (defBody s_l_right) (defScope s_l_right) .none kV29 dc29 pm29 an29 cd29 ct29), sl29⟩) (c29 : PySem.W.codeIn K cd29 "_law_right" = true) (k29 : PySem.W.keepIn K (.ref f29) = true)
    (a30 : PySem.W.nsIn K mainGlobals "_law_far_right" = some (some (.ref f30))) (l30 : K.lookup f30 = some ⟨oc30, od30, .func (PySem.W.fnOf "_law_far_right" "_law_far_right" (defArgs s_l_far_right) (defBody s_l_far_right) (defScope s_l_far_right) .none kV30 dc30 pm30 an30 cd30 ct30), sl30⟩) (c30 : PySem.W.codeIn K cd30 "_law_far_right" = true) (k30 : PySem.W.keepIn K (.ref f30) = true)
    (a31 : PySem.W.nsIn K mainGlobals "law" = some (some (.ref f31))) (l31 : K.lookup f31 = some ⟨oc31, od31, .func (PySem.W.fnOf "law" "law" (defArgs s_law) (defBody s_law) (defScope s_law) .none kV31 dc31 pm31 an31 cd31 ct31), sl31⟩) (c31 : PySem.W.codeIn K cd31 "law" = true) (k31 : PySem.W.keepIn K (.ref f31) = true)
    {C0 FI0 NS0 : Addr} {q0 : Str} {bs0 sub0 : List Value} {sn0 : List Str} {ab0 : Bool} {col0 : Option Bool} {dd0 : Option Addr} {ka0 kb0 kc0 kd0 ke0 : Option Value} {iod0 ian0 : Option Addr} {isl0 : Array (Option Value)} {ikV0 idc0 ipm0 icd0 ict0 : Value}
    (xa0 : PySem.W.nsIn K mainGlobals "BadRow" = some (some (.ref C0))) (xb0 : K.lookup C0 = some (excClassObj "BadRow" q0 C0 NS0 bs0 [.type "ValueError", .type "Exception", .type "BaseException", .type "object"] true sn0 sub0 ab0 col0 dd0 ka0 kb0 kc0 kd0 ke0 "ValueError.__new__")) (xc0 : PySem.W.findIn K (.ref C0) "__setattr__" = some (some (.builtin "object.__setattr__"))) (xd0 : PySem.W.keepIn K (.ref C0) = true)
    (xe0 : PySem.W.findIn K (.ref C0) "__init__" = some (some (.ref FI0))) (xf0 : K.lookup FI0 = some ⟨.type "function", iod0, .func (PySem.W.fnOf "__init__" "BadRow.__init__" (defArgs sI_BadRow) (defBody sI_BadRow) (defScope sI_BadRow) .none ikV0 idc0 ipm0 ian0 icd0 ict0), isl0⟩) (xg0 : PySem.W.codeIn K icd0 "BadRow.__init__" = true) (xh0 : PySem.W.keepIn K (.ref FI0) = true)
    (xi0 : PySem.W.findIn K (.ref C0) "what" = some none) (xj0 : PySem.W.findIn K (.ref C0) "__getattribute__" = some (some (.builtin "BaseException.__getattribute__"))) (xk0 : PySem.W.findIn K (.ref C0) "__getattr__" = some none) (xl0 : PySem.W.findIn K (.ref C0) "__class__" = some (some (.builtin "object.__class__")))
    (xm : PySem.W.specialIn K (.builtin "object.__class__") "__get__" = some (some (.builtin "getset_descriptor.__get__"))) (xn : PySem.W.takesIn K (.builtin "object.__class__") = some true)
    (z0 : PySem.W.nsIn K mainGlobals "ValueError" = some none)
    (z1 : PySem.W.nsIn K mainGlobals "abs" = some none)
    (z2 : PySem.W.nsIn K mainGlobals "all" = some none)
    (z3 : PySem.W.nsIn K mainGlobals "bool" = some none)
    (z4 : PySem.W.nsIn K mainGlobals "dict" = some none)
    (z5 : PySem.W.nsIn K mainGlobals "divmod" = some none)
    (z6 : PySem.W.nsIn K mainGlobals "enumerate" = some none)
    (z7 : PySem.W.nsIn K mainGlobals "int" = some none)
    (z8 : PySem.W.nsIn K mainGlobals "isinstance" = some none)
    (z9 : PySem.W.nsIn K mainGlobals "len" = some none)
    (z10 : PySem.W.nsIn K mainGlobals "list" = some none)
    (z11 : PySem.W.nsIn K mainGlobals "max" = some none)
    (z12 : PySem.W.nsIn K mainGlobals "min" = some none)
    (z13 : PySem.W.nsIn K mainGlobals "range" = some none)
    (z14 : PySem.W.nsIn K mainGlobals "set" = some none)
    (z15 : PySem.W.nsIn K mainGlobals "sorted" = some none)
    (z16 : PySem.W.nsIn K mainGlobals "str" = some none)
    (z17 : PySem.W.nsIn K mainGlobals "tuple" = some none)
    (z18 : PySem.W.nsIn K mainGlobals "zip" = some none)
    {tk0 : Tok} (y0 : PySem.W.nsIn K mainGlobals "LETTERS" = some (some (.str "abcdefghijklmnopqrstuvwxyz" tk0)))
    {tk1 : Tok} (y1 : PySem.W.nsIn K mainGlobals "FIGURES" = some (some (.str "0123456789" tk1)))
    {tk2 : Tok} (y2 : PySem.W.nsIn K mainGlobals "BARE" = some (some (.str "-" tk2)))
    {tk3 : Tok} (y3 : PySem.W.nsIn K mainGlobals "GROUP" = some (some (.int 18 tk3)))
    {tk4 : Tok} (y4 : PySem.W.nsIn K mainGlobals "GROUP_END" = some (some (.int 1000000000000000000 tk4)))
    : ∃ fd : FuncData, (∀ (s : Shared) (v : Value), BindsTo s fd ⟨[v], []⟩ [("_law_script", v)]) ∧ ∀ base : Heap, K.In base → base.Ns mainGlobals mg → FnOk l.prog w K mg base CX0 11 fa fd ["_law_script"] (spLaw K) := by
  have e := hfa.symm.trans (PySem.W.mg_of X G a31)
  cases e
  have Z : Bl mg := ⟨PySem.W.mg_none_of X G z0, PySem.W.mg_none_of X G z1, PySem.W.mg_none_of X G z2, PySem.W.mg_none_of X G z3, PySem.W.mg_none_of X G z4, PySem.W.mg_none_of X G z5, PySem.W.mg_none_of X G z6, PySem.W.mg_none_of X G z7, PySem.W.mg_none_of X G z8, PySem.W.mg_none_of X G z9, PySem.W.mg_none_of X G z10, PySem.W.mg_none_of X G z11, PySem.W.mg_none_of X G z12, PySem.W.mg_none_of X G z13, PySem.W.mg_none_of X G z14, PySem.W.mg_none_of X G z15, PySem.W.mg_none_of X G z16, PySem.W.mg_none_of X G z17, PySem.W.mg_none_of X G z18, ⟨_, PySem.W.mg_of X G y0⟩, ⟨_, PySem.W.mg_of X G y1⟩, ⟨_, PySem.W.mg_of X G y2⟩, ⟨_, PySem.W.mg_of X G y3⟩, ⟨_, PySem.W.mg_of X G y4⟩⟩
  have F0 := fun_mk (st := s_is_number) l0 c0 k0
  have b0 := F0.binds (ps := P_is_number) fun _ _ _ _ _ _ us hl => len_1 (fun _ => rfl) us hl
  have F1 := fun_mk (st := s_is_name) l1 c1 k1
  have b1 := F1.binds (ps := P_is_name) fun _ _ _ _ _ _ us hl => len_1 (fun _ => rfl) us hl
  have F2 := fun_mk (st := s_balances_led_to) l2 c2 k2
  have b2 := F2.binds (ps := P_balances_led_to) fun _ _ _ _ _ _ us hl => len_1 (fun _ => rfl) us hl
  have F3 := fun_mk (st := s_figures_of) l3 c3 k3
  have b3 := F3.binds (ps := P_figures_of) fun _ _ _ _ _ _ us hl => len_1 (fun _ => rfl) us hl
  have F4 := fun_mk (st := s_is_plain) l4 c4 k4
  have b4 := F4.binds (ps := P_is_plain) fun _ _ _ _ _ _ us hl => len_1 (fun _ => rfl) us hl
  have F5 := fun_mk (st := s_number_in) l5 c5 k5
  have b5 := F5.binds (ps := P_number_in) fun _ _ _ _ _ _ us hl => len_1 (fun _ => rfl) us hl
  have F6 := fun_mk (st := s_word_text) l6 c6 k6
  have b6 := F6.binds (ps := P_word_text) fun _ _ _ _ _ _ us hl => len_1 (fun _ => rfl) us hl
  have F7 := fun_mk (st := s_net_text) l7 c7 k7
  have b7 := F7.binds (ps := P_net_text) fun _ _ _ _ _ _ us hl => len_1 (fun _ => rfl) us hl
  have F8 := fun_mk (st := s_word_in) l8 c8 k8
  have b8 := F8.binds (ps := P_word_in) fun _ _ _ _ _ _ us hl => len_1 (fun _ => rfl) us hl
  have F9 := fun_mk (st := s_lead_in) l9 c9 k9
  have b9 := F9.binds (ps := P_lead_in) fun _ _ _ _ _ _ us hl => len_1 (fun _ => rfl) us hl
  have F10 := fun_mk (st := s_is_lead_among) l10 c10 k10
  have b10 := F10.binds (ps := P_is_lead_among) fun _ _ _ _ _ _ us hl => len_3 (fun _ _ _ => rfl) us hl
  have F11 := fun_mk (st := s_net_in) l11 c11 k11
  have b11 := F11.binds (ps := P_net_in) fun _ _ _ _ _ _ us hl => len_1 (fun _ => rfl) us hl
  have F12 := fun_mk (st := s_greatest_bottom) l12 c12 k12
  have b12 := F12.binds (ps := P_greatest_bottom) fun _ _ _ _ _ _ us hl => len_1 (fun _ => rfl) us hl
  have F13 := fun_mk (st := s_parts_of) l13 c13 k13
  have b13 := F13.binds (ps := P_parts_of) fun _ _ _ _ _ _ us hl => len_2 (fun _ _ => rfl) us hl
  have F14 := fun_mk (st := s_tree_of) l14 c14 k14
  have b14 := F14.binds (ps := P_tree_of) fun _ _ _ _ _ _ us hl => len_1 (fun _ => rfl) us hl
  have F15 := fun_mk (st := s_l_tape) l15 c15 k15
  have b15 := F15.binds (ps := P_l_tape) fun _ _ _ _ _ _ us hl => len_2 (fun _ _ => rfl) us hl
  have F16 := fun_mk (st := s_l_draw) l16 c16 k16
  have b16 := F16.binds (ps := P_l_draw) fun _ _ _ _ _ _ us hl => len_2 (fun _ _ => rfl) us hl
  have F17 := fun_mk (st := s_l_folded) l17 c17 k17
  have b17 := F17.binds (ps := P_l_folded) fun _ _ _ _ _ _ us hl => len_2 (fun _ _ => rfl) us hl
  have F18 := fun_mk (st := s_l_same) l18 c18 k18
  have b18 := F18.binds (ps := P_l_same) fun _ _ _ _ _ _ us hl => len_2 (fun _ _ => rfl) us hl
  have F19 := fun_mk (st := s_l_names) l19 c19 k19
  have b19 := F19.binds (ps := P_l_names) fun _ _ _ _ _ _ us hl => len_2 (fun _ _ => rfl) us hl
  have F20 := fun_mk (st := s_l_weight) l20 c20 k20
  have b20 := F20.binds (ps := P_l_weight) fun _ _ _ _ _ _ us hl => len_2 (fun _ _ => rfl) us hl
  have F21 := fun_mk (st := s_l_word) l21 c21 k21
  have b21 := F21.binds (ps := P_l_word) fun _ _ _ _ _ _ us hl => len_3 (fun _ _ _ => rfl) us hl
  have F22 := fun_mk (st := s_l_net) l22 c22 k22
  have b22 := F22.binds (ps := P_l_net) fun _ _ _ _ _ _ us hl => len_5 (fun _ _ _ _ _ => rfl) us hl
  have F23 := fun_mk (st := s_l_text) l23 c23 k23
  have b23 := F23.binds (ps := P_l_text) fun _ _ _ _ _ _ us hl => len_1 (fun _ => rfl) us hl
  have F24 := fun_mk (st := s_l_number) l24 c24 k24
  have b24 := F24.binds (ps := P_l_number) fun _ _ _ _ _ _ us hl => len_1 (fun _ => rfl) us hl
  have F25 := fun_mk (st := s_l_word_due) l25 c25 k25
  have b25 := F25.binds (ps := P_l_word_due) fun _ _ _ _ _ _ us hl => len_1 (fun _ => rfl) us hl
  have F26 := fun_mk (st := s_l_net_due) l26 c26 k26
  have b26 := F26.binds (ps := P_l_net_due) fun _ _ _ _ _ _ us hl => len_1 (fun _ => rfl) us hl
  have F27 := fun_mk (st := s_l_read) l27 c27 k27
  have b27 := F27.binds (ps := P_l_read) fun _ _ _ _ _ _ us hl => len_2 (fun _ _ => rfl) us hl
  have F28 := fun_mk (st := s_l_spoilt) l28 c28 k28
  have b28 := F28.binds (ps := P_l_spoilt) fun _ _ _ _ _ _ us hl => len_2 (fun _ _ => rfl) us hl
  have F29 := fun_mk (st := s_l_right) l29 c29 k29
  have b29 := F29.binds (ps := P_l_right) fun _ _ _ _ _ _ us hl => len_1 (fun _ => rfl) us hl
  have F30 := fun_mk (st := s_l_far_right) l30 c30 k30
  have b30 := F30.binds (ps := P_l_far_right) fun _ _ _ _ _ _ us hl => len_1 (fun _ => rfl) us hl
  have F31 := fun_mk (st := s_law) l31 c31 k31
  refine ⟨PySem.W.fnOf "law" "law" (defArgs s_law) (defBody s_law) (defScope s_law) .none kV31 dc31 pm31 an31 cd31 ct31, fun s v => .of_eq rfl, fun base _ _ => ?_⟩
  have I_BadRow := fun_mk (st := sI_BadRow) xf0 xg0 xh0
  have X_BadRow : ExK l.prog w K mg base "BadRow" "ValueError" := ⟨C0, FI0, _, _, _, _, exF_mk F.excBase_ValueError F.store_ValueError rfl (by decide) rfl xa0 xb0 xc0 xd0 xe0 xf0 xi0 xj0 xk0 xl0 xm xn, PySem.W.mg_of X G xa0, ok_exInit I_BadRow scI_BadRow rfl, I_BadRow.binds (ps := ["self", "what"]) fun _ _ _ _ _ _ us hl => len_2 (fun _ _ => rfl) us hl⟩
  have G_is_number := Kn.mk F0 (PySem.W.mg_of X G a0) b0 (ok_is_number (P := l.prog) (w := w) (base := base) F0 Z)
  have G_is_name := Kn.mk F1 (PySem.W.mg_of X G a1) b1 (ok_is_name (P := l.prog) (w := w) (base := base) F1 Z)
  have G_balances_led_to := Kn.mk F2 (PySem.W.mg_of X G a2) b2 (ok_balances_led_to (P := l.prog) (w := w) (base := base) F2 Z G_is_number)
  have G_figures_of := Kn.mk F3 (PySem.W.mg_of X G a3) b3 (ok_figures_of (P := l.prog) (w := w) (base := base) F3 Z)
  have G_is_plain := Kn.mk F4 (PySem.W.mg_of X G a4) b4 (ok_is_plain (P := l.prog) (w := w) (base := base) F4 Z)
  have G_number_in := Kn.mk F5 (PySem.W.mg_of X G a5) b5 (ok_number_in (P := l.prog) (w := w) (base := base) F5 Z G_is_plain)
  have G_word_text := Kn.mk F6 (PySem.W.mg_of X G a6) b6 (ok_word_text (P := l.prog) (w := w) (base := base) F6 Z G_figures_of)
  have GK_word_text_0_word := KnK.mk (ks := ["word"]) (n := 0) (perm := [0]) (ps := P_word_text) F6 (PySem.W.mg_of X G a6) (fun _ _ _ _ _ _ us ws h1 h2 => match us, ws, h1, h2 with | [], [_], _, _ => rfl) (ok_word_text (P := l.prog) (w := w) (base := base) F6 Z G_figures_of)
  have G_net_text := Kn.mk F7 (PySem.W.mg_of X G a7) b7 (ok_net_text (P := l.prog) (w := w) (base := base) F7 Z)
  have GK_net_text_0_net := KnK.mk (ks := ["net"]) (n := 0) (perm := [0]) (ps := P_net_text) F7 (PySem.W.mg_of X G a7) (fun _ _ _ _ _ _ us ws h1 h2 => match us, ws, h1, h2 with | [], [_], _, _ => rfl) (ok_net_text (P := l.prog) (w := w) (base := base) F7 Z)
  have G_word_in := KnX.mk F8 (PySem.W.mg_of X G a8) b8 (ok_word_in (P := l.prog) (w := w) (base := base) F8 Z X_BadRow G_is_number G_number_in)
  have GK_word_in_0_text := KnKX.mk (ks := ["text"]) (n := 0) (perm := [0]) (ps := P_word_in) F8 (PySem.W.mg_of X G a8) (fun _ _ _ _ _ _ us ws h1 h2 => match us, ws, h1, h2 with | [], [_], _, _ => rfl) (ok_word_in (P := l.prog) (w := w) (base := base) F8 Z X_BadRow G_is_number G_number_in)
  have G_lead_in := Kn.mk F9 (PySem.W.mg_of X G a9) b9 (ok_lead_in (P := l.prog) (w := w) (base := base) F9 Z G_is_name G_number_in)
  have G_is_lead_among := Kn.mk F10 (PySem.W.mg_of X G a10) b10 (ok_is_lead_among (P := l.prog) (w := w) (base := base) F10 Z G_is_number G_is_name)
  have G_net_in := KnX.mk F11 (PySem.W.mg_of X G a11) b11 (ok_net_in (P := l.prog) (w := w) (base := base) F11 Z X_BadRow G_balances_led_to G_lead_in G_is_lead_among)
  have GK_net_in_0_text := KnKX.mk (ks := ["text"]) (n := 0) (perm := [0]) (ps := P_net_in) F11 (PySem.W.mg_of X G a11) (fun _ _ _ _ _ _ us ws h1 h2 => match us, ws, h1, h2 with | [], [_], _, _ => rfl) (ok_net_in (P := l.prog) (w := w) (base := base) F11 Z X_BadRow G_balances_led_to G_lead_in G_is_lead_among)
  have G_greatest_bottom := Kn.mk F12 (PySem.W.mg_of X G a12) b12 (ok_greatest_bottom (P := l.prog) (w := w) (base := base) F12 Z)
  have G_parts_of := Kn.mk F13 (PySem.W.mg_of X G a13) b13 (ok_parts_of (P := l.prog) (w := w) (base := base) F13 Z)
  have G_tree_of := Kn.mk F14 (PySem.W.mg_of X G a14) b14 (ok_tree_of (P := l.prog) (w := w) (base := base) F14 Z G_greatest_bottom G_parts_of)
  have G_l_tape := Kn.mk F15 (PySem.W.mg_of X G a15) b15 (ok_l_tape (P := l.prog) (w := w) (base := base) F15 Z)
  have G_l_draw := Kn.mk F16 (PySem.W.mg_of X G a16) b16 (ok_l_draw (P := l.prog) (w := w) (base := base) F16 Z)
  have G_l_folded := Kn.mk F17 (PySem.W.mg_of X G a17) b17 (ok_l_folded (P := l.prog) (w := w) (base := base) F17 Z)
  have G_l_same := Kn.mk F18 (PySem.W.mg_of X G a18) b18 (ok_l_same (P := l.prog) (w := w) (base := base) F18 Z (PySem.W.mg_of X G a18) b18)
  have G_l_names := Kn.mk F19 (PySem.W.mg_of X G a19) b19 (ok_l_names (P := l.prog) (w := w) (base := base) F19 Z G_l_draw)
  have G_l_weight := Kn.mk F20 (PySem.W.mg_of X G a20) b20 (ok_l_weight (P := l.prog) (w := w) (base := base) F20 Z G_l_draw)
  have G_l_word := Kn.mk F21 (PySem.W.mg_of X G a21) b21 (ok_l_word (P := l.prog) (w := w) (base := base) F21 Z G_l_draw G_l_weight)
  have G_l_net := Kn.mk F22 (PySem.W.mg_of X G a22) b22 (ok_l_net (P := l.prog) (w := w) (base := base) F22 Z G_l_draw)
  have G_l_text := Kn.mk F23 (PySem.W.mg_of X G a23) b23 (ok_l_text (P := l.prog) (w := w) (base := base) F23 Z)
  have G_l_number := Kn.mk F24 (PySem.W.mg_of X G a24) b24 (ok_l_number (P := l.prog) (w := w) (base := base) F24 Z)
  have G_l_word_due := Kn.mk F25 (PySem.W.mg_of X G a25) b25 (ok_l_word_due (P := l.prog) (w := w) (base := base) F25 Z G_l_number)
  have G_l_net_due := Kn.mk F26 (PySem.W.mg_of X G a26) b26 (ok_l_net_due (P := l.prog) (w := w) (base := base) F26 Z G_l_number)
  have G_l_read := Kn.mk F27 (PySem.W.mg_of X G a27) b27 (ok_l_read (P := l.prog) (w := w) (base := base) F27 Z X_BadRow G_word_in G_net_in GK_net_in_0_text GK_word_in_0_text)
  have G_l_spoilt := Kn.mk F28 (PySem.W.mg_of X G a28) b28 (ok_l_spoilt (P := l.prog) (w := w) (base := base) F28 Z G_l_draw)
  have G_l_far_right := Kn.mk F30 (PySem.W.mg_of X G a30) b30 (ok_l_far_right (P := l.prog) (w := w) (base := base) F30 Z G_net_text G_word_in G_net_in G_tree_of G_l_draw G_l_same G_l_text)
  have G_l_right := Kn.mk F29 (PySem.W.mg_of X G a29) b29 (ok_l_right (P := l.prog) (w := w) (base := base) F29 Z G_word_text G_net_text G_l_draw G_l_same G_l_names G_l_word G_l_net G_l_text G_l_word_due G_l_net_due G_l_read G_l_spoilt G_l_far_right GK_net_text_0_net GK_word_text_0_word)
  exact ok_law F31 Z G_l_tape G_l_folded G_l_right
end Pan
open PySem PySem.W PyProof.Rows
set_option maxRecDepth 100000 in
set_option maxHeartbeats 0 in
theorem PySem.Challenge.cw_panfalls_k77_words_and_nets_as_texts_holds : PySem.Challenge.rw_panfalls_k77_words_and_nets_as_texts.Holds := by
  w_on; o_law; k_head; (case hw => w_witness2)
  k_fill
  refine L2.walk_of (l := PySem.Challenge.rw_panfalls_k77_words_and_nets_as_texts) (n := 63) (k := 11) (x := "_law_script") (CX := fun _ => L2.CX0) (sp := fun w => Pan.spLaw _) rfl (by decide) rfl ⟨rfl, by decide, by decide⟩ (fun w h Y => PySem.W.kIn_of Y) ?F (fun _ _ a ns hl _ hS => ⟨a, ns, rfl, hS, hl, fun _ => rfl⟩) (fun _ _ _ _ _ h => h)
  case F =>
    intro w mg fa h KX G hmg
    refine' Pan.all_mk KX G hmg ?a0 ?l0 ?c0 ?k0 ?a1 ?l1 ?c1 ?k1 ?a2 ?l2 ?c2 ?k2 ?a3 ?l3 ?c3 ?k3 ?a4 ?l4 ?c4 ?k4 ?a5 ?l5 ?c5 ?k5 ?a6 ?l6 ?c6 ?k6 ?a7 ?l7 ?c7 ?k7 ?a8 ?l8 ?c8 ?k8 ?a9 ?l9 ?c9 ?k9 ?a10 ?l10 ?c10 ?k10 ?a11 ?l11 ?c11 ?k11 ?a12 ?l12 ?c12 ?k12 ?a13 ?l13 ?c13 ?k13 ?a14 ?l14 ?c14 ?k14 ?a15 ?l15 ?c15 ?k15 ?a16 ?l16 ?c16 ?k16 ?a17 ?l17 ?c17 ?k17 ?a18 ?l18 ?c18 ?k18 ?a19 ?l19 ?c19 ?k19 ?a20 ?l20 ?c20 ?k20 ?a21 ?l21 ?c21 ?k21 ?a22 ?l22 ?c22 ?k22 ?a23 ?l23 ?c23 ?k23 ?a24 ?l24 ?c24 ?k24 ?a25 ?l25 ?c25 ?k25 ?a26 ?l26 ?c26 ?k26 ?a27 ?l27 ?c27 ?k27 ?a28 ?l28 ?c28 ?k28 ?a29 ?l29 ?c29 ?k29 ?a30 ?l30 ?c30 ?k30 ?a31 ?l31 ?c31 ?k31 ?xa0 ?xb0 ?xc0 ?xd0 ?xe0 ?xf0 ?xg0 ?xh0 ?xi0 ?xj0 ?xk0 ?xl0 ?xm ?xn ?z0 ?z1 ?z2 ?z3 ?z4 ?z5 ?z6 ?z7 ?z8 ?z9 ?z10 ?z11 ?z12 ?z13 ?z14 ?z15 ?z16 ?z17 ?z18 ?y0 ?y1 ?y2 ?y3 ?y4
    (case a0 => k_is)
    (case l0 => k_is)
    (case c0 => k_is)
    (case k0 => k_is)
    (case a1 => k_is)
    (case l1 => k_is)
    (case c1 => k_is)
    (case k1 => k_is)
    (case a2 => k_is)
    (case l2 => k_is)
    (case c2 => k_is)
    (case k2 => k_is)
    (case a3 => k_is)
    (case l3 => k_is)
    (case c3 => k_is)
    (case k3 => k_is)
    (case a4 => k_is)
    (case l4 => k_is)
    (case c4 => k_is)
    (case k4 => k_is)
    (case a5 => k_is)
    (case l5 => k_is)
    (case c5 => k_is)
    (case k5 => k_is)
    (case a6 => k_is)
    (case l6 => k_is)
    (case c6 => k_is)
    (case k6 => k_is)
    (case a7 => k_is)
    (case l7 => k_is)
    (case c7 => k_is)
    (case k7 => k_is)
    (case a8 => k_is)
    (case l8 => k_is)
    (case c8 => k_is)
    (case k8 => k_is)
    (case a9 => k_is)
    (case l9 => k_is)
    (case c9 => k_is)
    (case k9 => k_is)
    (case a10 => k_is)
    (case l10 => k_is)
    (case c10 => k_is)
    (case k10 => k_is)
    (case a11 => k_is)
    (case l11 => k_is)
    (case c11 => k_is)
    (case k11 => k_is)
    (case a12 => k_is)
    (case l12 => k_is)
    (case c12 => k_is)
    (case k12 => k_is)
    (case a13 => k_is)
    (case l13 => k_is)
    (case c13 => k_is)
    (case k13 => k_is)
    (case a14 => k_is)
    (case l14 => k_is)
    (case c14 => k_is)
    (case k14 => k_is)
    (case a15 => k_is)
    (case l15 => k_is)
    (case c15 => k_is)
    (case k15 => k_is)
    (case a16 => k_is)
    (case l16 => k_is)
    (case c16 => k_is)
    (case k16 => k_is)
    (case a17 => k_is)
    (case l17 => k_is)
    (case c17 => k_is)
    (case k17 => k_is)
    (case a18 => k_is)
    (case l18 => k_is)
    (case c18 => k_is)
    (case k18 => k_is)
    (case a19 => k_is)
    (case l19 => k_is)
    (case c19 => k_is)
    (case k19 => k_is)
    (case a20 => k_is)
    (case l20 => k_is)
    (case c20 => k_is)
    (case k20 => k_is)
    (case a21 => k_is)
    (case l21 => k_is)
    (case c21 => k_is)
    (case k21 => k_is)
    (case a22 => k_is)
    (case l22 => k_is)
    (case c22 => k_is)
    (case k22 => k_is)
    (case a23 => k_is)
    (case l23 => k_is)
    (case c23 => k_is)
    (case k23 => k_is)
    (case a24 => k_is)
    (case l24 => k_is)
    (case c24 => k_is)
    (case k24 => k_is)
    (case a25 => k_is)
    (case l25 => k_is)
    (case c25 => k_is)
    (case k25 => k_is)
    (case a26 => k_is)
    (case l26 => k_is)
    (case c26 => k_is)
    (case k26 => k_is)
    (case a27 => k_is)
    (case l27 => k_is)
    (case c27 => k_is)
    (case k27 => k_is)
    (case a28 => k_is)
    (case l28 => k_is)
    (case c28 => k_is)
    (case k28 => k_is)
    (case a29 => k_is)
    (case l29 => k_is)
    (case c29 => k_is)
    (case k29 => k_is)
    (case a30 => k_is)
    (case l30 => k_is)
    (case c30 => k_is)
    (case k30 => k_is)
    (case a31 => k_is)
    (case l31 => k_is)
    (case c31 => k_is)
    (case k31 => k_is)
    (case xa0 => k_is)
    (case xb0 => k_is)
    (case xc0 => k_is)
    (case xd0 => k_is)
    (case xe0 => k_is)
    (case xf0 => k_is)
    (case xg0 => k_is)
    (case xh0 => k_is)
    (case xi0 => k_is)
    (case xj0 => k_is)
    (case xk0 => k_is)
    (case xl0 => k_is)
    (case xm => k_is)
    (case xn => k_is)
    (case z0 => k_is)
    (case z1 => k_is)
    (case z2 => k_is)
    (case z3 => k_is)
    (case z4 => k_is)
    (case z5 => k_is)
    (case z6 => k_is)
    (case z7 => k_is)
    (case z8 => k_is)
    (case z9 => k_is)
    (case z10 => k_is)
    (case z11 => k_is)
    (case z12 => k_is)
    (case z13 => k_is)
    (case z14 => k_is)
    (case z15 => k_is)
    (case z16 => k_is)
    (case z17 => k_is)
    (case z18 => k_is)
    (case y0 => k_is)
    (case y1 => k_is)
    (case y2 => k_is)
    (case y3 => k_is)
    (case y4 => k_is)
