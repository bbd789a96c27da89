import PyProof.Rows.All
import Wide.All
import OpenK.AllK
import Wide.FinOn
import HandS.ForMost
import HandS.Wide
import HandS.Walk
import HandS.Evl
import PySem.Challenge.RW_panfalls_k06_whole_a_fold_leaves_half_at
set_option Elab.async false
set_option linter.all false
set_option maxRecDepth 100000
set_option maxHeartbeats 4000000
namespace Pan
open PySem PySem.Spec PyProof.Rows L2
/-! ### calls of own defs -/
def Kn (P : Program) (w : World) (K : PySem.W.Frag) (mg : Str → Option Value) (base : Heap) (x : Str) (ps : List Str) (k : Nat) (sp : Sp) : Prop :=
  ∃ (f : Addr) (fd : FuncData), FnOk P w K mg base CX0 k f fd ps sp ∧ mg x = some (.ref f) ∧ PySem.W.keepIn K (.ref f) = true ∧ Binds K fd ps []
theorem pe_own {X : Cx} {x : Str} {ps : List Str} {k : Nat} {sp : Sp} {e : Expr} {es : List Expr} {t : TA} {p pos : Pos} (h : Kn X.prog X.w X.K X.mg X.base x ps k sp) (hr : Room k X.A) (hg : Gl X x) (ha : PA X (e :: es) t)
    (hdb : (x == ("__debug__" : Str)) = false := by decide) (he : starEach (e :: es) X.env = (false, eval e X.env) :: starEach es X.env := by rfl) (hpl : (backTo pos (starEach es X.env)).any (·.1) = false := by rfl) :
    PE X (.Call (.Name x p) (e :: es) [] pos) (tCall sp [] E0 t) := by
  obtain ⟨f, fd, F, m, kp, b⟩ := h
  exact pe_call F hr hg m kp b .nil pass0 ha hdb he hpl
theorem Kn.mk {P : Program} {w : World} {K : PySem.W.Frag} {mg : Str → Option Value} {base : Heap} {x : Str} {st : Stmt} {ps : List Str} {k : Nat} {sp : Sp} {f : Addr} {fd : FuncData} (F : Fun K x x st f fd) (m : mg x = some (.ref f)) (b : Binds K fd ps [])
    (ok : FnOk P w K mg base CX0 k f fd ps sp) : Kn P w K mg base x ps k sp := ⟨f, fd, ok, m, F.kp, b⟩
/-! ### heaps -/
theorem same_upd {H : Hp} {p : Addr} {o : HO} (h : H p = none) : Same H (upd H p o) := fun b x e => by
  rw [upd_ne (ne_of_none e h)]
  exact e
/-- a new object, the heap behind it a letter -/
theorem nw {H : Hp} {o : HO} {Q : V → Hp → Prop} (h : ∀ p H', H p = none → Same H H' → H' p = some o → Q (.ref p) H') : ∀ p, H p = none → Q (.ref p) (upd H p o) := fun p np => h p _ np (same_upd np) upd_same
def Un (t : Addr) (H H' : Hp) : Prop := ∀ a o, a ≠ t → H a = some o → H' a = some o
theorem Un.refl (t : Addr) (H : Hp) : Un t H H := fun _ _ _ e => e
theorem Un.trans {t : Addr} {H H1 H2 : Hp} (a : Un t H H1) (b : Un t H1 H2) : Un t H H2 := fun c o n e => b c o n (a c o n e)
theorem Un.same {t : Addr} {H H' : Hp} (s : Same H H') : Un t H H' := fun c o _ e => s c o e
theorem Un.upd {t : Addr} {H : Hp} {o : HO} : Un t H (upd H t o) := fun c u n e => by rw [upd_ne n]; exact e
/-! ### a tape: so many draws are left to it -/
def Tp (b : Nat) (H : Hp) (t : Addr) : Prop := ∃ x y z : Int, H t = some (.lst [.int x, .int y, .int z]) ∧ 0 ≤ x ∧ 0 ≤ y ∧ y < 4611686018427387904 ∧ 0 ≤ z ∧ z + b < 1099511627776
theorem Tp.same {b : Nat} {H H' : Hp} {t : Addr} (s : Same H H') (h : Tp b H t) : Tp b H' t := by
  obtain ⟨x, y, z, e, r⟩ := h
  exact ⟨x, y, z, s _ _ e, r⟩
theorem Tp.le {b c : Nat} {H : Hp} {t : Addr} (h : Tp b H t) (l : c ≤ b) : Tp c H t := by
  obtain ⟨x, y, z, e, h1, h2, h3, h4, h5⟩ := h
  exact ⟨x, y, z, e, h1, h2, h3, h4, by omega⟩
theorem Tp.ne {b : Nat} {H : Hp} {t p : Addr} (h : Tp b H t) {xs : List V} (e : H p = some (.tup xs)) : p ≠ t := by
  obtain ⟨x, y, z, e', _⟩ := h
  exact ne_of e e' (fun q => nomatch q)
theorem Tp.nn {b : Nat} {H : Hp} {t p : Addr} (h : Tp b H t) (e : H p = none) : p ≠ t := by
  obtain ⟨x, y, z, e', _⟩ := h
  exact (ne_of_none e' e).symm
theorem Un.fresh {t : Addr} {H H1 H2 : Hp} (U : Un t H1 H2) (S : Same H H1) (h : H t = none) : Same H H2 := fun a o e => U a o (ne_of_none e h) (S a o e)
theorem Same.of_upd {H H1 : Hp} {p : Addr} {o : HO} (S : Same H H1) (h : H p = none) : Same H (upd H1 p o) := fun a u e => by
  rw [upd_ne (ne_of_none e h)]
  exact S a u e
/-! ### tests that are known -/
theorem iteD {c A B : Prop} [Decidable c] (hc : c) (h : A) : if decide c = true then A else B := by
  rw [if_pos (decide_eq_true hc)]
  exact h
theorem iteDN {c A B : Prop} [Decidable c] (hc : ¬ c) (h : B) : if decide c = true then A else B := by
  rw [if_neg (by simpa using hc)]
  exact h
theorem iteN {c A B : Prop} [Decidable c] (hc : ¬ c) (h : A) : if (!decide c) = true then A else B := by
  rw [decide_eq_false hc]
  exact iteT h
/-! ### items of written lists -/
theorem pick {xs : List Int} {i : Int} (h0 : 0 ≤ i) (h1 : i < xs.length) : ∃ v, v ∈ xs ∧ atI (xs.map V.int) i = some (.int v) := by
  obtain ⟨j, rfl⟩ : ∃ j : Nat, i = (j : Int) := ⟨i.toNat, by omega⟩
  have hj : j < xs.length := by omega
  exact ⟨xs[j], List.getElem_mem hj, atI_nat (by rw [List.getElem?_map, List.getElem?_eq_getElem hj]; rfl)⟩
theorem item_int {xs : List Int} {i : Nat} {x : V} (h : (xs.map V.int)[i]? = some x) : ∃ v, v ∈ xs ∧ x = .int v ∧ xs[i]? = some v := by
  rw [List.getElem?_map] at h
  cases e : xs[i]? with
  | none => rw [e] at h; cases h
  | some v =>
    rw [e] at h
    exact ⟨v, List.mem_of_getElem? e, (Option.some.inj h).symm, rfl⟩
def cutI (xs : List Int) (a b : Nat) : List Int := (xs.drop a).take (b - a)
theorem cut_map (ns : List Int) (lo hi : Option Int) : cutV (ns.map V.int) lo hi = (cutI ns (HT.sIx ns.length 0 lo) (HT.sIx ns.length ns.length hi)).map V.int := by
  unfold cutV cutI
  rw [List.length_map, List.map_take, List.map_drop]
theorem sz {n : Nat} (h : n ≤ 100000) : n ≤ sizeLine := Nat.le_trans h (by decide)
theorem szl {n : Nat} (h : n < 100000) : n < sizeLine := Nat.lt_of_lt_of_le h (by decide)
/-- a list of so many weights, drawn one by one -/
def Drawn (t D : Addr) (H1 : Hp) (m : Int) (c : Nat) (i : Nat) (H' : Hp) : Prop :=
  ∃ ws : List Int, ws.length = i ∧ (∀ w ∈ ws, 1 ≤ w ∧ w ≤ m) ∧ H' D = some (.lst (ws.map V.int)) ∧ Un t H1 H' ∧ Tp c H' t
/-! ### new objects with the heap behind them a letter -/
def NewAt (H : Hp) (o : HO) (Q : VK) : Prop := ∀ p H', H p = none → Same H H' → H' p = some o → Q (.ref p) H'
theorem NewAt.upd {H : Hp} {o : HO} {Q : VK} (h : NewAt H o Q) {p : Addr} (np : H p = none) : Q (.ref p) (L2.upd H p o) := h p _ np (same_upd np) upd_same
def clA (t : TA) : TA := fun σ H Q => ∃ R : List V → Hp → Prop, t σ H R ∧ ∀ vs H', R vs H' → Q vs H'
def clE (t : TE) : TE := fun σ H Q => ∃ R : VK, t σ H R ∧ ∀ v H', R v H' → Q v H'
theorem paCl {X : Cx} {es : List Expr} {t : TA} (h : PA X es t) : PA X es (clA t) :=
  ⟨fun pos pins s σ H Q I ⟨R, hR, k⟩ => thn (h.run pos pins s σ H R I hR) fun us s' ⟨vs, H', I', r, q⟩ => ⟨vs, H', I', r, k vs H' q⟩⟩
theorem pe_cut {X : Cx} {e : Expr} {t : TE} (h : PE X e t) : PE X e (clE t) :=
  ⟨fun pins s σ H Q I ⟨R, hR, k⟩ => thn (h.run pins s σ H R I hR) fun us s' ⟨v, H', I', r, q⟩ => ⟨v, H', I', r, k v H' q⟩⟩
def tTupN (t : TA) : TE := fun σ H Q => t σ H fun xs H1 => xs.length ≤ sizeLine ∧ NewAt H1 (.tup xs) Q
def tLstN (t : TA) : TE := fun σ H Q => t σ H fun xs H1 => xs.length ≤ sizeLine ∧ NewAt H1 (.lst xs) Q
theorem pe_tupN {X : Cx} {es : List Expr} {t : TA} {x1 pos} (h : PA X es t) : PE X (.Tuple es x1 pos) (tTupN t) :=
  ⟨fun pins s σ H Q I hq => (pe_tup (paCl h)).run pins s σ H Q I ⟨_, hq, fun xs H1 z => ⟨z.1, fun p np => z.2.upd np⟩⟩⟩
theorem pe_lstN {X : Cx} {es : List Expr} {t : TA} {pos} (h : PA X es t) : PE X (.List es pos) (tLstN t) :=
  ⟨fun pins s σ H Q I hq => (pe_lst (paCl h)).run pins s σ H Q I ⟨_, hq, fun xs H1 z => ⟨z.1, fun p np => z.2.upd np⟩⟩⟩
def rSlN (K : PySem.W.Frag) : V → Option Int → Option Int → Hp → VK → Prop := fun x lo hi H Q => ∃ a xs, x = .ref a ∧ SqL K H a xs ∧ NewAt H (.lst (cutV xs lo hi)) Q
theorem sl_listN {X : Cx} : SlR X (rSlN X.K) := fun pins s σ H x v vl vu lo hi sl Q I rx hs pl pu ⟨a, xs, e, hx, q⟩ =>
  sl_list pins s σ H x v vl vu lo hi sl Q I rx hs pl pu ⟨a, xs, e, hx, fun p np => q.upd np⟩
def rSlTN (K : PySem.W.Frag) : V → Option Int → Option Int → Hp → VK → Prop := fun x lo hi H Q => ∃ a xs, x = .ref a ∧ SqT K H a xs ∧ ¬ (HT.sIx xs.length 0 lo = 0 ∧ HT.sIx xs.length xs.length hi = xs.length) ∧ NewAt H (.tup (cutV xs lo hi)) Q
theorem sl_tupN {X : Cx} : SlR X (rSlTN X.K) := fun pins s σ H x v vl vu lo hi sl Q I rx hs pl pu ⟨a, xs, e, hx, w, q⟩ =>
  sl_tup pins s σ H x v vl vu lo hi sl Q I rx hs pl pu ⟨a, xs, e, hx, w, fun p np => q.upd np⟩
def rListN (K : PySem.W.Frag) : List V → Hp → VK → Prop := fun xs H Q => ∃ p ys, xs = [.ref p] ∧ (SqL K H p ys ∨ SqT K H p ys) ∧ NewAt H (.lst ys) Q
theorem call_listN {X : Cx} {K : PySem.W.Frag} (hK : X.K = K := by rfl) : CallR X (.type "list") (rListN K) := fun pins s σ H xs us Q I r ⟨p, ys, e, h, q⟩ =>
  call_list_of pins s σ H xs us Q I r ⟨p, ys, e, by rw [hK]; exact h, fun l nl => q.upd nl⟩
def rTupN (K : PySem.W.Frag) : List V → Hp → VK → Prop := fun xs H Q => ∃ p ys, xs = [.ref p] ∧ SqL K H p ys ∧ NewAt H (.tup ys) Q
theorem call_tupleN {X : Cx} {K : PySem.W.Frag} (hK : X.K = K := by rfl) : CallR X (.type "tuple") (rTupN K) := fun pins s σ H xs us Q I r ⟨p, ys, e, h, q⟩ =>
  call_tuple_of pins s σ H xs us Q I r ⟨p, ys, e, .inl ⟨by rw [hK]; exact h, fun l nl => q.upd nl⟩⟩
def rLenN (K : PySem.W.Frag) : List V → Hp → VK → Prop := fun xs H Q => ∃ p ys, xs = [.ref p] ∧ (SqL K H p ys ∨ SqT K H p ys) ∧ Q (.int ys.length) H
theorem call_lenN {X : Cx} {K : PySem.W.Frag} (hK : X.K = K := by rfl) : CallR X (.builtin "len") (rLenN K) := fun pins s σ H xs us Q I r ⟨p, ys, e, h, q⟩ =>
  call_len_seq pins s σ H xs us Q I r ⟨p, ys, e, by rw [hK]; exact h, q⟩
theorem small01 {c : Prop} [Decidable c] : -(2 ^ 64) < (if c then (1 : Int) else 0) ∧ (if c then (1 : Int) else 0) < 2 ^ 64 := by
  split <;> decide
/-! ### chains of comparisons of any length, as tests -/
def tChL (r : R2) (tb : TE) : V → TT := fun x σ H Q => tb σ H fun y H2 => r x y H2 fun z H3 => ∃ k, z = .bl k ∧ Q k H3
def tChC (r : R2) (tb : TE) (u : V → TT) : V → TT := fun x σ H Q => tb σ H fun y H2 => r x y H2 fun z H3 => ∃ k, z = .bl k ∧ if k = true then u y σ H3 Q else Q false H3
structure PCh (X : Cx) (ops : List CmpOp) (es : List Expr) (r : V → TT) : Prop where
  run : ∀ (pos : Pos) (pins : List (Addr × Obj)) (s : Shared) (σ : L2.St) (H : Hp) (x : V) (v : Value) (Q : Bool → Hp → Prop), Inv X pins σ H s → RelV x v → r x σ H Q →
    wpAny (model X.prog X.w) X.A (testChain pos v ops (evalEach es X.env)) (TP X pins σ Q) X.xe s
theorem ch_last {X : Cx} {op : CmpOp} {b : Expr} {r : R2} {tb : TE} (ho : OpR X (compareOp op) r) (hb : PE X b tb) : PCh X [op] [b] (tChL r tb) := by
  refine ⟨fun pos pins s σ H x v Q I rx h => ?_⟩
  refine test_last (thn (hb.run pins s σ H _ I h) fun u s2 ⟨y, H2, I2, r2, q2⟩ => thn (ho pins s2 σ H2 x y v u _ I2 rx r2 q2) fun d s3 ⟨z, H3, I3, r3, k, e, q3⟩ => ?_)
  subst e
  cases r3
  exact wpAny_truthy_bool ⟨H3, I3, q3⟩
theorem ch_link {X : Cx} {op op' : CmpOp} {ops : List CmpOp} {b c : Expr} {es : List Expr} {r : R2} {tb : TE} {u : V → TT} (ho : OpR X (compareOp op) r) (hb : PE X b tb) (hc : PCh X (op' :: ops) (c :: es) u) : PCh X (op :: op' :: ops) (b :: c :: es) (tChC r tb u) := by
  refine ⟨fun pos pins s σ H x v Q I rx h => ?_⟩
  refine test_link (thn (hb.run pins s σ H _ I h) fun w s2 ⟨y, H2, I2, r2, q2⟩ => thn (ho pins s2 σ H2 x y v w _ I2 rx r2 q2) fun d s3 ⟨z, H3, I3, r3, k, e, q3⟩ => ?_)
  subst e
  cases r3
  refine wpAny_truthy_bool ?_
  cases k with
  | false => exact ite_ff ⟨H3, I3, q3⟩
  | true => exact ite_tt (hc.run pos pins s3 σ H3 y w Q I3 r2 q3)
theorem pt_chainN {X : Cx} {op op' : CmpOp} {ops : List CmpOp} {a b c : Expr} {es : List Expr} {pos : Pos} {ta : TE} {u : V → TT} (ha : PE X a ta) (hc : PCh X (op :: op' :: ops) (b :: c :: es) u)
    (hm : lastMarks (op :: op' :: ops) (b :: c :: es) = false := by with_unfolding_all rfl) : PT X (.Compare a (op :: op' :: ops) (b :: c :: es) pos) (fun σ H Q => ta σ H fun x H1 => u x σ H1 Q) := by
  refine ⟨fun pins s σ H Q I h => ?_⟩
  exact isTrue_chain (thn (ha.run pins s σ H _ I h) fun v s1 ⟨x, H1, I1, r1, q1⟩ => hc.run _ pins s1 σ H1 x v Q I1 r1 q1) hm
end Pan
namespace Pan
open PySem PySem.Spec PyProof.Rows L2
def topS (i : Nat) : Stmt := PySem.Challenge.pw_panfalls_k06_whole_a_fold_leaves_half_at.main.body.getD i (.Pass ⟨0, 0, 0, 0⟩)
abbrev s_spots : Stmt := topS 1
abbrev N_spots : List Str := ["run", "first", "last"]
abbrev P_spots : List Str := ["run"]
theorem sc_spots : FnScope N_spots P_spots (defScope s_spots) := ⟨rfl, rfl, rfl, by decide +kernel, rfl, by decide +kernel, by decide +kernel⟩
abbrev s_parts : Stmt := topS 2
abbrev N_parts : List Str := ["run", "weight", "first", "last"]
abbrev P_parts : List Str := ["run", "weight"]
theorem sc_parts : FnScope N_parts P_parts (defScope s_parts) := ⟨rfl, rfl, rfl, by decide +kernel, rfl, by decide +kernel, by decide +kernel⟩
abbrev s_folded : Stmt := topS 3
abbrev N_folded : List Str := ["run", "weight", "first", "last", "fold"]
abbrev P_folded : List Str := ["run", "weight"]
theorem sc_folded : FnScope N_folded P_folded (defScope s_folded) := ⟨rfl, rfl, rfl, by decide +kernel, rfl, by decide +kernel, by decide +kernel⟩
abbrev s_behind : Stmt := topS 4
abbrev N_behind : List Str := ["run", "word", "now", "weight"]
abbrev P_behind : List Str := ["run", "word"]
theorem sc_behind : FnScope N_behind P_behind (defScope s_behind) := ⟨rfl, rfl, rfl, by decide +kernel, rfl, by decide +kernel, by decide +kernel⟩
abbrev s_l_tape : Stmt := topS 6
abbrev N_l_tape : List Str := ["_law_script", "_law_k", "_law_cell"]
abbrev P_l_tape : List Str := ["_law_script", "_law_k"]
theorem sc_l_tape : FnScope N_l_tape P_l_tape (defScope s_l_tape) := ⟨rfl, rfl, rfl, by decide +kernel, rfl, by decide +kernel, by decide +kernel⟩
abbrev s_l_draw : Stmt := topS 7
abbrev N_l_draw : List Str := ["_law_tape_here", "_law_many", "_law_found", "_law_once", "_law_twice", "_law_wide"]
abbrev P_l_draw : List Str := ["_law_tape_here", "_law_many"]
theorem sc_l_draw : FnScope N_l_draw P_l_draw (defScope s_l_draw) := ⟨rfl, rfl, rfl, by decide +kernel, rfl, by decide +kernel, by decide +kernel⟩
abbrev s_l_folded : Stmt := topS 8
abbrev N_l_folded : List Str := ["_law_script", "_law_many", "_law_cells", "_law_k", "_law_cell"]
abbrev P_l_folded : List Str := ["_law_script", "_law_many"]
theorem sc_l_folded : FnScope N_l_folded P_l_folded (defScope s_l_folded) := ⟨rfl, rfl, rfl, by decide +kernel, rfl, by decide +kernel, by decide +kernel⟩
abbrev s_l_weight : Stmt := topS 9
abbrev N_l_weight : List Str := ["_law_tape_here", "_law_most"]
abbrev P_l_weight : List Str := ["_law_tape_here", "_law_most"]
theorem sc_l_weight : FnScope N_l_weight P_l_weight (defScope s_l_weight) := ⟨rfl, rfl, rfl, by decide +kernel, rfl, by decide +kernel, by decide +kernel⟩
abbrev s_l_run : Stmt := topS 10
abbrev N_l_run : List Str := ["_law_tape_here", "_law_first"]
abbrev P_l_run : List Str := ["_law_tape_here"]
theorem sc_l_run : FnScope N_l_run P_l_run (defScope s_l_run) := ⟨rfl, rfl, rfl, by decide +kernel, rfl, by decide +kernel, by decide +kernel⟩
abbrev s_l_right : Stmt := topS 11
abbrev N_l_right : List Str := ["_law_tape_here", "_law_turn", "_law_run_here", "_law_some", "_law_weight_here", "_law_below", "_law_here", "_law_less", "_law_most", "_law_word", "_law_every", "_law_low", "_law_wide", "_law_slim", "_law_k"]
abbrev P_l_right : List Str := ["_law_tape_here"]
theorem sc_l_right : FnScope N_l_right P_l_right (defScope s_l_right) := ⟨rfl, rfl, rfl, by decide +kernel, rfl, by decide +kernel, by decide +kernel⟩
abbrev s_law : Stmt := topS 12
abbrev N_law : List Str := ["_law_script", "_law_cells", "_law_k"]
abbrev P_law : List Str := ["_law_script"]
theorem sc_law : FnScope N_law P_law (defScope s_law) := ⟨rfl, rfl, rfl, by decide +kernel, rfl, by decide +kernel, by decide +kernel⟩
structure Bl (mg : Str → Option Value) : Prop where
  abs : mg "abs" = none
  all : mg "all" = none
  enumerate : mg "enumerate" = none
  int : mg "int" = none
  len : mg "len" = none
  list : mg "list" = none
  max : mg "max" = none
  min : mg "min" = none
  range : mg "range" = none
  tuple : mg "tuple" = none
section
variable {P : Program} {w : World} {K : PySem.W.Frag} {mg : Str → Option Value} {base : Heap}
/-! ### draws -/
def sp_l_draw : Sp := fun vs H Q _ => ∃ (t : Addr) (n : Int) (b : Nat), vs = [.ref t, .int n] ∧ 0 < n ∧ n < 4611686018427387904 ∧ Tp (b + 1) H t ∧
  ∀ (i : Int) (H' : Hp), 0 ≤ i → i < n → Un t H H' → Tp b H' t → Q (.int i) H'
abbrev LV_l_draw : Nat := 1
theorem ok_l_draw {f : Addr} {fd : FuncData} (F : Fun K "_law_draw" "_law_draw" s_l_draw f fd) (Z : Bl mg) : FnOk P w K mg base CX0 LV_l_draw f fd P_l_draw sp_l_draw := by
  refine F.ok sc_l_draw (fun vs H Q E h => ?_) (fun cdv A outer s H vs Q E hr h => ?_)
  · obtain ⟨t, n, b, rfl, _⟩ := h
    rfl
  obtain ⟨t, n, b, rfl, hn, hn2, ⟨x, y, z, hT, hx, hy, hy2, hz, hz2⟩, q⟩ := h
  refine ⟨_, (pss_cons (ps_if (pt_cmpR op_gt (pe_ix ix_seq (pv 0) pe_int (fun _ _ => rfl)) pe_int (nomark _)) (pss_cons (ps_set (i := 2) sc_l_draw.nd rfl (Or.inl rfl) (pe_op op_mod (pe_ix ix_seq (pv 0) pe_int (fun _ _ => rfl)) (pv 1)))
    (pss_cons (ps_asg (pe_op op_fdivW (pe_ix ix_seq (pv 0) pe_int (fun _ _ => rfl)) (pv 1)) (pg_sub (pv 0) pe_int set_list))
    (pss_one (ps_ret (pv 2))))) pss_nil)
    (pss_cons (ps_asg (pe_op op_add (pe_ix ix_seq (pv 0) pe_int (fun _ _ => rfl)) pe_int) (pg_sub (pv 0) pe_int set_list))
    (pss_cons (ps_set (i := 3) sc_l_draw.nd rfl (Or.inl rfl) (pe_op op_mod (pe_op op_pow (pe_op op_add (pe_ix ix_seq (pv 0) pe_int (fun _ _ => rfl)) (pe_op op_mul pe_int (pe_ix ix_seq (pv 0) pe_int (fun _ _ => rfl)))) pe_int) pe_int))
    (pss_cons (ps_set (i := 4) sc_l_draw.nd rfl (Or.inl rfl) (pe_op op_mod (pe_op op_mul (pe_op op_add (pv 3) (pe_ix ix_seq (pv 0) pe_int (fun _ _ => rfl))) (pe_op op_add (pe_op op_add (pe_op op_mod (pv 3) pe_int) pe_int) (pe_ix ix_seq (pv 0) pe_int (fun _ _ => rfl)))) pe_int))
    (pss_cons (ps_set (i := 5) sc_l_draw.nd rfl (Or.inl rfl) (pe_op op_mod (pe_op op_add (pe_op op_add (pe_op op_fdivW (pe_ix ix_seq (pv 0) pe_int (fun _ _ => rfl)) pe_int) (pe_op op_mul (pv 4) pe_int)) (pe_ix ix_seq (pv 0) pe_int (fun _ _ => rfl))) pe_int))
    (pss_one (ps_ret (pe_op op_mod (pe_op op_fdivW (pe_op op_mod (pe_op op_add (pe_op op_add (pe_op op_mul (pv 4) pe_int) (pe_op op_mul (pv 5) pe_int)) (pv 3)) pe_int) pe_int) (pv 1))))))))), ?_⟩
  refine ⟨.ref t, rfl, .inl ⟨t, _, 0, .int x, rfl, rfl, SqL.of hT, rfl, _, _, rfl, rfl, _, rfl, ite2 (fun c => ?_) (fun c => ?_)⟩⟩
  · refine ⟨.ref t, rfl, .inl ⟨t, _, 0, .int x, rfl, rfl, SqL.of hT, rfl, .int n, rfl, _, _, rfl, rfl, hn, ?_⟩⟩
    refine ⟨.ref t, rfl, .inl ⟨t, _, 0, .int x, rfl, rfl, SqL.of hT, rfl, .int n, rfl, _, _, rfl, rfl, wide_div (b := 62) hn (by omega) (by decide) (by decide), .ref t, rfl, t, _, 0, 0, rfl, rfl, hT, rfl, ?_⟩⟩
    refine ⟨_, rfl, q _ _ (Int.emod_nonneg _ (by omega)) (Int.emod_lt_of_pos _ hn) Un.upd ⟨x / n, y, z, upd_same, Int.ediv_nonneg hx (by omega), hy, hy2, hz, by omega⟩⟩
  · refine ⟨.ref t, rfl, .inl ⟨t, _, 2, .int z, rfl, rfl, SqL.of hT, rfl, _, _, rfl, rfl, .ref t, rfl, t, _, 2, 2, rfl, rfl, hT, rfl, ?_⟩⟩
    have e1 : upd H t (.lst [.int x, .int y, .int (z + 1)]) t = some (.lst [.int x, .int y, .int (z + 1)]) := upd_same
    refine ⟨.ref t, rfl, .inl ⟨t, _, 1, .int y, rfl, rfl, SqL.of e1, rfl, .ref t, rfl, .inl ⟨t, _, 2, .int (z + 1), rfl, rfl, SqL.of e1, rfl, _, _, rfl, rfl, .inl ⟨by decide, by decide⟩, _, _, rfl, rfl, _, _, rfl, rfl, ⟨by decide, by decide, by omega⟩, _, _, rfl, rfl, (by show (0 : Int) < 2147483647; decide), ?_⟩⟩⟩
    have ho1 : 0 ≤ (y + 39373 * (z + 1)) ^ (Int.toNat 5) % 2147483647 := Int.emod_nonneg _ (by decide)
    have ho2 : (y + 39373 * (z + 1)) ^ (Int.toNat 5) % 2147483647 < 2147483647 := Int.emod_lt_of_pos _ (by decide)
    generalize (y + 39373 * (z + 1)) ^ (Int.toNat 5) % 2147483647 = once at ho1 ho2 ⊢
    refine ⟨_, rfl, .ref t, rfl, .inl ⟨t, _, 2, .int (z + 1), rfl, rfl, SqL.of e1, rfl, _, _, rfl, rfl, _, rfl, _, _, rfl, rfl, (by show (0 : Int) < 40009; decide), _, _, rfl, rfl, .ref t, rfl, .inl ⟨t, _, 2, .int (z + 1), rfl, rfl, SqL.of e1, rfl, _, _, rfl, rfl, _, _, rfl, rfl, .inl ⟨by omega, by omega⟩, _, _, rfl, rfl, (by show (0 : Int) < 2147483629; decide), ?_⟩⟩⟩
    have ht1 : 0 ≤ (once + (z + 1)) * (once % 40009 + 7 + (z + 1)) % 2147483629 := Int.emod_nonneg _ (by decide)
    have ht2 : (once + (z + 1)) * (once % 40009 + 7 + (z + 1)) % 2147483629 < 2147483629 := Int.emod_lt_of_pos _ (by decide)
    generalize (once + (z + 1)) * (once % 40009 + 7 + (z + 1)) % 2147483629 = twice at ht1 ht2 ⊢
    refine ⟨.ref t, rfl, .inl ⟨t, _, 1, .int y, rfl, rfl, SqL.of e1, rfl, _, _, rfl, rfl, wide_div (b := 62) (by decide) (by decide) (by decide) (by decide), _, rfl, _, _, rfl, rfl, .inl ⟨by omega, by omega⟩, _, _, rfl, rfl, .ref t, rfl, .inl ⟨t, _, 2, .int (z + 1), rfl, rfl, SqL.of e1, rfl, _, _, rfl, rfl, _, _, rfl, rfl, (by show (0 : Int) < 2305843009213693951; decide), ?_⟩⟩⟩
    have hw1 : 0 ≤ (y / 2147483647 + twice * 40009 + (z + 1)) % 2305843009213693951 := Int.emod_nonneg _ (by decide)
    have hw2 : (y / 2147483647 + twice * 40009 + (z + 1)) % 2305843009213693951 < 2305843009213693951 := Int.emod_lt_of_pos _ (by decide)
    generalize (y / 2147483647 + twice * 40009 + (z + 1)) % 2305843009213693951 = wide at hw1 hw2 ⊢
    refine ⟨_, rfl, _, _, rfl, rfl, .inl ⟨by omega, by omega⟩, _, rfl, _, _, rfl, rfl, .inl ⟨by omega, by omega⟩, _, _, rfl, rfl, _, rfl, _, _, rfl, rfl, _, _, rfl, rfl, (by show (0 : Int) < 2305843009213693921; decide), _, _, rfl, rfl, wide_div (b := 62) (by decide) (by decide) (by decide) (by decide), _, rfl, _, _, rfl, rfl, hn, ?_⟩
    exact q _ _ (Int.emod_nonneg _ (by omega)) (Int.emod_lt_of_pos _ hn) Un.upd ⟨x, y, z + 1, e1, hx, hy, hy2, by omega, by omega⟩
/-! ### weights -/
def sp_l_weight : Sp := fun vs H Q _ => ∃ (t : Addr) (m : Int) (b : Nat), vs = [.ref t, .int m] ∧ 1 ≤ m ∧ m < 4611686018427387904 ∧ Tp (b + 3) H t ∧
  ∀ (i : Int) (H' : Hp), 1 ≤ i → i ≤ m → Un t H H' → Tp b H' t → Q (.int i) H'
abbrev LV_l_weight : Nat := 2
theorem ok_l_weight {f : Addr} {fd : FuncData} (F : Fun K "_law_weight" "_law_weight" s_l_weight f fd) (Z : Bl mg) (G_l_draw : Kn P w K mg base "_law_draw" P_l_draw LV_l_draw sp_l_draw) : FnOk P w K mg base CX0 LV_l_weight f fd P_l_weight sp_l_weight := by
  refine F.ok sc_l_weight (fun vs H Q E h => ?_) (fun cdv A outer s H vs Q E hr h => ?_)
  · obtain ⟨t, n, b, rfl, _⟩ := h
    rfl
  obtain ⟨t, m, b, rfl, hm, hm2, hT, q⟩ := h
  refine ⟨_, (pss_one (ps_ret (pe_ix ix_seq (pe_lstN (pa_cons (pe_op op_add pe_int (pe_own G_l_draw (hr.mono (by decide)) (by rfl) (pa_cons (pv 0) (pa_cons (pv 1) pa_nil)))) (pa_cons (pe_op op_add pe_int (pe_own G_l_draw (hr.mono (by decide)) (by rfl) (pa_cons (pv 0) (pa_cons (pe_callB (call_min2 rfl) (by rfl) Z.min (by decide +kernel) (pa_cons pe_int (pa_cons (pv 1) pa_nil))) pa_nil)))) (pa_cons (pv 1) (pa_cons pe_int pa_nil))))) (pe_own G_l_draw (hr.mono (by decide)) (by rfl) (pa_cons (pv 0) (pa_cons pe_int pa_nil))) (fun _ _ => rfl)))), ?_⟩
  refine ⟨.ref t, rfl, .int m, rfl, t, m, b + 2, rfl, by omega, by omega, hT, fun i1 H1 a1 b1 U1 T1 => ?_⟩
  refine ⟨_, _, rfl, rfl, .ref t, rfl, .int m, rfl, _, _, rfl, t, _, b + 1, rfl, (by split <;> omega), (by split <;> omega), T1, fun i2 H2 a2 b2 U2 T2 => ?_⟩
  refine ⟨_, _, rfl, rfl, .int m, rfl, (by show 4 ≤ sizeLine; decide), fun p H3 np S3 e3 => ?_⟩
  refine ⟨.ref t, rfl, t, 4, b, rfl, by decide, by decide, T2.same S3, fun i3 H4 a4 b4 U4 T4 => ?_⟩
  have e4 := U4 _ _ (T2.nn np) e3
  have U : Un t H H4 := U1.trans (U2.trans ((Un.same S3).trans U4))
  have h3 : i3 = 0 ∨ i3 = 1 ∨ i3 = 2 ∨ i3 = 3 := by omega
  have hb2 : i2 < m := by
    revert b2
    split <;> intro b2 <;> omega
  rcases h3 with rfl | rfl | rfl | rfl
  · exact .inl ⟨p, _, _, _, rfl, rfl, SqL.of e4, rfl, q _ _ (by omega) (by omega) U T4⟩
  · exact .inl ⟨p, _, _, _, rfl, rfl, SqL.of e4, rfl, q _ _ (by omega) (by omega) U T4⟩
  · exact .inl ⟨p, _, _, _, rfl, rfl, SqL.of e4, rfl, q _ _ (by omega) (by omega) U T4⟩
  · exact .inl ⟨p, _, _, _, rfl, rfl, SqL.of e4, rfl, q _ _ (by omega) (by omega) U T4⟩
/-! ### the tape -/
def sp_l_tape : Sp := fun vs H Q _ => ∃ (a : Addr) (ns : List Int) (k : Int), vs = [.ref a, .int k] ∧ H a = some (.lst (ns.map V.int)) ∧ 0 ≤ k ∧ k ≤ 63 ∧
  ∀ (t : Addr) (H' : Hp), H t = none → Same H H' → Tp 1000000000 H' t → Q (.ref t) H'
abbrev LV_l_tape : Nat := 1
theorem ok_l_tape {f : Addr} {fd : FuncData} (F : Fun K "_law_tape" "_law_tape" s_l_tape f fd) (Z : Bl mg) : FnOk P w K mg base CX0 LV_l_tape f fd P_l_tape sp_l_tape := by
  refine F.ok sc_l_tape (fun vs H Q E h => ?_) (fun cdv A outer s H vs Q E hr h => ?_)
  · obtain ⟨a, ns, k, rfl, _⟩ := h
    rfl
  obtain ⟨a, ns, k, rfl, ha, hk, hk2, q⟩ := h
  have fin : ∀ c : Int, ∀ (t : Addr) (H' : Hp), H t = none → Same H H' → H' t = some (.lst [.int ((if c < 0 then -c else c) * (if decide ((10 : Int) ^ (Int.toNat 18) ≤ (if c < 0 then -c else c)) = true then 1 else 0)), .int (c % 2305843009213693951 + 39373 * k + 17), .int 0]) → Q (.ref t) H' := fun c t H' nt S e => by
    have h1 : 0 ≤ c % 2305843009213693951 := Int.emod_nonneg _ (by decide)
    have h2 : c % 2305843009213693951 < 2305843009213693951 := Int.emod_lt_of_pos _ (by decide)
    refine q t H' nt S ⟨_, _, _, e, Int.mul_nonneg (by split <;> omega) (by split <;> omega), by omega, by omega, by omega, by omega⟩
  refine ⟨_, (pss_cons (ps_set (i := 2) sc_l_tape.nd rfl (Or.inl rfl) (pe_ifExp (pt_cmpR op_lt (pv 1) (pe_callB call_lenN (by rfl) Z.len (by decide +kernel) (pa_cons (pv 0) pa_nil)) (nomark _)) (pe_ix ix_seq (pv 0) (pv 1) (fun _ _ => rfl)) pe_int))
    (pss_one (ps_ret (pe_lstN (pa_cons (pe_op op_mul (pe_callB call_abs (by rfl) Z.abs (by decide +kernel) (pa_cons (pv 2) pa_nil)) (pe_callTy call_int1 (by rfl) Z.int (by decide +kernel) (pa_cons (pe_cmpR op_ge (pe_callB call_abs (by rfl) Z.abs (by decide +kernel) (pa_cons (pv 2) pa_nil)) (pe_op op_pow pe_int pe_int) (nomark _)) pa_nil))) (pa_cons (pe_op op_add (pe_op op_add (pe_op op_mod (pv 2) pe_int) (pe_op op_mul pe_int (pv 1))) pe_int) (pa_cons pe_int pa_nil))))))), ?_⟩
  refine ⟨.int k, rfl, .ref a, rfl, a, _, rfl, .inl (SqL.of ha), _, _, rfl, rfl, _, rfl, ite2 (fun c => ?_) (fun c => ?_)⟩
  · have c1 := of_decide_eq_true c
    rw [List.length_map] at c1
    obtain ⟨v, _, hv⟩ := pick (xs := ns) hk c1
    refine ⟨.ref a, rfl, .int k, rfl, .inl ⟨a, _, k, .int v, rfl, rfl, SqL.of ha, hv, ?_⟩⟩
    refine ⟨_, rfl, _, rfl, _, rfl, _, rfl, _, _, rfl, rfl, ⟨by decide, by decide, by decide⟩, _, _, rfl, rfl, .inr ⟨_, rfl, _, _, rfl, rfl, .inr small01, _, rfl, _, _, rfl, rfl, (by show (0 : Int) < 2305843009213693951; decide), _, rfl, _, _, rfl, rfl, .inl ⟨by decide, by decide⟩, _, _, rfl, rfl, _, _, rfl, rfl, (by show 3 ≤ sizeLine; decide), fun t H' nt S e => fin v t H' nt S e⟩⟩
  · refine ⟨_, rfl, _, rfl, _, rfl, _, rfl, _, _, rfl, rfl, ⟨by decide, by decide, by decide⟩, _, _, rfl, rfl, .inr ⟨_, rfl, _, _, rfl, rfl, .inr small01, _, rfl, _, _, rfl, rfl, (by show (0 : Int) < 2305843009213693951; decide), _, rfl, _, _, rfl, rfl, .inl ⟨by decide, by decide⟩, _, _, rfl, rfl, _, _, rfl, rfl, (by show 3 ≤ sizeLine; decide), fun t H' nt S e => fin 0 t H' nt S e⟩⟩
/-! ### the script folded -/
def sp_l_folded (K : PySem.W.Frag) : Sp := fun vs H Q _ => ∃ (a : Addr) (ns : List Int) (m : Nat), vs = [.ref a, .int (m : Int)] ∧ SqL K H a (ns.map V.int) ∧ ns.length ≤ 63 ∧ 1 ≤ m ∧ m ≤ 63 ∧
  ∀ (p : Addr) (cs : List Int) (H' : Hp), H p = none → Same H H' → H' p = some (.lst (cs.map V.int)) → cs.length ≤ m → Q (.ref p) H'
abbrev LV_l_folded : Nat := 1
theorem ok_l_folded {f : Addr} {fd : FuncData} (F : Fun K "_law_folded" "_law_folded" s_l_folded f fd) (Z : Bl mg) : FnOk P w K mg base CX0 LV_l_folded f fd P_l_folded (sp_l_folded K) := by
  refine F.ok sc_l_folded (fun vs H Q E h => ?_) (fun cdv A outer s H vs Q E hr h => ?_)
  · obtain ⟨a, ns, k, rfl, _⟩ := h
    rfl
  obtain ⟨a, ns, m, rfl, ha, hl, hm, hm2, q⟩ := h
  refine ⟨_, (pss_cons (ps_set (i := 2) sc_l_folded.nd rfl (Or.inl rfl) (pe_callTy call_listN (by rfl) Z.list (by decide +kernel) (pa_cons (pe_slice sl_listN (pv 0) po_none (po_some (pv 1))) pa_nil)))
    (pss_cons (ps_for PassesOwn.never rfl (pi_enum (by rfl) Z.enumerate (pa_cons (pe_slice sl_listN (pv 0) (po_some (pv 1)) (po_some pe_int)) pa_nil)) (pg_tup rfl (pgs_cons (pg_name (i := 3) sc_l_folded.nd rfl (Or.inl rfl)) (pgs_cons (pg_name (i := 4) sc_l_folded.nd rfl (Or.inl rfl)) pgs_nil)))
    (pss_one (ps_asg (pe_op op_add (pe_ix ix_seq (pv 2) (pe_op op_mod (pv 3) (pv 1)) (fun _ _ => rfl)) (pe_op op_mul (pv 4) (pe_op op_add (pv 3) pe_int))) (pg_sub (pv 2) (pe_op op_mod (pv 3) (pv 1)) set_list))))
    (pss_one (ps_ret (pv 2))))), ?_⟩
  refine ⟨.ref a, rfl, .int m, rfl, m, rfl, a, _, rfl, ha, fun p1 H1 np1 S1 e1 => ?_⟩
  refine ⟨p1, _, rfl, .inl (SqL.of e1), fun p2 H2 np2 S2 e2 => ?_⟩
  rw [cut_map, HT.sIx_none, HT.sIx_nat] at e2
  refine ⟨.ref a, rfl, .int m, rfl, m, rfl, 63, rfl, a, _, rfl, S2.seq (S1.seq ha), fun p3 H3 np3 S3 e3 => ?_⟩
  refine ⟨p3, _, rfl, SqL.of e3, ?_⟩
  have e3' := e3
  rw [cut_map] at e3'
  have h63 : HT.sIx ns.length ns.length (some 63) = min 63 ns.length := HT.sIx_nat _ _ 63
  rw [HT.sIx_nat, h63] at e3'
  have np2H : H p2 = none := S1.free np2
  have n32 : p3 ≠ p2 := fun e => by
    rw [e] at np3
    rw [np3] at e2
    cases e2
  rw [cut_map, HT.sIx_nat, h63] at *
  refine for_it (walk_enum (xs := (cutI ns (min m ns.length) (min 63 ns.length)).map V.int)) (fun i σ H' => ∃ y3 y4 cs, σ = [some (.ref a), some (.int m), some (.ref p2), y3, y4] ∧ cs.length = min m ns.length ∧ H' p2 = some (.lst (cs.map V.int)) ∧ Same H H' ∧ H' p3 = some (.lst ((cutI ns (min m ns.length) (min 63 ns.length)).map V.int)))
    ⟨none, none, cutI ns 0 (min m ns.length), rfl, ?_, ?_, ?_, e3⟩ (fun i σ H' _ hP => ?_) (fun i x σ H4 H5 hi hP hY => ?_) (fun σ H' hP => ?_)
  · unfold cutI
    rw [List.length_take, List.length_drop]
    omega
  · exact S3 _ _ e2
  · exact S1.trans (S2.trans S3)
  · obtain ⟨_, _, _, _, _, _, _, e⟩ := hP
    exact SqL.of e
  · obtain ⟨y3, y4, cs, rfl, hc, e4, S4, e5⟩ := hP
    obtain ⟨T, x1, x2, rfl, nT, rfl, f1, f2⟩ := hY
    obtain ⟨v, _, rfl, hv⟩ := item_int f2
    have f1 : (V.int (i : Nat)) = x1 := Option.some.inj f1
    subst f1
    have hlt : m < ns.length := by
      rw [List.length_map] at hi
      unfold cutI at hi
      rw [List.length_take, List.length_drop] at hi
      omega
    have hcl : cs.length = m := by omega
    have hmi : 0 ≤ ((i : Nat) : Int) % (m : Int) := Int.emod_nonneg _ (by omega)
    have hmi2 : ((i : Nat) : Int) % (m : Int) < (m : Int) := Int.emod_lt_of_pos _ (by omega)
    obtain ⟨c, _, hc2⟩ := pick (xs := cs) (i := ((i : Nat) : Int) % (m : Int)) hmi (by omega)
    have nT2 : p2 ≠ T := ne_of_none e4 nT
    have nT3 : p3 ≠ T := ne_of_none e5 nT
    have e4' : upd H4 T (.tup [.int (i : Nat), .int v]) p2 = some (.lst (cs.map V.int)) := by rw [upd_ne nT2]; exact e4
    obtain ⟨j, hj⟩ : ∃ j : Nat, ((i : Nat) : Int) % (m : Int) = (j : Int) := ⟨(((i : Nat) : Int) % (m : Int)).toNat, by omega⟩
    have hi60 : (i : Int) < 100 := by
      rw [List.length_map] at hi
      unfold cutI at hi
      rw [List.length_take, List.length_drop] at hi
      omega
    refine ⟨T, _, rfl, SqT.of upd_same, rfl, _, _, rfl, _, _, rfl, rfl, ?_⟩
    refine ⟨.ref p2, rfl, .int (i : Nat), rfl, .int m, rfl, _, _, rfl, rfl, (by show (0 : Int) < m; omega), .inl ⟨p2, _, _, .int c, rfl, rfl, SqL.of e4', hc2, .int v, rfl, .int (i : Nat), rfl, _, _, rfl, rfl, _, _, rfl, rfl, .inr ⟨by omega, by omega⟩, _, _, rfl, rfl, ?_⟩⟩
    refine ⟨.ref p2, rfl, .int (i : Nat), rfl, .int m, rfl, _, _, rfl, rfl, (by show (0 : Int) < m; omega), p2, _, _, j, rfl, rfl, e4', ?_, ?_⟩
    · rw [hj]
      exact Evl.ixN_nat (by rw [List.length_map]; omega)
    · refine ⟨_, _, cs.set j (c + v * ((i : Nat) + 2)), rfl, by rw [List.length_set]; exact hc, ?_, ?_, ?_⟩
      · rw [upd_same, List.map_set]
      · exact Same.of_upd (Same.of_upd S4 (S4.free nT)) np2H
      · rw [upd_ne n32, upd_ne nT3]
        exact e5
  · obtain ⟨y3, y4, cs, rfl, hc, e4, S4, e5⟩ := hP
    exact ⟨_, rfl, q p2 cs _ np2H S4 e4 (by omega)⟩
end
end Pan
namespace Pan
open PySem PySem.Spec PyProof.Rows L2
section
variable {P : Program} {w : World} {K : PySem.W.Frag} {mg : Str → Option Value} {base : Heap}
/-! ### the mathematics -/
def fo (f l m : Int) : Int × Int := if f < 2 * m ∧ 2 * m < l then (1, if l - 2 * m > 2 * m - f then l - 2 * m else 2 * m - f) else if 2 * m < f then (f - 2 * m, l - 2 * m) else (2 * m - l, 2 * m - f)
def be (r : Int × Int) (ws : List Int) : Int × Int := ws.foldl (fun r m => fo r.1 r.2 m) r
def Odds (f l : Int) : Prop := f % 2 = 1 ∧ l % 2 = 1 ∧ 1 ≤ f ∧ f ≤ l
theorem fo_odds {f l m : Int} (h : Odds f l) (hm : 1 ≤ m) : Odds (fo f l m).1 (fo f l m).2 := by
  obtain ⟨h1, h2, h3, h4⟩ := h
  unfold fo Odds
  split
  · dsimp only
    split <;> omega
  · split <;> dsimp only <;> omega
/-- a run within another one is taken within what that is taken to, below 2 M -/
def In2 (M : Int) (r s : Int × Int) : Prop := Odds r.1 r.2 ∧ Odds s.1 s.2 ∧ r.1 ≤ s.1 ∧ s.2 ≤ r.2 ∧ r.2 ≤ 2 * M - 1
theorem fo_in {M m : Int} {r s : Int × Int} (h : In2 M r s) (hm : 1 ≤ m) (hM : m ≤ M) : In2 M (fo r.1 r.2 m) (fo s.1 s.2 m) := by
  obtain ⟨o1, o2, h3, h4, h5⟩ := h
  refine ⟨fo_odds o1 hm, fo_odds o2 hm, ?_⟩
  obtain ⟨a1, a2, a3, a4⟩ := o1
  obtain ⟨b1, b2, b3, b4⟩ := o2
  unfold fo
  (repeat' split) <;> (try dsimp only) <;> omega
theorem be_in {M : Int} : ∀ (ws : List Int) (r s : Int × Int), In2 M r s → (∀ x ∈ ws, 1 ≤ x ∧ x ≤ M) → In2 M (be r ws) (be s ws)
  | [], _, _, h, _ => h
  | x :: ws, r, s, h, k => be_in ws _ _ (fo_in h (k x (List.mem_cons_self ..)).1 (k x (List.mem_cons_self ..)).2) fun y hy => k y (List.mem_cons_of_mem _ hy)
/-! ### runs -/
def Run (H : Hp) (p : Addr) (r : Int × Int) : Prop := H p = some (.tup [.int r.1, .int r.2])
def sp_spots : Sp := fun vs H Q _ => ∃ (p : Addr) (f l : Int), vs = [.ref p] ∧ H p = some (.tup [.int f, .int l]) ∧ Q (.int ((l - f) / 2 + 1)) H
abbrev LV_spots : Nat := 1
theorem ok_spots {f : Addr} {fd : FuncData} (F : Fun K "spots" "spots" s_spots f fd) (Z : Bl mg) : FnOk P w K mg base CX0 LV_spots f fd P_spots sp_spots := by
  refine F.ok sc_spots (fun vs H Q E h => ?_) (fun cdv A outer s H vs Q E hr h => ?_)
  · obtain ⟨p, f, l, rfl, _⟩ := h
    rfl
  obtain ⟨p, f, l, rfl, e, q⟩ := h
  refine ⟨_, (pss_cons (ps_asg (pv 0) (pg_tup rfl (pgs_cons (pg_name (i := 1) sc_spots.nd rfl (Or.inl rfl)) (pgs_cons (pg_name (i := 2) sc_spots.nd rfl (Or.inl rfl)) pgs_nil))))
    (pss_one (ps_ret (pe_op op_add (pe_op op_fdivW (pe_op op_sub (pv 2) (pv 1)) pe_int) pe_int)))), ?_⟩
  exact ⟨.ref p, rfl, p, _, rfl, SqT.of e, rfl, _, _, rfl, _, _, rfl, rfl, _, rfl, _, rfl, _, _, rfl, rfl, _, _, rfl, rfl, wide_div (b := 62) (by decide) (by decide) (by decide) (by decide), _, _, rfl, rfl, q⟩
def sp_parts : Sp := fun vs H Q _ => ∃ (p : Addr) (f l m : Int), vs = [.ref p, .int m] ∧ H p = some (.tup [.int f, .int l]) ∧ Q (.bl (decide (f < 2 * m ∧ 2 * m < l))) H
abbrev LV_parts : Nat := 1
theorem ok_parts {f : Addr} {fd : FuncData} (F : Fun K "parts" "parts" s_parts f fd) (Z : Bl mg) : FnOk P w K mg base CX0 LV_parts f fd P_parts sp_parts := by
  refine F.ok sc_parts (fun vs H Q E h => ?_) (fun cdv A outer s H vs Q E hr h => ?_)
  · obtain ⟨p, f, l, m, rfl, _⟩ := h
    rfl
  obtain ⟨p, f, l, m, rfl, e, q⟩ := h
  refine ⟨_, (pss_cons (ps_asg (pv 0) (pg_tup rfl (pgs_cons (pg_name (i := 2) sc_parts.nd rfl (Or.inl rfl)) (pgs_cons (pg_name (i := 3) sc_parts.nd rfl (Or.inl rfl)) pgs_nil))))
    (pss_one (ps_ret (pe_chain op_lt op_lt (pv 2) (pe_op op_mul pe_int (pv 1)) (pv 3))))), ?_⟩
  refine ⟨.ref p, rfl, p, _, rfl, SqT.of e, rfl, _, _, rfl, _, _, rfl, rfl, .int f, rfl, .int m, rfl, _, _, rfl, rfl, .inl ⟨by decide, by decide⟩, _, _, rfl, rfl, _, rfl, ite2 (fun c => ?_) (fun c => ?_)⟩
  · refine ⟨.int l, rfl, _, _, rfl, rfl, ?_⟩
    have c1 := of_decide_eq_true c
    have e2 : decide (f < 2 * m ∧ 2 * m < l) = decide (2 * m < l) := by
      by_cases h : 2 * m < l
      · rw [decide_eq_true h, decide_eq_true ⟨c1, h⟩]
      · rw [decide_eq_false h, decide_eq_false fun z => h z.2]
    rw [e2] at q
    exact q
  · have c1 : ¬ f < 2 * m := fun z => c (decide_eq_true z)
    rw [decide_eq_false fun z => c1 z.1] at q
    exact q
def sp_folded : Sp := fun vs H Q _ => ∃ (p : Addr) (f l m : Int), vs = [.ref p, .int m] ∧ H p = some (.tup [.int f, .int l]) ∧
  ∀ (p' : Addr) (H' : Hp), H p' = none → Same H H' → H' p' = some (.tup [.int (fo f l m).1, .int (fo f l m).2]) → Q (.ref p') H'
abbrev LV_folded : Nat := 2
theorem ok_folded {f : Addr} {fd : FuncData} (F : Fun K "folded" "folded" s_folded f fd) (Z : Bl mg) (G_parts : Kn P w K mg base "parts" P_parts LV_parts sp_parts) : FnOk P w K mg base CX0 LV_folded f fd P_folded sp_folded := by
  refine F.ok sc_folded (fun vs H Q E h => ?_) (fun cdv A outer s H vs Q E hr h => ?_)
  · obtain ⟨p, f, l, m, rfl, _⟩ := h
    rfl
  obtain ⟨p, f, l, m, rfl, e, q⟩ := h
  refine ⟨_, (pss_cons (ps_asg (pv 0) (pg_tup rfl (pgs_cons (pg_name (i := 2) sc_folded.nd rfl (Or.inl rfl)) (pgs_cons (pg_name (i := 3) sc_folded.nd rfl (Or.inl rfl)) pgs_nil))))
    (pss_cons (ps_set (i := 4) sc_folded.nd rfl (Or.inl rfl) (pe_op op_mul pe_int (pv 1)))
    (pss_cons (ps_if (pt_val (pe_own G_parts (hr.mono (by decide)) (by rfl) (pa_cons (pv 0) (pa_cons (pv 1) pa_nil)))) (pss_one (ps_ret (pe_tupN (pa_cons pe_int (pa_cons (pe_callB (call_max2 rfl) (by rfl) Z.max (by decide +kernel) (pa_cons (pe_op op_sub (pv 4) (pv 2)) (pa_cons (pe_op op_sub (pv 3) (pv 4)) pa_nil))) pa_nil))))) pss_nil)
    (pss_cons (ps_if (pt_cmpR op_lt (pv 4) (pv 2) (nomark _)) (pss_one (ps_ret (pe_tupN (pa_cons (pe_op op_sub (pv 2) (pv 4)) (pa_cons (pe_op op_sub (pv 3) (pv 4)) pa_nil))))) pss_nil)
    (pss_one (ps_ret (pe_tupN (pa_cons (pe_op op_sub (pv 4) (pv 3)) (pa_cons (pe_op op_sub (pv 4) (pv 2)) pa_nil))))))))), ?_⟩
  refine ⟨.ref p, rfl, p, _, rfl, SqT.of e, rfl, _, _, rfl, _, _, rfl, rfl, .int m, rfl, _, _, rfl, rfl, .inl ⟨by decide, by decide⟩, .ref p, rfl, .int m, rfl, p, f, l, m, rfl, e, _, rfl, ite2 (fun c => ?_) (fun c => ?_)⟩
  · have c1 := of_decide_eq_true c
    refine ⟨_, rfl, .int f, rfl, _, _, rfl, rfl, .int l, rfl, _, rfl, _, _, rfl, rfl, _, _, rfl, (by show 2 ≤ sizeLine; decide), fun p' H' np S e' => q p' H' np S ?_⟩
    unfold fo
    rw [if_pos c1]
    exact e'
  · have c1 : ¬ (f < 2 * m ∧ 2 * m < l) := fun z => c (decide_eq_true z)
    refine ⟨_, rfl, .int f, rfl, _, _, rfl, rfl, _, rfl, ite2 (fun d => ?_) (fun d => ?_)⟩
    · have d1 := of_decide_eq_true d
      refine ⟨.int f, rfl, _, rfl, _, _, rfl, rfl, .int l, rfl, _, rfl, _, _, rfl, rfl, (by show 2 ≤ sizeLine; decide), fun p' H' np S e' => q p' H' np S ?_⟩
      unfold fo
      rw [if_neg c1, if_pos d1]
      exact e'
    · have d1 : ¬ 2 * m < f := fun z => d (decide_eq_true z)
      refine ⟨_, rfl, .int l, rfl, _, _, rfl, rfl, _, rfl, .int f, rfl, _, _, rfl, rfl, (by show 2 ≤ sizeLine; decide), fun p' H' np S e' => q p' H' np S ?_⟩
      unfold fo
      rw [if_neg c1, if_neg d1]
      exact e'
theorem be_snoc (r : Int × Int) (ws : List Int) (m : Int) : be r (ws ++ [m]) = fo (be r ws).1 (be r ws).2 m := by
  unfold be
  rw [List.foldl_append]
  rfl
def sp_behind : Sp := fun vs H Q _ => ∃ (p q : Addr) (r : Int × Int) (ws : List Int), vs = [.ref p, .ref q] ∧ H p = some (.tup [.int r.1, .int r.2]) ∧ H q = some (.tup (ws.map V.int)) ∧
  ∀ (p' : Addr) (H' : Hp), Same H H' → H' p' = some (.tup [.int (be r ws).1, .int (be r ws).2]) → Q (.ref p') H'
abbrev LV_behind : Nat := 3
theorem ok_behind {f : Addr} {fd : FuncData} (F : Fun K "behind" "behind" s_behind f fd) (Z : Bl mg) (G_folded : Kn P w K mg base "folded" P_folded LV_folded sp_folded) : FnOk P w K mg base CX0 LV_behind f fd P_behind sp_behind := by
  refine F.ok sc_behind (fun vs H Q E h => ?_) (fun cdv A outer s H vs Q E hr h => ?_)
  · obtain ⟨p, q, r, ws, rfl, _⟩ := h
    rfl
  obtain ⟨p, u, r, ws, rfl, e, eu, q⟩ := h
  refine ⟨_, (pss_cons (ps_set (i := 2) sc_behind.nd rfl (Or.inl rfl) (pv 0))
    (pss_cons (ps_for PassesOwn.never rfl (pi_tup (pv 1)) (pg_name (i := 3) sc_behind.nd rfl (Or.inl rfl))
    (pss_one (ps_set (i := 2) sc_behind.nd rfl (Or.inl rfl) (pe_own G_folded (hr.mono (by decide)) (by rfl) (pa_cons (pv 2) (pa_cons (pv 3) pa_nil))))))
    (pss_one (ps_ret (pv 2))))), ?_⟩
  refine ⟨.ref p, rfl, .ref u, rfl, u, rfl, ⟨_, SqT.of eu⟩, for_tup (K := K) (a := u) (xs := ws.map V.int) (fun i σ H' => ∃ p' y, σ = [some (.ref p), some (.ref u), some (.ref p'), y] ∧ Same H H' ∧ H' p' = some (.tup [.int (be r (ws.take i)).1, .int (be r (ws.take i)).2]))
    ⟨p, none, rfl, Same.refl _, e⟩ (fun i σ H' _ hP => ?_) (fun i x σ H' hx hP => ?_) (fun σ H' hP => ?_)⟩
  · obtain ⟨_, _, _, S, _⟩ := hP
    exact SqT.of (S _ _ eu)
  · obtain ⟨p', y, rfl, S, e'⟩ := hP
    obtain ⟨m, _, rfl, hm⟩ := item_int hx
    refine ⟨.ref p', rfl, .int m, rfl, p', _, _, m, rfl, e', fun p2 H2 np S2 e2 => ?_⟩
    refine ⟨p2, _, rfl, S.trans S2, ?_⟩
    rw [List.take_add_one, hm]
    show H2 p2 = some (.tup [.int (be r (ws.take i ++ [m])).1, .int (be r (ws.take i ++ [m])).2])
    rw [be_snoc]
    exact e2
  · obtain ⟨p', y, rfl, S, e'⟩ := hP
    rw [List.length_map, List.take_length] at e'
    exact ⟨_, rfl, q p' H' S e'⟩
/-! ### a run by draws -/
def sp_l_run : Sp := fun vs H Q _ => ∃ (t : Addr) (b : Nat), vs = [.ref t] ∧ Tp (b + 4) H t ∧
  ∀ (p : Addr) (f l : Int) (H' : Hp), Odds f l → l < 1000000000000 → Un t H H' → Tp b H' t → H' p = some (.tup [.int f, .int l]) → Q (.ref p) H'
abbrev LV_l_run : Nat := 2
theorem ok_l_run {f : Addr} {fd : FuncData} (F : Fun K "_law_run" "_law_run" s_l_run f fd) (Z : Bl mg) (G_l_draw : Kn P w K mg base "_law_draw" P_l_draw LV_l_draw sp_l_draw) : FnOk P w K mg base CX0 LV_l_run f fd P_l_run sp_l_run := by
  refine F.ok sc_l_run (fun vs H Q E h => ?_) (fun cdv A outer s H vs Q E hr h => ?_)
  · obtain ⟨t, b, rfl, _⟩ := h
    rfl
  obtain ⟨t, b, rfl, hT, q⟩ := h
  refine ⟨_, (pss_cons (ps_set (i := 1) sc_l_run.nd rfl (Or.inl rfl) (pe_op op_add (pe_op op_mul pe_int (pe_own G_l_draw (hr.mono (by decide)) (by rfl) (pa_cons (pv 0) (pa_cons (pe_ix ix_seq (pe_lstN (pa_cons pe_int (pa_cons pe_int (pa_cons pe_int pa_nil)))) (pe_own G_l_draw (hr.mono (by decide)) (by rfl) (pa_cons (pv 0) (pa_cons pe_int pa_nil))) (fun _ _ => rfl)) pa_nil)))) pe_int))
    (pss_one (ps_ret (pe_tupN (pa_cons (pv 1) (pa_cons (pe_op op_add (pv 1) (pe_op op_mul pe_int (pe_own G_l_draw (hr.mono (by decide)) (by rfl) (pa_cons (pv 0) (pa_cons (pe_ix ix_seq (pe_lstN (pa_cons pe_int (pa_cons pe_int (pa_cons pe_int (pa_cons (pe_op op_pow pe_int pe_int) pa_nil))))) (pe_own G_l_draw (hr.mono (by decide)) (by rfl) (pa_cons (pv 0) (pa_cons pe_int pa_nil))) (fun _ _ => rfl)) pa_nil))))) pa_nil)))))), ?_⟩
  refine ⟨.ref t, rfl, (by show 3 ≤ sizeLine; decide), fun p1 H1 np1 S1 e1 => ⟨.ref t, rfl, t, 3, b + 3, rfl, by decide, by decide, hT.same S1, fun i1 H2 a1 b1 U1 T1 => ?_⟩⟩
  obtain ⟨n1, hn1, hp1⟩ := pick (xs := [1, 5, 60]) a1 b1
  have hn1' : n1 = 1 ∨ n1 = 5 ∨ n1 = 60 := by simpa using hn1
  refine .inl ⟨p1, _, _, _, rfl, rfl, SqL.of (U1 _ _ (hT.nn np1) e1), hp1, t, n1, b + 2, rfl, by omega, by omega, T1, fun i2 H3 a2 b2 U2 T2 => ?_⟩
  refine ⟨_, _, rfl, rfl, .inl ⟨by decide, by decide⟩, _, _, rfl, rfl, _, rfl, _, rfl, .ref t, rfl, _, _, rfl, rfl, ⟨by decide, by decide, by decide⟩, (by show 4 ≤ sizeLine; decide), fun p4 H4 np4 S4 e4 => ⟨.ref t, rfl, t, 4, b + 1, rfl, by decide, by decide, T2.same S4, fun i5 H5 a5 b5 U5 T5 => ?_⟩⟩
  obtain ⟨n5, hn5, hp5⟩ := pick (xs := [1, 4, 200, 100000000000]) a5 b5
  have hn5' : n5 = 1 ∨ n5 = 4 ∨ n5 = 200 ∨ n5 = 100000000000 := by simpa using hn5
  refine .inl ⟨p4, _, _, _, rfl, rfl, SqL.of (U5 _ _ (T2.nn np4) e4), hp5, t, n5, b, rfl, by omega, by omega, T5, fun i6 H6 a6 b6 U6 T6 => ?_⟩
  refine ⟨_, _, rfl, rfl, .inl ⟨by decide, by decide⟩, _, _, rfl, rfl, (by show 2 ≤ sizeLine; decide), fun p7 H7 np7 S7 e7 => ?_⟩
  exact q p7 _ _ H7 ⟨by omega, by omega, by omega, by omega⟩ (by omega) ((Un.same S1).trans (U1.trans (U2.trans ((Un.same S4).trans (U5.trans (U6.trans (Un.same S7))))))) (T6.same S7) e7
end
end Pan
namespace Pan
open PySem PySem.Spec PyProof.Rows L2
section
variable {P : Program} {w : World} {K : PySem.W.Frag} {mg : Str → Option Value} {base : Heap}
theorem Drawn.start {t D : Addr} {H1 : Hp} {m : Int} {c : Nat} (nD : H1 D = none) (T : Tp c H1 t) : Drawn t D H1 m c 0 (upd H1 D (.lst [])) :=
  ⟨[], rfl, (fun _ h => absurd h List.not_mem_nil), upd_same, Un.same (same_upd nD), T.same (same_upd nD)⟩
theorem Drawn.more {t D : Addr} {H1 H' H2 : Hp} {m v : Int} {c d i : Nat} (nD : H1 D = none) (T1 : Tp d H1 t) (h : ∃ ws : List Int, ws.length = i ∧ (∀ w ∈ ws, 1 ≤ w ∧ w ≤ m) ∧ H' D = some (.lst (ws.map V.int)) ∧ Un t H1 H') (h1 : 1 ≤ v) (h2 : v ≤ m) (U : Un t H' H2) (T : Tp c H2 t) (hi : i < 1000) :
    ∃ acc, H2 D = some (.lst acc) ∧ acc.length < sizeLine ∧ Drawn t D H1 m c (i + 1) (upd H2 D (.lst (acc ++ [.int v]))) := by
  obtain ⟨ws, hl, hw, e, U1⟩ := h
  have nt : D ≠ t := T1.nn nD
  refine ⟨_, U D _ nt e, szl (by rw [List.length_map]; omega), ws ++ [v], by rw [List.length_append, hl]; rfl, fun x hx => ?_, ?_, ?_, ?_⟩
  · rcases List.mem_append.mp hx with h | h
    · exact hw x h
    · have : x = v := by simpa using h
      subst this
      exact ⟨h1, h2⟩
  · rw [upd_same, List.map_append]
    rfl
  · exact fun a o n ea => by
      rw [upd_ne (ne_of_none ea nD)]
      exact U a o n (U1 a o n ea)
  · obtain ⟨x, y, z, et, r⟩ := T
    exact ⟨x, y, z, by rw [upd_ne nt.symm]; exact et, r⟩
/-! ### one cell -/
def sp_l_right : Sp := fun vs H Q _ => ∃ (t : Addr), vs = [.ref t] ∧ Tp 1000000 H t ∧ ∀ (H' : Hp), Un t H H' → Q (.bl true) H'
abbrev LV_l_right : Nat := 4
theorem ok_l_right {f : Addr} {fd : FuncData} (F : Fun K "_law_right" "_law_right" s_l_right f fd) (Z : Bl mg) (G_spots : Kn P w K mg base "spots" P_spots LV_spots sp_spots) (G_parts : Kn P w K mg base "parts" P_parts LV_parts sp_parts) (G_folded : Kn P w K mg base "folded" P_folded LV_folded sp_folded) (G_behind : Kn P w K mg base "behind" P_behind LV_behind sp_behind) (G_l_draw : Kn P w K mg base "_law_draw" P_l_draw LV_l_draw sp_l_draw) (G_l_weight : Kn P w K mg base "_law_weight" P_l_weight LV_l_weight sp_l_weight) (G_l_run : Kn P w K mg base "_law_run" P_l_run LV_l_run sp_l_run) : FnOk P w K mg base CX0 LV_l_right f fd P_l_right sp_l_right := by
  refine F.ok sc_l_right (fun vs H Q E h => ?_) (fun cdv A outer s H vs Q E hr h => ?_)
  · obtain ⟨t, rfl, _⟩ := h
    rfl
  obtain ⟨t, rfl, hT, q⟩ := h
  refine ⟨_, (pss_cons (ps_for PassesOwn.never rfl (pi_range1 (by rfl) Z.range (pa_cons pe_int pa_nil)) (pg_name (i := 1) sc_l_right.nd rfl (Or.inl rfl))
    (pss_cons (ps_set (i := 2) sc_l_right.nd rfl (Or.inl rfl) (pe_own G_l_run (hr.mono (by decide)) (by rfl) (pa_cons (pv 0) pa_nil)))
    (pss_cons (ps_set (i := 3) sc_l_right.nd rfl (Or.inl rfl) (pe_lstN (pa_cons (pe_op op_add pe_int (pe_own G_l_draw (hr.mono (by decide)) (by rfl) (pa_cons (pv 0) (pa_cons (pe_ix ix_seq (pv 2) pe_int (fun _ _ => rfl)) pa_nil)))) (pa_cons (pe_callB (call_max2 rfl) (by rfl) Z.max (by decide +kernel) (pa_cons pe_int (pa_cons (pe_op op_fdivW (pe_op op_add (pe_ix ix_seq (pv 2) pe_int (fun _ _ => rfl)) (pe_ix ix_seq (pv 2) pe_int (fun _ _ => rfl))) pe_int) pa_nil))) (pa_cons (pe_op op_add (pe_op op_fdivW (pe_ix ix_seq (pv 2) pe_int (fun _ _ => rfl)) pe_int) pe_int) (pa_cons (pe_callB (call_max2 rfl) (by rfl) Z.max (by decide +kernel) (pa_cons pe_int (pa_cons (pe_op op_fdivW (pe_ix ix_seq (pv 2) pe_int (fun _ _ => rfl)) pe_int) pa_nil))) pa_nil))))))
    (pss_cons (ps_for PassesOwn.never rfl (pi_list (pv 3)) (pg_name (i := 4) sc_l_right.nd rfl (Or.inl rfl))
    (pss_cons (ps_set (i := 5) sc_l_right.nd rfl (Or.inl rfl) (pe_callB (call_max2 rfl) (by rfl) Z.max (by decide +kernel) (pa_cons pe_int (pa_cons (pe_callB (call_min2 rfl) (by rfl) Z.min (by decide +kernel) (pa_cons (pe_own G_spots (hr.mono (by decide)) (by rfl) (pa_cons (pv 2) pa_nil)) (pa_cons (pe_op op_fdivW (pe_op op_add (pe_op op_sub (pe_op op_mul pe_int (pv 4)) (pe_ix ix_seq (pv 2) pe_int (fun _ _ => rfl))) pe_int) pe_int) pa_nil))) pa_nil))))
    (pss_cons (ps_par (i := 6) (j := 7) (by rfl) sc_l_right.nd rfl rfl (by decide) rfl rfl (pa_cons (pe_own G_folded (hr.mono (by decide)) (by rfl) (pa_cons (pv 2) (pa_cons (pv 4) pa_nil))) (pa_cons (pe_callB (call_min2 rfl) (by rfl) Z.min (by decide +kernel) (pa_cons (pv 5) (pa_cons (pe_op op_sub (pe_own G_spots (hr.mono (by decide)) (by rfl) (pa_cons (pv 2) pa_nil)) (pv 5)) pa_nil))) pa_nil)) (by rfl))
    (pss_cons (ps_if (PW.pt (pw_or (pt_cmpR op_ne (pe_own G_spots (hr.mono (by decide)) (by rfl) (pa_cons (pv 6) pa_nil)) (pe_op op_sub (pe_own G_spots (hr.mono (by decide)) (by rfl) (pa_cons (pv 2) pa_nil)) (pv 7)) (nomark _)) (pw_or1 (pt_cmpR op_lt (pe_op op_mul pe_int (pe_own G_spots (hr.mono (by decide)) (by rfl) (pa_cons (pv 6) pa_nil))) (pe_own G_spots (hr.mono (by decide)) (by rfl) (pa_cons (pv 2) pa_nil)) (nomark _))))) (pss_one (ps_ret pe_bl)) pss_nil)
    (pss_one (ps_if (PW.pt (pw_or (pt_cmpR op_ne (pe_own G_parts (hr.mono (by decide)) (by rfl) (pa_cons (pv 2) (pa_cons (pv 4) pa_nil))) (pe_cmpR op_gt (pv 7) pe_int (nomark _)) (nomark _)) (pw_or1 (PW.pt (pw_and (pt_cmpR op_gt (pv 7) pe_int (nomark _)) (pw_and1 (pt_cmpR op_ne (pe_ix ix_seq (pv 6) pe_int (fun _ _ => rfl)) pe_int (nomark _)))))))) (pss_one (ps_ret pe_bl)) pss_nil))))))
    (pss_cons (ps_set (i := 8) sc_l_right.nd rfl (Or.inr rfl) (pe_op op_add pe_int (pe_own G_l_draw (hr.mono (by decide)) (by rfl) (pa_cons (pv 0) (pa_cons pe_int pa_nil)))))
    (pss_cons (ps_par (i := 9) (j := 10) (by rfl) sc_l_right.nd rfl rfl (by decide) rfl rfl (pa_cons (pe_callTy call_tupleN (by rfl) Z.tuple (by decide +kernel) (pa_cons (pe_lc (own := [("_law_k", 14)]) (g := (gName 14)) (tt := tYes) (by rfl) sc_l_right.nd (pi_range1 (by rfl) Z.range (pa_cons (pe_own G_l_draw (hr.mono (by decide)) (by rfl) (pa_cons (pv 0) (pa_cons pe_int pa_nil))) pa_nil)) (blkOk_by (own := [("_law_k", 14)]) (N := N_l_right) (sc := defScope s_l_right) (by decide +kernel)) (fun _ _ _ _ _ => (pg_name (i := 14) sc_l_right.nd rfl (Or.inl rfl))) (fun _ _ _ _ _ => pts_nil) (fun _ _ _ _ _ => (pe_own G_l_weight (hr.mono (by decide)) (by rfl) (pa_cons (pv 0) (pa_cons (pv 8) pa_nil))))) pa_nil)) (pa_cons (pe_tupN (pa_cons pe_int (pa_cons (pe_op op_sub (pe_op op_mul pe_int (pv 8)) pe_int) pa_nil))) pa_nil)) (by rfl))
    (pss_cons (ps_set (i := 11) sc_l_right.nd rfl (Or.inl rfl) (pe_op op_add (pe_op op_mul pe_int (pe_own G_l_draw (hr.mono (by decide)) (by rfl) (pa_cons (pv 0) (pa_cons (pv 8) pa_nil)))) pe_int))
    (pss_cons (ps_set (i := 3) sc_l_right.nd rfl (Or.inl rfl) (pe_tupN (pa_cons (pv 11) (pa_cons (pe_op op_add (pv 11) (pe_op op_mul pe_int (pe_own G_l_draw (hr.mono (by decide)) (by rfl) (pa_cons (pv 0) (pa_cons (pe_op op_sub (pv 8) (pe_op op_fdivW (pv 11) pe_int)) pa_nil))))) pa_nil))))
    (pss_cons (ps_par (i := 12) (j := 13) (by rfl) sc_l_right.nd rfl rfl (by decide) rfl rfl (pa_cons (pe_own G_behind (hr.mono (by decide)) (by rfl) (pa_cons (pv 10) (pa_cons (pv 9) pa_nil))) (pa_cons (pe_own G_behind (hr.mono (by decide)) (by rfl) (pa_cons (pv 3) (pa_cons (pv 9) pa_nil))) pa_nil)) (by rfl))
    (pss_one (ps_if (pt_not (pt_chainN pe_int (ch_link op_le (pe_ix ix_seq (pv 12) pe_int (fun _ _ => rfl)) (ch_link op_le (pe_ix ix_seq (pv 13) pe_int (fun _ _ => rfl)) (ch_link op_le (pe_ix ix_seq (pv 13) pe_int (fun _ _ => rfl)) (ch_link op_le (pe_ix ix_seq (pv 12) pe_int (fun _ _ => rfl)) (ch_last op_le (pe_op op_sub (pe_op op_mul pe_int (pv 8)) pe_int)))))))) (pss_one (ps_ret pe_bl)) pss_nil)))))))))))
    (pss_one (ps_ret pe_bl))), ?_⟩
  refine ⟨12, rfl, by decide, by decide, for_range (lo := 0) (n := 12) (fun i σ H' => (∃ y1 y2 y3 y4 y5 y6 y7 y8 y9 y10 y11 y12 y13 y14, σ = [some (.ref t), y1, y2, y3, y4, y5, y6, y7, y8, y9, y10, y11, y12, y13, y14]) ∧ Un t H H' ∧ Tp (1000 * (12 - i)) H' t)
    ⟨⟨none, none, none, none, none, none, none, none, none, none, none, none, none, none, rfl⟩, Un.refl _ _, hT.le (by decide)⟩ (fun i σ H0 hi hP => ?_) (fun σ H' hP => ?_)⟩
  rotate_left
  · obtain ⟨⟨y1, y2, y3, y4, y5, y6, y7, y8, y9, y10, y11, y12, y13, y14, rfl⟩, U, _⟩ := hP
    exact q _ U
  obtain ⟨⟨y1, y2, y3, y4, y5, y6, y7, y8, y9, y10, y11, y12, y13, y14, rfl⟩, U0, T0⟩ := hP
  -- run_here
  refine ⟨.ref t, rfl, t, 1000 * (12 - i) - 4, rfl, T0.le (by omega), fun p f l H1 hO hl U1 T1 e1 => ?_⟩
  obtain ⟨of, ol, f1, fl⟩ := hO
  -- some
  refine ⟨.ref t, rfl, .ref p, rfl, .inr (.inl ⟨p, _, 1, .int l, rfl, rfl, SqT.of e1, rfl, t, l, 1000 * (12 - i) - 5, rfl, by omega, by omega, T1.le (by omega), fun i2 H2 a2 b2 U2 T2 => ?_⟩)⟩
  have e2 := U2 _ _ (T1.ne e1) e1
  refine ⟨_, _, rfl, rfl, .ref p, rfl, .inr (.inl ⟨p, _, 0, .int f, rfl, rfl, SqT.of e2, rfl, .ref p, rfl, .inr (.inl ⟨p, _, 1, .int l, rfl, rfl, SqT.of e2, rfl, _, _, rfl, rfl, _, _, rfl, rfl, wide_div (b := 62) (by decide) (by decide) (by decide) (by decide), _, _, rfl,
    .ref p, rfl, .inr (.inl ⟨p, _, 1, .int l, rfl, rfl, SqT.of e2, rfl, _, _, rfl, rfl, wide_div (b := 62) (by decide) (by decide) (by decide) (by decide), _, _, rfl, rfl,
    .ref p, rfl, .inr (.inl ⟨p, _, 0, .int f, rfl, rfl, SqT.of e2, rfl, _, _, rfl, rfl, wide_div (b := 62) (by decide) (by decide) (by decide) (by decide), _, _, rfl, (by show 4 ≤ sizeLine; decide), fun p3 H3 np3 S3 e3 => ?_⟩)⟩)⟩)⟩)⟩
  have e4 := S3 _ _ e2
  -- for each weight
  refine ⟨.ref p3, rfl, p3, rfl, ⟨_, SqL.of e3⟩, for_list (K := K) (a := p3) (fun j σ H' => (∃ z4 z5 z6 z7, σ = [some (.ref t), some (.int (0 + (i : Nat))), some (.ref p), some (.ref p3), z4, z5, z6, z7, y8, y9, y10, y11, y12, y13, y14]) ∧ Same H3 H')
    ⟨⟨y4, y5, y6, y7, rfl⟩, Same.refl _⟩ (fun j σ H' _ hP => SqL.of (hP.2 _ _ e3)) (fun j x σ H' hx hP => ?_) (fun σ H' hP => ?_)⟩
  · obtain ⟨⟨z4, z5, z6, z7, rfl⟩, S⟩ := hP
    obtain ⟨m, rfl, hm⟩ : ∃ m, x = .int m ∧ 1 ≤ m := by
      match j, hx with
      | 0, hx => exact ⟨_, (Option.some.inj hx).symm, by omega⟩
      | 1, hx => exact ⟨_, (Option.some.inj hx).symm, by split <;> omega⟩
      | 2, hx => exact ⟨_, (Option.some.inj hx).symm, by omega⟩
      | 3, hx => exact ⟨_, (Option.some.inj hx).symm, by split <;> omega⟩
      | n + 4, hx => exact nomatch hx
    have e := S _ _ e4
    -- below
    refine ⟨.ref p, rfl, p, f, l, rfl, e, .int m, rfl, _, _, rfl, rfl, .inl ⟨by decide, by decide⟩, .ref p, rfl, .inr (.inl ⟨p, _, 0, .int f, rfl, rfl, SqT.of e, rfl, _, _, rfl, rfl, _, _, rfl, rfl, _, _, rfl, rfl, wide_div (b := 62) (by decide) (by decide) (by decide) (by decide), _, _, rfl, _, _, rfl, ?_⟩)⟩
    generalize hB : (if (if (2 * m - f + 1) / 2 < (l - f) / 2 + 1 then (2 * m - f + 1) / 2 else (l - f) / 2 + 1) > 0 then (if (2 * m - f + 1) / 2 < (l - f) / 2 + 1 then (2 * m - f + 1) / 2 else (l - f) / 2 + 1) else 0) = bel
    -- here, less
    refine ⟨.ref p, rfl, .int m, rfl, p, f, l, m, rfl, e, fun p6 H6 np6 S6 e6 => ?_⟩
    have e' := S6 _ _ e
    refine ⟨_, rfl, .ref p, rfl, p, f, l, rfl, e', _, rfl, _, _, rfl, rfl, _, _, rfl, _, _, rfl, ?_⟩
    generalize hL : (if (l - f) / 2 + 1 - bel < bel then (l - f) / 2 + 1 - bel else bel) = less
    have key : ((fo f l m).2 - (fo f l m).1) / 2 + 1 = (l - f) / 2 + 1 - less ∧ ¬ 2 * (((fo f l m).2 - (fo f l m).1) / 2 + 1) < (l - f) / 2 + 1 ∧ ((f < 2 * m ∧ 2 * m < l) ↔ 0 < less) ∧ (0 < less → (fo f l m).1 = 1) := by
      subst hL hB
      unfold fo
      (repeat' split) <;> (try dsimp only) <;> omega
    obtain ⟨k1, k2, k3, k4⟩ := key
    refine ⟨.ref p6, rfl, p6, _, _, rfl, e6, .ref p, rfl, p, f, l, rfl, e', _, rfl, _, _, rfl, rfl, rfl, _, rfl, iteNS (congrArg V.int k1) ?_⟩
    refine ⟨.ref p6, rfl, p6, _, _, rfl, e6, _, _, rfl, rfl, .inl ⟨by decide, by decide⟩, .ref p, rfl, p, f, l, rfl, e', _, _, rfl, rfl, _, rfl, iteDN k2 ?_⟩
    refine ⟨.ref p, rfl, .int m, rfl, p, f, l, m, rfl, e', _, rfl, _, _, rfl, rfl, rfl, _, rfl, iteNS (congrArg V.bl (decide_eq_decide.mpr k3)) ?_⟩
    refine ⟨_, rfl, _, _, rfl, rfl, _, rfl, ite2 (fun c => ?_) (fun c => ?_)⟩
    · refine ⟨.ref p6, rfl, .inr (.inl ⟨p6, _, 0, _, rfl, rfl, SqT.of e6, rfl, rfl, _, rfl, iteNS (congrArg V.int (k4 (of_decide_eq_true c))) ?_⟩)⟩
      exact ⟨⟨_, _, _, _, rfl⟩, S.trans S6⟩
    · refine iteF ?_
      exact ⟨⟨_, _, _, _, rfl⟩, S.trans S6⟩
  · obtain ⟨⟨z4, z5, z6, z7, rfl⟩, S⟩ := hP
    -- most
    refine ⟨.ref t, rfl, t, 24, 1000 * (12 - i) - 6, rfl, by decide, by decide, ((T2.same S3).same S).le (by omega), fun i8 H8 a8 b8 U8 T8 => ?_⟩
    refine ⟨_, _, rfl, rfl, ?_⟩
    -- word, every
    refine ⟨.ref t, rfl, t, 12, 1000 * (12 - i) - 7, rfl, by decide, by decide, T8.le (by omega), fun n9 H9 a9 b9 U9 T9 => ?_⟩
    refine ⟨n9, rfl, by omega, by omega, fun D nD => lc_range (lo := 0) (n := n9.toNat) (fun j H' => Drawn t D H9 (1 + i8) (1000 * (12 - i) - 7 - 3 * j) j H') (Drawn.start nD T9) (fun j H' hj hP => ?_) (fun H' hP => ?_)⟩
    · obtain ⟨ws, h1, h2, h3, h4, h5⟩ := hP
      refine ⟨rfl, .ref t, rfl, _, rfl, t, 1 + i8, 1000 * (12 - i) - 7 - 3 * (j + 1), rfl, by omega, by omega, h5.le (by omega), fun v H2 hv1 hv2 U T => ?_⟩
      exact Drawn.more nD T9 ⟨ws, h1, h2, h3, h4⟩ hv1 hv2 U T (by omega)
    · obtain ⟨ws, h1, h2, h3, h4, h5⟩ := hP
      refine ⟨D, _, rfl, SqL.of h3, fun p10 H10 np10 S10 e10 => ?_⟩
      refine ⟨_, rfl, _, _, rfl, rfl, .inl ⟨by decide, by decide⟩, _, _, rfl, rfl, (by show 2 ≤ sizeLine; decide), fun p11 H11 np11 S11 e11 => ?_⟩
      refine ⟨_, _, rfl, ?_⟩
      -- low
      have T11 := (h5.same S10).same S11
      refine ⟨.ref t, rfl, _, rfl, t, 1 + i8, 1000 * (12 - i) - 50, rfl, by omega, by omega, T11.le (by omega), fun i12 H12 a12 b12 U12 T12 => ?_⟩
      refine ⟨_, _, rfl, rfl, .inl ⟨by decide, by decide⟩, _, _, rfl, rfl, ?_⟩
      -- some
      refine ⟨_, rfl, _, rfl, .ref t, rfl, _, rfl, _, rfl, _, _, rfl, rfl, wide_div (b := 62) (by decide) (by decide) (by decide) (by decide), _, _, rfl, rfl, t, _, 1000 * (12 - i) - 51, rfl, by omega, by omega, T12.le (by omega), fun i13 H13 a13 b13 U13 T13 => ?_⟩
      refine ⟨_, _, rfl, rfl, .inl ⟨by decide, by decide⟩, _, _, rfl, rfl, (by show 2 ≤ sizeLine; decide), fun p14 H14 np14 S14 e14 => ?_⟩
      have n10 : p10 ≠ t := (h5.same S10).ne e10
      have n11 : p11 ≠ t := T11.ne e11
      have f10 : H14 p10 = some (.tup (ws.map V.int)) := S14 _ _ (U13 _ _ n10 (U12 _ _ n10 (S11 _ _ e10)))
      have f11 := S14 _ _ (U13 _ _ n11 (U12 _ _ n11 e11))
      refine ⟨.ref p11, rfl, .ref p10, rfl, p11, p10, (1, 2 * (1 + i8) - 1), ws, rfl, f11, f10, fun p15 H15 S15 e15 => ?_⟩
      refine ⟨.ref p14, rfl, .ref p10, rfl, p14, p10, (2 * i12 + 1, 2 * i12 + 1 + 2 * i13), ws, rfl, S15 _ _ e14, S15 _ _ f10, fun p16 H16 S16 e16 => ?_⟩
      refine ⟨_, _, rfl, ?_⟩
      have hin : In2 (1 + i8) (be (1, 2 * (1 + i8) - 1) ws) (be (2 * i12 + 1, 2 * i12 + 1 + 2 * i13) ws) := be_in ws _ _ ⟨⟨by show (1 : Int) % 2 = 1; decide, by show (2 * (1 + i8) - 1) % 2 = 1; omega, by show (1 : Int) ≤ 1; decide, by show 1 ≤ 2 * (1 + i8) - 1; omega⟩, ⟨by show (2 * i12 + 1) % 2 = 1; omega, by show (2 * i12 + 1 + 2 * i13) % 2 = 1; omega, by show 1 ≤ 2 * i12 + 1; omega, by show 2 * i12 + 1 ≤ 2 * i12 + 1 + 2 * i13; omega⟩, by show 1 ≤ 2 * i12 + 1; omega, by show 2 * i12 + 1 + 2 * i13 ≤ 2 * (1 + i8) - 1; omega, Int.le_refl _⟩ h2
      have f15 := S16 _ _ e15
      generalize be (1, 2 * (1 + i8) - 1) ws = wd at hin f15
      generalize be (2 * i12 + 1, 2 * i12 + 1 + 2 * i13) ws = sl at hin e16
      obtain ⟨⟨_, _, w1, w2⟩, ⟨_, _, v1, v2⟩, x1, x2, x3⟩ := hin
      refine ⟨.ref p15, rfl, .inr (.inl ⟨p15, _, 0, _, rfl, rfl, SqT.of f15, rfl, _, _, rfl, rfl, _, rfl, iteD w1 ?_⟩)⟩
      refine ⟨.ref p16, rfl, .inr (.inl ⟨p16, _, 0, _, rfl, rfl, SqT.of e16, rfl, _, _, rfl, rfl, _, rfl, iteD x1 ?_⟩)⟩
      refine ⟨.ref p16, rfl, .inr (.inl ⟨p16, _, 1, _, rfl, rfl, SqT.of e16, rfl, _, _, rfl, rfl, _, rfl, iteD v2 ?_⟩)⟩
      refine ⟨.ref p15, rfl, .inr (.inl ⟨p15, _, 1, _, rfl, rfl, SqT.of f15, rfl, _, _, rfl, rfl, _, rfl, iteD x2 ?_⟩)⟩
      refine ⟨_, rfl, _, _, rfl, rfl, .inl ⟨by decide, by decide⟩, _, _, rfl, rfl, _, _, rfl, rfl, _, rfl, iteNS x3 ?_⟩
      refine ⟨⟨_, _, _, _, _, _, _, _, _, _, _, _, _, _, rfl⟩, ?_, ?_⟩
      · exact U0.trans (U1.trans (U2.trans ((Un.same S3).trans ((Un.same S).trans (U8.trans (U9.trans (h4.trans ((Un.same S10).trans ((Un.same S11).trans (U12.trans (U13.trans ((Un.same S14).trans ((Un.same S15).trans (Un.same S16))))))))))))))
      · exact (((T13.same S14).same S15).same S16).le (by omega)
/-! ### the law -/
def spLaw (K : PySem.W.Frag) : Sp := fun vs H Q _ => ∃ (a : Addr) (ns : List Int), vs = [.ref a] ∧ SqL K H a (ns.map V.int) ∧ ns.length ≤ 63 ∧ ∀ H', Q (.bl true) H'
theorem ok_law {f : Addr} {fd : FuncData} (F : Fun K "law" "law" s_law f fd) (Z : Bl mg) (G_l_tape : Kn P w K mg base "_law_tape" P_l_tape LV_l_tape sp_l_tape) (G_l_folded : Kn P w K mg base "_law_folded" P_l_folded LV_l_folded (sp_l_folded K)) (G_l_right : Kn P w K mg base "_law_right" P_l_right LV_l_right sp_l_right) : FnOk P w K mg base CX0 5 f fd P_law (spLaw K) := by
  refine F.ok sc_law (fun vs H Q E h => ?_) (fun cdv A outer s H vs Q E hr h => ?_)
  · obtain ⟨a, ns, rfl, _⟩ := h
    rfl
  obtain ⟨a, ns, rfl, ha, hl, q⟩ := h
  refine ⟨_, (pss_cons (ps_set (i := 1) sc_law.nd rfl (Or.inr rfl) (pe_own G_l_folded (hr.mono (by decide)) (by rfl) (pa_cons (pv 0) (pa_cons pe_int pa_nil))))
    (pss_one (ps_ret (pe_callB (cr_all rfl) (by rfl) Z.all (by decide +kernel) (pa_cons (pe_lc (own := [("_law_k", 2)]) (g := (gName 2)) (tt := tYes) (by rfl) sc_law.nd (pi_range1 (by rfl) Z.range (pa_cons (pe_callB (call_max2 rfl) (by rfl) Z.max (by decide +kernel) (pa_cons pe_int (pa_cons (pe_callB call_lenN (by rfl) Z.len (by decide +kernel) (pa_cons (pv 1) pa_nil)) pa_nil))) pa_nil)) (blkOk_by (own := [("_law_k", 2)]) (N := N_law) (sc := defScope s_law) (by decide +kernel)) (fun _ _ _ _ _ => (pg_name (i := 2) sc_law.nd rfl (Or.inl rfl))) (fun _ _ _ _ _ => pts_nil) (fun _ _ _ _ _ => (pe_own G_l_right (hr.mono (by decide)) (by rfl) (pa_cons (pe_own G_l_tape (hr.mono (by decide)) (by rfl) (pa_cons (pv 1) (pa_cons (pv 2) pa_nil))) pa_nil)))) pa_nil))))), ?_⟩
  refine ⟨.ref a, rfl, a, ns, 4, rfl, ha, hl, by decide, by decide, fun p cs H1 np S1 e1 hc => ?_⟩
  refine ⟨.ref p, rfl, p, _, rfl, .inl (SqL.of e1), _, _, rfl, _, rfl, ?_⟩
  have hlen : (cs.map V.int).length ≤ 4 := by rw [List.length_map]; exact hc
  refine ⟨by split <;> omega, by split <;> omega, fun D nD => lc_range (lo := 0) (n := _) (fun j H' => Same H1 H' ∧ H' D = some (.lst ((List.replicate j true).map V.bl))) ⟨same_upd nD, upd_same⟩ (fun j H' hj hP => ?_) (fun H' hP => ?_)⟩
  · have hj4 : j < 4 := by
      revert hj
      split <;> intro hj <;> omega
    refine ⟨rfl, .ref p, rfl, _, rfl, p, cs, _, rfl, hP.1 _ _ e1, by omega, by omega, fun t H2 nt S2 T2 => ⟨t, rfl, T2.le (by decide), fun H3 U3 => ?_⟩⟩
    have S3 : Same H' H3 := U3.fresh S2 nt
    refine ⟨_, S3 _ _ hP.2, szl (by rw [List.length_map, List.length_replicate]; omega), Same.of_upd (hP.1.trans S3) nD, ?_⟩
    rw [upd_same, List.replicate_succ', List.map_append]
    rfl
  · refine ⟨D, _, rfl, SqL.of hP.2, ?_⟩
    rw [List.all_replicate]
    have e : ∀ n : Nat, (if n = 0 then true else id true) = true := fun n => by split <;> rfl
    rw [e]
    exact q _
end
end Pan
namespace Pan
open PySem PySem.Spec PyProof.Rows L2
/-! ### the end -/
theorem all_mk {l : PySem.W.OpenLaw} {w : World} {K : PySem.W.Frag} {h : Heap} {mg : Str → Option Value} {fa f0 f1 f2 f3 f4 f5 f6 f7 f8 f9 f10 : Addr} (X : K.In h) (G : h.Ns mainGlobals mg) (hfa : mg "law" = some (.ref fa))
    {od0 an0 od1 an1 od2 an2 od3 an3 od4 an4 od5 an5 od6 an6 od7 an7 od8 an8 od9 an9 od10 an10 : Option Addr} {sl0 sl1 sl2 sl3 sl4 sl5 sl6 sl7 sl8 sl9 sl10 : Array (Option Value)} {oc0 kV0 dc0 pm0 cd0 ct0 oc1 kV1 dc1 pm1 cd1 ct1 oc2 kV2 dc2 pm2 cd2 ct2 oc3 kV3 dc3 pm3 cd3 ct3 oc4 kV4 dc4 pm4 cd4 ct4 oc5 kV5 dc5 pm5 cd5 ct5 oc6 kV6 dc6 pm6 cd6 ct6 oc7 kV7 dc7 pm7 cd7 ct7 oc8 kV8 dc8 pm8 cd8 ct8 oc9 kV9 dc9 pm9 cd9 ct9 oc10 kV10 dc10 pm10 cd10 ct10 : Value}
    (a0 : PySem.W.nsIn K mainGlobals "spots" = some (some (.ref f0))) (l0 : K.lookup f0 = some ⟨oc0, od0, .func (PySem.W.fnOf "spots" "spots" (defArgs s_spots) (defBody s_spots) (defScope s_spots) .none kV0 dc0 pm0 an0 cd0 ct0), sl0⟩) (c0 : PySem.W.codeIn K cd0 "spots" = true) (k0 : PySem.W.keepIn K (.ref f0) = true)
    (a1 : PySem.W.nsIn K mainGlobals "parts" = some (some (.ref f1))) (l1 : K.lookup f1 = some ⟨oc1, od1, .func (PySem.W.fnOf "parts" "parts" (defArgs s_parts) (defBody s_parts) (defScope s_parts) .none kV1 dc1 pm1 an1 cd1 ct1), sl1⟩) (c1 : PySem.W.codeIn K cd1 "parts" = true) (k1 : PySem.W.keepIn K (.ref f1) = true)
    (a2 : PySem.W.nsIn K mainGlobals "folded" = some (some (.ref f2))) (l2 : K.lookup f2 = some ⟨oc2, od2, .func (PySem.W.fnOf "folded" "folded" (defArgs s_folded) (defBody s_folded) (defScope s_folded) .none kV2 dc2 pm2 an2 cd2 ct2), sl2⟩) (c2 : PySem.W.codeIn K cd2 "folded" = true) (k2 : PySem.W.keepIn K (.ref f2) = true)
    (a3 : PySem.W.nsIn K mainGlobals "behind" = some (some (.ref f3))) (l3 : K.lookup f3 = some ⟨oc3, od3, .func (PySem.W.fnOf "behind" "behind" (defArgs s_behind) (defBody s_behind) (defScope s_behind) .none kV3 dc3 pm3 an3 cd3 ct3), sl3⟩) (c3 : PySem.W.codeIn K cd3 "behind" = true) (k3 : PySem.W.keepIn K (.ref f3) = true)
    (a4 : PySem.W.nsIn K mainGlobals "_law_tape" = some (some (.ref f4))) (l4 : K.lookup f4 = some ⟨oc4, od4, .func (PySem.W.fnOf "_law_tape" "_law_tape" (defArgs s_l_tape) (defBody s_l_tape) (defScope s_l_tape) .none kV4 dc4 pm4 an4 cd4 ct4), sl4⟩) (c4 : PySem.W.codeIn K cd4 "_law_tape" = true) (k4 : PySem.W.keepIn K (.ref f4) = true)
    (a5 : PySem.W.nsIn K mainGlobals "_law_draw" = some (some (.ref f5))) (l5 : K.lookup f5 = some ⟨oc5, od5, .func (PySem.W.fnOf "_law_draw" "_law_draw" (defArgs s_l_draw) (defBody s_l_draw) (defScope s_l_draw) .none kV5 dc5 pm5 an5 cd5 ct5), sl5⟩) (c5 : PySem.W.codeIn K cd5 "_law_draw" = true) (k5 : PySem.W.keepIn K (.ref f5) = true)
    (a6 : PySem.W.nsIn K mainGlobals "_law_folded" = some (some (.ref f6))) (l6 : K.lookup f6 = some ⟨oc6, od6, .func (PySem.W.fnOf "_law_folded" "_law_folded" (defArgs s_l_folded) (defBody s_l_folded) (defScope s_l_folded) .none kV6 dc6 pm6 an6 cd6 ct6), sl6⟩) (c6 : PySem.W.codeIn K cd6 "_law_folded" = true) (k6 : PySem.W.keepIn K (.ref f6) = true)
    (a7 : PySem.W.nsIn K mainGlobals "_law_weight" = some (some (.ref f7))) (l7 : K.lookup f7 = some ⟨oc7, od7, .func (PySem.W.fnOf "_law_weight" "_law_weight" (defArgs s_l_weight) (defBody s_l_weight) (defScope s_l_weight) .none kV7 dc7 pm7 an7 cd7 ct7), sl7⟩) (c7 : PySem.W.codeIn K cd7 "_law_weight" = true) (k7 : PySem.W.keepIn K (.ref f7) = true)
    (a8 : PySem.W.nsIn K mainGlobals "_law_run" = some (some (.ref f8))) (l8 : K.lookup f8 = some ⟨oc8, od8, .func (PySem.W.fnOf "_law_run" "_law_run" (defArgs s_l_run) (defBody s_l_run) (defScope s_l_run) .none kV8 dc8 pm8 an8 cd8 ct8), sl8⟩) (c8 : PySem.W.codeIn K cd8 "_law_run" = true) (k8 : PySem.W.keepIn K (.ref f8) = true)
    (a9 : PySem.W.nsIn K mainGlobals "_law_right" = some (some (.ref f9))) (l9 : K.lookup f9 = some ⟨oc9, od9, .func (PySem.W.fnOf "_law_right" "_law_right" (defArgs s_l_right) (defBody s_l_right) (defScope s_l_right) .none kV9 dc9 pm9 an9 cd9 ct9), sl9⟩) (c9 : PySem.W.codeIn K cd9 "_law_right" = true) (k9 : PySem.W.keepIn K (.ref f9) = true)
    (a10 : PySem.W.nsIn K mainGlobals "law" = some (some (.ref f10))) (l10 : K.lookup f10 = some ⟨oc10, od10, .func (PySem.W.fnOf "law" "law" (defArgs s_law) (defBody s_law) (defScope s_law) .none kV10 dc10 pm10 an10 cd10 ct10), sl10⟩) (c10 : PySem.W.codeIn K cd10 "law" = true) (k10 : PySem.W.keepIn K (.ref f10) = true)
    (z0 : PySem.W.nsIn K mainGlobals "abs" = some none)
    (z1 : PySem.W.nsIn K mainGlobals "all" = some none)
    (z2 : PySem.W.nsIn K mainGlobals "enumerate" = some none)
    (z3 : PySem.W.nsIn K mainGlobals "int" = some none)
    (z4 : PySem.W.nsIn K mainGlobals "len" = some none)
    (z5 : PySem.W.nsIn K mainGlobals "list" = some none)
    (z6 : PySem.W.nsIn K mainGlobals "max" = some none)
    (z7 : PySem.W.nsIn K mainGlobals "min" = some none)
    (z8 : PySem.W.nsIn K mainGlobals "range" = some none)
    (z9 : PySem.W.nsIn K mainGlobals "tuple" = some none)
    : ∃ fd : FuncData, (∀ (s : Shared) (v : Value), BindsTo s fd ⟨[v], []⟩ [("_law_script", v)]) ∧ ∀ base : Heap, K.In base → base.Ns mainGlobals mg → FnOk l.prog w K mg base CX0 5 fa fd ["_law_script"] (spLaw K) := by
  have e := hfa.symm.trans (PySem.W.mg_of X G a10)
  cases e
  have Z : Bl mg := ⟨PySem.W.mg_none_of X G z0, PySem.W.mg_none_of X G z1, PySem.W.mg_none_of X G z2, PySem.W.mg_none_of X G z3, PySem.W.mg_none_of X G z4, PySem.W.mg_none_of X G z5, PySem.W.mg_none_of X G z6, PySem.W.mg_none_of X G z7, PySem.W.mg_none_of X G z8, PySem.W.mg_none_of X G z9⟩
  have F0 := fun_mk (st := s_spots) l0 c0 k0
  have b0 := F0.binds (ps := P_spots) fun _ _ _ _ _ _ us hl => match us, hl with | [_], _ => rfl
  have F1 := fun_mk (st := s_parts) l1 c1 k1
  have b1 := F1.binds (ps := P_parts) fun _ _ _ _ _ _ us hl => match us, hl with | [_, _], _ => rfl
  have F2 := fun_mk (st := s_folded) l2 c2 k2
  have b2 := F2.binds (ps := P_folded) fun _ _ _ _ _ _ us hl => match us, hl with | [_, _], _ => rfl
  have F3 := fun_mk (st := s_behind) l3 c3 k3
  have b3 := F3.binds (ps := P_behind) fun _ _ _ _ _ _ us hl => match us, hl with | [_, _], _ => rfl
  have F4 := fun_mk (st := s_l_tape) l4 c4 k4
  have b4 := F4.binds (ps := P_l_tape) fun _ _ _ _ _ _ us hl => match us, hl with | [_, _], _ => rfl
  have F5 := fun_mk (st := s_l_draw) l5 c5 k5
  have b5 := F5.binds (ps := P_l_draw) fun _ _ _ _ _ _ us hl => match us, hl with | [_, _], _ => rfl
  have F6 := fun_mk (st := s_l_folded) l6 c6 k6
  have b6 := F6.binds (ps := P_l_folded) fun _ _ _ _ _ _ us hl => match us, hl with | [_, _], _ => rfl
  have F7 := fun_mk (st := s_l_weight) l7 c7 k7
  have b7 := F7.binds (ps := P_l_weight) fun _ _ _ _ _ _ us hl => match us, hl with | [_, _], _ => rfl
  have F8 := fun_mk (st := s_l_run) l8 c8 k8
  have b8 := F8.binds (ps := P_l_run) fun _ _ _ _ _ _ us hl => match us, hl with | [_], _ => rfl
  have F9 := fun_mk (st := s_l_right) l9 c9 k9
  have b9 := F9.binds (ps := P_l_right) fun _ _ _ _ _ _ us hl => match us, hl with | [_], _ => rfl
  have F10 := fun_mk (st := s_law) l10 c10 k10
  refine ⟨PySem.W.fnOf "law" "law" (defArgs s_law) (defBody s_law) (defScope s_law) .none kV10 dc10 pm10 an10 cd10 ct10, fun s v => .of_eq rfl, fun base _ _ => ?_⟩
  have G_spots := Kn.mk F0 (PySem.W.mg_of X G a0) b0 (ok_spots (P := l.prog) (w := w) (base := base) F0 Z)
  have G_parts := Kn.mk F1 (PySem.W.mg_of X G a1) b1 (ok_parts (P := l.prog) (w := w) (base := base) F1 Z)
  have G_folded := Kn.mk F2 (PySem.W.mg_of X G a2) b2 (ok_folded (P := l.prog) (w := w) (base := base) F2 Z G_parts)
  have G_behind := Kn.mk F3 (PySem.W.mg_of X G a3) b3 (ok_behind (P := l.prog) (w := w) (base := base) F3 Z G_folded)
  have G_l_tape := Kn.mk F4 (PySem.W.mg_of X G a4) b4 (ok_l_tape (P := l.prog) (w := w) (base := base) F4 Z)
  have G_l_draw := Kn.mk F5 (PySem.W.mg_of X G a5) b5 (ok_l_draw (P := l.prog) (w := w) (base := base) F5 Z)
  have G_l_folded := Kn.mk F6 (PySem.W.mg_of X G a6) b6 (ok_l_folded (P := l.prog) (w := w) (base := base) F6 Z)
  have G_l_weight := Kn.mk F7 (PySem.W.mg_of X G a7) b7 (ok_l_weight (P := l.prog) (w := w) (base := base) F7 Z G_l_draw)
  have G_l_run := Kn.mk F8 (PySem.W.mg_of X G a8) b8 (ok_l_run (P := l.prog) (w := w) (base := base) F8 Z G_l_draw)
  have G_l_right := Kn.mk F9 (PySem.W.mg_of X G a9) b9 (ok_l_right (P := l.prog) (w := w) (base := base) F9 Z G_spots G_parts G_folded G_behind G_l_draw G_l_weight G_l_run)
  exact ok_law F10 Z G_l_tape G_l_folded G_l_right
end Pan
open PySem PySem.W PyProof.Rows
set_option maxRecDepth 100000 in
set_option maxHeartbeats 0 in
theorem PySem.Challenge.cw_panfalls_k06_whole_a_fold_leaves_half_at_holds : PySem.Challenge.rw_panfalls_k06_whole_a_fold_leaves_half_at.Holds := by
  w_on; o_law; k_head; (case hw => w_witness2)
  k_fill
  refine L2.walk_of (l := PySem.Challenge.rw_panfalls_k06_whole_a_fold_leaves_half_at) (n := 63) (k := 5) (x := "_law_script") (CX := fun _ => L2.CX0) (sp := fun w => Pan.spLaw _) rfl (by decide) rfl ⟨rfl, by decide, by decide⟩ (fun w h Y => PySem.W.kIn_of Y) ?F (fun _ _ a ns hl _ hS => ⟨a, ns, rfl, hS, hl, fun _ => rfl⟩) (fun _ _ _ _ _ h => h)
  case F =>
    intro w mg fa h KX G hmg
    refine' Pan.all_mk KX G hmg ?a0 ?l0 ?c0 ?k0 ?a1 ?l1 ?c1 ?k1 ?a2 ?l2 ?c2 ?k2 ?a3 ?l3 ?c3 ?k3 ?a4 ?l4 ?c4 ?k4 ?a5 ?l5 ?c5 ?k5 ?a6 ?l6 ?c6 ?k6 ?a7 ?l7 ?c7 ?k7 ?a8 ?l8 ?c8 ?k8 ?a9 ?l9 ?c9 ?k9 ?a10 ?l10 ?c10 ?k10 ?z0 ?z1 ?z2 ?z3 ?z4 ?z5 ?z6 ?z7 ?z8 ?z9
    (case a0 => k_is)
    (case l0 => k_is)
    (case c0 => k_is)
    (case k0 => k_is)
    (case a1 => k_is)
    (case l1 => k_is)
    (case c1 => k_is)
    (case k1 => k_is)
    (case a2 => k_is)
    (case l2 => k_is)
    (case c2 => k_is)
    (case k2 => k_is)
    (case a3 => k_is)
    (case l3 => k_is)
    (case c3 => k_is)
    (case k3 => k_is)
    (case a4 => k_is)
    (case l4 => k_is)
    (case c4 => k_is)
    (case k4 => k_is)
    (case a5 => k_is)
    (case l5 => k_is)
    (case c5 => k_is)
    (case k5 => k_is)
    (case a6 => k_is)
    (case l6 => k_is)
    (case c6 => k_is)
    (case k6 => k_is)
    (case a7 => k_is)
    (case l7 => k_is)
    (case c7 => k_is)
    (case k7 => k_is)
    (case a8 => k_is)
    (case l8 => k_is)
    (case c8 => k_is)
    (case k8 => k_is)
    (case a9 => k_is)
    (case l9 => k_is)
    (case c9 => k_is)
    (case k9 => k_is)
    (case a10 => k_is)
    (case l10 => k_is)
    (case c10 => k_is)
    (case k10 => k_is)
    (case z0 => k_is)
    (case z1 => k_is)
    (case z2 => k_is)
    (case z3 => k_is)
    (case z4 => k_is)
    (case z5 => k_is)
    (case z6 => k_is)
    (case z7 => k_is)
    (case z8 => k_is)
    (case z9 => k_is)
