import PyProof.Rows.All
import Wide.All
import OpenK.AllK
import Wide.FinOn
import HandS.ForMost
import HandS.Wide
import HandS.TupAny
import HandS.TupMul
import HandS.Zip
import HandS.Text
import HandS.Strs
import HandS.IsInst
import HandS.Deep
import HandS.Style
import HandS.Small
import HandS.More
import HandS.CallLocal
import HandS.DictComp
import HandS.Set
import HandS.SetFor
import KE.GoesMore
import PyProof.P3Eq
import HandS.Dict
import HandS.Comp
import HandS.Conv
import HandS.SortOrd
import KE.KSortTup
import PySem.Challenge.RW_flowborder_k00_whole_sound_designs
set_option Elab.async false
set_option linter.all false
set_option maxRecDepth 100000
set_option maxHeartbeats 4000000
namespace Fw
open PySem PySem.Spec PyProof.Rows L2
theorem tuple_mul1 (l : Addr) (items : Array Value) (n : Nat) (dd : Option Addr) (sl : Array (Option Value)) (x : Int) (u : Tok) (c0 : (decide (x < -(2 ^ 63)) || decide (x ≥ 2 ^ 63)) = false) (c1 : (items.isEmpty || x == 1) = true) :
    Meets (Builtin.«tuple.__mul__» ⟨[.ref l, .int x u], []⟩) (fun _ R s => s.heap.get? l = some { cls := .type "tuple", dict := dd, data := .seq items n, slots := sl } ∧ R (.ok (.ret (Value.ref l))) s) :=
  .of_wp fun prog w A R s h => by
    obtain ⟨hp, g, d, tk, os⟩ := s
    obtain ⟨hl, h⟩ := h
    have f1 := AutoSeq1.idx_int
    wp_walk using wpAny_loadPart' hl
    repeat (first
      | (refine wpAny_ite_false (decide_eq_false (by rw [c0]; exact Bool.false_ne_true)) ?_; wp_walk using wpAny_loadPart' hl)
      | (refine wpAny_ite_true (decide_eq_true c1) ?_; wp_walk using wpAny_loadPart' hl))
    exact ⟨_, rfl, h⟩
theorem tuple_mul0 (l : Addr) (items : Array Value) (n : Nat) (dd : Option Addr) (sl : Array (Option Value)) (x : Int) (u : Tok) (c0 : (decide (x < -(2 ^ 63)) || decide (x ≥ 2 ^ 63)) = false) (c1 : (items.isEmpty || x == 1) = false) (c2 : (decide (x ≤ 0) || items.isEmpty) = true) :
    Meets (Builtin.«tuple.__mul__» ⟨[.ref l, .int x u], []⟩) (fun _ R s => s.heap.get? l = some { cls := .type "tuple", dict := dd, data := .seq items n, slots := sl } ∧
      R (.ok (.ret (Value.ref s.heap.objs.size))) { s with heap := s.heap.push { cls := Value.type "tuple", data := Data.seq #[] }, toks := s.toks }) :=
  .of_wp fun prog w A R s h => by
    obtain ⟨hp, g, d, tk, os⟩ := s
    obtain ⟨hl, h⟩ := h
    have f1 := AutoSeq1.idx_int
    wp_walk using wpAny_loadPart' hl
    repeat (first
      | (refine wpAny_ite_false (decide_eq_false (by rw [c0]; exact Bool.false_ne_true)) ?_; wp_walk using wpAny_loadPart' hl)
      | (refine wpAny_ite_false (decide_eq_false (by rw [c1]; exact Bool.false_ne_true)) ?_; wp_walk using wpAny_loadPart' hl)
      | (refine wpAny_ite_true (decide_eq_true c2) ?_; wp_walk using wpAny_loadPart' hl))
    exact ⟨_, rfl, h⟩

section
variable {X : Cx} {es : List Expr} {t : TA} {pos : Pos}
/-- a tuple that has no names of its own -/
def SqZ (K : PySem.W.Frag) (H : Hp) (a : Addr) (xs : List V) : Prop := (∃ o, H a = some (.frz o (.tup xs)) ∧ o.dict = none) ∨
  ∃ (o : Obj) (its : Array Value) (n : Nat), K.lookup a = some o ∧ o.cls = .type "tuple" ∧ o.dict = none ∧ o.data = .seq its n ∧ its.size ≤ sizeLine ∧ Vals xs its.toList
theorem SqZ.sq {K : PySem.W.Frag} {H : Hp} {a : Addr} {xs : List V} (h : SqZ K H a xs) : SqT K H a xs := by
  rcases h with ⟨o, h, _⟩ | ⟨o, its, n, h1, h2, _, h3, h4, h5⟩
  · exact .inl (.inr ⟨o, h⟩)
  · exact .inr ⟨o, its, n, h1, h2, h3, h4, h5⟩
def NewZ (H : Hp) (xs : List V) (Q : VK) : Prop := ∀ p o, H p = none → o.dict = none → Q (.ref p) (upd H p (.frz o (.tup xs)))
def tTupZ (t : TA) : TE := fun σ H Q => t σ H fun xs H1 => xs.length ≤ sizeLine ∧ NewZ H1 xs Q
theorem pe_tupZ {x1} (h : PA X es t) : PE X (.Tuple es x1 pos) (tTupZ t) := by
  refine ⟨fun pins s σ H Q I hq => ?_⟩
  refine wpAny_Tuple_spliced (thn (h.run pos pins s σ H _ I hq) fun us s1 ⟨xs, H1, I1, r, z, q⟩ => ⟨by rw [← r.length]; exact z, ?_⟩)
  have hf : H1 s1.heap.objs.size = none := I1.hok.fresh (Nat.le_refl _)
  refine ⟨.ref s1.heap.objs.size, upd H1 s1.heap.objs.size (.frz { cls := .type "tuple", data := .seq us.toArray } (.tup xs)), I1.laid (t' := s1.toks) (fun b u e => Heap.get?_push_of_some _ e) (Nat.le_refl _) ?_, rfl, q _ _ hf rfl⟩
  exact ⟨Heap.get?_push_size _ rfl, z, us, r, ⟨_, Heap.get?_push_size _ rfl, rfl, _, rfl⟩⟩
theorem call_tuple_ofZ : CallR X (.type "tuple") (fun xs H Q => ∃ p ys, xs = [.ref p] ∧ ((SqL X.K H p ys ∧ NewZ H ys Q) ∨ (SqT X.K H p ys ∧ Q (.ref p) H))) := by
  intro pins s σ H xs us Q I r h
  obtain ⟨p, ys, rfl, h⟩ := h
  obtain ⟨u, rfl, rx⟩ := vals1 r
  cases rx
  rcases h with ⟨hq, q⟩ | ⟨hq, q⟩
  · obtain ⟨its, r', pl, hz⟩ := I.list hq
    have hlen := r'.length
    refine call_tuple_list pl.isList (fun h' kp => ?_) (by simp only [List.size_toArray] <;> omega)
    have I1 : Inv X pins σ H { s with heap := h' } := I.kept (t' := s.toks) kp
    have I2 : Inv X pins σ (upd H h'.objs.size (.frz { cls := .type "tuple", data := .seq its.toArray } (.tup ys))) { s with heap := h'.push { cls := .type "tuple", data := .seq its.toArray } } :=
      I1.laid (t' := s.toks) (fun b o e => Heap.get?_push_of_some _ e) (Nat.le_refl _) (show ObjOk X.prog X.w _ _ _ (.frz _ (.tup ys)) from ⟨Heap.get?_push_size _ rfl, hz, its, r', IsTup.new _ _⟩)
    exact ⟨.ref h'.objs.size, _, I2, rfl, q _ _ (I1.hok.fresh (Nat.le_refl _)) rfl⟩
  · obtain ⟨its, r', pl, hz⟩ := I.tuple hq
    exact call_tuple_same pl ⟨.ref p, H, I, rfl, q⟩
theorem sqz_is {pins : List (Addr × Obj)} {σ : L2.St} {H : Hp} {s : Shared} {a : Addr} {xs : List V} (I : Inv X pins σ H s) (h : SqZ X.K H a xs) : s.TypeIs (.ref a) "tuple" ∧ ∀ b, Value.ref a = .ref b → ∃ ob, s.heap.get? b = some ob ∧ ob.dict = none := by
  rcases h with ⟨o, h, hd⟩ | ⟨o, its, n, h1, h2, hd, _⟩
  · obtain ⟨g, _, _, _, o', g', c, _⟩ := I.hok a _ h
    rw [g] at g'
    cases g'
    exact ⟨⟨o, g, c⟩, fun b e => by cases e; exact ⟨o, g, hd⟩⟩
  · exact ⟨⟨o, I.kIn a o h1, h2⟩, fun b e => by cases e; exact ⟨o, I.kIn a o h1, hd⟩⟩
def tBMZ (K : PySem.W.Frag) (r : V → List V → Hp → VK → Prop) (to : TE) (t : TA) : TE := fun σ H Q => to σ H fun x H1 => (∃ p xs, x = .ref p ∧ SqZ K H1 p xs) ∧ t σ H1 fun xs H2 => r x xs H2 Q
theorem pe_bmZ {o e : Expr} {to : TE} {t : TA} {name : Str} {apos cpos : Pos} {id : String} {r : V → List V → Hp → VK → Prop} (slot : Slot "tuple" name id) (hty : typeOf (.builtin id) = pure (.type "method_descriptor")) (hm : MtR X id r) (ho : PE X o to) (ha : PA X (e :: es) t)
    (hbase : attributeBase o name X.env (eval o X.env) = eval o X.env := by rfl)
    (hfew : ((backTo cpos (starEach (e :: es) X.env)).all (fun x => !x.1) && (backToKw cpos (keywordEach [] X.env)).all (fun x => x.1.isSome)
      && decide ((e :: es).length + ([] : List Keyword).length + (if ([] : List Keyword).isEmpty then 0 else 1) < 30)) = true := by rfl)
    (hline : (apos.endLine == cpos.line) = true := by rfl) (hs : starEach (e :: es) X.env = (false, eval e X.env) :: starEach es X.env := by rfl) (hplain : (backTo cpos (starEach es X.env)).any (·.1) = false := by rfl) :
    PE X (.Call (.Attribute o name apos) (e :: es) [] cpos) (tBMZ X.K r to t) := by
  refine ⟨fun pins s σ H Q I h => ?_⟩
  refine wpAny_Call_method_late hbase hfew hline rfl (thn (ho.run pins s σ H _ I h) fun v s1 ⟨x, H1, I1, r1, ⟨p, xs, ex, hz⟩, q1⟩ => ?_)
  subst ex
  obtain rfl : v = Value.ref p := r1
  obtain ⟨h1, h2⟩ := sqz_is I1 hz
  refine ⟨"tuple", id, PySem.F.plainAttrs_tuple, slot, hty, h1, h2, ?_⟩
  have hA := ha.run cpos pins s1 σ H1 _ I1 q1
  rw [hs] at hA ⊢
  refine Calls.callWith_builtin (by show (false || (backTo cpos (starEach es X.env)).any (·.1)) = false; rw [hplain] <;> rfl) (Calls.evalArgs_plain ?_)
  exact thn hA fun us s2 ⟨vs, H2, I2, r2, q2⟩ => hm pins s2 σ H2 (.ref p) vs (.ref p) us Q I2 rfl r2 q2
theorem count_strs (k : Str) : ∀ {vs : List Value} {ys : List Str}, StrsAre vs ys → vs.countP (isStrOf k) = ys.count k
  | _, _, .nil => rfl
  | _, _, .cons n t h => by
    rw [List.countP_cons, List.count_cons, count_strs k h]
    rfl
theorem mt_tcount : MtR X "tuple.count" (fun x xs H Q => ∃ (p : Addr) (ys : List Str) (z : Str), x = .ref p ∧ xs = [.str z] ∧ SqT X.K H p (ys.map V.str) ∧ Q (.int (ys.count z : Nat)) H) := by
  intro pins s σ H x xs v us Q I rx rxs h
  obtain ⟨p, ys, z, rfl, rfl, hs, q⟩ := h
  cases rx
  obtain ⟨u, rfl, ru⟩ := rxs.one
  obtain ⟨t, rfl⟩ := ru
  obtain ⟨its, rv, ⟨⟨cls, dd, data, sl⟩, ho, hc, n, hd⟩, hlen⟩ := I.tuple hs
  simp only at hc hd
  subst hc hd
  have hi : StrsAre its ys := strsAre_of rv
  refine call_meets PySem.F.slot_tuple_count ⟨_, ho, rfl⟩ PySem.F.entry_tuple_count (PySem.F.args_tuple_count_2 _ _)
    (SeqAt.tuple_countAt p its.toArray n dd sl (.str z t) (isStrOf z)) ⟨ho, fun y hy => (eq_isStrOf z t hi y (by simpa using hy)).at _ _, ?_⟩
  have ec : its.toArray.toList.countP (isStrOf z) = ys.count z := count_strs z hi
  refine ⟨.int (ys.count z : Nat), H, I.tok _, ⟨s.toks, ?_⟩, q⟩
  show Value.int ((its.toArray.toList.countP (isStrOf z) : Nat) : Int) s.toks = Value.int ((ys.count z : Nat) : Int) s.toks
  rw [ec]
/-- t + u -/
def rCatZ (K : PySem.W.Frag) : R2 := fun x y H Q => ∃ a b xs ys, x = .ref a ∧ y = .ref b ∧ SqT K H a xs ∧ SqT K H b ys ∧ xs.length + ys.length ≤ sizeLine ∧
  (xs = [] → Q (.ref b) H) ∧ (xs ≠ [] → ys = [] → Q (.ref a) H) ∧ (xs ≠ [] → ys ≠ [] → NewZ H (xs ++ ys) Q)
theorem op_catZ : OpR X (binaryOp .Add) (rCatZ X.K) := by
  intro pins s σ H x y v u Q I rx ry h
  obtain ⟨a, b, xs, ys, rfl, rfl, ha, hb, hz, q0, q1, q2⟩ := h
  by_cases hx : xs = []
  · subst hx
    cases rx
    cases ry
    obtain ⟨its, r1, p1, _⟩ := I.tuple ha
    obtain ⟨its2, r2, p2, _⟩ := I.tuple hb
    cases r1
    exact cat_tup0 p1 p2 ⟨.ref b, H, I, rfl, q0 rfl⟩
  · cases rx
    cases ry
    obtain ⟨its, r1, p1, _⟩ := I.tuple ha
    obtain ⟨its2, r2, p2, _⟩ := I.tuple hb
    refine HT.cat_tup p1 p2 (fun z => hx (r1.nil_iff.mp z)) (fun z => ⟨.ref a, H, I, rfl, q1 hx (r2.nil_iff.mp z)⟩) (fun z => ?_) (by rw [← r1.length, ← r2.length]; exact hz)
    refine ⟨.ref s.heap.objs.size, _, I.laid (t' := s.toks) (o := .frz _ (.tup (xs ++ ys))) (fun b ob q => Heap.get?_push_of_some _ q) (Nat.le_refl _) (show ObjOk X.prog X.w _ _ _ (.frz _ (.tup (xs ++ ys))) from ⟨Heap.get?_push_size _ rfl, by rw [List.length_append]; exact hz, _, r1.append r2, IsTup.new _ _⟩), rfl, q2 hx (fun w => z (r2.nil_iff.mpr w)) _ _ (I.hok.fresh (Nat.le_refl _)) rfl⟩
/-- t[lo:hi] -/
def rSlZ (K : PySem.W.Frag) : V → Option Int → Option Int → Hp → VK → Prop := fun x lo hi H Q => ∃ a xs, x = .ref a ∧ SqT K H a xs ∧
  (HT.sIx xs.length 0 lo = 0 ∧ HT.sIx xs.length xs.length hi = xs.length → Q (.ref a) H) ∧ (¬ (HT.sIx xs.length 0 lo = 0 ∧ HT.sIx xs.length xs.length hi = xs.length) → NewZ H (cutV xs lo hi) Q)
theorem sl_tupZ : SlR X (rSlZ X.K) := by
  intro pins s σ H x v vl vu lo hi sl Q I rx hs pl pu h
  obtain ⟨a, xs, rfl, hx, q1, q2⟩ := h
  cases rx
  obtain ⟨its, r, ht, hz⟩ := I.tuple hx
  have hlen : its.toArray.size = xs.length := by rw [List.size_toArray]; exact r.length.symm
  by_cases hw : HT.sIx xs.length 0 lo = 0 ∧ HT.sIx xs.length xs.length hi = xs.length
  · refine ⟨"tuple", _, PyProof.Rows.slot_tuple_getitem.lookup, ht.typeIs, ?_⟩
    exact getItem_tuple_whole ht hs pl pu (by rw [hlen]; exact hw) ⟨.ref a, H, I, rfl, q1 hw⟩
  · refine ⟨"tuple", _, PyProof.Rows.slot_tuple_getitem.lookup, ht.typeIs, ?_⟩
    refine HT.getItem_tuple_cut ht hs pl pu (by rw [hlen]; exact hw) ?_ (by rw [hlen]; exact hz)
    rw [hlen]
    refine ⟨.ref s.heap.objs.size, _, I.laid (t' := s.toks) (o := .frz _ (.tup (cutV xs lo hi))) (fun b ob q => Heap.get?_push_of_some _ q) (Nat.le_refl _) (show ObjOk X.prog X.w _ _ _ (.frz _ (.tup (cutV xs lo hi))) from ⟨Heap.get?_push_size _ rfl, Nat.le_trans (cutV_length xs lo hi) hz, _, (r.drop (HT.sIx xs.length 0 lo)).take (HT.sIx xs.length xs.length hi - HT.sIx xs.length 0 lo), IsTup.new _ _⟩), rfl, q2 hw _ _ (I.hok.fresh (Nat.le_refl _)) rfl⟩
end
section
variable {X : Cx}
theorem op_repZ2 : OpR X (binaryOp .Mult) (fun x y H Q => ∃ l k xs, x = .ref l ∧ y = .int k ∧ SqT X.K H l xs ∧ xs ≠ [] ∧ 2 ≤ k ∧ k ≤ 1000 ∧ xs.length ≤ 1000 ∧ NewZ H (List.replicate k.toNat xs).flatten Q) := by
  intro pins s σ H x y v u Q I rx ry h
  obtain ⟨l, k, xs, rfl, rfl, hT, hne, h1, h2, hz, q⟩ := h
  cases rx
  obtain ⟨t, rfl⟩ := ry
  obtain ⟨its, r, ⟨⟨cls, dd, data, sl⟩, ho, hc, n, hd⟩, hs⟩ := I.tuple hT
  simp only at hc hd
  subst hc hd
  have hle : its.length = xs.length := r.length.symm
  have hn : its ≠ [] := fun e => hne (by
    rw [e] at hle
    exact List.eq_nil_of_length_eq_zero hle.symm)
  have hi : its.toArray.isEmpty = false := by
    cases its with
    | nil => exact absurd rfl hn
    | cons a b => rfl
  have hsz0 : its.toArray.size = xs.length := by rw [List.size_toArray, hle]
  have hm : ((its.toArray.size : Nat) : Int) * k ≤ 1000000 := by
    rw [hsz0]
    have a1 : ((xs.length : Nat) : Int) * k ≤ 1000 * k := Int.mul_le_mul_of_nonneg_right (by omega) (by omega)
    omega
  have flen : (List.replicate k.toNat its).flatten.length ≤ sizeLine := by
    rw [PyProof.Rows.lm_len_rep_flat, hle, sizeLine_eq]
    have a1 : k.toNat * xs.length ≤ 1000 * 1000 := Nat.mul_le_mul (by omega) hz
    omega
  have c0 : (decide (k < -(2 ^ 63)) || decide (k ≥ 2 ^ 63)) = false := by
    rw [decide_eq_false (by omega), decide_eq_false (by omega)] <;> rfl
  have c1 : (its.toArray.isEmpty || k == 1) = false := by
    rw [hi, Bool.false_or]
    exact beq_eq_false_iff_ne.mpr (by omega)
  have c2 : (decide (k ≤ 0) || its.toArray.isEmpty) = false := by
    rw [hi, Bool.or_false]
    exact decide_eq_false (by omega)
  have c4 : Builtin.Tuple.tupleTooMany (((its.toArray.size : Nat) : Int) * k) = false := by
    unfold Builtin.Tuple.tupleTooMany
    rw [sizeLine_eq]
    exact decide_eq_false (by omega)
  refine wpAny_binaryOp_repeat_ref (T := "tuple") (U := "int") (by decide) ⟨_, ho, rfl⟩ (fun s' => typeIs_int s' k t) noFill_tuple_mul F.fills_int_mul F.slot_int_rmul repeat_tuple F.slot_int_index.lookup
    (call_meets F.slot_int_rmul (typeIs_int s k t) F.entry_int_rmul (F.args_int_rmul_2 _ _) (int_rmul_tuple k t l its.toArray n dd sl)
      ⟨ho, rfl, ⟨_, ho, rfl⟩, call_meets F.slot_tuple_mul ⟨_, ho, rfl⟩ F.entry_tuple_mul (F.args_tuple_mul_2 _ _) (tuple_mulW l its.toArray n dd sl k t c0 c1 c2 (by omega) c4 (by rw [size_rep, List.size_toArray]; exact flen)) ⟨ho, ?_⟩⟩)
  rw [size_rep]
  refine ⟨.ref s.heap.objs.size, _, I.laid (t' := s.toks) (o := .frz _ (.tup (List.replicate k.toNat xs).flatten)) (fun b ob q => Heap.get?_push_of_some _ q) (Nat.le_refl _) (show ObjOk X.prog X.w _ _ _ (.frz _ (.tup (List.replicate k.toNat xs).flatten)) from ⟨Heap.get?_push_size _ rfl, by rw [PyProof.Rows.lm_len_rep_flat, sizeLine_eq]; have a1 : k.toNat * xs.length ≤ 1000 * 1000 := Nat.mul_le_mul (by omega) hz; omega, _, r.rep k.toNat, IsTup.new _ _⟩), rfl, q _ _ (I.hok.fresh (Nat.le_refl _)) rfl⟩
def rRepZ (K : PySem.W.Frag) : R2 := fun x y H Q => ∃ l k xs, x = .ref l ∧ y = .int k ∧ SqT K H l xs ∧ -1000 ≤ k ∧ k ≤ 1000 ∧ xs.length ≤ 1000 ∧
  ((xs = [] ∨ k = 1) → Q (.ref l) H) ∧ (xs ≠ [] → k ≠ 1 → NewZ H (List.replicate k.toNat xs).flatten Q)
theorem op_repZ : OpR X (binaryOp .Mult) (rRepZ X.K) := by
  intro pins s σ H x y v u Q I rx ry h
  obtain ⟨l, k, xs, rfl, rfl, hT, h1, h2, hz, q1, q2⟩ := h
  by_cases hb : xs ≠ [] ∧ 2 ≤ k
  · exact op_repZ2 pins s σ H _ _ v u Q I rx ry ⟨l, k, xs, rfl, rfl, hT, hb.1, hb.2, h2, hz, q2 hb.1 (by omega)⟩
  cases rx
  obtain ⟨t, rfl⟩ := ry
  obtain ⟨its, r, ⟨⟨cls, dd, data, sl⟩, ho, hc, n, hd⟩, hs⟩ := I.tuple hT
  simp only at hc hd
  subst hc hd
  have hle : its.length = xs.length := r.length.symm
  have c0 : (decide (k < -(2 ^ 63)) || decide (k ≥ 2 ^ 63)) = false := by
    rw [decide_eq_false (by omega), decide_eq_false (by omega)] <;> rfl
  by_cases h01 : xs = [] ∨ k = 1
  · have c1 : (its.toArray.isEmpty || k == 1) = true := by
      rcases h01 with e | e
      · rw [e] at hle
        rw [List.eq_nil_of_length_eq_zero hle]
        rfl
      · rw [e]; simp
    refine wpAny_binaryOp_repeat_ref (T := "tuple") (U := "int") (by decide) ⟨_, ho, rfl⟩ (fun s' => typeIs_int s' k t) noFill_tuple_mul F.fills_int_mul F.slot_int_rmul repeat_tuple F.slot_int_index.lookup
      (call_meets F.slot_int_rmul (typeIs_int s k t) F.entry_int_rmul (F.args_int_rmul_2 _ _) (int_rmul_tuple k t l its.toArray n dd sl)
        ⟨ho, rfl, ⟨_, ho, rfl⟩, call_meets F.slot_tuple_mul ⟨_, ho, rfl⟩ F.entry_tuple_mul (F.args_tuple_mul_2 _ _) (tuple_mul1 l its.toArray n dd sl k t c0 c1) ⟨ho, ?_⟩⟩)
    exact ⟨.ref l, H, I, rfl, q1 h01⟩
  · have hne : xs ≠ [] := fun e => h01 (.inl e)
    have hk1 : k ≠ 1 := fun e => h01 (.inr e)
    have hk0 : k ≤ 0 := by
      by_cases z : 2 ≤ k
      · exact absurd ⟨hne, z⟩ hb
      · omega
    have hi : its.toArray.isEmpty = false := by
      cases its with
      | nil => exact absurd (List.eq_nil_of_length_eq_zero hle.symm) hne
      | cons a b => rfl
    have c1 : (its.toArray.isEmpty || k == 1) = false := by
      rw [hi, Bool.false_or]
      exact beq_eq_false_iff_ne.mpr hk1
    have c2 : (decide (k ≤ 0) || its.toArray.isEmpty) = true := by
      rw [decide_eq_true hk0, Bool.true_or]
    have e0 : k.toNat = 0 := by omega
    refine wpAny_binaryOp_repeat_ref (T := "tuple") (U := "int") (by decide) ⟨_, ho, rfl⟩ (fun s' => typeIs_int s' k t) noFill_tuple_mul F.fills_int_mul F.slot_int_rmul repeat_tuple F.slot_int_index.lookup
      (call_meets F.slot_int_rmul (typeIs_int s k t) F.entry_int_rmul (F.args_int_rmul_2 _ _) (int_rmul_tuple k t l its.toArray n dd sl)
        ⟨ho, rfl, ⟨_, ho, rfl⟩, call_meets F.slot_tuple_mul ⟨_, ho, rfl⟩ F.entry_tuple_mul (F.args_tuple_mul_2 _ _) (tuple_mul0 l its.toArray n dd sl k t c0 c1 c2) ⟨ho, ?_⟩⟩)
    refine ⟨.ref s.heap.objs.size, _, I.laid (t' := s.toks) (o := .frz _ (.tup [])) (fun b ob q => Heap.get?_push_of_some _ q) (Nat.le_refl _) (show ObjOk X.prog X.w _ _ _ (.frz _ (.tup [])) from ⟨Heap.get?_push_size _ rfl, Nat.zero_le _, [], .nil, IsTup.new _ _⟩), rfl, ?_⟩
    have q3 := q2 hne hk1
    rw [e0] at q3
    exact q3 _ _ (I.hok.fresh (Nat.le_refl _)) rfl
end
open RZ
def ItzP (K : PySem.W.Frag) (a b : Addr) : It :=
  ⟨fun i H => ∃ (xs ys : List V) (x y : V), SqL K H a xs ∧ SqL K H b ys ∧ xs[i]? = some x ∧ ys[i]? = some y,
    fun i H v H' => ∃ T o x y, v = .ref T ∧ H T = none ∧ o.dict = none ∧ H' = upd H T (.frz o (.tup [x, y])) ∧ (∀ xs, SqL K H a xs → xs[i]? = some x) ∧ ∀ ys, SqL K H b ys → ys[i]? = some y,
    fun i H => ∃ xs ys : List V, SqL K H a xs ∧ SqL K H b ys ∧ (xs.length ≤ i ∨ ys.length ≤ i)⟩
theorem turn_zipP {P : Program} {w : World} {K : PySem.W.Frag} {elts : List Expr} {kk : Nat} {tpos : Pos} {a b z TI TO i1 i2 : Addr} (D : ZipApart z TI TO i1 i2 a b) :
    Turn P w K (.Tuple elts kk tpos) (ItzP K a b) [z, TI, TO, i1, i2] z (fun i h => IsZip h z TI TO .none ∧ IsPair h TI (.ref i1) (.ref i2) ∧ (∃ x y, IsPair h TO x y) ∧ h.IsListIter i1 a i ∧ h.IsListIter i2 b i) where
  mem := by simp
  obj := fun i h st c hc => by
    obtain ⟨hz, hTI, ⟨x, y, hTO⟩, ⟨o1, e1, _, d1⟩, ⟨o2, e2, _, d2⟩⟩ := st
    have e' : c = z ∨ c = TI ∨ c = TO ∨ c = i1 ∨ c = i2 := by simpa using hc
    rcases e' with q | q | q | q | q
    · rw [q]; exact ⟨_, hz, fun v q => nomatch q⟩
    · rw [q]; exact ⟨_, hTI, fun v q => nomatch q⟩
    · rw [q]; exact ⟨_, hTO, fun v q => nomatch q⟩
    · rw [q]; exact ⟨o1, e1, fun v q => by rw [d1] at q; cases q⟩
    · rw [q]; exact ⟨o2, e2, fun v q => by rw [d2] at q; cases q⟩
  keep := fun i h h' st k => by
    obtain ⟨hz, hTI, ⟨x, y, hTO⟩, h1, h2⟩ := st
    exact ⟨k z (by simp) _ hz, k TI (by simp) _ hTI, ⟨x, y, k TO (by simp) _ hTO⟩, h1.at fun o q => k i1 (by simp) o q, h2.at fun o q => k i2 (by simp) o q⟩
  item := by
    intro X hP hw hK hc i pins s σ H E I hf st hg
    subst hP hw hK
    obtain ⟨hz, hTI, ⟨x0, y0, hTO⟩, h1, h2⟩ := st
    obtain ⟨xs, ys, x, y, hqx, hqy, hx, hy⟩ := hg
    obtain ⟨its, rv, p, _⟩ := I.list hqx
    obtain ⟨its2, rv2, p2, _⟩ := I.list hqy
    obtain ⟨u, hu, ru⟩ := rv.get hx
    obtain ⟨u2, hu2, ru2⟩ := rv2.get hy
    have hzl : z < s.heap.objs.size := Heap.lt_size hz
    refine wpAny_pyNext_zip_item D hz hTI hTO h1 h2 p.isList p2.isList (x := u) (y := u2) (by simpa using hu) (by simpa using hu2) fun h' z' TO' h1' h2' hT hsz hk => ?_
    refine ⟨_, rfl, wpAny_letOwnedTupleGo_zip (s := { s with heap := h' }) z' fun h'' z'' sb => ?_⟩
    have hT2 : h''.get? s.heap.objs.size = some { cls := .type "tuple", data := .seq #[u, u2] } := (sb.2 _ (Nat.ne_of_gt hzl)).trans hT
    have new : ObjOk X.prog X.w (upd H s.heap.objs.size (.frz { cls := .type "tuple", data := .seq #[u, u2] } (.tup [x, y]))) h'' s.heap.objs.size (.frz { cls := .type "tuple", data := .seq #[u, u2] } (.tup [x, y])) :=
      ⟨hT2, by show 2 ≤ sizeLine; decide, [u, u2], .cons ru (.cons ru2 .nil), ⟨_, hT2, rfl, _, rfl⟩⟩
    have I1 : Inv X pins σ (upd H s.heap.objs.size (.frz { cls := .type "tuple", data := .seq #[u, u2] } (.tup [x, y]))) { s with heap := h'' } :=
      I.turnedNew (t' := s.toks) (ch := [z, TI, TO, i1, i2]) (fun c o hb q => (sb.2 c (fun q' => hb (by simp [q']))).trans (hk c o (fun q' => hb (by simp [q'])) (fun q' => hb (by simp [q'])) (fun q' => hb (by simp [q'])) (fun q' => hb (by simp [q'])) q)) hf (Nat.le_refl _) new
    refine ⟨.ref s.heap.objs.size, _, I1, rfl, ⟨_, _, x, y, rfl, I.hok.fresh (Nat.le_refl _), rfl, rfl, fun l hl => by rw [I.list_inj hl hqx]; exact hx, fun l hl => by rw [I.list_inj hl hqy]; exact hy⟩, ⟨z'', ?_, ⟨u, u2, ?_⟩, ?_, ?_⟩, fun c hcm => ?_⟩
    · exact (sb.2 _ D.TIz).trans (hk _ _ D.TIz D.TITO D.TIi1 D.TIi2 hTI)
    · exact (sb.2 _ D.TOz).trans TO'
    · exact h1'.at fun o q => (sb.2 _ D.i1z).trans q
    · exact h2'.at fun o q => (sb.2 _ D.i2z).trans q
    · have hlt : c < s.heap.objs.size := by
        have e' : c = z ∨ c = TI ∨ c = TO ∨ c = i1 ∨ c = i2 := by simpa using hcm
        rcases e' with q | q | q | q | q
        · rw [q]; exact hzl
        · rw [q]; exact Heap.lt_size hTI
        · rw [q]; exact Heap.lt_size hTO
        · rw [q]; obtain ⟨_, e1, _⟩ := h1; exact Heap.lt_size e1
        · rw [q]; obtain ⟨_, e2, _⟩ := h2; exact Heap.lt_size e2
      rw [upd_ne (Nat.ne_of_lt hlt)]
      exact (hf c hcm).1
  done := by
    intro X hP hw hK hc i pins s σ H E I hf st hg
    subst hP hw hK
    obtain ⟨hz, hTI, ⟨x0, y0, hTO⟩, h1, h2⟩ := st
    obtain ⟨xs, ys, hqx, hqy, hend⟩ := hg
    obtain ⟨its, rv, p, _⟩ := I.list hqx
    obtain ⟨its2, rv2, p2, _⟩ := I.list hqy
    have l1 := rv.length
    have l2 := rv2.length
    have he : its.toArray[i]? = none ∨ its2.toArray[i]? = none := by
      rcases hend with q | q
      · exact .inl (by simp; omega)
      · exact .inr (by simp; omega)
    exact wpAny_pyNext_zip_end (I.ok.hd hc) D hz hTI hTO h1 h2 p.isList p2.isList he fun h' hk => ⟨rfl, I.turnedL (t' := s.toks) (ch := [z, TI, TO, i1, i2]) (fun c o hb q =>
      hk c o (fun q' => hb (by simp [q'])) (fun q' => hb (by simp [q'])) (fun q' => hb (by simp [q'])) (fun q' => hb (by simp [q'])) q) hf⟩
  self := fun A i s Q E st h => wpAny_pyIter_zip st.1 h
def ItzPT (K : PySem.W.Frag) (a b : Addr) : It :=
  ⟨fun i H => ∃ (xs ys : List V) (x y : V), SqT K H a xs ∧ SqT K H b ys ∧ xs[i]? = some x ∧ ys[i]? = some y,
    fun i H v H' => ∃ T o x y, v = .ref T ∧ H T = none ∧ o.dict = none ∧ H' = upd H T (.frz o (.tup [x, y])) ∧ (∀ xs, SqT K H a xs → xs[i]? = some x) ∧ ∀ ys, SqT K H b ys → ys[i]? = some y,
    fun i H => ∃ xs ys : List V, SqT K H a xs ∧ SqT K H b ys ∧ (xs.length ≤ i ∨ ys.length ≤ i)⟩
theorem turn_zipPT {P : Program} {w : World} {K : PySem.W.Frag} {elts : List Expr} {kk : Nat} {tpos : Pos} {a b z TI TO i1 i2 : Addr} (D : ZipApart z TI TO i1 i2 a b) :
    Turn P w K (.Tuple elts kk tpos) (ItzPT K a b) [z, TI, TO, i1, i2] z (fun i h => IsZip h z TI TO .none ∧ IsPair h TI (.ref i1) (.ref i2) ∧ (∃ x y, IsPair h TO x y) ∧ h.IsTupleIter i1 a i ∧ h.IsTupleIter i2 b i) where
  mem := by simp
  obj := fun i h st c hc => by
    obtain ⟨hz, hTI, ⟨x, y, hTO⟩, ⟨o1, e1, _, d1⟩, ⟨o2, e2, _, d2⟩⟩ := st
    have e' : c = z ∨ c = TI ∨ c = TO ∨ c = i1 ∨ c = i2 := by simpa using hc
    rcases e' with q | q | q | q | q
    · rw [q]; exact ⟨_, hz, fun v q => nomatch q⟩
    · rw [q]; exact ⟨_, hTI, fun v q => nomatch q⟩
    · rw [q]; exact ⟨_, hTO, fun v q => nomatch q⟩
    · rw [q]; exact ⟨o1, e1, fun v q => by rw [d1] at q; cases q⟩
    · rw [q]; exact ⟨o2, e2, fun v q => by rw [d2] at q; cases q⟩
  keep := fun i h h' st k => by
    obtain ⟨hz, hTI, ⟨x, y, hTO⟩, h1, h2⟩ := st
    exact ⟨k z (by simp) _ hz, k TI (by simp) _ hTI, ⟨x, y, k TO (by simp) _ hTO⟩, h1.at fun o q => k i1 (by simp) o q, h2.at fun o q => k i2 (by simp) o q⟩
  item := by
    intro X hP hw hK hc i pins s σ H E I hf st hg
    subst hP hw hK
    obtain ⟨hz, hTI, ⟨x0, y0, hTO⟩, h1, h2⟩ := st
    obtain ⟨xs, ys, x, y, hqx, hqy, hx, hy⟩ := hg
    obtain ⟨its, rv, p, _⟩ := I.tuple hqx
    obtain ⟨its2, rv2, p2, _⟩ := I.tuple hqy
    obtain ⟨u, hu, ru⟩ := rv.get hx
    obtain ⟨u2, hu2, ru2⟩ := rv2.get hy
    have hzl : z < s.heap.objs.size := Heap.lt_size hz
    refine pyNext_zipT_item D hz hTI hTO h1 h2 p p2 (x := u) (y := u2) (by simpa using hu) (by simpa using hu2) fun h' z' TO' h1' h2' hT hsz hk => ?_
    refine ⟨_, rfl, wpAny_letOwnedTupleGo_zip (s := { s with heap := h' }) z' fun h'' z'' sb => ?_⟩
    have hT2 : h''.get? s.heap.objs.size = some { cls := .type "tuple", data := .seq #[u, u2] } := (sb.2 _ (Nat.ne_of_gt hzl)).trans hT
    have new : ObjOk X.prog X.w (upd H s.heap.objs.size (.frz { cls := .type "tuple", data := .seq #[u, u2] } (.tup [x, y]))) h'' s.heap.objs.size (.frz { cls := .type "tuple", data := .seq #[u, u2] } (.tup [x, y])) :=
      ⟨hT2, by show 2 ≤ sizeLine; decide, [u, u2], .cons ru (.cons ru2 .nil), ⟨_, hT2, rfl, _, rfl⟩⟩
    have I1 : Inv X pins σ (upd H s.heap.objs.size (.frz { cls := .type "tuple", data := .seq #[u, u2] } (.tup [x, y]))) { s with heap := h'' } :=
      I.turnedNew (t' := s.toks) (ch := [z, TI, TO, i1, i2]) (fun c o hb q => (sb.2 c (fun q' => hb (by simp [q']))).trans (hk c o (fun q' => hb (by simp [q'])) (fun q' => hb (by simp [q'])) (fun q' => hb (by simp [q'])) (fun q' => hb (by simp [q'])) q)) hf (Nat.le_refl _) new
    refine ⟨.ref s.heap.objs.size, _, I1, rfl, ⟨_, _, x, y, rfl, I.hok.fresh (Nat.le_refl _), rfl, rfl, fun l hl => by rw [I.tuple_inj hl hqx]; exact hx, fun l hl => by rw [I.tuple_inj hl hqy]; exact hy⟩, ⟨z'', ?_, ⟨u, u2, ?_⟩, ?_, ?_⟩, fun c hcm => ?_⟩
    · exact (sb.2 _ D.TIz).trans (hk _ _ D.TIz D.TITO D.TIi1 D.TIi2 hTI)
    · exact (sb.2 _ D.TOz).trans TO'
    · exact h1'.at fun o q => (sb.2 _ D.i1z).trans q
    · exact h2'.at fun o q => (sb.2 _ D.i2z).trans q
    · have hlt : c < s.heap.objs.size := by
        have e' : c = z ∨ c = TI ∨ c = TO ∨ c = i1 ∨ c = i2 := by simpa using hcm
        rcases e' with q | q | q | q | q
        · rw [q]; exact hzl
        · rw [q]; exact Heap.lt_size hTI
        · rw [q]; exact Heap.lt_size hTO
        · rw [q]; obtain ⟨_, e1, _⟩ := h1; exact Heap.lt_size e1
        · rw [q]; obtain ⟨_, e2, _⟩ := h2; exact Heap.lt_size e2
      rw [upd_ne (Nat.ne_of_lt hlt)]
      exact (hf c hcm).1
  done := by
    intro X hP hw hK hc i pins s σ H E I hf st hg
    subst hP hw hK
    obtain ⟨hz, hTI, ⟨x0, y0, hTO⟩, h1, h2⟩ := st
    obtain ⟨xs, ys, hqx, hqy, hend⟩ := hg
    obtain ⟨its, rv, p, _⟩ := I.tuple hqx
    obtain ⟨its2, rv2, p2, _⟩ := I.tuple hqy
    have l1 := rv.length
    have l2 := rv2.length
    have he : its.toArray[i]? = none ∨ its2.toArray[i]? = none := by
      rcases hend with q | q
      · exact .inl (by simp; omega)
      · exact .inr (by simp; omega)
    exact pyNext_zipT_end (I.ok.hd hc) D hz hTI hTO h1 h2 p p2 he fun h' hk => ⟨rfl, I.turnedL (t' := s.toks) (ch := [z, TI, TO, i1, i2]) (fun c o hb q =>
      hk c o (fun q' => hb (by simp [q'])) (fun q' => hb (by simp [q'])) (fun q' => hb (by simp [q'])) (fun q' => hb (by simp [q'])) q) hf⟩
  self := fun A i s Q E st h => wpAny_pyIter_zip st.1 h

def iZipP (K : PySem.W.Frag) (ta : TA) : TI := fun σ H R => ta σ H fun vs H1 => ∃ a b xs ys, vs = [.ref a, .ref b] ∧ ((SqL K H1 a xs ∧ SqL K H1 b ys ∧ R (ItzP K a b) H1) ∨ (SqT K H1 a xs ∧ SqT K H1 b ys ∧ R (ItzPT K a b) H1))
theorem pi_zipP {X : Cx} {e e2 : Expr} {ta : TA} {p pos tpos : Pos} {elts : List Expr} {kk : Nat} (hg : Gl X "zip") (hm : X.mg "zip" = none) (ha : PA X [e, e2] ta)
    (hs : starEach [e, e2] X.env = (false, eval e X.env) :: starEach [e2] X.env := by rfl) (hpl : (backTo pos (starEach [e2] X.env)).any (·.1) = false := by rfl) :
    PI X (.Tuple elts kk tpos) (.Call (.Name "zip" p) [e, e2] [] pos) (iZipP X.K ta) := by
  refine ⟨fun pins s σ H R I h => ?_⟩
  refine Call_ (ld_blt I hg hm PyProof.Rows.boot_zip (PyProof.Rows.callWith_type1 (thn (ha.run pos pins s σ H _ I h) fun us s1 ⟨vs, H1, I1, r1, q1⟩ => ?_) hs hpl))
  obtain ⟨a, b, xs, ys, ex, q1⟩ := q1
  subst ex
  cases r1 with
  | cons r rr =>
    cases rr with
    | cons r' rr =>
      cases rr
      cases r
      cases r'
      have fresh5 : ∀ c, c ∈ [s1.heap.objs.size + 4, s1.heap.objs.size + 2, s1.heap.objs.size + 3, s1.heap.objs.size, s1.heap.objs.size + 1] → FpOk X pins H1 c := fun c hcm => by
        have e' : c = s1.heap.objs.size + 4 ∨ c = s1.heap.objs.size + 2 ∨ c = s1.heap.objs.size + 3 ∨ c = s1.heap.objs.size ∨ c = s1.heap.objs.size + 1 := by simpa using hcm
        have hle : s1.heap.objs.size ≤ c := by
          rcases e' with z | z | z | z | z
          · rw [z]; exact Nat.le_add_right _ _
          · rw [z]; exact Nat.le_add_right _ _
          · rw [z]; exact Nat.le_add_right _ _
          · rw [z]; exact Nat.le_refl _
          · rw [z]; exact Nat.le_add_right _ _
        exact I1.fpOk hle (I1.hok.fresh hle)
      rcases q1 with ⟨hqx, hqy, q⟩ | ⟨hqx, hqy, q⟩
      · obtain ⟨its, rv, p1, _⟩ := I1.list hqx
        obtain ⟨its2, rv2, p2, _⟩ := I1.list hqy
        refine call_zip_2 p1.isList p2.isList fun h' hz hTI hTO h1 h2 hsz hk => wpAny_pyIter_zip hz ?_
        have I2 : Inv X pins σ H1 { s1 with heap := h' } := I1.kept (t' := s1.toks) hk
        exact ⟨s1.heap.objs.size + 4, [s1.heap.objs.size + 4, s1.heap.objs.size + 2, s1.heap.objs.size + 3, s1.heap.objs.size, s1.heap.objs.size + 1], _, _, H1, rfl, I2, turn_zipP (PySem.W.ktu_apart s1.heap.objs.size a b p1.lt p2.lt), ⟨hz, hTI, ⟨_, _, hTO⟩, h1, h2⟩, fresh5, q⟩
      · obtain ⟨its, rv, p1, _⟩ := I1.tuple hqx
        obtain ⟨its2, rv2, p2, _⟩ := I1.tuple hqy
        obtain ⟨o1, ho1, _⟩ := id p1
        obtain ⟨o2, ho2, _⟩ := id p2
        refine call_zipT (show s1.heap.IsTuple a its.toArray from p1) (show s1.heap.IsTuple b its2.toArray from p2) fun h' hz hTI hTO h1 h2 hsz hk => wpAny_pyIter_zip hz ?_
        have I2 : Inv X pins σ H1 { s1 with heap := h' } := I1.kept (t' := s1.toks) hk
        exact ⟨s1.heap.objs.size + 4, [s1.heap.objs.size + 4, s1.heap.objs.size + 2, s1.heap.objs.size + 3, s1.heap.objs.size, s1.heap.objs.size + 1], _, _, H1, rfl, I2, turn_zipPT (PySem.W.ktu_apart s1.heap.objs.size a b (Heap.lt_size ho1) (Heap.lt_size ho2)), ⟨hz, hTI, ⟨_, _, hTO⟩, h1, h2⟩, fresh5, q⟩

end Fw

set_option Elab.async false
set_option linter.all false
set_option maxRecDepth 100000
/-! Fw: readings by data. A value is a datum D; the state S is what the running defs own and change. -/
namespace Fw
open PySem PySem.Spec PyProof.Rows L2

theorem ofString_inj' {a b : String} (h : Str.ofString a = Str.ofString b) : a = b := by
  rw [Str.ofString_eq_toList, Str.ofString_eq_toList] at h
  have h1 : (a.toList.map Char.toNat).toArray = (b.toList.map Char.toNat).toArray := congrArg Str.cps h
  have h2 : a.toList.map Char.toNat = b.toList.map Char.toNat := by simpa using congrArg Array.toList h1
  have h3 : a.toList = b.toList := by
    have inj : ∀ (l m : List Char), l.map Char.toNat = m.map Char.toNat → l = m := by
      intro l
      induction l with
      | nil => intro m e; cases m with
        | nil => rfl
        | cons _ _ => cases e
      | cons c l ih => intro m e; cases m with
        | nil => cases e
        | cons d m =>
          rw [List.map_cons, List.map_cons] at e
          injection e with e1 e2
          rw [ih m e2, Char.toNat_inj.mp e1]
    exact inj _ _ h2
  exact String.toList_inj.mp h3
@[simp] theorem ofString_inj {a b : String} : (Str.ofString a = Str.ofString b) = (a = b) := propext ⟨ofString_inj', fun h => by rw [h]⟩
@[simp] theorem ofString_beq {a b : String} : (Str.ofString a == Str.ofString b) = decide (a = b) := by
  by_cases h : a = b
  · subst h; simp
  · rw [decide_eq_false h]
    exact beq_eq_false_iff_ne.mpr fun e => h (ofString_inj' e)
/-- a datum: what a value stands for; ref: an object by its address alone -/
inductive D where
  | non | bl (b : Bool) | int (i : Int) | str (x : Str) | tup (xs : List D) | lst (xs : List D) | ref (a : Addr) | ty (n : String) | scr (ns : List Int)

mutual
inductive Rep (K : PySem.W.Frag) (H : Hp) : V → D → Prop
  | non : Rep K H .non .non
  | bl (b : Bool) : Rep K H (.bl b) (.bl b)
  | int (i : Int) : Rep K H (.int i) (.int i)
  | str (x : Str) : Rep K H (.str x) (.str x)
  | tup {a : Addr} {xs : List V} {ds : List D} : SqZ K H a xs → Reps K H xs ds → Rep K H (.ref a) (.tup ds)
  | lst {a : Addr} {xs : List V} {ds : List D} : H a = some (.lst xs) → Reps K H xs ds → Rep K H (.ref a) (.lst ds)
  | ref (a : Addr) : Rep K H (.ref a) (.ref a)
  | ty (n : String) : Rep K H (.ty n) (.ty n)
  | scr {a : Addr} {ns : List Int} : SqL K H a (ns.map V.int) → Rep K H (.ref a) (.scr ns)
inductive Reps (K : PySem.W.Frag) (H : Hp) : List V → List D → Prop
  | nil : Reps K H [] []
  | cons {v : V} {vs : List V} {d : D} {ds : List D} : Rep K H v d → Reps K H vs ds → Reps K H (v :: vs) (d :: ds)
end

def Ext (H H' : Hp) : Prop := ∀ a o, H a = some o → H' a = some o
theorem Ext.refl (H : Hp) : Ext H H := fun _ _ h => h
theorem Ext.trans {H H1 H2 : Hp} (a : Ext H H1) (b : Ext H1 H2) : Ext H H2 := fun x o h => b x o (a x o h)
theorem ext_rd {H H' : Hp} {a : Addr} {u : HO} (e : Ext H H') (h : Rd H a u) : Rd H' a u := by
  rcases h with h | ⟨o, h⟩
  · exact Or.inl (e a _ h)
  · exact Or.inr ⟨o, e a _ h⟩
theorem ext_l {K : PySem.W.Frag} {H H' : Hp} {a : Addr} {xs : List V} (e : Ext H H') (h : SqL K H a xs) : SqL K H' a xs := by
  rcases h with h | h
  · exact Or.inl (ext_rd e h)
  · exact Or.inr h
theorem ext_t {K : PySem.W.Frag} {H H' : Hp} {a : Addr} {xs : List V} (e : Ext H H') (h : SqT K H a xs) : SqT K H' a xs := by
  rcases h with h | h
  · exact Or.inl (ext_rd e h)
  · exact Or.inr h
theorem ext_z {K : PySem.W.Frag} {H H' : Hp} {a : Addr} {xs : List V} (e : Ext H H') (h : SqZ K H a xs) : SqZ K H' a xs := by
  rcases h with ⟨o, h, d⟩ | h
  · exact .inl ⟨o, e a _ h, d⟩
  · exact .inr h
section
variable {K : PySem.W.Frag} {H H' : Hp}
mutual
theorem Rep.mono (e : Ext H H') : ∀ (d : D) (v : V), Rep K H v d → Rep K H' v d
  | .non, _, h => by cases h; exact .non
  | .bl b, _, h => by cases h; exact .bl _
  | .int i, _, h => by cases h; exact .int _
  | .str x, _, h => by cases h; exact .str _
  | .tup ds, _, h => by cases h with | tup q r => exact .tup (ext_z e q) (Reps.mono e _ _ r)
  | .lst ds, _, h => by cases h with | lst q r => exact .lst (e _ _ q) (Reps.mono e _ _ r)
  | .ref a, _, h => by cases h; exact .ref _
  | .ty n, _, h => by cases h; exact .ty _
  | .scr ns, _, h => by cases h with | scr q => exact .scr (ext_l e q)
theorem Reps.mono (e : Ext H H') : ∀ (ds : List D) (vs : List V), Reps K H vs ds → Reps K H' vs ds
  | [], _, h => by cases h; exact .nil
  | d :: ds, _, h => by cases h with | cons a b => exact .cons (Rep.mono e _ _ a) (Reps.mono e _ _ b)
end
theorem Reps.length : ∀ {vs : List V} {ds : List D}, Reps K H vs ds → vs.length = ds.length
  | _, _, .nil => rfl
  | _, _, .cons _ t => by rw [List.length_cons, List.length_cons, Reps.length t]
theorem Reps.get : ∀ {vs : List V} {ds : List D} {i : Nat} {d : D}, Reps K H vs ds → ds[i]? = some d → ∃ v, vs[i]? = some v ∧ Rep K H v d
  | _, _, _, _, .nil, e => by simp at e
  | _, _, 0, _, .cons r _, e => by simp at e; subst e; exact ⟨_, rfl, r⟩
  | _, _, i + 1, d, .cons _ t, e => by
    obtain ⟨v, h1, h2⟩ := Reps.get (i := i) (d := d) t (by simpa using e)
    exact ⟨v, by simpa using h1, h2⟩
theorem Reps.append : ∀ {xs ys : List V} {ds es : List D}, Reps K H xs ds → Reps K H ys es → Reps K H (xs ++ ys) (ds ++ es)
  | _, _, _, _, .nil, s => s
  | _, _, _, _, .cons r t, s => .cons r (Reps.append t s)
theorem Reps.take : ∀ {xs : List V} {ds : List D} (n : Nat), Reps K H xs ds → Reps K H (xs.take n) (ds.take n)
  | _, _, 0, _ => .nil
  | _, _, _ + 1, .nil => .nil
  | _, _, n + 1, .cons r t => .cons r (Reps.take n t)
theorem Reps.drop : ∀ {xs : List V} {ds : List D} (n : Nat), Reps K H xs ds → Reps K H (xs.drop n) (ds.drop n)
  | _, _, 0, r => r
  | _, _, _ + 1, .nil => .nil
  | _, _, n + 1, .cons _ t => Reps.drop n t
theorem Reps.set {d : D} {v : V} (r : Rep K H v d) : ∀ {xs : List V} {ds : List D} (i : Nat), Reps K H xs ds → Reps K H (xs.set i v) (ds.set i d)
  | _, _, _, .nil => .nil
  | _, _, 0, .cons _ t => .cons r t
  | _, _, i + 1, .cons q t => .cons q (Reps.set r i t)
theorem Reps.rep : ∀ {xs : List V} {ds : List D} (n : Nat), Reps K H xs ds → Reps K H (List.replicate n xs).flatten (List.replicate n ds).flatten
  | _, _, 0, _ => .nil
  | _, _, n + 1, r => by
    rw [List.replicate_succ, List.replicate_succ, List.flatten_cons, List.flatten_cons]
    exact r.append (Reps.rep n r)
end

/-- an object that the running defs own -/
inductive OO where
  | lst (xs : List D)
  | dct (kvs : List (Str × D))
  | ins (C : Addr) (fs : List (Str × D))
abbrev S := Addr → Option OO
def supd (s : S) (a : Addr) (o : OO) : S := fun b => if b = a then some o else s b
theorem supd_same {s : S} {a : Addr} {o : OO} : supd s a o a = some o := by unfold supd; rw [if_pos rfl]
theorem supd_ne {s : S} {a b : Addr} {o : OO} (h : b ≠ a) : supd s a o b = s b := by unfold supd; rw [if_neg h]
theorem supd_supd {s : S} {a : Addr} {o u : OO} : supd (supd s a o) a u = supd s a u := by
  funext b; unfold supd; split <;> rfl
theorem supd_self {s : S} {a : Addr} {o : OO} (h : s a = some o) : supd s a o = s := by
  funext b; unfold supd; split
  · rename_i e; rw [e, h]
  · rfl
abbrev S0 : S := fun _ => none
/-- without what is hidden -/
def hide (h : Addr → Bool) (H : Hp) : Hp := fun a => if h a = true then none else H a
theorem hide_ext (h : Addr → Bool) (H : Hp) : Ext (hide h H) H := fun a o e => by
  unfold hide at e; split at e
  · cases e
  · exact e
def RepKV (K : PySem.W.Frag) (H : Hp) (kvs : List (Key × V)) (ds : List (Str × D)) : Prop := kvs.map (·.1) = ds.map (fun p => Sum.inr p.1) ∧ Reps K H (kvs.map (·.2)) (ds.map (·.2))
theorem RepKV.mono {K : PySem.W.Frag} {H H' : Hp} {kvs : List (Key × V)} {ds : List (Str × D)} (e : Ext H H') (h : RepKV K H kvs ds) : RepKV K H' kvs ds := ⟨h.1, Reps.mono e _ _ h.2⟩
def RepFs (K : PySem.W.Frag) (H : Hp) (vs : List (Str × V)) (ds : List (Str × D)) : Prop := vs.map (·.1) = ds.map (·.1) ∧ Reps K H (vs.map (·.2)) (ds.map (·.2))
theorem RepFs.mono {K : PySem.W.Frag} {H H' : Hp} {vs : List (Str × V)} {ds : List (Str × D)} (e : Ext H H') (h : RepFs K H vs ds) : RepFs K H' vs ds := ⟨h.1, Reps.mono e _ _ h.2⟩
def RepO (K : PySem.W.Frag) (H : Hp) (o : Option HO) : OO → Prop
  | .lst ds => ∃ xs, o = some (.lst xs) ∧ Reps K H xs ds
  | .dct ds => ∃ kvs, o = some (.dK kvs) ∧ RepKV K H kvs ds
  | .ins C ds => ∃ dx vs, o = some (.ins C dx vs) ∧ Cls K C ∧ (∀ p ∈ ds, NoAttr K C p.1) ∧ RepFs K H vs ds
theorem RepO.mono {K : PySem.W.Frag} {H H' : Hp} {o : Option HO} {u : OO} (e : Ext H H') (h : RepO K H o u) : RepO K H' o u := by
  cases u with
  | lst ds => obtain ⟨xs, a, b⟩ := h; exact ⟨xs, a, Reps.mono e _ _ b⟩
  | dct ds => obtain ⟨xs, a, b⟩ := h; exact ⟨xs, a, b.mono e⟩
  | ins C ds => obtain ⟨dx, xs, a, b, c, d⟩ := h; exact ⟨dx, xs, a, b, c, d.mono e⟩
theorem RepO.there {K : PySem.W.Frag} {H : Hp} {o : Option HO} {u : OO} (h : RepO K H o u) : o ≠ none := by
  cases u with
  | lst ds => obtain ⟨xs, a, b⟩ := h; rw [a]; exact fun z => nomatch z
  | dct ds => obtain ⟨xs, a, b⟩ := h; rw [a]; exact fun z => nomatch z
  | ins C ds => obtain ⟨dx, xs, a, b⟩ := h; rw [a]; exact fun z => nomatch z
/-- the state is held: what is owned is hidden, and stands -/
structure SI (K : PySem.W.Frag) (h : Addr → Bool) (s : S) (H : Hp) : Prop where
  own : ∀ a o, s a = some o → h a = true
  ob : ∀ a o, s a = some o → RepO K (hide h H) (H a) o
  hid : ∀ a, h a = true → H a ≠ none
theorem SI.zero (K : PySem.W.Frag) (H : Hp) : SI K (fun _ => false) S0 H := ⟨fun a o z => (nomatch z), fun a o z => (nomatch z), fun a z => (nomatch z)⟩
/-- from (s, H) to (s', H'): the same is owned, all else is as it was -/
structure Step (K : PySem.W.Frag) (h : Addr → Bool) (s : S) (H : Hp) (s' : S) (H' : Hp) : Prop where
  dom : ∀ a, s a = none → s' a = none
  fr : ∀ a o, s a = none → H a = some o → H' a = some o
  si : SI K h s' H'
section
variable {K : PySem.W.Frag} {h : Addr → Bool} {s s1 s2 : S} {H H1 H2 : Hp}
theorem Step.refl (i : SI K h s H) : Step K h s H s H := ⟨fun _ z => z, fun _ _ _ e => e, i⟩
theorem Step.trans (a : Step K h s H s1 H1) (b : Step K h s1 H1 s2 H2) : Step K h s H s2 H2 :=
  ⟨fun x z => b.dom x (a.dom x z), fun x o z e => b.fr x o (a.dom x z) (a.fr x o z e), b.si⟩
theorem Step.ext (i : SI K h s H) (a : Step K h s H s1 H1) : Ext (hide h H) (hide h H1) := fun x o e => by
  unfold hide at e ⊢
  split at e
  · cases e
  · rename_i hx
    rw [if_neg hx]
    refine a.fr x o ?_ e
    cases q : s x with
    | none => rfl
    | some u => exact absurd (i.own x u q) hx
theorem Step.rep (i : SI K h s H) (a : Step K h s H s1 H1) {v : V} {d : D} (r : Rep K (hide h H) v d) : Rep K (hide h H1) v d := Rep.mono (a.ext i) _ _ r
theorem Step.reps (i : SI K h s H) (a : Step K h s H s1 H1) {v : List V} {d : List D} (r : Reps K (hide h H) v d) : Reps K (hide h H1) v d := Reps.mono (a.ext i) _ _ r
/-- a new object -/
theorem Step.new (i : SI K h s H) {p : Addr} (hp : H p = none) (o : HO) : Step K h s H s (upd H p o) := by
  have np : ∀ a u, s a = some u → a ≠ p := fun a u e z => by subst z; exact (i.ob a u e).there hp
  refine ⟨fun _ z => z, fun a u _ e => by rw [upd_ne (ne_of_none e hp)]; exact e, i.own, fun a u e => ?_, fun a ha z => ?_⟩
  rotate_left
  · by_cases e : a = p
    · rw [e, upd_same] at z; cases z
    · rw [upd_ne e] at z; exact i.hid a ha z
  rw [upd_ne (np a u e)]
  refine (i.ob a u e).mono fun b w q => ?_
  unfold hide at q ⊢
  split at q
  · cases q
  · rename_i hb
    rw [if_neg hb, upd_ne (ne_of_none q hp)]
    exact q
/-- a new object is seen, if it is not hidden -/
theorem new_free (i : SI K h s H) {p : Addr} {o : HO} (hp : H p = none) : hide h (upd H p o) p = some o := by
  have hh : h p = false := by
    cases e : h p with
    | false => rfl
    | true => exact absurd hp (i.hid p e)
  unfold hide
  rw [hh, if_neg Bool.false_ne_true, upd_same]
end
end Fw

set_option Elab.async false
set_option linter.all false
set_option maxRecDepth 100000
namespace Fw
open PySem PySem.Spec PyProof.Rows L2

abbrev Fr := List (Option D)
/-- the frame's slots by data -/
structure EnvR (K : PySem.W.Frag) (H : Hp) (σ : L2.St) (δ : Fr) : Prop where
  len : σ.length = δ.length
  at_ : ∀ (i : Nat) (d : D), δ[i]? = some (some d) → ∃ v, σ[i]? = some (some v) ∧ Rep K H v d
theorem EnvR.mono {K : PySem.W.Frag} {H H' : Hp} {σ : L2.St} {δ : Fr} (e : Ext H H') (r : EnvR K H σ δ) : EnvR K H' σ δ :=
  ⟨r.len, fun i d q => let ⟨v, a, b⟩ := r.at_ i d q; ⟨v, a, Rep.mono e _ _ b⟩⟩
theorem EnvR.set {K : PySem.W.Frag} {H : Hp} {σ : L2.St} {δ : Fr} {v : V} {d : D} (r : EnvR K H σ δ) (rv : Rep K H v d) (i : Nat) : EnvR K H (σ.set i (some v)) (δ.set i (some d)) := by
  refine ⟨by rw [List.length_set, List.length_set]; exact r.len, fun j e q => ?_⟩
  by_cases hj : i = j
  · subst hj
    rw [List.getElem?_set] at q ⊢
    rw [if_pos rfl] at q ⊢
    rw [r.len]
    split at q
    · cases q
      rename_i hl
      rw [if_pos hl]
      exact ⟨v, rfl, rv⟩
    · cases q
  · rw [List.getElem?_set_ne hj] at q ⊢
    exact r.at_ j e q
/-- forgetting -/
theorem EnvR.clear {K : PySem.W.Frag} {H : Hp} {σ : L2.St} {δ : Fr} (r : EnvR K H σ δ) (i : Nat) : EnvR K H (σ.set i none) (δ.set i none) := by
  refine ⟨by rw [List.length_set, List.length_set]; exact r.len, fun j e q => ?_⟩
  by_cases hj : i = j
  · subst hj
    rw [List.getElem?_set] at q
    rw [if_pos rfl] at q
    split at q
    · cases q
    · cases q
  · rw [List.getElem?_set_ne hj] at q ⊢
    exact r.at_ j e q
theorem EnvR.clear_left {K : PySem.W.Frag} {H : Hp} {σ : L2.St} {δ : Fr} {i : Nat} (r : EnvR K H σ δ) (h : δ[i]? = some none ∨ δ[i]? = none) : EnvR K H (σ.set i none) δ := by
  refine ⟨by rw [List.length_set]; exact r.len, fun j e q => ?_⟩
  by_cases hj : i = j
  · subst hj
    rcases h with h | h
    · rw [h] at q; cases q
    · rw [h] at q; cases q
  · rw [List.getElem?_set_ne hj]
    exact r.at_ j e q

abbrev FE := Fr → S → Option (D × S)
abbrev FT := Fr → S → Option (Bool × S)
abbrev FA := Fr → S → Option (List D × S)
inductive Out where
  | nx (δ : Fr) | rt (d : D) | bk (δ : Fr) | ct (δ : Fr)
abbrev FS := Fr → S → Option (Out × S)

def tD (K : PySem.W.Frag) (f : FE) : TE := fun σ H Q => ∃ (h : Addr → Bool) (s : S) (δ : Fr) (d : D) (s' : S), EnvR K (hide h H) σ δ ∧ SI K h s H ∧ f δ s = some (d, s') ∧
  ∀ v H', Step K h s H s' H' → Rep K (hide h H') v d → Q v H'
def tDT (K : PySem.W.Frag) (f : FT) : TT := fun σ H Q => ∃ (h : Addr → Bool) (s : S) (δ : Fr) (d : Bool) (s' : S), EnvR K (hide h H) σ δ ∧ SI K h s H ∧ f δ s = some (d, s') ∧
  ∀ H', Step K h s H s' H' → Q d H'
def tDA (K : PySem.W.Frag) (f : FA) : TA := fun σ H Q => ∃ (h : Addr → Bool) (s : S) (δ : Fr) (d : List D) (s' : S), EnvR K (hide h H) σ δ ∧ SI K h s H ∧ f δ s = some (d, s') ∧
  ∀ vs H', Step K h s H s' H' → Reps K (hide h H') vs d → Q vs H'
def endR (K : PySem.W.Frag) (h : Addr → Bool) (D : Ends) (H' : Hp) : Out → Prop
  | .nx δ' => ∀ σ', EnvR K (hide h H') σ' δ' → D.nx σ' H'
  | .rt d => ∀ v, Rep K (hide h H') v d → D.rt v H'
  | .bk δ' => ∀ σ', EnvR K (hide h H') σ' δ' → D.bk σ' H'
  | .ct δ' => ∀ σ', EnvR K (hide h H') σ' δ' → D.ct σ' H'
def tDS (K : PySem.W.Frag) (f : FS) : TS := fun D σ H => ∃ (h : Addr → Bool) (s : S) (δ : Fr) (o : Out) (s' : S), EnvR K (hide h H) σ δ ∧ SI K h s H ∧ f δ s = some (o, s') ∧
  ∀ H', Step K h s H s' H' → endR K h D H' o

section
variable {X : Cx} {e a b c : Expr} {t t' : TE}
theorem imp_e (p : PE X e t) (i : ∀ σ H Q, t' σ H Q → t σ H Q) : PE X e t' := ⟨fun pins s σ H Q I h => p.run pins s σ H Q I (i σ H Q h)⟩
theorem imp_t {t t' : TT} (p : PT X e t) (i : ∀ σ H Q, t' σ H Q → t σ H Q) : PT X e t' := ⟨fun pins s σ H Q I h => p.run pins s σ H Q I (i σ H Q h)⟩
theorem imp_w {t t' : TT} (p : PW X e t) (i : ∀ σ H Q, t' σ H Q → t σ H Q) : PW X e t' := ⟨fun wh pins s σ H Q I h => p.run wh pins s σ H Q I (i σ H Q h)⟩
theorem imp_a {es : List Expr} {t t' : TA} (p : PA X es t) (i : ∀ σ H Q, t' σ H Q → t σ H Q) : PA X es t' := ⟨fun pos pins s σ H Q I h => p.run pos pins s σ H Q I (i σ H Q h)⟩
theorem imp_s {st : Stmt} {t t' : TS} (p : PS X st t) (i : ∀ D σ H, t' D σ H → t D σ H) : PS X st t' := ⟨fun pins s σ H D I h => p.run pins s σ H D I (i D σ H h)⟩
theorem imp_ss {st : List Stmt} {t t' : TS} (p : PSs X st t) (i : ∀ D σ H, t' D σ H → t D σ H) : PSs X st t' := ⟨fun pins s σ H D I h => p.run pins s σ H D I (i D σ H h)⟩

/-! ### names, constants -/
def fVar (i : Nat) : FE := fun δ s => match δ[i]? with
  | some (some d) => some (d, s)
  | _ => none
theorem d_var (i : Nat) {x : Str} {pos : Pos} (p : PE X (.Name x pos) (tVar i)) : PE X (.Name x pos) (tD X.K (fVar i)) := imp_e p fun σ H Q ⟨h, s, δ, d, s', er, si, q, w⟩ => by
  unfold fVar at q
  split at q
  · rename_i d' e
    cases q
    obtain ⟨v, ev, rv⟩ := er.at_ i _ e
    exact ⟨v, ev, w v H (Step.refl si) rv⟩
  · cases q
def fC (d : D) : FE := fun _ s => some (d, s)
theorem d_c {v : V} {d : D} (p : PE X e (tC v)) (r : ∀ H, Rep X.K H v d) : PE X e (tD X.K (fC d)) := imp_e p fun σ H Q ⟨h, s, δ, d', s', er, si, q, w⟩ => by
  cases q
  exact w v H (Step.refl si) (r _)
theorem d_int {i j pos} : PE X (.Constant (.int i) j pos) (tD X.K (fC (.int i))) := d_c pe_int fun _ => .int i
theorem d_bl {b j pos} : PE X (.Constant (.bool b) j pos) (tD X.K (fC (.bl b))) := d_c pe_bl fun _ => .bl b
theorem d_non {j pos} : PE X (.Constant .none j pos) (tD X.K (fC .non)) := d_c pe_non fun _ => .non
theorem d_str {x j pos} : PE X (.Constant (.str x) j pos) (tD X.K (fC (.str x))) := d_c pe_str fun _ => .str x

/-! ### arguments, displays -/
variable {es : List Expr} {fe fa fb : FE} {fs : FA}
def fNil : FA := fun _ s => some ([], s)
def fCons (fe : FE) (fs : FA) : FA := fun δ s => (fe δ s).bind fun p => (fs δ p.2).map fun q => (p.1 :: q.1, q.2)
theorem da_nil : PA X [] (tDA X.K fNil) := imp_a pa_nil fun σ H Q ⟨h, s, δ, d', s', er, si, q, w⟩ => by
  cases q
  exact w [] H (Step.refl si) .nil
theorem bind_some {α β : Type} {x : Option α} {f : α → Option β} {z : β} (h : x.bind f = some z) : ∃ y, x = some y ∧ f y = some z := by
  cases x with
  | none => cases h
  | some y => exact ⟨y, rfl, h⟩
theorem map_some {α β : Type} {x : Option α} {f : α → β} {z : β} (h : x.map f = some z) : ∃ y, x = some y ∧ f y = z := by
  cases x with
  | none => cases h
  | some y => exact ⟨y, rfl, Option.some.inj h⟩
theorem da_cons (ha : PE X e (tD X.K fe)) (hr : PA X es (tDA X.K fs)) (hs : starEach (e :: es) X.env = (false, eval e X.env) :: starEach es X.env := by rfl) : PA X (e :: es) (tDA X.K (fCons fe fs)) :=
  imp_a (pa_cons ha hr hs) fun σ H Q ⟨h, s, δ, ds, s', er, si, q, w⟩ => by
  obtain ⟨⟨d, s1⟩, q1, q⟩ := bind_some q
  obtain ⟨⟨ds', s2⟩, q2, q⟩ := map_some q
  cases q
  refine ⟨h, s, δ, d, s1, er, si, q1, fun v H1 st1 r1 => ⟨h, s1, δ, ds', s2, er.mono (st1.ext si), st1.si, q2, fun vs H2 st2 r2 => ?_⟩⟩
  exact w (v :: vs) H2 (st1.trans st2) (.cons (st2.rep st1.si r1) r2)
/-- a size that Python keeps -/
def okLen (n : Nat) : Bool := decide (n ≤ 10000000)
@[simp] theorem okLen_iff (n : Nat) : (okLen n = true) = (n ≤ 10000000) := by unfold okLen; simp
theorem okLen_le {n : Nat} (h : okLen n = true) : n ≤ sizeLine := Nat.le_trans (of_decide_eq_true h) (by decide)
theorem okLen_lt {n : Nat} (h : okLen n = true) : n < sizeLine := Nat.lt_of_le_of_lt (of_decide_eq_true h) (by decide)
def fTup (fs : FA) : FE := fun δ s => (fs δ s).bind fun p => if okLen p.1.length = true then some (.tup p.1, p.2) else none
def fLst (fs : FA) : FE := fun δ s => (fs δ s).bind fun p => if okLen p.1.length = true then some (.lst p.1, p.2) else none
theorem new_tup {K : PySem.W.Frag} {h : Addr → Bool} {s : S} {H : Hp} {p : Addr} {o : Obj} {vs : List V} {ds : List D} (si : SI K h s H) (hp : H p = none) (hd : o.dict = none) (r : Reps K (hide h H) vs ds) : Rep K (hide h (upd H p (.frz o (.tup vs)))) (.ref p) (.tup ds) :=
  .tup (.inl ⟨o, new_free si hp, hd⟩) ((Step.new si hp _).reps si r)
theorem new_lst {K : PySem.W.Frag} {h : Addr → Bool} {s : S} {H : Hp} {p : Addr} {vs : List V} {ds : List D} (si : SI K h s H) (hp : H p = none) (r : Reps K (hide h H) vs ds) : Rep K (hide h (upd H p (.lst vs))) (.ref p) (.lst ds) :=
  .lst (new_free si hp) ((Step.new si hp _).reps si r)
theorem d_tup {x1 pos} (ha : PA X es (tDA X.K fs)) : PE X (.Tuple es x1 pos) (tD X.K (fTup fs)) := imp_e (pe_tupZ ha) fun σ H Q ⟨h, s, δ, ds, s', er, si, q, w⟩ => by
  obtain ⟨⟨xs, s1⟩, q1, q⟩ := bind_some q
  split at q
  · rename_i hl
    cases q
    refine ⟨h, s, δ, xs, _, er, si, q1, fun vs H1 st1 r1 => ⟨?_, fun p o hp hd => ?_⟩⟩
    · rw [r1.length]; exact okLen_le hl
    · exact w _ _ (st1.trans (Step.new st1.si hp _)) (new_tup st1.si hp hd r1)
  · cases q
theorem d_lst {pos} (ha : PA X es (tDA X.K fs)) : PE X (.List es pos) (tD X.K (fLst fs)) := imp_e (pe_lst ha) fun σ H Q ⟨h, s, δ, ds, s', er, si, q, w⟩ => by
  obtain ⟨⟨xs, s1⟩, q1, q⟩ := bind_some q
  split at q
  · rename_i hl
    cases q
    refine ⟨h, s, δ, xs, _, er, si, q1, fun vs H1 st1 r1 => ⟨?_, fun p hp => ?_⟩⟩
    · rw [r1.length]; exact okLen_le hl
    · exact w _ _ (st1.trans (Step.new st1.si hp _)) (new_lst st1.si hp r1)
  · cases q

/-! ### operators -/
abbrev G2 := D → D → S → Option D
def f2 (g : G2) (fa fb : FE) : FE := fun δ s => (fa δ s).bind fun p => (fb δ p.2).bind fun q => (g p.1 q.1 q.2).map fun d => (d, q.2)
/-- what a two-place operation on values is by data -/
def GOp (K : PySem.W.Frag) (r : R2) (g : G2) : Prop := ∀ (h : Addr → Bool) (s : S) (H : Hp) (x y : V) (dx dy d : D) (Q : VK), SI K h s H → Rep K (hide h H) x dx → Rep K (hide h H) y dy → g dx dy s = some d →
  (∀ v H', Step K h s H s H' → Rep K (hide h H') v d → Q v H') → r x y H Q
theorem d_2 {r : R2} {g : G2} (ha : PE X a (tD X.K fa)) (hb : PE X b (tD X.K fb)) (hg : GOp X.K r g) (p : PE X e (tOp r (tD X.K fa) (tD X.K fb))) : PE X e (tD X.K (f2 g fa fb)) := imp_e p fun σ H Q ⟨h, s, δ, d, s', er, si, q, w⟩ => by
  obtain ⟨⟨x, s1⟩, q1, q⟩ := bind_some q
  obtain ⟨⟨y, s2⟩, q2, q⟩ := bind_some q
  obtain ⟨z, q3, q⟩ := map_some q
  cases q
  refine ⟨h, s, δ, x, s1, er, si, q1, fun v H1 st1 r1 => ⟨h, s1, δ, y, s2, er.mono (st1.ext si), st1.si, q2, fun u H2 st2 r2 => ?_⟩⟩
  exact hg h s2 H2 v u x y d Q st2.si (st2.rep st1.si r1) r2 q3 fun z H3 st3 r3 => w z H3 (st1.trans (st2.trans st3)) r3
theorem d_op {op : Operator} {r : R2} {g : G2} {pos : Pos} (ho : OpR X (binaryOp op) r) (hg : GOp X.K r g) (ha : PE X a (tD X.K fa)) (hb : PE X b (tD X.K fb)) : PE X (.BinOp a op b pos) (tD X.K (f2 g fa fb)) := d_2 ha hb hg (pe_op ho ha hb)
theorem d_cmp {op : CmpOp} {r : R2} {g : G2} {pos : Pos} (ho : OpR X (compareOp op) r) (hg : GOp X.K r g) (ha : PE X a (tD X.K fa)) (hb : PE X b (tD X.K fb)) (hm : behindInMarks op b = false) : PE X (.Compare a [op] [b] pos) (tD X.K (f2 g fa fb)) := d_2 ha hb hg (pe_cmpR ho ha hb hm)
/-- a test by a value that is a bool -/
def fT (f : FE) : FT := fun δ s => (f δ s).bind fun p => match p.1 with
  | .bl c => some (c, p.2)
  | _ => none
theorem rep_bl {K : PySem.W.Frag} {H : Hp} {v : V} {c : Bool} (r : Rep K H v (.bl c)) : v = .bl c := by cases r; rfl
theorem tT_of {K : PySem.W.Frag} {f : FE} {σ : L2.St} {H : Hp} {Q : Bool → Hp → Prop} (hq : tDT K (fT f) σ H Q) : tD K f σ H fun x H' => ∃ k, x = .bl k ∧ Q k H' := by
  obtain ⟨h, s, δ, d, s', er, si, q, w⟩ := hq
  obtain ⟨⟨x, s1⟩, q1, q⟩ := bind_some q
  cases x with
  | bl c =>
    cases q
    exact ⟨h, s, δ, _, _, er, si, q1, fun v H1 st1 r1 => ⟨d, rep_bl r1, w H1 st1⟩⟩
  | _ => cases q
theorem dt_cmp {op : CmpOp} {r : R2} {g : G2} {pos : Pos} (ho : OpR X (compareOp op) r) (hg : GOp X.K r g) (ha : PE X a (tD X.K fa)) (hb : PE X b (tD X.K fb)) (hm : behindInMarks op b = false) : PT X (.Compare a [op] [b] pos) (tDT X.K (fT (f2 g fa fb))) :=
  imp_t (pt_cmpR ho ha hb hm) fun σ H Q hq => by
  have hq' := tT_of hq
  obtain ⟨h, s, δ, d, s', er, si, q, w⟩ := hq'
  obtain ⟨⟨x, s1⟩, q1, q⟩ := bind_some q
  obtain ⟨⟨y, s2⟩, q2, q⟩ := bind_some q
  obtain ⟨z, q3, q⟩ := map_some q
  cases q
  refine ⟨h, s, δ, x, s1, er, si, q1, fun v H1 st1 r1 => ⟨h, s1, δ, y, s2, er.mono (st1.ext si), st1.si, q2, fun u H2 st2 r2 => ?_⟩⟩
  exact hg h s2 H2 v u x y d _ st2.si (st2.rep st1.si r1) r2 q3 fun z H3 st3 r3 => w z H3 (st1.trans (st2.trans st3)) r3
/-- any expression whose value is a bool, as a test -/
theorem dt_val (p : PE X e (tD X.K fe)) (he : ∀ whole, isTrue e X.env whole = (do let v ← whole; standAt e.pos; holding [v] (truthy v)) := by intro _; rfl) : PT X e (tDT X.K (fT fe)) :=
  imp_t (pt_val p he) fun σ H Q hq => tT_of hq
end
end Fw

set_option Elab.async false
set_option linter.all false
set_option maxRecDepth 100000
namespace Fw
open PySem PySem.Spec PyProof.Rows L2
section
variable {X : Cx} {e a b c : Expr} {es rest : List Expr} {fe fa fb : FE} {fs : FA} {ta tb : FT} {pos : Pos}

/-! ### and, or, not, if: as values (bools), as tests -/
def fAnd (fa fb : FE) : FE := fun δ s => (fa δ s).bind fun p => match p.1 with
  | .bl c => if c = true then fb δ p.2 else some (.bl false, p.2)
  | _ => none
def fOr (fa fb : FE) : FE := fun δ s => (fa δ s).bind fun p => match p.1 with
  | .bl c => if c = true then some (.bl true, p.2) else fb δ p.2
  | _ => none
def fNot (fa : FE) : FE := fun δ s => (fa δ s).bind fun p => match p.1 with
  | .bl c => some (.bl (!c), p.2)
  | _ => none
def fIf (t : FT) (fa fb : FE) : FE := fun δ s => (t δ s).bind fun p => if p.1 = true then fa δ p.2 else fb δ p.2
def tAndF (t u : FT) : FT := fun δ s => (t δ s).bind fun p => if p.1 = true then u δ p.2 else some (false, p.2)
def tOrF (t u : FT) : FT := fun δ s => (t δ s).bind fun p => if p.1 = true then some (true, p.2) else u δ p.2
def tNotF (t : FT) : FT := fun δ s => (t δ s).map fun p => (!p.1, p.2)
theorem d_one {op} (h : PE X a (tD X.K fa)) : PE X (.BoolOp op [a] pos) (tD X.K fa) := pe_one h
theorem d_and (ha : PE X a (tD X.K fa)) (hb : PE X (.BoolOp .And (b :: rest) pos) (tD X.K fb)) : PE X (.BoolOp .And (a :: b :: rest) pos) (tD X.K (fAnd fa fb)) := imp_e (pe_and ha hb) fun σ H Q ⟨h, s, δ, d, s', er, si, q, w⟩ => by
  obtain ⟨⟨x, s1⟩, q1, q⟩ := bind_some q
  cases x with
  | bl c =>
    refine ⟨h, s, δ, .bl c, s1, er, si, q1, fun v H1 st1 r1 => ⟨c, rep_bl r1, ?_⟩⟩
    cases c with
    | true => exact ⟨h, s1, δ, d, s', er.mono (st1.ext si), st1.si, q, fun v H2 st2 r2 => w v H2 (st1.trans st2) r2⟩
    | false => cases q; exact w _ H1 st1 (.bl false)
  | _ => cases q
theorem d_or (ha : PE X a (tD X.K fa)) (hb : PE X (.BoolOp .Or (b :: rest) pos) (tD X.K fb)) : PE X (.BoolOp .Or (a :: b :: rest) pos) (tD X.K (fOr fa fb)) := imp_e (pe_or ha hb) fun σ H Q ⟨h, s, δ, d, s', er, si, q, w⟩ => by
  obtain ⟨⟨x, s1⟩, q1, q⟩ := bind_some q
  cases x with
  | bl c =>
    refine ⟨h, s, δ, .bl c, s1, er, si, q1, fun v H1 st1 r1 => ⟨c, rep_bl r1, ?_⟩⟩
    cases c with
    | true => cases q; exact w _ H1 st1 (.bl true)
    | false => exact ⟨h, s1, δ, d, s', er.mono (st1.ext si), st1.si, q, fun v H2 st2 r2 => w v H2 (st1.trans st2) r2⟩
  | _ => cases q
theorem d_not (ha : PE X a (tD X.K fa)) : PE X (.UnaryOp .Not a pos) (tD X.K (fNot fa)) := imp_e (pe_not ha) fun σ H Q ⟨h, s, δ, d, s', er, si, q, w⟩ => by
  obtain ⟨⟨x, s1⟩, q1, q⟩ := bind_some q
  cases x with
  | bl c =>
    cases q
    exact ⟨h, s, δ, .bl c, _, er, si, q1, fun v H1 st1 r1 => ⟨c, rep_bl r1, w _ H1 st1 (.bl _)⟩⟩
  | _ => cases q
theorem d_if (hc : PT X c (tDT X.K ta)) (ha : PE X a (tD X.K fa)) (hb : PE X b (tD X.K fb)) : PE X (.IfExp c a b pos) (tD X.K (fIf ta fa fb)) := imp_e (pe_ifExp hc ha hb) fun σ H Q ⟨h, s, δ, d, s', er, si, q, w⟩ => by
  obtain ⟨⟨k, s1⟩, q1, q⟩ := bind_some q
  refine ⟨h, s, δ, k, s1, er, si, q1, fun H1 st1 => ?_⟩
  cases k with
  | true => exact ⟨h, s1, δ, d, s', er.mono (st1.ext si), st1.si, q, fun v H2 st2 r2 => w v H2 (st1.trans st2) r2⟩
  | false => exact ⟨h, s1, δ, d, s', er.mono (st1.ext si), st1.si, q, fun v H2 st2 r2 => w v H2 (st1.trans st2) r2⟩
theorem dt_not (ha : PT X a (tDT X.K ta)) : PT X (.UnaryOp .Not a pos) (tDT X.K (tNotF ta)) := imp_t (pt_not ha) fun σ H Q ⟨h, s, δ, d, s', er, si, q, w⟩ => by
  obtain ⟨⟨k, s1⟩, q1, q⟩ := map_some q
  cases q
  exact ⟨h, s, δ, k, _, er, si, q1, w⟩
theorem dw_and1 (ha : PT X a (tDT X.K ta)) : PW X (.BoolOp .And [a] pos) (tDT X.K ta) := pw_and1 ha
theorem dw_or1 (ha : PT X a (tDT X.K ta)) : PW X (.BoolOp .Or [a] pos) (tDT X.K ta) := pw_or1 ha
theorem dw_and (ha : PT X a (tDT X.K ta)) (hb : PW X (.BoolOp .And (b :: rest) pos) (tDT X.K tb)) : PW X (.BoolOp .And (a :: b :: rest) pos) (tDT X.K (tAndF ta tb)) := imp_w (pw_and ha hb) fun σ H Q ⟨h, s, δ, d, s', er, si, q, w⟩ => by
  obtain ⟨⟨k, s1⟩, q1, q⟩ := bind_some q
  refine ⟨h, s, δ, k, s1, er, si, q1, fun H1 st1 => ?_⟩
  cases k with
  | true => exact ⟨h, s1, δ, d, s', er.mono (st1.ext si), st1.si, q, fun H2 st2 => w H2 (st1.trans st2)⟩
  | false => cases q; exact w H1 st1
theorem dw_or (ha : PT X a (tDT X.K ta)) (hb : PW X (.BoolOp .Or (b :: rest) pos) (tDT X.K tb)) : PW X (.BoolOp .Or (a :: b :: rest) pos) (tDT X.K (tOrF ta tb)) := imp_w (pw_or ha hb) fun σ H Q ⟨h, s, δ, d, s', er, si, q, w⟩ => by
  obtain ⟨⟨k, s1⟩, q1, q⟩ := bind_some q
  refine ⟨h, s, δ, k, s1, er, si, q1, fun H1 st1 => ?_⟩
  cases k with
  | true => cases q; exact w H1 st1
  | false => exact ⟨h, s1, δ, d, s', er.mono (st1.ext si), st1.si, q, fun H2 st2 => w H2 (st1.trans st2)⟩

/-! ### one place -/
abbrev G1 := D → S → Option D
def f1 (g : G1) (fa : FE) : FE := fun δ s => (fa δ s).bind fun p => (g p.1 p.2).map fun d => (d, p.2)
/-- the arguments of a call that makes nothing of the state -/
abbrev GL := List D → S → Option D
def fL (g : GL) (fs : FA) : FE := fun δ s => (fs δ s).bind fun p => (g p.1 p.2).map fun d => (d, p.2)
def GCall (K : PySem.W.Frag) (r : List V → Hp → VK → Prop) (g : GL) : Prop := ∀ (h : Addr → Bool) (s : S) (H : Hp) (vs : List V) (ds : List D) (d : D) (Q : VK), SI K h s H → Reps K (hide h H) vs ds → g ds s = some d →
  (∀ v H', Step K h s H s H' → Rep K (hide h H') v d → Q v H') → r vs H Q
theorem d_L {r : List V → Hp → VK → Prop} {g : GL} (ha : PA X es (tDA X.K fs)) (hg : GCall X.K r g) (p : PE X e (tCB r (tDA X.K fs))) : PE X e (tD X.K (fL g fs)) := imp_e p fun σ H Q ⟨h, s, δ, d, s', er, si, q, w⟩ => by
  obtain ⟨⟨xs, s1⟩, q1, q⟩ := bind_some q
  obtain ⟨z, q3, q⟩ := map_some q
  cases q
  exact ⟨h, s, δ, xs, _, er, si, q1, fun vs H1 st1 r1 => hg h _ H1 vs xs d Q st1.si r1 q3 fun v H2 st2 r2 => w v H2 (st1.trans st2) r2⟩
theorem d_callB {x : Str} {id : String} {r : List V → Hp → VK → Prop} {g : GL} {p : Pos} (hc : CallR X (.builtin id) r) (hg : GCall X.K r g) (hgl : Gl X x) (hm : X.mg x = none) (hv : bootBuiltins x = some (.builtin id)) (ha : PA X (e :: es) (tDA X.K fs)) (hn : x ≠ "__name__" := by decide) (hdb : (x == ("__debug__" : Str)) = false := by decide)
    (he : starEach (e :: es) X.env = (false, eval e X.env) :: starEach es X.env := by rfl) (hpl : (backTo pos (starEach es X.env)).any (·.1) = false := by rfl) : PE X (.Call (.Name x p) (e :: es) [] pos) (tD X.K (fL g fs)) :=
  d_L ha hg (pe_callB hc hgl hm hv ha hn hdb he hpl)
theorem d_callTy {x : Str} {T : String} {r : List V → Hp → VK → Prop} {g : GL} {p : Pos} (hc : CallR X (.type T) r) (hg : GCall X.K r g) (hgl : Gl X x) (hm : X.mg x = none) (hv : bootBuiltins x = some (.type T)) (ha : PA X (e :: es) (tDA X.K fs)) (hn : x ≠ "__name__" := by decide) (hdb : (x == ("__debug__" : Str)) = false := by decide)
    (he : starEach (e :: es) X.env = (false, eval e X.env) :: starEach es X.env := by rfl) (hpl : (backTo pos (starEach es X.env)).any (·.1) = false := by rfl) : PE X (.Call (.Name x p) (e :: es) [] pos) (tD X.K (fL g fs)) :=
  d_L ha hg (pe_callTy hc hgl hm hv ha hn hdb he hpl)

abbrev FD := List D → S → Option (D × S)
/-! ### a def's promise by data -/
def spD (K : PySem.W.Frag) (n : Nat) (g : FD) : Sp := fun vs H Q _ => ∃ (h : Addr → Bool) (s : S) (ds : List D) (d : D) (s' : S), Reps K (hide h H) vs ds ∧ ds.length = n ∧ SI K h s H ∧ g ds s = some (d, s') ∧
  ∀ v H', Step K h s H s' H' → Rep K (hide h H') v d → Q v H'
end
end Fw

set_option Elab.async false
set_option linter.all false
set_option maxRecDepth 100000
namespace Fw
open PySem PySem.Spec PyProof.Rows L2
section
variable {X : Cx} {e a b c : Expr} {es rest : List Expr} {fe fa fb : FE} {fs : FA} {ta tb : FT} {pos : Pos} {st : Stmt} {sts : List Stmt} {f1 f2 : FS}

/-! ### calls of the program's defs -/
def fCall (n : Nat) (g : FD) (fs : FA) : FE := fun δ s => (fs δ s).bind fun p => if p.1.length = n then g p.1 p.2 else none
theorem tcall_of {K : PySem.W.Frag} {n : Nat} {g : FD} {σ : L2.St} {H : Hp} {Q : VK} {E : XK} (hq : tD K (fCall n g fs) σ H Q) : tCall (spD K n g) [] E (tDA K fs) σ H Q := by
  obtain ⟨h, s, δ, d, s', er, si, q, w⟩ := hq
  obtain ⟨⟨xs, s1⟩, q1, q⟩ := bind_some q
  split at q
  · rename_i hl
    refine ⟨h, s, δ, xs, s1, er, si, q1, fun vs H1 st1 r1 => ?_⟩
    refine ⟨h, s1, xs, d, s', by rw [List.append_nil]; exact r1, hl, st1.si, q, fun v H2 st2 r2 => w v H2 (st1.trans st2) r2⟩
  · cases q
theorem d_call {k n : Nat} {f : Addr} {fd : FuncData} {ps : List Str} {g : FD} {x : Str} {p : Pos} (F : FnOk X.prog X.w X.K X.mg X.base CX0 k f fd ps (spD X.K n g)) (hr : Room k X.A) (hg : Gl X x) (hm : X.mg x = some (.ref f)) (hk : PySem.W.keepIn X.K (.ref f) = true) (hb : Binds X.K fd ps [])
    (ha : PA X (e :: es) (tDA X.K fs)) (hdb : (x == ("__debug__" : Str)) = false := by decide) (he : starEach (e :: es) X.env = (false, eval e X.env) :: starEach es X.env := by rfl) (hpl : (backTo pos (starEach es X.env)).any (·.1) = false := by rfl) :
    PE X (.Call (.Name x p) (e :: es) [] pos) (tD X.K (fCall n g fs)) := imp_e (pe_call F hr hg hm hk hb .nil pass0 ha hdb he hpl) fun _ _ _ h => tcall_of h
theorem d_call0 {k n : Nat} {f : Addr} {fd : FuncData} {ps : List Str} {g : FD} {x : Str} {p : Pos} (F : FnOk X.prog X.w X.K X.mg X.base CX0 k f fd ps (spD X.K n g)) (hr : Room k X.A) (hg : Gl X x) (hm : X.mg x = some (.ref f)) (hk : PySem.W.keepIn X.K (.ref f) = true) (hb : Binds X.K fd ps [])
    (hdb : (x == ("__debug__" : Str)) = false := by decide) : PE X (.Call (.Name x p) [] [] pos) (tD X.K (fCall n g fNil)) := imp_e (pe_call0 F hr hg hm hk hb .nil pass0 hdb) fun σ H Q hq => by
  have hq' := tcall_of (E := E0) hq
  obtain ⟨h, s, δ, ds, s', er, si, q, w⟩ := hq'
  cases q
  exact w [] H (Step.refl si) .nil

/-! ### blocks -/
def fNx : FS := fun δ s => some (.nx δ, s)
def fSeq (f g : FS) : FS := fun δ s => (f δ s).bind fun p => match p.1 with
  | .nx δ' => g δ' p.2
  | .rt d => some (.rt d, p.2)
  | .bk δ' => some (.bk δ', p.2)
  | .ct δ' => some (.ct δ', p.2)
theorem endR_step {K : PySem.W.Frag} {h : Addr → Bool} {D : Ends} {s0 s1 s2 : S} {H0 H1 : Hp} {o : Out} (st : Step K h s0 H0 s1 H1) (w : ∀ H', Step K h s0 H0 s2 H' → endR K h D H' o) : ∀ H', Step K h s1 H1 s2 H' → endR K h D H' o := fun H' st2 => w H' (st.trans st2)
theorem dss_nil : PSs X [] (tDS X.K fNx) := imp_ss pss_nil fun D σ H ⟨h, s, δ, o, s', er, si, q, w⟩ => by
  cases q
  exact w H (Step.refl si) σ er
theorem dss_one (h1 : PS X st (tDS X.K f1)) : PSs X [st] (tDS X.K f1) := pss_one h1
theorem dss_cons (h1 : PS X st (tDS X.K f1)) (h2 : PSs X sts (tDS X.K f2)) : PSs X (st :: sts) (tDS X.K (fSeq f1 f2)) := imp_ss (pss_cons h1 h2) fun D σ H ⟨h, s, δ, o, s', er, si, q, w⟩ => by
  obtain ⟨⟨o1, s1⟩, q1, q⟩ := bind_some q
  refine ⟨h, s, δ, o1, s1, er, si, q1, fun H1 st1 => ?_⟩
  cases o1 with
  | nx δ1 => exact fun σ1 er1 => ⟨h, s1, δ1, o, s', er1, st1.si, q, endR_step st1 w⟩
  | rt d => cases q; exact w H1 st1
  | bk δ1 => cases q; exact w H1 st1
  | ct δ1 => cases q; exact w H1 st1
def fRet (fe : FE) : FS := fun δ s => (fe δ s).map fun p => (.rt p.1, p.2)
theorem ds_ret (he : PE X e (tD X.K fe)) : PS X (.Return (some e) pos) (tDS X.K (fRet fe)) := imp_s (ps_ret he) fun D σ H ⟨h, s, δ, o, s', er, si, q, w⟩ => by
  obtain ⟨⟨d, s1⟩, q1, q⟩ := map_some q
  cases q
  exact ⟨h, s, δ, d, _, er, si, q1, fun v H1 st1 r1 => w H1 st1 v r1⟩
theorem ds_retN : PS X (.Return none pos) (tDS X.K (fRet (fC .non))) := imp_s ps_retN fun D σ H ⟨h, s, δ, o, s', er, si, q, w⟩ => by
  cases q
  exact w H (Step.refl si) .non .non
def fDrop (fe : FE) : FS := fun δ s => (fe δ s).map fun p => (.nx δ, p.2)
theorem ds_expr (he : PE X e (tD X.K fe)) (hs : swapsWith e none pos.line X.env = pure false := by rfl) : PS X (.Expr e pos) (tDS X.K (fDrop fe)) := imp_s (ps_expr he hs) fun D σ H ⟨h, s, δ, o, s', er, si, q, w⟩ => by
  obtain ⟨⟨d, s1⟩, q1, q⟩ := map_some q
  cases q
  exact ⟨h, s, δ, d, _, er, si, q1, fun v H1 st1 r1 => w H1 st1 σ (er.mono (st1.ext si))⟩
def fIfS (t : FT) (f g : FS) : FS := fun δ s => (t δ s).bind fun p => if p.1 = true then f δ p.2 else g δ p.2
theorem ds_if {p q' : List Stmt} (hc : PT X c (tDT X.K ta)) (ha : PSs X p (tDS X.K f1)) (hb : PSs X q' (tDS X.K f2)) : PS X (.If c p q' pos) (tDS X.K (fIfS ta f1 f2)) := imp_s (ps_if hc ha hb) fun D σ H ⟨h, s, δ, o, s', er, si, q, w⟩ => by
  obtain ⟨⟨k, s1⟩, q1, q⟩ := bind_some q
  refine ⟨h, s, δ, k, s1, er, si, q1, fun H1 st1 => ?_⟩
  cases k with
  | true => exact ⟨h, s1, δ, o, s', er.mono (st1.ext si), st1.si, q, endR_step st1 w⟩
  | false => exact ⟨h, s1, δ, o, s', er.mono (st1.ext si), st1.si, q, endR_step st1 w⟩
/-- what is never come to -/
def fNever : FS := fun _ _ => none
theorem ds_never : PS X st (tDS X.K fNever) := imp_s ps_never fun D σ H ⟨h, s, δ, o, s', er, si, q, w⟩ => by cases q
theorem dss_never : PSs X sts (tDS X.K fNever) := imp_ss pss_never fun D σ H ⟨h, s, δ, o, s', er, si, q, w⟩ => by cases q
theorem ds_pass : PS X (.Pass pos) (tDS X.K fNx) := imp_s ps_pass fun D σ H ⟨h, s, δ, o, s', er, si, q, w⟩ => by
  cases q
  exact w H (Step.refl si) σ er
theorem ds_break : PS X (.Break pos) (tDS X.K fun δ s => some (.bk δ, s)) := imp_s ps_break fun D σ H ⟨h, s, δ, o, s', er, si, q, w⟩ => by
  cases q
  exact w H (Step.refl si) σ er
theorem ds_cont : PS X (.Continue pos) (tDS X.K fun δ s => some (.ct δ, s)) := imp_s ps_continue fun D σ H ⟨h, s, δ, o, s', er, si, q, w⟩ => by
  cases q
  exact w H (Step.refl si) σ er

/-! ### stores to names -/
def fSet (i : Nat) (fe : FE) : FS := fun δ s => (fe δ s).map fun p => (.nx (δ.set i (some p.1)), p.2)
theorem ds_setT {i : Nat} {te : TE} (p : PS X st (tAsg te (gName i))) (he : ∀ σ H Q, tD X.K fe σ H Q → te σ H Q) : PS X st (tDS X.K (fSet i fe)) := imp_s p fun D σ H ⟨h, s, δ, o, s', er, si, q, w⟩ => by
  obtain ⟨⟨d, s1⟩, q1, q⟩ := map_some q
  cases q
  exact he _ _ _ ⟨h, s, δ, d, _, er, si, q1, fun v H1 st1 r1 => w H1 st1 _ ((er.mono (st1.ext si)).set r1 i)⟩
theorem ds_set {i : Nat} {x : Str} {pos' : Pos} (hN : X.N.Nodup) (hi : X.N[i]? = some x) (hx : Loc X.env.scope x) (he : PE X e (tD X.K fe)) (hs : swapsWith e (some (.Name x pos')) pos.line X.env = pure false := by rfl) (hf : X.fn x = true ∨ X.env.scope.names.lookup x = some .local := by first | exact .inl rfl | exact .inr rfl | assumption) :
    PS X (.Assign [.Name x pos'] e pos) (tDS X.K (fSet i fe)) := ds_setT (ps_set hN hi hx he hs hf) fun _ _ _ h => h
def fPar (i j : Nat) (fs : FA) : FS := fun δ s => (fs δ s).bind fun p => match p.1 with
  | [x, y] => some (.nx ((δ.set i (some x)).set j (some y)), p.2)
  | _ => none
theorem reps2 {K : PySem.W.Frag} {H : Hp} {vs : List V} {x y : D} (r : Reps K H vs [x, y]) : ∃ v u, vs = [v, u] ∧ Rep K H v x ∧ Rep K H u y := by
  cases r with
  | cons a r => cases r with
    | cons b r => cases r; exact ⟨_, _, rfl, a, b⟩
theorem reps1 {K : PySem.W.Frag} {H : Hp} {vs : List V} {x : D} (r : Reps K H vs [x]) : ∃ v, vs = [v] ∧ Rep K H v x := by
  cases r with
  | cons a r => cases r; exact ⟨_, rfl, a⟩
theorem reps3 {K : PySem.W.Frag} {H : Hp} {vs : List V} {x y z : D} (r : Reps K H vs [x, y, z]) : ∃ v u w, vs = [v, u, w] ∧ Rep K H v x ∧ Rep K H u y ∧ Rep K H w z := by
  cases r with
  | cons a r =>
    obtain ⟨u, w, rfl, b, c⟩ := reps2 r
    exact ⟨_, _, _, rfl, a, b, c⟩
theorem ds_par {i j : Nat} (p : PS X st (tPar i j (tDA X.K fs))) : PS X st (tDS X.K (fPar i j fs)) := imp_s p fun D σ H ⟨h, s, δ, o, s', er, si, q, w⟩ => by
  obtain ⟨⟨ds, s1⟩, q1, q⟩ := bind_some q
  split at q
  · cases q
    refine ⟨h, s, δ, _, _, er, si, q1, fun vs H1 st1 r1 => ?_⟩
    rename_i x y e'
    obtain rfl : ds = [x, y] := e'
    obtain ⟨v, u, rfl, ra, rb⟩ := reps2 r1
    exact ⟨v, u, rfl, w H1 st1 _ (((er.mono (st1.ext si)).set ra i).set rb j)⟩
  · cases q
def fPar3 (i j l : Nat) (fs : FA) : FS := fun δ s => (fs δ s).bind fun p => match p.1 with
  | [x, y, z] => some (.nx (((δ.set i (some x)).set j (some y)).set l (some z)), p.2)
  | _ => none
theorem ds_par3 {i j l : Nat} (p : PS X st (tPar3 i j l (tDA X.K fs))) : PS X st (tDS X.K (fPar3 i j l fs)) := imp_s p fun D σ H ⟨h, s, δ, o, s', er, si, q, w⟩ => by
  obtain ⟨⟨ds, s1⟩, q1, q⟩ := bind_some q
  split at q
  · cases q
    refine ⟨h, s, δ, _, _, er, si, q1, fun vs H1 st1 r1 => ?_⟩
    rename_i x y z e'
    obtain rfl : ds = [x, y, z] := e'
    obtain ⟨v, u, w', rfl, ra, rb, rc⟩ := reps3 r1
    exact ⟨v, u, w', rfl, w H1 st1 _ ((((er.mono (st1.ext si)).set ra i).set rb j).set rc l)⟩
  · cases q

/-! ### targets -/
abbrev FG := D → Fr → Option Fr
/-- a target by data; vs: slots that its stores keep within -/
def GT (K : PySem.W.Frag) (g : TG) (ft : FG) (vs : List Nat) : Prop := ∀ (H0 : Hp) (v : V) (σ : L2.St) (H : Hp) (d : D) (δ δ' : Fr) (Q : L2.St → Hp → Prop), Ext H0 H → EnvR K H0 σ δ → Rep K H0 v d → ft d δ = some δ' →
  (∀ σ', EnvR K H0 σ' δ' → wipe σ' vs = wipe σ vs → Q σ' H) → g v σ H Q
@[simp] def gtName (i : Nat) : FG := fun d δ => some (δ.set i (some d))
theorem set_wipe {σ : L2.St} {i : Nat} {x : Option V} : ∀ {vs : List Nat}, i ∈ vs → wipe (σ.set i x) vs = wipe σ vs
  | [], h => by cases h
  | v :: vs, h => by
    unfold wipe
    by_cases hv : i = v
    · subst hv
      by_cases hm : i ∈ vs
      · rw [set_wipe hm]
      · have q : ∀ (us : List Nat), i ∉ us → wipe (σ.set i x) us = (wipe σ us).set i x := by
          intro us
          induction us with
          | nil => intro _; rfl
          | cons u us ih =>
            intro hu
            unfold wipe
            rw [ih (fun z => hu (List.mem_cons_of_mem _ z)), List.set_comm _ _ (fun z => hu (by rw [z]; exact List.mem_cons_self))]
        rw [q vs hm, List.set_set]
    · rw [set_wipe ((List.mem_cons.mp h).resolve_left hv)]
theorem gt_name {K : PySem.W.Frag} {i : Nat} {vs : List Nat} (h : i ∈ vs) : GT K (gName i) (gtName i) vs := by
  intro H0 v σ H d δ δ' Q ex er r q w
  cases q
  exact w _ (er.set r i) (set_wipe h)
@[simp] def gtPair (i j : Nat) : FG := fun d δ => match d with
  | .tup [x, y] => some ((δ.set i (some x)).set j (some y))
  | _ => none
theorem gt_pair {K : PySem.W.Frag} {i j : Nat} {vs : List Nat} (h : i ∈ vs) (h' : j ∈ vs) : GT K (gTup K 2 (gCons (gName i) (gCons (gName j) gNil))) (gtPair i j) vs := by
  intro H0 v σ H d δ δ' Q ex er r q w
  unfold gtPair at q
  split at q
  · rename_i x y
    cases q
    cases r with
    | tup hq rs =>
      rename_i a xs
      obtain ⟨v1, v2, rfl, r1, r2⟩ := reps2 rs
      refine ⟨a, [v1, v2], rfl, (ext_z ex hq).sq, rfl, v1, [v2], rfl, v2, [], rfl, rfl, ?_⟩
      exact w _ ((er.set r1 i).set r2 j) (by rw [set_wipe h', set_wipe h])
  · cases q
@[simp] def gtTri (i j k : Nat) : FG := fun d δ => match d with
  | .tup [x, y, z] => some (((δ.set i (some x)).set j (some y)).set k (some z))
  | _ => none
theorem gt_tri {K : PySem.W.Frag} {i j k : Nat} {vs : List Nat} (h : i ∈ vs) (h' : j ∈ vs) (h2 : k ∈ vs) : GT K (gTup K 3 (gCons (gName i) (gCons (gName j) (gCons (gName k) gNil)))) (gtTri i j k) vs := by
  intro H0 v σ H d δ δ' Q ex er r q w
  unfold gtTri at q
  split at q
  · rename_i x y z
    cases q
    cases r with
    | tup hq rs =>
      rename_i a xs
      obtain ⟨v1, v2, v3, rfl, r1, r2, r3⟩ := reps3 rs
      refine ⟨a, [v1, v2, v3], rfl, (ext_z ex hq).sq, rfl, v1, [v2, v3], rfl, v2, [v3], rfl, v3, [], rfl, rfl, ?_⟩
      exact w _ (((er.set r1 i).set r2 j).set r3 k) (by rw [set_wipe h2, set_wipe h', set_wipe h])
  · cases q
/-- target = expression -/
def fAsg (ft : FG) (fe : FE) : FS := fun δ s => (fe δ s).bind fun p => (ft p.1 δ).map fun δ' => (.nx δ', p.2)
theorem ds_asg {tg : Expr} {g : TG} {ft : FG} {vs : List Nat} (he : PE X e (tD X.K fe)) (hg : PG X tg g) (gt : GT X.K g ft vs) (hs : swapsWithSole [tg] e pos.line X.env = pure false := by rfl) (hw : swappedStores [tg] e X.env = pure none := by rfl)
    (h1 : (assignEach [tg] X.env).map (·.2) = [assign tg X.env] := by rfl) : PS X (.Assign [tg] e pos) (tDS X.K (fAsg ft fe)) := imp_s (ps_asg he hg hs hw h1) fun D σ H ⟨h, s, δ, o, s', er, si, q, w⟩ => by
  obtain ⟨⟨d, s1⟩, q1, q⟩ := bind_some q
  obtain ⟨δ1, q2, q⟩ := map_some q
  cases q
  exact ⟨h, s, δ, d, _, er, si, q1, fun v H1 st1 r1 => gt (hide h H1) v σ H1 d δ δ1 _ (hide_ext h H1) (er.mono (st1.ext si)) r1 q2 fun σ' er' _ => w H1 st1 σ' er'⟩
end
end Fw

set_option Elab.async false
set_option linter.all false
set_option maxRecDepth 100000
namespace Fw
open PySem PySem.Spec PyProof.Rows L2

/-- from (h, s, H) to (h', s', H'): some more may be hidden -/
structure StepX (K : PySem.W.Frag) (h : Addr → Bool) (s : S) (H : Hp) (h' : Addr → Bool) (s' : S) (H' : Hp) : Prop where
  le : ∀ a, h a = true → h' a = true
  new : ∀ a, h' a = true → h a = true ∨ H a = none
  dom : ∀ a, s a = none → s' a = none
  fr : ∀ a o, s a = none → H a = some o → H' a = some o
  si : SI K h' s' H'
section
variable {K : PySem.W.Frag} {h h' : Addr → Bool} {s s1 s2 : S} {H H1 H2 : Hp}
theorem StepX.of (a : Step K h s H s1 H1) : StepX K h s H h s1 H1 := ⟨fun _ z => z, fun _ z => .inl z, a.dom, a.fr, a.si⟩
theorem StepX.trans (a : StepX K h s H h' s1 H1) (b : Step K h' s1 H1 s2 H2) : StepX K h s H h' s2 H2 :=
  ⟨a.le, a.new, fun x z => b.dom x (a.dom x z), fun x o z e => b.fr x o (a.dom x z) (a.fr x o z e), b.si⟩
theorem StepX.ext (i : SI K h s H) (a : StepX K h s H h' s1 H1) : Ext (hide h H) (hide h' H1) := fun x o e => by
  unfold hide at e ⊢
  split at e
  · cases e
  · rename_i hx
    have hx' : ¬ h' x = true := fun z => by
      rcases a.new x z with z | z
      · exact hx z
      · rw [z] at e; cases e
    rw [if_neg hx']
    refine a.fr x o ?_ e
    cases q : s x with
    | none => rfl
    | some u => exact absurd (i.own x u q) hx
/-- what is hidden more is forgotten -/
theorem StepX.back (i : SI K h s H) (a : StepX K h s H h' s1 H1) : Step K h s H s1 H1 := by
  refine ⟨a.dom, a.fr, fun x o e => ?_, fun x o e => (a.si.ob x o e).mono fun y u q => ?_, fun x z => a.si.hid x (a.le x z)⟩
  · cases q : s x with
    | none => rw [a.dom x q] at e; cases e
    | some u => exact i.own x u q
  · unfold hide at q ⊢
    split at q
    · cases q
    · rename_i hy
      rw [if_neg fun z => hy (a.le y z)]
      exact q
end

/-! ### what a loop or a comprehension goes over -/
abbrev FI := FA
/-- J yields the data ds, from (s, H) on -/
def IterD (K : PySem.W.Frag) (h : Addr → Bool) (J : It) (s : S) (H : Hp) (ds : List D) : Prop := ∀ h' s2 H2, StepX K h s H h' s2 H2 → ∀ i : Nat,
  (∀ d, ds[i]? = some d → J.go i H2 ∧ ∀ x H3, J.yld i H2 x H3 → Step K h' s2 H2 s2 H3 ∧ Rep K (hide h' H3) x d) ∧ (ds.length ≤ i → J.stop i H2)
def tDI (K : PySem.W.Frag) (f : FI) : TI := fun σ H R => ∃ (h : Addr → Bool) (s : S) (δ : Fr) (ds : List D) (s' : S), EnvR K (hide h H) σ δ ∧ SI K h s H ∧ f δ s = some (ds, s') ∧
  ∀ J H', Step K h s H s' H' → IterD K h J s' H' ds → R J H'
section
variable {X : Cx} {tg iter elt : Expr} {fi : FI} {ft : FG} {fb : FS} {fe : FE} {tt : FT} {pos : Pos} {vs : List Nat} {g : TG}
theorem imp_i {wi wi' : TI} (p : PI X tg iter wi) (i : ∀ σ H R, wi' σ H R → wi σ H R) : PI X tg iter wi' := ⟨fun pins s σ H R I h => p.run pins s σ H R I (i σ H R h)⟩

def loopF (ft : FG) (fb : FS) : List D → Fr → S → Option (Out × S)
  | [], δ, s => some (.nx δ, s)
  | d :: ds, δ, s => (ft d δ).bind fun δ1 => (fb δ1 s).bind fun p => match p.1 with
    | .nx δ2 => loopF ft fb ds δ2 p.2
    | .ct δ2 => loopF ft fb ds δ2 p.2
    | .bk δ2 => some (.nx δ2, p.2)
    | .rt d => some (.rt d, p.2)
def fFor (fi : FI) (ft : FG) (fb : FS) : FS := fun δ s => (fi δ s).bind fun p => loopF ft fb p.1 δ p.2
theorem ds_for {body : List Stmt} (hp : PassesOwn (model X.prog X.w) X.A X.env X.xe) (hc : X.calm = true) (hi : PI X tg iter (tDI X.K fi)) (hg : PG X tg g) (gt : GT X.K g ft vs) (hb : PSs X body (tDS X.K fb))
    (hs : ∀ x, foldedSetIterable iter X.env x = pure x := by intro _; rfl) : PS X (.For tg iter body [] pos) (tDS X.K (fFor fi ft fb)) := imp_s (ps_for hp hc hi hg hb hs) fun D σ H ⟨h, s, δ, o, s', er, si, q, w⟩ => by
  obtain ⟨⟨ds, s1⟩, q1, q⟩ := bind_some q
  refine ⟨h, s, δ, ds, s1, er, si, q1, fun J H1 st1 it => ?_⟩
  refine ⟨fun i m σ2 H2 => ∃ s2 δ2, m = ds.length - i ∧ i ≤ ds.length ∧ Step X.K h s1 H1 s2 H2 ∧ EnvR X.K (hide h H2) σ2 δ2 ∧ loopF ft fb (ds.drop i) δ2 s2 = some (o, s'), ⟨_, s1, δ, rfl, Nat.zero_le _, Step.refl st1.si, er.mono (st1.ext si), q⟩, ?_⟩
  rintro i m σ2 H2 ⟨s2, δ2, rfl, hi', st2, er2, q2⟩
  by_cases hlt : i < ds.length
  · have e1 : ds[i]? = some ds[i] := List.getElem?_eq_getElem hlt
    rw [List.drop_eq_getElem_cons hlt] at q2
    obtain ⟨δ3, q3, q2⟩ := bind_some (show (ft ds[i] δ2).bind _ = some (o, s') from q2)
    obtain ⟨⟨o4, s4⟩, q4, q2⟩ := bind_some q2
    obtain ⟨go, yl⟩ := (it h s2 H2 (StepX.of st2) i).1 _ e1
    refine .inr ⟨go, fun σ' H' => (∃ m', m' < ds.length - i ∧ ∃ s2 δ2, m' = ds.length - (i + 1) ∧ i + 1 ≤ ds.length ∧ Step X.K h s1 H1 s2 H' ∧ EnvR X.K (hide h H') σ' δ2 ∧ loopF ft fb (ds.drop (i + 1)) δ2 s2 = some (o, s')), fun σ' H' z => z, fun x H3 y => ?_⟩
    obtain ⟨st3, r3⟩ := yl x H3 y
    refine gt (hide h H3) x σ2 H3 _ δ2 δ3 _ (hide_ext h H3) (er2.mono (st3.ext st2.si)) r3 q3 fun σ3 er3 _ => ?_
    refine ⟨h, s2, δ3, o4, s4, er3, st3.si, q4, fun H4 st4 => ?_⟩
    have st14 : Step X.K h s1 H1 s4 H4 := st2.trans (st3.trans st4)
    cases o4 with
    | nx δ4 => exact fun σ' er' => ⟨_, by omega, s4, δ4, rfl, hlt, st14, er', q2⟩
    | ct δ4 => exact fun σ' er' => ⟨_, by omega, s4, δ4, rfl, hlt, st14, er', q2⟩
    | bk δ4 => cases q2; exact w H4 (st1.trans st14)
    | rt d => cases q2; exact w H4 (st1.trans st14)
  · have e : i = ds.length := by omega
    subst e
    rw [List.drop_length] at q2
    cases q2
    exact .inl ⟨(it h _ H2 (StepX.of st2) ds.length).2 (Nat.le_refl _), w H2 (st1.trans st2) σ2 er2⟩

@[simp] def wipeD (δ : Fr) : List Nat → Fr
  | [] => δ
  | v :: vs => (wipeD δ vs).set v none
theorem EnvR.wipe {K : PySem.W.Frag} {H : Hp} {σ : L2.St} {δ : Fr} (r : EnvR K H σ δ) : ∀ vs : List Nat, EnvR K H (wipe σ vs) (wipeD δ vs)
  | [] => r
  | v :: vs => (EnvR.wipe r vs).clear v
def compL (ft : FG) (tt : FT) (fe : FE) : List D → Fr → S → Option (List D × S)
  | [], _, s => some ([], s)
  | d :: ds, δ, s => (ft d δ).bind fun δ1 => (tt δ1 s).bind fun p => if p.1 = true then (fe δ1 p.2).bind fun q => (compL ft tt fe ds δ q.2).map fun r => (q.1 :: r.1, r.2) else compL ft tt fe ds δ p.2
def fComp (vs : List Nat) (fi : FI) (ft : FG) (tt : FT) (fe : FE) : FE := fun δ s => (fi δ s).bind fun p => if okLen p.1.length = true then (compL ft tt fe p.1 (wipeD δ vs) p.2).map fun q => (.lst q.1, q.2) else none
theorem lc_of {K : PySem.W.Frag} (gt : GT K g ft vs) {σ : L2.St} {H : Hp} {Q : VK} (hq : tD K (fComp vs fi ft tt fe) σ H Q) : tLc (tDI K fi) g (tDT K tt) (tD K fe) vs σ H Q := by
  obtain ⟨h, s, δ, d, s', er, si, q, w⟩ := hq
  obtain ⟨⟨ds, s1⟩, q1, q⟩ := bind_some q
  split at q
  rotate_left
  · cases q
  rename_i hl
  obtain ⟨⟨out, sf⟩, qc, q'⟩ := map_some q
  cases q'
  refine ⟨h, s, δ, ds, s1, er, si, q1, fun J H1 st1 it D hD => ?_⟩
  have i1 := st1.si
  -- the new list is hidden while it grows
  let h' : Addr → Bool := fun a => h a || decide (a = D)
  have hh' : h' D = true := by simp [h']
  have x0 : StepX K h s1 H1 h' s1 (upd H1 D (.lst [])) := by
    refine ⟨fun a z => by simp [h', z], fun a z => ?_, fun _ z => z, fun a o _ z => by rw [upd_ne (ne_of_none z hD)]; exact z, fun a o z => ?_, fun a o z => ?_, fun a z => ?_⟩
    · by_cases e : a = D
      · exact .inr (by rw [e]; exact hD)
      · exact .inl (by simpa [h', e] using z)
    · have := i1.own a o z
      simp [h', this]
    · have ob := i1.ob a o z
      have ne : a ≠ D := fun e => ob.there (by rw [e]; exact hD)
      rw [upd_ne ne]
      refine ob.mono fun b u q => ?_
      unfold hide at q ⊢
      split at q
      · cases q
      · rename_i hb
        have nb : b ≠ D := ne_of_none q hD
        rw [if_neg (by simp [h', hb, nb]), upd_ne nb]
        exact q
    · by_cases e : a = D
      · rw [e, upd_same]; exact fun z => nomatch z
      · rw [upd_ne e]
        exact i1.hid a (by simpa [h', e] using z)
  refine ⟨fun i m H2 => ∃ s2 acc accD rest, m = ds.length - i ∧ i ≤ ds.length ∧ StepX K h s1 H1 h' s2 H2 ∧ H2 D = some (.lst acc) ∧ Reps K (hide h' H2) acc accD ∧ acc.length ≤ i ∧ compL ft tt fe (ds.drop i) (wipeD δ vs) s2 = some (rest, sf) ∧ accD ++ rest = out,
    ⟨_, s1, [], [], out, rfl, Nat.zero_le _, x0, upd_same, .nil, Nat.le_refl _, qc, rfl⟩, ?_⟩
  rintro i m H2 ⟨s2, acc, accD, rest, rfl, hi', x2, hD2, ra, hal, q2, eo⟩
  have hsD : ∀ {s : S} {H : Hp}, StepX K h s1 H1 h' s H → s D = none := fun x => x.dom D (by
    cases e : s1 D with
    | none => rfl
    | some u => exact absurd hD ((i1.ob D u e).there))
  by_cases hlt : i < ds.length
  · have e1 : ds[i]? = some ds[i] := List.getElem?_eq_getElem hlt
    rw [List.drop_eq_getElem_cons hlt] at q2
    obtain ⟨δ3, q3, q2⟩ := bind_some (show (ft ds[i] (wipeD δ vs)).bind _ = some (rest, sf) from q2)
    obtain ⟨⟨k, s4⟩, q4, q2⟩ := bind_some q2
    obtain ⟨go, yl⟩ := (it h' s2 H2 x2 i).1 _ e1
    refine .inr ⟨go, fun H' => (∃ m', m' < ds.length - i ∧ ∃ s2 acc accD rest, m' = ds.length - (i + 1) ∧ i + 1 ≤ ds.length ∧ StepX K h s1 H1 h' s2 H' ∧ H' D = some (.lst acc) ∧ Reps K (hide h' H') acc accD ∧ acc.length ≤ i + 1 ∧ compL ft tt fe (ds.drop (i + 1)) (wipeD δ vs) s2 = some (rest, sf) ∧ accD ++ rest = out), fun H' z => z, fun x H3 y => ?_⟩
    obtain ⟨st3, r3⟩ := yl x H3 y
    have er3 : EnvR K (hide h' H3) (wipe σ vs) (wipeD δ vs) := ((er.wipe vs).mono (st1.ext si)).mono ((x2.trans st3).ext i1)
    refine gt (hide h' H3) x (wipe σ vs) H3 _ _ δ3 _ (hide_ext h' H3) er3 r3 q3 fun σ3 er4 hw => ⟨hw.trans ?_, ?_⟩
    · have ww : ∀ (us : List Nat) (σ : L2.St) (v : Nat), v ∈ us → (wipe σ us).set v none = wipe σ us := by
        intro us
        induction us with
        | nil => intro σ v hv; cases hv
        | cons u us ih =>
          intro σ v hv
          unfold wipe
          by_cases e : v = u
          · subst e; rw [List.set_set]
          · rw [List.set_comm _ _ (Ne.symm e), ih σ v ((List.mem_cons.mp hv).resolve_left e)]
      have : ∀ (us : List Nat), (∀ v ∈ us, v ∈ vs) → wipe (wipe σ vs) us = wipe σ vs := by
        intro us
        induction us with
        | nil => intro _; rfl
        | cons u us ih =>
          intro hu
          show (wipe (wipe σ vs) us).set u none = wipe σ vs
          rw [ih fun v hv => hu v (List.mem_cons_of_mem _ hv)]
          exact ww vs σ u (hu u List.mem_cons_self)
      exact this vs fun v hv => hv
    · refine ⟨h', s2, δ3, k, s4, er4, st3.si, q4, fun H4 st4 => ?_⟩
      have x4 : StepX K h s1 H1 h' s4 H4 := (x2.trans st3).trans st4
      have hD4 : H4 D = some (.lst acc) := st4.fr D _ (hsD (x2.trans st3)) (st3.fr D _ (hsD x2) hD2)
      have ra4 : Reps K (hide h' H4) acc accD := st4.reps st3.si (st3.reps x2.si ra)
      cases k with
      | false =>
        rw [if_neg Bool.false_ne_true] at q2
        refine iteF ?_
        exact ⟨_, by omega, s4, acc, accD, rest, rfl, hlt, x4, hD4, ra4, by omega, q2, eo⟩
      | true =>
        rw [if_pos rfl] at q2
        refine iteT ?_
        obtain ⟨⟨z, s5⟩, q5, q2⟩ := bind_some q2
        obtain ⟨⟨rest', sf'⟩, q6, q2⟩ := map_some q2
        cases q2
        refine ⟨h', s4, δ3, z, s5, er4.mono (st4.ext st3.si), st4.si, q5, fun v H5 st5 r5 => ?_⟩
        have x5 : StepX K h s1 H1 h' s5 H5 := x4.trans st5
        have hD5 : H5 D = some (.lst acc) := st5.fr D _ (hsD x4) hD4
        have ra5 : Reps K (hide h' H5) acc accD := st5.reps st4.si ra4
        have hid5 : ∀ o, hide h' (upd H5 D o) = hide h' H5 := fun o => by
          funext b
          unfold hide
          by_cases e : b = D
          · rw [e, hh', if_pos rfl, if_pos rfl]
          · rw [upd_ne e]
        refine ⟨acc, hD5, Nat.lt_of_le_of_lt (Nat.le_trans hal hi') (okLen_lt hl), ?_⟩
        refine ⟨_, by omega, s5, acc ++ [v], accD ++ [z], rest', rfl, hlt, ?_, upd_same, ?_, by simp only [List.length_append, List.length_singleton]; omega, q6, by rw [← eo, List.append_assoc]; rfl⟩
        · refine ⟨x5.le, x5.new, x5.dom, fun a o z e => ?_, x5.si.own, fun a o z => ?_, fun a z => ?_⟩
          · rw [upd_ne (ne_of_none e hD)]; exact x5.fr a o z e
          · have ob := x5.si.ob a o z
            have ne : a ≠ D := fun e => by rw [e, hsD x5] at z; cases z
            rw [upd_ne ne, hid5]
            exact ob
          · by_cases e : a = D
            · rw [e, upd_same]; exact fun z => nomatch z
            · rw [upd_ne e]; exact x5.si.hid a z
        · rw [hid5]
          exact ra5.append (.cons r5 .nil)
  · have e : i = ds.length := by omega
    subst e
    rw [List.drop_length] at q2
    cases q2
    rw [List.append_nil] at eo
    subst eo
    have stb := x2.back i1
    refine .inl ⟨(it h' _ H2 x2 ds.length).2 (Nat.le_refl _), w _ H2 (st1.trans stb) (.lst ?_ (Reps.mono ?_ _ _ ra))⟩
    · have hn : h D = false := by
        cases e : h D with
        | false => rfl
        | true => exact absurd hD (i1.hid D e)
      unfold hide
      rw [hn, if_neg Bool.false_ne_true]
      exact hD2
    · intro b u z
      unfold hide at z ⊢
      split at z
      · cases z
      · rename_i hb
        rw [if_neg fun y => hb (x2.le b y)]
        exact z
theorem d_lc {ifs : List Expr} {scope : Scope} {own : List (Str × Nat)} (hc : X.calm = true) (hN : X.N.Nodup) (hi : PI X tg iter (tDI X.K fi)) (ok : BlkOk X.N X.env.scope scope own) (gt : GT X.K g ft (own.map (·.2)))
    (hg : ∀ (s : Shared) (H : Hp) (C : Addr) (cl : List (Str × Addr)) (fp : List Addr), PG (X.blk s H scope (compEnvC scope cl C X.env) fp) tg g) (ht : ∀ (s : Shared) (H : Hp) (C : Addr) (cl : List (Str × Addr)) (fp : List Addr), PTs (X.blk s H scope (compEnvC scope cl C X.env) fp) ifs (tDT X.K tt))
    (he : ∀ (s : Shared) (H : Hp) (C : Addr) (cl : List (Str × Addr)) (fp : List Addr), PE (X.blk s H scope (compEnvC scope cl C X.env) fp) elt (tD X.K fe)) (hs : ∀ x, foldedSetIterable iter X.env x = pure x := by intro _; rfl) :
    PE X (.ListComp elt [⟨tg, iter, ifs, 0⟩] scope pos) (tD X.K (fComp (own.map (·.2)) fi ft tt fe)) := imp_e (pe_lc hc hN hi ok hg ht he hs) fun σ H Q hq => lc_of gt hq
theorem ds_setLc {i : Nat} {y : Str} {py spos : Pos} {ifs : List Expr} {scope : Scope} {own : List (Str × Nat)} (hc : X.calm = true) (hN : X.N.Nodup) (hy : X.N[i]? = some y) (hyl : X.env.scope.names.lookup y = some .local)
    (hsw : swapsWith (.ListComp elt [⟨tg, iter, ifs, 0⟩] scope pos) (some (.Name y py)) spos.line X.env = pure true) (hi : PI X tg iter (tDI X.K fi)) (ok : BlkOk X.N X.env.scope scope own) (gt : GT X.K g ft (own.map (·.2)))
    (hg : ∀ (s : Shared) (H : Hp) (C : Addr) (cl : List (Str × Addr)) (fp : List Addr), PG (X.blk s H scope (compEnvC scope cl C X.env) fp) tg g) (ht : ∀ (s : Shared) (H : Hp) (C : Addr) (cl : List (Str × Addr)) (fp : List Addr), PTs (X.blk s H scope (compEnvC scope cl C X.env) fp) ifs (tDT X.K tt))
    (he : ∀ (s : Shared) (H : Hp) (C : Addr) (cl : List (Str × Addr)) (fp : List Addr), PE (X.blk s H scope (compEnvC scope cl C X.env) fp) elt (tD X.K fe)) (hs : ∀ x, foldedSetIterable iter X.env x = pure x := by intro _; rfl) :
    PS X (.Assign [.Name y py] (.ListComp elt [⟨tg, iter, ifs, 0⟩] scope pos) spos) (tDS X.K (fSet i (fComp (own.map (·.2)) fi ft tt fe))) :=
  ds_setT (ps_setLc hc hN hy hyl hsw hi ok hg ht he hs) fun σ H Q hq => lc_of gt hq
def tTrue : FT := fun _ s => some (true, s)
theorem dts_nil : PTs X [] (tDT X.K tTrue) := ⟨fun pins s σ H Q I hq => by
  obtain ⟨h, s, δ, d, s', er, si, q, w⟩ := hq
  cases q
  exact (pts_nil (X := X)).run pins _ σ H Q I (w H (Step.refl si))⟩
theorem dts_one {c : Expr} (h : PT X c (tDT X.K tt)) : PTs X [c] (tDT X.K tt) := pts_one h
end
end Fw

set_option Elab.async false
set_option linter.all false
set_option maxRecDepth 100000
namespace Fw
open PySem PySem.Spec PyProof.Rows L2
end Fw

set_option Elab.async false
set_option linter.all false
set_option maxRecDepth 100000
namespace Fw
open PySem PySem.Spec PyProof.Rows L2

/-! ### data by themselves -/
mutual
def toPy : D → Option PyData
  | .non => some .none
  | .bl b => some (.bool b)
  | .int i => some (.int i)
  | .str x => some (.str x)
  | .tup ds => (toPys ds).map .tuple
  | .lst ds => (toPys ds).map .list
  | .ref _ => none
  | .ty _ => none
  | .scr _ => none
def toPys : List D → Option (List PyData)
  | [] => some []
  | d :: ds => (toPy d).bind fun p => (toPys ds).map fun ps => p :: ps
end
section
variable {K : PySem.W.Frag} {H : Hp}
mutual
theorem rep_dp : ∀ (d : D) (v : V) (p : PyData), Rep K H v d → toPy d = some p → Dp K H v p
  | .non, _, _, h, e => by cases h; cases (show some PyData.none = some _ from e); exact .non
  | .bl b, _, _, h, e => by cases h; cases (show some (PyData.bool b) = some _ from e); exact .bl _
  | .int i, _, _, h, e => by cases h; cases (show some (PyData.int i) = some _ from e); exact .int _
  | .str x, _, _, h, e => by cases h; cases (show some (PyData.str x) = some _ from e); exact .str _
  | .tup ds, _, _, h, e => by
    cases h with
    | tup q r =>
      obtain ⟨ps, e1, e2⟩ := map_some (show (toPys ds).map PyData.tuple = some _ from e)
      subst e2
      exact .tup q.sq (rep_dps ds _ _ r e1)
  | .lst ds, _, _, h, e => by
    cases h with
    | lst q r =>
      obtain ⟨ps, e1, e2⟩ := map_some (show (toPys ds).map PyData.list = some _ from e)
      subst e2
      exact .lst (SqL.of q) (rep_dps ds _ _ r e1)
  | .ref _, _, _, _, e => by cases (show none = some _ from e)
  | .ty _, _, _, _, e => by cases (show none = some _ from e)
  | .scr _, _, _, _, e => by cases (show none = some _ from e)
theorem rep_dps : ∀ (ds : List D) (vs : List V) (ps : List PyData), Reps K H vs ds → toPys ds = some ps → DpAll K H vs ps
  | [], _, _, h, e => by cases h; cases (show some [] = some _ from e); exact .nil
  | d :: ds, _, _, h, e => by
    cases h with
    | cons a b =>
      obtain ⟨p, e1, e2⟩ := bind_some (show (toPy d).bind _ = some _ from e)
      obtain ⟨ps, e3, e4⟩ := map_some e2
      subst e4
      exact .cons (rep_dp d _ _ a e1) (rep_dps ds _ _ b e3)
end
end
section
variable {K : PySem.W.Frag} {h : Addr → Bool} {H : Hp}
theorem Rep.un {v : V} {d : D} (r : Rep K (hide h H) v d) : Rep K H v d := Rep.mono (hide_ext h H) _ _ r
theorem Reps.un {v : List V} {d : List D} (r : Reps K (hide h H) v d) : Reps K H v d := Reps.mono (hide_ext h H) _ _ r
theorem rep_int {v : V} {i : Int} (r : Rep K H v (.int i)) : v = .int i := by cases r; rfl
theorem rep_str {v : V} {i : Str} (r : Rep K H v (.str i)) : v = .str i := by cases r; rfl
theorem rep_non {v : V} (r : Rep K H v .non) : v = .non := by cases r; rfl
theorem rep_ty {v : V} {n : String} (r : Rep K H v (.ty n)) : v = .ty n := by cases r; rfl
theorem rep_ref {v : V} {a : Addr} (r : Rep K H v (.ref a)) : v = .ref a := by cases r; rfl
theorem rep_tupZ {v : V} {ds : List D} (r : Rep K H v (.tup ds)) : ∃ a xs, v = .ref a ∧ SqZ K H a xs ∧ Reps K H xs ds := by cases r with | tup q r => exact ⟨_, _, rfl, q, r⟩
theorem rep_tup {v : V} {ds : List D} (r : Rep K H v (.tup ds)) : ∃ a xs, v = .ref a ∧ SqT K H a xs ∧ Reps K H xs ds := by cases r with | tup q r => exact ⟨_, _, rfl, q.sq, r⟩
theorem sqz_un {a : Addr} {xs : List V} (q : SqZ K (hide h H) a xs) : SqZ K H a xs := ext_z (hide_ext h H) q
theorem rep_lst {v : V} {ds : List D} (r : Rep K H v (.lst ds)) : ∃ a xs, v = .ref a ∧ H a = some (.lst xs) ∧ Reps K H xs ds := by cases r with | lst q r => exact ⟨_, _, rfl, q, r⟩
theorem rep_scr {v : V} {ns : List Int} (r : Rep K H v (.scr ns)) : ∃ a, v = .ref a ∧ SqL K H a (ns.map V.int) := by cases r with | scr q => exact ⟨_, rfl, q⟩
theorem len_zero {xs : List V} {ds : List D} (r : Reps K H xs ds) : xs = [] ↔ ds = [] := by
  have e := r.length
  constructor
  · intro z; rw [z] at e; exact List.eq_nil_of_length_eq_zero e.symm
  · intro z; rw [z] at e; exact List.eq_nil_of_length_eq_zero e
theorem sqt_un {a : Addr} {xs : List V} (q : SqT K (hide h H) a xs) : SqT K H a xs := ext_t (hide_ext h H) q
end

/-! ### + - * // % ** and signs -/
@[simp] def smallI (i : Int) : Bool := decide (-(2 ^ 64) < i) && decide (i < 2 ^ 64)
theorem smallI_ok {i : Int} (h : smallI i = true) : -(2 ^ 64) < i ∧ i < 2 ^ 64 := by
  unfold smallI at h
  rw [Bool.and_eq_true] at h
  exact ⟨of_decide_eq_true h.1, of_decide_eq_true h.2⟩
@[simp] def dAdd : G2 := fun x y _ => match x, y with
  | .int a, .int b => some (.int (a + b))
  | .str a, .str b => if okLen (a.length + b.length) = true then some (.str (a ++ b)) else none
  | .tup a, .tup b => if okLen (a.length + b.length) = true then some (.tup (a ++ b)) else none
  | .lst a, .lst b => if okLen (a.length + b.length) = true then some (.lst (a ++ b)) else none
  | _, _ => none
def rAddA (K : PySem.W.Frag) : R2 := fun x y H Q => (∃ i j, x = .int i ∧ y = .int j ∧ Q (.int (i + j)) H) ∨ ((∃ i j, x = .str i ∧ y = .str j ∧ i.length + j.length ≤ sizeLine ∧ Q (.str (i ++ j)) H) ∨ (rCatZ K x y H Q ∨ rCat x y H Q))
section
variable {X : Cx}
theorem op_addA : OpR X (binaryOp .Add) (rAddA X.K) := OpR.or op_add (OpR.or op_add_str (OpR.or op_catZ op_cat))
theorem g_add {K : PySem.W.Frag} : GOp K (rAddA K) dAdd := by
  intro h s H x y dx dy d Q si rx ry q w
  unfold dAdd at q
  split at q
  · cases q
    exact .inl ⟨_, _, rep_int rx, rep_int ry, w _ H (Step.refl si) (.int _)⟩
  · split at q
    · rename_i hl
      cases q
      exact .inr (.inl ⟨_, _, rep_str rx, rep_str ry, okLen_le hl, w _ H (Step.refl si) (.str _)⟩)
    · cases q
  · split at q
    · rename_i hl
      cases q
      obtain ⟨a, xs, rfl, qa, ra⟩ := rep_tupZ rx
      obtain ⟨b, ys, rfl, qb, rb⟩ := rep_tupZ ry
      refine .inr (.inr (.inl ⟨a, b, xs, ys, rfl, rfl, (sqz_un qa).sq, (sqz_un qb).sq, by rw [ra.length, rb.length]; exact okLen_le hl, fun e => ?_, fun _ e => ?_, fun _ _ p o hp hd => ?_⟩))
      · rw [(len_zero ra).mp e] at w
        exact w _ H (Step.refl si) (.tup qb rb)
      · rw [(len_zero rb).mp e, List.append_nil] at w
        exact w _ H (Step.refl si) (.tup qa ra)
      · exact w _ _ (Step.new si hp _) (new_tup si hp hd (ra.append rb))
    · cases q
  · split at q
    · rename_i hl
      cases q
      obtain ⟨a, xs, rfl, qa, ra⟩ := rep_lst rx
      obtain ⟨b, ys, rfl, qb, rb⟩ := rep_lst ry
      exact .inr (.inr (.inr ⟨a, b, xs, ys, rfl, rfl, hide_ext _ _ _ _ qa, hide_ext _ _ _ _ qb, by rw [ra.length, rb.length]; exact okLen_le hl, fun p hp => w _ _ (Step.new si hp _) (new_lst si hp (ra.append rb))⟩))
    · cases q
  · cases q
@[simp] def dSub : G2 := fun x y _ => match x, y with
  | .int a, .int b => some (.int (a - b))
  | _, _ => none
theorem g_sub {K : PySem.W.Frag} : GOp K (rI0 fun i j => .int (i - j)) dSub := by
  intro h s H x y dx dy d Q si rx ry q w
  unfold dSub at q
  split at q
  · cases q
    exact ⟨_, _, rep_int rx, rep_int ry, w _ H (Step.refl si) (.int _)⟩
  · cases q
@[simp] def dMul : G2 := fun x y _ => match x, y with
  | .int a, .int b => if (smallI a || smallI b) = true then some (.int (a * b)) else none
  | .tup a, .int k => if (decide (a.length ≤ 1000) && (decide (-1000 ≤ k) && decide (k ≤ 1000))) = true then some (.tup (List.replicate k.toNat a).flatten) else none
  | .lst a, .int k => if (decide (a.length ≤ 1000) && (decide (-1000 ≤ k) && decide (k ≤ 1000))) = true then some (.lst (List.replicate k.toNat a).flatten) else none
  | _, _ => none
def rMulA (K : PySem.W.Frag) : R2 := fun x y H Q => rI CMul (fun i j => .int (i * j)) x y H Q ∨ (rRepZ K x y H Q ∨ rRep x y H Q)
theorem op_mulA : OpR X (binaryOp .Mult) (rMulA X.K) := OpR.or op_mul (OpR.or op_repZ op_rep)
theorem g_mul {K : PySem.W.Frag} : GOp K (rMulA K) dMul := by
  intro h s H x y dx dy d Q si rx ry q w
  unfold dMul at q
  split at q
  · split at q
    · rename_i hl
      cases q
      refine .inl ⟨_, _, rep_int rx, rep_int ry, ?_, w _ H (Step.refl si) (.int _)⟩
      rw [Bool.or_eq_true] at hl
      exact hl.imp smallI_ok smallI_ok
    · cases q
  · split at q
    · rename_i a k hl
      cases q
      simp only [Bool.and_eq_true, decide_eq_true_eq] at hl
      obtain ⟨p0, xs, rfl, qa, ra⟩ := rep_tupZ rx
      refine .inr (.inl ⟨p0, k, xs, rfl, rep_int ry, (sqz_un qa).sq, hl.2.1, hl.2.2, by rw [ra.length]; exact hl.1, fun e => ?_, fun e e2 p o hp hd => ?_⟩)
      · have ee : (List.replicate k.toNat a).flatten = a := by
          rcases e with e | e
          · have := (len_zero ra).mp e
            subst this
            simp
          · subst e
            simp
        rw [ee] at w
        exact w _ H (Step.refl si) (.tup qa ra)
      · exact w _ _ (Step.new si hp _) (new_tup si hp hd (Reps.rep _ ra))
    · cases q
  · split at q
    · rename_i a k hl
      cases q
      simp only [Bool.and_eq_true, decide_eq_true_eq] at hl
      obtain ⟨p0, xs, rfl, qa, ra⟩ := rep_lst rx
      have hz : xs.length * k.toNat ≤ sizeLine := by
        rw [ra.length, sizeLine_eq]
        have a1 : a.length * k.toNat ≤ 1000 * 1000 := Nat.mul_le_mul hl.1 (by omega)
        omega
      exact .inr (.inr ⟨p0, k, xs, rfl, rep_int ry, hide_ext _ _ _ _ qa, by omega, by omega, hz, fun p hp => w _ _ (Step.new si hp _) (new_lst si hp (Reps.rep _ ra))⟩)
    · cases q
  · cases q
@[simp] def dDiv : G2 := fun x y _ => match x, y with
  | .int a, .int b => if (decide (0 < b) && decide (b < 1073741824)) = true then some (.int (a / b)) else none
  | _, _ => none
theorem g_div {K : PySem.W.Frag} : GOp K (rI CDiv fun i j => .int (i / j)) dDiv := by
  intro h s H x y dx dy d Q si rx ry q w
  unfold dDiv at q
  split at q
  · split at q
    · rename_i hl
      cases q
      simp only [Bool.and_eq_true, decide_eq_true_eq] at hl
      exact ⟨_, _, rep_int rx, rep_int ry, hl, w _ H (Step.refl si) (.int _)⟩
    · cases q
  · cases q
@[simp] def dMod : G2 := fun x y _ => match x, y with
  | .int a, .int b => if decide (0 < b) = true then some (.int (a % b)) else none
  | _, _ => none
theorem g_mod {K : PySem.W.Frag} : GOp K (rI (fun _ j => 0 < j) fun i j => .int (i % j)) dMod := by
  intro h s H x y dx dy d Q si rx ry q w
  unfold dMod at q
  split at q
  · split at q
    · rename_i hl
      cases q
      exact ⟨_, _, rep_int rx, rep_int ry, of_decide_eq_true hl, w _ H (Step.refl si) (.int _)⟩
    · cases q
  · cases q
@[simp] def dPow : G2 := fun x y _ => match x, y with
  | .int a, .int b => if (decide (0 ≤ b) && (decide (b ≤ 1000000) && decide (a.natAbs < 2 ^ 64))) = true then some (.int (a ^ b.toNat)) else none
  | _, _ => none
theorem g_pow {K : PySem.W.Frag} : GOp K (rI CPow fun i j => .int (i ^ j.toNat)) dPow := by
  intro h s H x y dx dy d Q si rx ry q w
  unfold dPow at q
  split at q
  · split at q
    · rename_i hl
      cases q
      simp only [Bool.and_eq_true, decide_eq_true_eq] at hl
      exact ⟨_, _, rep_int rx, rep_int ry, hl, w _ H (Step.refl si) (.int _)⟩
    · cases q
  · cases q
def fNeg (fa : FE) : FE := f1 (fun x _ => match x with
  | .int i => some (.int (-i))
  | _ => none) fa
theorem d_neg {a : Expr} {fa : FE} {pos : Pos} (ha : PE X a (tD X.K fa)) : PE X (.UnaryOp .USub a pos) (tD X.K (fNeg fa)) := imp_e (pe_un un_neg ha) fun σ H Q ⟨h, s, δ, d, s', er, si, q, w⟩ => by
  obtain ⟨⟨x, s1⟩, q1, q⟩ := bind_some q
  obtain ⟨z, q2, q⟩ := map_some q
  cases q
  dsimp only at q2
  split at q2
  · cases q2
    exact ⟨h, s, δ, _, _, er, si, q1, fun v H1 st1 r1 => ⟨_, rep_int r1, w _ H1 st1 (.int _)⟩⟩
  · cases q2

/-! ### comparisons -/
@[simp] def scalD : D → D → Option Bool
  | .non, .non => some true
  | .non, .int _ => some false
  | .int _, .non => some false
  | .non, .bl _ => some false
  | .bl _, .non => some false
  | .non, .str _ => some false
  | .str _, .non => some false
  | .int a, .int b => some (decide (a = b))
  | .bl a, .bl b => some (decide (a = b))
  | .str a, .str b => some (decide (a = b))
  | .int _, .str _ => some false
  | .str _, .int _ => some false
  | .bl _, .str _ => some false
  | .str _, .bl _ => some false
  | _, _ => none
def deepD (x y : D) : Option Bool := match toPy x, toPy y with
  | some p, some q => if (SeqAt.shaped p && SeqAt.shaped q) = true then some (PyData.eqv p q) else none
  | _, _ => none
@[simp] def eqD (x y : D) : Option Bool := match scalD x y with
  | some b => some b
  | none => deepD x y
@[simp] def dEq (x y : D) (_ : S) : Option D := (eqD x y).map .bl
@[simp] def dNe (x y : D) (_ : S) : Option D := (eqD x y).map fun b => .bl (!b)
theorem scal_ok {K : PySem.W.Frag} {H : Hp} {x y : V} {dx dy : D} {b : Bool} (rx : Rep K H x dx) (ry : Rep K H y dy) (q : scalD dx dy = some b) : scal x y = true ∧ decide (x = y) = b := by
  cases rx <;> cases ry <;> first
    | (cases (show none = some _ from q))
    | (cases (show some _ = some _ from q); exact ⟨rfl, by first | rfl | (simp)⟩)
theorem eqD_cases {x y : D} {b : Bool} (q : eqD x y = some b) : scalD x y = some b ∨ deepD x y = some b := by
  unfold eqD at q
  split at q
  · rename_i e; exact .inl (by rw [e, q])
  · exact .inr q
theorem deepD_ok {K : PySem.W.Frag} {H : Hp} {x y : V} {dx dy : D} {b : Bool} (rx : Rep K H x dx) (ry : Rep K H y dy) (q : deepD dx dy = some b) : ∃ p r, Dp K H x p ∧ Dp K H y r ∧ SeqAt.shaped p = true ∧ SeqAt.shaped r = true ∧ PyData.eqv p r = b := by
  unfold deepD at q
  split at q
  · rename_i p r e1 e2
    split at q
    · rename_i hs
      cases q
      rw [Bool.and_eq_true] at hs
      exact ⟨p, r, rep_dp _ _ _ rx e1, rep_dp _ _ _ ry e2, hs.1, hs.2, rfl⟩
    · cases q
  · cases q
def rEqA (K : PySem.W.Frag) : R2 := fun x y H Q => rEq x y H Q ∨ rEqD K x y H Q
def rNeA (K : PySem.W.Frag) : R2 := fun x y H Q => rNe x y H Q ∨ rNeD K x y H Q
theorem op_eqA (hu : X.A.units + 64 < cLine) : OpR X (compareOp .Eq) (rEqA X.K) := OpR.or op_eq (op_eqD hu)
theorem op_neA (hu : X.A.units + 64 < cLine) : OpR X (compareOp .NotEq) (rNeA X.K) := OpR.or op_ne (op_neD hu)
theorem g_eq {K : PySem.W.Frag} : GOp K (rEqA K) dEq := by
  intro h s H x y dx dy d Q si rx ry q w
  obtain ⟨b, qq, e⟩ := map_some q
  subst e
  rcases eqD_cases qq with q | q
  · obtain ⟨q1, q2⟩ := scal_ok rx ry q
    exact .inl ⟨q1, by rw [q2]; exact w _ H (Step.refl si) (.bl b)⟩
  · obtain ⟨p, r, a1, a2, a3, a4, a5⟩ := deepD_ok rx.un ry.un q
    exact .inr ⟨p, r, a1, a2, a3, a4, by rw [a5]; exact w _ H (Step.refl si) (.bl b)⟩
theorem g_ne {K : PySem.W.Frag} : GOp K (rNeA K) dNe := by
  intro h s H x y dx dy d Q si rx ry q w
  obtain ⟨b, qq, e⟩ := map_some q
  subst e
  rcases eqD_cases qq with q | q
  · obtain ⟨q1, q2⟩ := scal_ok rx ry q
    exact .inl ⟨q1, by rw [q2]; exact w _ H (Step.refl si) (.bl _)⟩
  · obtain ⟨p, r, a1, a2, a3, a4, a5⟩ := deepD_ok rx.un ry.un q
    exact .inr ⟨p, r, a1, a2, a3, a4, by rw [a5]; exact w _ H (Step.refl si) (.bl _)⟩
@[simp] def dCmpI (f : Int → Int → Bool) : G2 := fun x y _ => match x, y with
  | .int a, .int b => some (.bl (f a b))
  | _, _ => none
theorem g_cmpI {K : PySem.W.Frag} {f : Int → Int → Bool} : GOp K (rI0 fun i j => .bl (f i j)) (dCmpI f) := by
  intro h s H x y dx dy d Q si rx ry q w
  unfold dCmpI at q
  split at q
  · cases q
    exact ⟨_, _, rep_int rx, rep_int ry, w _ H (Step.refl si) (.bl _)⟩
  · cases q
abbrev dLt : G2 := dCmpI fun i j => decide (i < j)
abbrev dLe : G2 := dCmpI fun i j => decide (i ≤ j)
abbrev dGt : G2 := dCmpI fun i j => decide (j < i)
abbrev dGe : G2 := dCmpI fun i j => decide (j ≤ i)
/-- flat data -/
@[simp] def flatD : D → Bool
  | .non => true
  | .bl _ => true
  | .int _ => true
  | .str _ => true
  | _ => false
@[simp] def eqF : D → D → Bool
  | .non, .non => true
  | .bl a, .bl b => a == b
  | .bl a, .int b => (if a then 1 else 0) == b
  | .int a, .bl b => a == (if b then 1 else 0)
  | .int a, .int b => a == b
  | .str a, .str b => a == b
  | _, _ => false
theorem flat_ok {K : PySem.W.Frag} {H : Hp} {v : V} {d : D} (r : Rep K H v d) (f : flatD d = true) : flatV v = true := by
  cases r <;> first | rfl | (cases (show false = true from f))
theorem eqF_ok {K : PySem.W.Frag} {H : Hp} {x y : V} {dx dy : D} (rx : Rep K H x dx) (ry : Rep K H y dy) (fx : flatD dx = true) (fy : flatD dy = true) : eqV x y = eqF dx dy := by
  cases rx <;> cases ry <;> first | rfl | (cases (show false = true from fx)) | (cases (show false = true from fy))
theorem flats_ok {K : PySem.W.Frag} {H : Hp} : ∀ {vs : List V} {ds : List D}, Reps K H vs ds → ds.all flatD = true → vs.all flatV = true
  | _, _, .nil, _ => rfl
  | _, _, .cons r t, f => by
    rw [List.all_cons, Bool.and_eq_true] at f
    rw [List.all_cons, flat_ok r f.1, flats_ok t f.2]
    rfl
theorem any_ok {K : PySem.W.Frag} {H : Hp} {x : V} {dx : D} (rx : Rep K H x dx) (fx : flatD dx = true) : ∀ {vs : List V} {ds : List D}, Reps K H vs ds → ds.all flatD = true → vs.any (fun y => eqV y x) = ds.any fun y => eqF y dx
  | _, _, .nil, _ => rfl
  | _, _, .cons r t, f => by
    rw [List.all_cons, Bool.and_eq_true] at f
    rw [List.any_cons, List.any_cons, eqF_ok r rx f.1 fx, any_ok rx fx t f.2]
@[simp] def itemsD : D → Option (List D)
  | .tup ds => some ds
  | .lst ds => some ds
  | _ => none
def dIn (x y : D) (_ : S) : Option D := (itemsD y).bind fun ds => if (flatD x && ds.all flatD) = true then some (.bl (ds.any fun z => eqF z x)) else none
def dNotIn (x y : D) (_ : S) : Option D := (itemsD y).bind fun ds => if (flatD x && ds.all flatD) = true then some (.bl (!ds.any fun z => eqF z x)) else none
@[simp] theorem dIn_tup_str (x : Str) (ds : List D) (s : S) : dIn (.str x) (.tup ds) s = if ds.all flatD = true then some (.bl (ds.any fun z => eqF z (.str x))) else none := rfl
@[simp] theorem dIn_tup_int (x : Int) (ds : List D) (s : S) : dIn (.int x) (.tup ds) s = if ds.all flatD = true then some (.bl (ds.any fun z => eqF z (.int x))) else none := rfl
@[simp] theorem dIn_tup_bl (x : Bool) (ds : List D) (s : S) : dIn (.bl x) (.tup ds) s = if ds.all flatD = true then some (.bl (ds.any fun z => eqF z (.bl x))) else none := rfl
@[simp] theorem dIn_lst_str (x : Str) (ds : List D) (s : S) : dIn (.str x) (.lst ds) s = if ds.all flatD = true then some (.bl (ds.any fun z => eqF z (.str x))) else none := rfl
@[simp] theorem dIn_lst_int (x : Int) (ds : List D) (s : S) : dIn (.int x) (.lst ds) s = if ds.all flatD = true then some (.bl (ds.any fun z => eqF z (.int x))) else none := rfl
@[simp] theorem dIn_lst_bl (x : Bool) (ds : List D) (s : S) : dIn (.bl x) (.lst ds) s = if ds.all flatD = true then some (.bl (ds.any fun z => eqF z (.bl x))) else none := rfl
@[simp] theorem dNotIn_tup_str (x : Str) (ds : List D) (s : S) : dNotIn (.str x) (.tup ds) s = if ds.all flatD = true then some (.bl (!ds.any fun z => eqF z (.str x))) else none := rfl
@[simp] theorem dNotIn_tup_int (x : Int) (ds : List D) (s : S) : dNotIn (.int x) (.tup ds) s = if ds.all flatD = true then some (.bl (!ds.any fun z => eqF z (.int x))) else none := rfl
@[simp] theorem dNotIn_tup_bl (x : Bool) (ds : List D) (s : S) : dNotIn (.bl x) (.tup ds) s = if ds.all flatD = true then some (.bl (!ds.any fun z => eqF z (.bl x))) else none := rfl
@[simp] theorem dNotIn_lst_str (x : Str) (ds : List D) (s : S) : dNotIn (.str x) (.lst ds) s = if ds.all flatD = true then some (.bl (!ds.any fun z => eqF z (.str x))) else none := rfl
@[simp] theorem dNotIn_lst_int (x : Int) (ds : List D) (s : S) : dNotIn (.int x) (.lst ds) s = if ds.all flatD = true then some (.bl (!ds.any fun z => eqF z (.int x))) else none := rfl
@[simp] theorem dNotIn_lst_bl (x : Bool) (ds : List D) (s : S) : dNotIn (.bl x) (.lst ds) s = if ds.all flatD = true then some (.bl (!ds.any fun z => eqF z (.bl x))) else none := rfl
theorem items_ok {K : PySem.W.Frag} {H : Hp} {v : V} {d : D} {ds : List D} (r : Rep K H v d) (q : itemsD d = some ds) : ∃ p xs, v = .ref p ∧ (SqL K H p xs ∨ SqT K H p xs) ∧ Reps K H xs ds := by
  cases d with
  | tup es =>
    cases (show some es = some ds from q)
    obtain ⟨a, xs, e, q1, q2⟩ := rep_tup r
    exact ⟨a, xs, e, .inr q1, q2⟩
  | lst es =>
    cases (show some es = some ds from q)
    obtain ⟨a, xs, e, q1, q2⟩ := rep_lst r
    exact ⟨a, xs, e, .inl (SqL.of q1), q2⟩
  | _ => cases (show none = some ds from q)
theorem g_in {K : PySem.W.Frag} : GOp K (rIn K false) dIn := by
  intro h s H x y dx dy d Q si rx ry q w
  obtain ⟨ds, q1, q⟩ := bind_some q
  split at q
  · rename_i hf
    cases q
    rw [Bool.and_eq_true] at hf
    obtain ⟨p, xs, rfl, qs, rs⟩ := items_ok ry.un q1
    refine ⟨p, xs, rfl, qs, flat_ok rx hf.1, flats_ok rs hf.2, ?_⟩
    rw [if_neg Bool.false_ne_true, show inV x xs = _ from any_ok rx.un hf.1 rs hf.2]
    exact w _ H (Step.refl si) (.bl _)
  · cases q
theorem g_notIn {K : PySem.W.Frag} : GOp K (rIn K true) dNotIn := by
  intro h s H x y dx dy d Q si rx ry q w
  obtain ⟨ds, q1, q⟩ := bind_some q
  split at q
  · rename_i hf
    cases q
    rw [Bool.and_eq_true] at hf
    obtain ⟨p, xs, rfl, qs, rs⟩ := items_ok ry.un q1
    refine ⟨p, xs, rfl, qs, flat_ok rx hf.1, flats_ok rs hf.2, ?_⟩
    rw [if_pos rfl, show inV x xs = _ from any_ok rx.un hf.1 rs hf.2]
    exact w _ H (Step.refl si) (.bl _)
  · cases q
/-- is None; is True, is False -/
@[simp] def isND : D → Bool
  | .non => true
  | _ => false
theorem isN_ok {K : PySem.W.Frag} {H : Hp} {v : V} {d : D} (r : Rep K H v d) : decide (v = .non) = isND d := by
  cases r <;> first | rfl | (exact decide_eq_false (fun z => nomatch z))
@[simp] def dIs (neg : Bool) : G2 := fun x y _ => match x, y with
  | x, .non => some (.bl (if neg then !isND x else isND x))
  | .bl a, .bl b => some (.bl (if neg then !decide (a = b) else decide (a = b)))
  | _, _ => none
def rIsA : R2 := fun x y H Q => (y = .non ∧ Q (.bl (decide (x = .non))) H) ∨ rIsB x y H Q
def rIsNotA : R2 := fun x y H Q => (y = .non ∧ Q (.bl (!decide (x = .non))) H) ∨ rNotB x y H Q
theorem op_isA : OpR X (compareOp .Is) rIsA := OpR.or op_isN op_isBl
theorem op_isNotA : OpR X (compareOp .IsNot) rIsNotA := OpR.or op_notN op_notBl
theorem g_is {K : PySem.W.Frag} : GOp K rIsA (dIs false) := by
  intro h s H x y dx dy d Q si rx ry q w
  unfold dIs at q
  split at q
  · cases q
    exact .inl ⟨rep_non ry, by rw [isN_ok rx]; exact w _ H (Step.refl si) (.bl _)⟩
  · cases q
    exact .inr ⟨_, _, rep_bl rx, rep_bl ry, w _ H (Step.refl si) (.bl _)⟩
  · cases q
theorem g_isNot {K : PySem.W.Frag} : GOp K rIsNotA (dIs true) := by
  intro h s H x y dx dy d Q si rx ry q w
  unfold dIs at q
  split at q
  · cases q
    exact .inl ⟨rep_non ry, by rw [isN_ok rx]; exact w _ H (Step.refl si) (.bl _)⟩
  · cases q
    exact .inr ⟨_, _, rep_bl rx, rep_bl ry, w _ H (Step.refl si) (.bl _)⟩
  · cases q
end
end Fw

set_option Elab.async false
set_option linter.all false
set_option maxRecDepth 100000
namespace Fw
open PySem PySem.Spec PyProof.Rows L2

/-! ### items -/
theorem atI_cast {α : Type} (xs : List α) (n : Nat) : L2.atI xs (n : Int) = xs[n]? := by
  unfold L2.atI ixN
  rw [if_pos (Int.natCast_nonneg n)]
  by_cases h : n < xs.length
  · rw [if_pos (by omega)]; rfl
  · rw [if_neg (by omega), List.getElem?_eq_none (by omega)]; rfl
@[simp] theorem atI_ofNat {α : Type} (xs : List α) (n : Nat) : L2.atI xs (no_index (@OfNat.ofNat Int n _)) = xs[n]? := atI_cast xs n
@[simp] theorem ixN_ofNat (m n : Nat) : ixN m (no_index (@OfNat.ofNat Int n _)) = if n < m then some n else none := by
  show ixN m (n : Int) = _
  unfold ixN
  rw [if_pos (Int.natCast_nonneg n)]
  by_cases h : n < m
  · rw [if_pos (by omega), if_pos h]; rfl
  · rw [if_neg (by omega), if_neg h]

theorem Reps.atI {K : PySem.W.Frag} {H : Hp} {xs : List V} {ds : List D} {i : Int} {d : D} (r : Reps K H xs ds) (q : atI ds i = some d) : ∃ v, L2.atI xs i = some v ∧ Rep K H v d := by
  unfold L2.atI at q ⊢
  obtain ⟨j, q1, q2⟩ := bind_some q
  rw [r.length, q1]
  exact r.get q2
@[simp] def dIx : G2 := fun x y s => match x, y with
  | .tup ds, .int i => atI ds i
  | .lst ds, .int i => atI ds i
  | .scr ns, .int i => (atI ns i).map .int
  | .str z, .int i => if okLen z.length = true then (atI z.cps.toList i).map fun c => .str ⟨#[c]⟩ else none
  | .ref a, .int i => match s a with
    | some (.lst ds) => atI ds i
    | _ => none
  | _, _ => none
theorem atI_map {α β : Type} (f : α → β) (xs : List α) (i : Int) : L2.atI (xs.map f) i = (L2.atI xs i).map f := by
  unfold L2.atI
  rw [List.length_map]
  cases ixN xs.length i with
  | none => rfl
  | some j => show (xs.map f)[j]? = (xs[j]?).map f; rw [List.getElem?_map]
section
variable {X : Cx} {e a b c : Expr} {es : List Expr} {fe fa fb : FE} {fs : FA} {pos : Pos}
theorem g_ix {K : PySem.W.Frag} : GOp K (rIx K) dIx := by
  intro h s H x y dx dy d Q si rx ry q w
  unfold dIx at q
  split at q
  · obtain ⟨p, xs, rfl, q1, q2⟩ := rep_tup rx
    obtain ⟨v, e1, r1⟩ := q2.atI q
    exact .inr (.inl ⟨p, xs, _, v, rfl, rep_int ry, sqt_un q1, e1, w _ H (Step.refl si) r1⟩)
  · obtain ⟨p, xs, rfl, q1, q2⟩ := rep_lst rx
    obtain ⟨v, e1, r1⟩ := q2.atI q
    exact .inl ⟨p, xs, _, v, rfl, rep_int ry, SqL.of (hide_ext _ _ _ _ q1), e1, w _ H (Step.refl si) r1⟩
  · obtain ⟨p, rfl, q1⟩ := rep_scr rx
    obtain ⟨n, e1, e2⟩ := map_some q
    subst e2
    refine .inl ⟨p, _, _, .int n, rfl, rep_int ry, ext_l (hide_ext _ _) q1, ?_, w _ H (Step.refl si) (.int n)⟩
    rw [atI_map, e1]
    rfl
  · split at q
    · rename_i hl
      obtain ⟨c, e1, e2⟩ := map_some q
      subst e2
      exact .inr (.inr ⟨_, _, c, rep_str rx, rep_int ry, okLen_le hl, e1, w _ H (Step.refl si) (.str _)⟩)
    · cases q
  · split at q
    · rename_i ds e
      obtain ⟨xs, e2, r2⟩ := si.ob _ _ e
      obtain ⟨v, e1, r1⟩ := r2.atI q
      exact .inl ⟨_, xs, _, v, rep_ref rx, rep_int ry, SqL.of e2, e1, w _ H (Step.refl si) r1⟩
    · cases q
  · cases q
theorem d_ix (ha : PE X a (tD X.K fa)) (hb : PE X b (tD X.K fb)) (hs : PlainIx b) : PE X (.Subscript a b pos) (tD X.K (f2 dIx fa fb)) := d_2 ha hb g_ix (pe_ix ix_seq ha hb hs)

/-! ### slices -/
abbrev FO := Fr → S → Option (Option Int × S)
def tDO (K : PySem.W.Frag) (f : FO) : TO := fun σ H Q => ∃ (h : Addr → Bool) (s : S) (δ : Fr) (d : Option Int) (s' : S), EnvR K (hide h H) σ δ ∧ SI K h s H ∧ f δ s = some (d, s') ∧
  ∀ H', Step K h s H s' H' → Q d H'
def fNo : FO := fun _ s => some (none, s)
def fYes (fe : FE) : FO := fun δ s => (fe δ s).bind fun p => match p.1 with
  | .int i => some (some i, p.2)
  | _ => none
theorem imp_o {oe : Option Expr} {t t' : TO} (p : PO X oe t) (i : ∀ σ H Q, t' σ H Q → t σ H Q) : PO X oe t' := ⟨fun pins s σ H Q I h => p.run pins s σ H Q I (i σ H Q h)⟩
theorem do_no : PO X none (tDO X.K fNo) := imp_o po_none fun σ H Q ⟨h, s, δ, d, s', er, si, q, w⟩ => by
  cases q
  exact w H (Step.refl si)
theorem do_yes (he : PE X e (tD X.K fe)) : PO X (some e) (tDO X.K (fYes fe)) := imp_o (po_some he) fun σ H Q ⟨h, s, δ, d, s', er, si, q, w⟩ => by
  obtain ⟨⟨x, s1⟩, q1, q⟩ := bind_some q
  cases x with
  | int i =>
    cases q
    exact ⟨h, s, δ, _, _, er, si, q1, fun v H1 st1 r1 => ⟨i, rep_int r1, w H1 st1⟩⟩
  | _ => cases q
def cutD (xs : List D) (lo hi : Option Int) : List D := (xs.drop (HT.sIx xs.length 0 lo)).take (HT.sIx xs.length xs.length hi - HT.sIx xs.length 0 lo)
theorem Reps.cut {K : PySem.W.Frag} {H : Hp} {xs : List V} {ds : List D} (r : Reps K H xs ds) (lo hi : Option Int) : Reps K H (cutV xs lo hi) (cutD ds lo hi) := by
  unfold cutV cutD
  rw [r.length]
  exact (r.drop _).take _
theorem cut_whole {K : PySem.W.Frag} {H : Hp} {xs : List V} {ds : List D} (r : Reps K H xs ds) {l u : Option Int} (hw : HT.sIx xs.length 0 l = 0 ∧ HT.sIx xs.length xs.length u = xs.length) : cutD ds l u = ds := by
  unfold cutD
  rw [← r.length, hw.1, hw.2, List.drop_zero]
  exact List.take_of_length_le (by rw [r.length]; exact Nat.le_refl _)
def fSlice (fe : FE) (fl fh : FO) : FE := fun δ s => (fe δ s).bind fun p => (fl δ p.2).bind fun l => (fh δ l.2).bind fun u => match p.1 with
  | .tup ds => some (.tup (cutD ds l.1 u.1), u.2)
  | .lst ds => some (.lst (cutD ds l.1 u.1), u.2)
  | _ => none
theorem d_slice {lo hi : Option Expr} {fl fh : FO} {p2 : Pos} (he : PE X e (tD X.K fe)) (hl : PO X lo (tDO X.K fl)) (hu : PO X hi (tDO X.K fh)) : PE X (.Subscript e (.Slice lo hi none p2) pos) (tD X.K (fSlice fe fl fh)) :=
  imp_e (pe_slice (SlR.or sl_tupZ sl_list) he hl hu) fun σ H Q ⟨h, s, δ, d, s', er, si, q, w⟩ => by
  obtain ⟨⟨x, s1⟩, q1, q⟩ := bind_some q
  obtain ⟨⟨l, s2⟩, q2, q⟩ := bind_some q
  obtain ⟨⟨u, s3⟩, q3, q⟩ := bind_some q
  refine ⟨h, s, δ, x, s1, er, si, q1, fun v H1 st1 r1 => ⟨h, s1, δ, l, s2, er.mono (st1.ext si), st1.si, q2, fun H2 st2 => ⟨h, s2, δ, u, s3, (er.mono (st1.ext si)).mono (st2.ext st1.si), st2.si, q3, fun H3 st3 => ?_⟩⟩⟩
  have st : Step X.K h s H s3 H3 := st1.trans (st2.trans st3)
  have r3 := st3.rep st2.si (st2.rep st1.si r1)
  dsimp only at q
  split at q
  · cases q
    obtain ⟨p, xs, rfl, q1, rs⟩ := rep_tupZ r3
    refine .inl ⟨p, xs, rfl, (sqz_un q1).sq, fun hw => ?_, fun _ p' o hp hd => w _ _ (st.trans (Step.new st.si hp _)) (new_tup st.si hp hd (rs.cut l u))⟩
    rw [cut_whole rs hw] at w
    exact w _ H3 st (.tup q1 rs)
  · cases q
    obtain ⟨p, xs, rfl, q1, rs⟩ := rep_lst r3
    exact .inr ⟨p, xs, rfl, SqL.of (hide_ext _ _ _ _ q1), fun p' hp => w _ _ (st.trans (Step.new st.si hp _)) (new_lst st.si hp (rs.cut l u))⟩
  · cases q

/-! ### built-in calls -/
@[simp] def dLen : GL := fun ds s => match ds with
  | [.tup xs] => some (.int (xs.length : Nat))
  | [.lst xs] => some (.int (xs.length : Nat))
  | [.scr xs] => some (.int (xs.length : Nat))
  | [.str z] => if okLen z.length = true then some (.int (z.length : Nat)) else none
  | [.ref a] => match s a with
    | some (.lst xs) => some (.int (xs.length : Nat))
    | _ => none
  | _ => none
theorem g_len {K : PySem.W.Frag} : GCall K (fun xs H Q => ∃ x n, xs = [x] ∧ LenV K x H n ∧ Q (.int n) H) dLen := by
  intro h s H vs ds d Q si rs q w
  unfold dLen at q
  split at q
  · cases q
    obtain ⟨v, rfl, r⟩ := reps1 rs
    obtain ⟨p, xs, rfl, q1, q2⟩ := rep_tup r
    exact ⟨_, _, rfl, .inr ⟨xs, sqt_un q1, rfl⟩, by rw [q2.length]; exact w _ H (Step.refl si) (.int _)⟩
  · cases q
    obtain ⟨v, rfl, r⟩ := reps1 rs
    obtain ⟨p, xs, rfl, q1, q2⟩ := rep_lst r
    exact ⟨_, _, rfl, .inl ⟨xs, SqL.of (hide_ext _ _ _ _ q1), rfl⟩, by rw [q2.length]; exact w _ H (Step.refl si) (.int _)⟩
  · cases q
    obtain ⟨v, rfl, r⟩ := reps1 rs
    obtain ⟨p, rfl, q1⟩ := rep_scr r
    exact ⟨_, _, rfl, .inl ⟨_, ext_l (hide_ext _ _) q1, rfl⟩, by rw [List.length_map]; exact w _ H (Step.refl si) (.int _)⟩
  · split at q
    · rename_i hl
      cases q
      obtain ⟨v, rfl, r⟩ := reps1 rs
      cases rep_str r
      exact ⟨_, _, rfl, ⟨okLen_le hl, rfl⟩, w _ H (Step.refl si) (.int _)⟩
    · cases q
  · split at q
    · rename_i e
      cases q
      obtain ⟨v, rfl, r⟩ := reps1 rs
      cases rep_ref r
      obtain ⟨xs, e2, r2⟩ := si.ob _ _ e
      exact ⟨_, _, rfl, .inl ⟨xs, SqL.of e2, rfl⟩, by rw [r2.length]; exact w _ H (Step.refl si) (.int _)⟩
    · cases q
  · cases q
@[simp] def dInt : GL := fun ds _ => match ds with
  | [.int i] => some (.int i)
  | [.bl k] => some (.int (if k then 1 else 0))
  | _ => none
theorem g_int {K : PySem.W.Frag} : GCall K (fun xs H Q => (∃ i, xs = [.int i] ∧ Q (.int i) H) ∨ ∃ k, xs = [.bl k] ∧ Q (.int (if k then 1 else 0)) H) dInt := by
  intro h s H vs ds d Q si rs q w
  unfold dInt at q
  split at q
  · cases q
    obtain ⟨v, rfl, r⟩ := reps1 rs
    cases rep_int r
    exact .inl ⟨_, rfl, w _ H (Step.refl si) (.int _)⟩
  · cases q
    obtain ⟨v, rfl, r⟩ := reps1 rs
    cases rep_bl r
    exact .inr ⟨_, rfl, w _ H (Step.refl si) (.int _)⟩
  · cases q
@[simp] def dTuple : GL := fun ds s => match ds with
  | [.tup xs] => some (.tup xs)
  | [.lst xs] => some (.tup xs)
  | [.ref a] => match s a with
    | some (.lst xs) => some (.tup xs)
    | _ => none
  | _ => none
theorem g_tuple {K : PySem.W.Frag} : GCall K (fun xs H Q => ∃ p ys, xs = [.ref p] ∧ ((SqL K H p ys ∧ NewZ H ys Q) ∨ (SqT K H p ys ∧ Q (.ref p) H))) dTuple := by
  intro h s H vs ds d Q si rs q w
  unfold dTuple at q
  split at q
  · cases q
    obtain ⟨v, rfl, r⟩ := reps1 rs
    obtain ⟨p, xs, rfl, q1, q2⟩ := rep_tupZ r
    exact ⟨p, xs, rfl, .inr ⟨(sqz_un q1).sq, w _ H (Step.refl si) (.tup q1 q2)⟩⟩
  · cases q
    obtain ⟨v, rfl, r⟩ := reps1 rs
    obtain ⟨p, xs, rfl, q1, q2⟩ := rep_lst r
    exact ⟨p, xs, rfl, .inl ⟨SqL.of (hide_ext _ _ _ _ q1), fun l o hl hd => w _ _ (Step.new si hl _) (new_tup si hl hd q2)⟩⟩
  · split at q
    · rename_i e
      cases q
      obtain ⟨v, rfl, r⟩ := reps1 rs
      cases rep_ref r
      obtain ⟨xs, e2, r2⟩ := si.ob _ _ e
      exact ⟨_, _, rfl, .inl ⟨SqL.of e2, fun l o hl hd => w _ _ (Step.new si hl _) (new_tup si hl hd r2)⟩⟩
    · cases q
  · cases q
@[simp] def dList : GL := fun ds s => match ds with
  | [.tup xs] => some (.lst xs)
  | [.lst xs] => some (.lst xs)
  | [.ref a] => match s a with
    | some (.lst xs) => some (.lst xs)
    | _ => none
  | _ => none
theorem g_list {K : PySem.W.Frag} : GCall K (fun xs H Q => ∃ p ys, xs = [.ref p] ∧ (SqL K H p ys ∨ SqT K H p ys) ∧ ∀ l, H l = none → Q (.ref l) (upd H l (.lst ys))) dList := by
  intro h s H vs ds d Q si rs q w
  unfold dList at q
  split at q
  · cases q
    obtain ⟨v, rfl, r⟩ := reps1 rs
    obtain ⟨p, xs, rfl, q1, q2⟩ := rep_tup r
    exact ⟨p, xs, rfl, .inr (sqt_un q1), fun l hl => w _ _ (Step.new si hl _) (new_lst si hl q2)⟩
  · cases q
    obtain ⟨v, rfl, r⟩ := reps1 rs
    obtain ⟨p, xs, rfl, q1, q2⟩ := rep_lst r
    exact ⟨p, xs, rfl, .inl (SqL.of (hide_ext _ _ _ _ q1)), fun l hl => w _ _ (Step.new si hl _) (new_lst si hl q2)⟩
  · split at q
    · rename_i e
      cases q
      obtain ⟨v, rfl, r⟩ := reps1 rs
      cases rep_ref r
      obtain ⟨xs, e2, r2⟩ := si.ob _ _ e
      exact ⟨_, _, rfl, .inl (SqL.of e2), fun l hl => w _ _ (Step.new si hl _) (new_lst si hl r2)⟩
    · cases q
  · cases q
@[simp] def intsD : List D → Option (List Int)
  | [] => some []
  | .int i :: r => (intsD r).map fun is => i :: is
  | _ => none
theorem intsD_ok {K : PySem.W.Frag} {H : Hp} : ∀ {ds : List D} {xs : List V} {is : List Int}, Reps K H xs ds → intsD ds = some is → xs = is.map V.int
  | [], _, _, r, e => by cases r; cases (show some [] = some _ from e); rfl
  | .int i :: ds, _, _, r, e => by
    cases r with
    | cons a t =>
      obtain ⟨js, e1, e2⟩ := map_some (show (intsD ds).map _ = some _ from e)
      subst e2
      rw [rep_int a, intsD_ok t e1]
      rfl
  | .non :: _, _, _, _, e => by cases (show none = some _ from e)
  | .bl _ :: _, _, _, _, e => by cases (show none = some _ from e)
  | .str _ :: _, _, _, _, e => by cases (show none = some _ from e)
  | .tup _ :: _, _, _, _, e => by cases (show none = some _ from e)
  | .lst _ :: _, _, _, _, e => by cases (show none = some _ from e)
  | .ref _ :: _, _, _, _, e => by cases (show none = some _ from e)
  | .ty _ :: _, _, _, _, e => by cases (show none = some _ from e)
  | .scr _ :: _, _, _, _, e => by cases (show none = some _ from e)
@[simp] def blsD : List D → Option (List Bool)
  | [] => some []
  | .bl i :: r => (blsD r).map fun is => i :: is
  | _ => none
theorem blsD_ok {K : PySem.W.Frag} {H : Hp} : ∀ {ds : List D} {xs : List V} {is : List Bool}, Reps K H xs ds → blsD ds = some is → xs = is.map V.bl
  | [], _, _, r, e => by cases r; cases (show some [] = some _ from e); rfl
  | .bl i :: ds, _, _, r, e => by
    cases r with
    | cons a t =>
      obtain ⟨js, e1, e2⟩ := map_some (show (blsD ds).map _ = some _ from e)
      subst e2
      rw [rep_bl a, blsD_ok t e1]
      rfl
  | .non :: _, _, _, _, e => by cases (show none = some _ from e)
  | .int _ :: _, _, _, _, e => by cases (show none = some _ from e)
  | .str _ :: _, _, _, _, e => by cases (show none = some _ from e)
  | .tup _ :: _, _, _, _, e => by cases (show none = some _ from e)
  | .lst _ :: _, _, _, _, e => by cases (show none = some _ from e)
  | .ref _ :: _, _, _, _, e => by cases (show none = some _ from e)
  | .ty _ :: _, _, _, _, e => by cases (show none = some _ from e)
  | .scr _ :: _, _, _, _, e => by cases (show none = some _ from e)
@[simp] def dSum : GL := fun ds _ => match ds with
  | [.lst xs] => (intsD xs).map fun is => .int is.sum
  | _ => none
theorem g_sum {K : PySem.W.Frag} : GCall K (rSum K) dSum := by
  intro h s H vs ds d Q si rs q w
  unfold dSum at q
  split at q
  · obtain ⟨is, e1, e2⟩ := map_some q
    subst e2
    obtain ⟨v, rfl, r⟩ := reps1 rs
    obtain ⟨p, xs, rfl, q1, q2⟩ := rep_lst r
    exact ⟨p, is, rfl, by rw [← intsD_ok q2 e1]; exact SqL.of (hide_ext _ _ _ _ q1), w _ H (Step.refl si) (.int _)⟩
  · cases q
@[simp] def dAll : GL := fun ds _ => match ds with
  | [.lst xs] => (blsD xs).map fun is => .bl (is.all id)
  | _ => none
@[simp] def dAny : GL := fun ds _ => match ds with
  | [.lst xs] => (blsD xs).map fun is => .bl (is.any id)
  | _ => none
theorem g_all {K : PySem.W.Frag} : GCall K (rAll K) dAll := by
  intro h s H vs ds d Q si rs q w
  unfold dAll at q
  split at q
  · obtain ⟨is, e1, e2⟩ := map_some q
    subst e2
    obtain ⟨v, rfl, r⟩ := reps1 rs
    obtain ⟨p, xs, rfl, q1, q2⟩ := rep_lst r
    exact ⟨p, is, rfl, by rw [← blsD_ok q2 e1]; exact SqL.of (hide_ext _ _ _ _ q1), w _ H (Step.refl si) (.bl _)⟩
  · cases q
theorem g_any {K : PySem.W.Frag} : GCall K (rAny K) dAny := by
  intro h s H vs ds d Q si rs q w
  unfold dAny at q
  split at q
  · obtain ⟨is, e1, e2⟩ := map_some q
    subst e2
    obtain ⟨v, rfl, r⟩ := reps1 rs
    obtain ⟨p, xs, rfl, q1, q2⟩ := rep_lst r
    exact ⟨p, is, rfl, by rw [← blsD_ok q2 e1]; exact SqL.of (hide_ext _ _ _ _ q1), w _ H (Step.refl si) (.bl _)⟩
  · cases q

/-! ### isinstance -/
def tyD : D → Option String
  | .non => some "NoneType"
  | .bl _ => some "bool"
  | .int _ => some "int"
  | .str _ => some "str"
  | .tup _ => some "tuple"
  | .lst _ => some "list"
  | _ => none
theorem tyD_ok {K : PySem.W.Frag} {H : Hp} {v : V} {d : D} {n : String} (r : Rep K H v d) (e : tyD d = some n) : TyX K H v (.type n) := by
  cases r with
  | non => cases (show some _ = some _ from e); exact .base .non
  | bl b => cases (show some _ = some _ from e); exact .base (.bl b)
  | int b => cases (show some _ = some _ from e); exact .base (.int b)
  | str b => cases (show some _ = some _ from e); exact .base (.str b)
  | tup q r =>
    cases (show some _ = some _ from e)
    rcases q.sq with (q | ⟨o, q⟩) | ⟨o, its, n, q, c, _⟩
    · exact .base (.tup q)
    · exact .fTuple q
    · exact .kTuple q c
  | lst q r => cases (show some _ = some _ from e); exact .base (.lst q)
  | _ => cases (show none = some _ from e)
/-- of these types alone -/
inductive Ty5 where
  | int | bool | str | tuple | list
def Ty5.name : Ty5 → String
  | .int => "int" | .bool => "bool" | .str => "str" | .tuple => "tuple" | .list => "list"
@[simp] def isD : D → Ty5 → Option Bool
  | .non, _ => some false
  | .bl _, .int => some true
  | .bl _, .bool => some true
  | .bl _, _ => some false
  | .int _, .int => some true
  | .int _, _ => some false
  | .str _, .str => some true
  | .str _, _ => some false
  | .tup _, .tuple => some true
  | .tup _, _ => some false
  | .lst _, .list => some true
  | .lst _, _ => some false
  | _, _ => none
theorem isD_ok {K : PySem.W.Frag} {d : D} {t : Ty5} {b : Bool} (e : isD d t = some b) : ∃ n, tyD d = some n ∧ PySem.W.kitOne K (.type n) (.type t.name) = some b := by
  cases d <;> cases t <;> first
    | (cases (show none = some _ from e))
    | (cases (show some _ = some _ from e); exact ⟨_, rfl, kit_ty (by decide +kernel)⟩)
def dIsI (t : Ty5) : GL := fun ds _ => match ds with
  | [x, .ty _] => (isD x t).map .bl
  | _ => none
def fIsI (t : Ty5) (fa : FE) : FE := fun δ s => (fa δ s).bind fun p => (isD p.1 t).map fun b => (.bl b, p.2)
theorem d_isI {t : Ty5} {p p2 : Pos} {T : Str} (hg : Gl X "isinstance") (hm : X.mg "isinstance" = none) (ha : PE X a (tD X.K fa)) (hgT : Gl X T) (hmT : X.mg T = none) (hT : bootBuiltins T = some (.type t.name)) (hn : T ≠ "__name__" := by decide) (hdT : (T == ("__debug__" : Str)) = false := by decide)
    (he : starEach [a, .Name T p2] X.env = (false, eval a X.env) :: starEach [.Name T p2] X.env := by rfl) (he2 : starEach [.Name T p2] X.env = (false, eval (.Name T p2) X.env) :: starEach [] X.env := by rfl) (hpl : (backTo pos (starEach [.Name T p2] X.env)).any (·.1) = false := by rfl) :
    PE X (.Call (.Name "isinstance" p) [a, .Name T p2] [] pos) (tD X.K (fIsI t fa)) :=
  imp_e (pe_callB call_isi hg hm (by decide +kernel) (pa_cons ha (pa_cons (pe_bltn (v := .ty t.name) (pos := p2) hgT hmT hT rfl hn hdT) pa_nil he2) he) (by decide) (by decide) he hpl) fun σ H Q ⟨h, s, δ, d, s', er, si, q, w⟩ => by
  obtain ⟨⟨x, s1⟩, q1, q⟩ := bind_some q
  obtain ⟨b, q2, q⟩ := map_some q
  cases q
  refine ⟨h, s, δ, x, _, er, si, q1, fun v H1 st1 r1 => ?_⟩
  obtain ⟨n, e1, e2⟩ := isD_ok (K := X.K) q2
  exact ⟨v, _, .type n, .type t.name, b, rfl, .ty _, tyD_ok r1.un e1, e2, w _ H1 st1 (.bl b)⟩
def fIsI2 (t u : Ty5) (fa : FE) : FE := fun δ s => (fa δ s).bind fun p => (isD p.1 t).bind fun b => (isD p.1 u).map fun b' => (.bl (b || b'), p.2)
theorem d_isI2 {t u : Ty5} {p p2 p3 p4 : Pos} {k : Nat} {T U : Str} (hg : Gl X "isinstance") (hm : X.mg "isinstance" = none) (ha : PE X a (tD X.K fa)) (hgT : Gl X T) (hmT : X.mg T = none) (hT : bootBuiltins T = some (.type t.name)) (hgU : Gl X U) (hmU : X.mg U = none) (hU : bootBuiltins U = some (.type u.name))
    (hn : T ≠ "__name__" := by decide) (hdT : (T == ("__debug__" : Str)) = false := by decide) (hnU : U ≠ "__name__" := by decide) (hdU : (U == ("__debug__" : Str)) = false := by decide)
    (he : starEach [a, .Tuple [.Name T p2, .Name U p3] k p4] X.env = (false, eval a X.env) :: starEach [.Tuple [.Name T p2, .Name U p3] k p4] X.env := by rfl)
    (he2 : starEach [.Tuple [.Name T p2, .Name U p3] k p4] X.env = (false, eval (.Tuple [.Name T p2, .Name U p3] k p4) X.env) :: starEach [] X.env := by rfl)
    (he3 : starEach [.Name T p2, .Name U p3] X.env = (false, eval (.Name T p2) X.env) :: starEach [.Name U p3] X.env := by rfl) (he4 : starEach [.Name U p3] X.env = (false, eval (.Name U p3) X.env) :: starEach [] X.env := by rfl)
    (hpl : (backTo pos (starEach [.Tuple [.Name T p2, .Name U p3] k p4] X.env)).any (·.1) = false := by rfl) :
    PE X (.Call (.Name "isinstance" p) [a, .Tuple [.Name T p2, .Name U p3] k p4] [] pos) (tD X.K (fIsI2 t u fa)) :=
  imp_e (pe_callB call_isiT hg hm (by decide +kernel) (pa_cons ha (pa_cons (pe_tup (pa_cons (pe_bltn (v := .ty t.name) (pos := p2) hgT hmT hT rfl hn hdT) (pa_cons (pe_bltn (v := .ty u.name) (pos := p3) hgU hmU hU rfl hnU hdU) pa_nil he4) he3)) pa_nil he2) he) (by decide) (by decide) he hpl) fun σ H Q ⟨h, s, δ, d, s', er, si, q, w⟩ => by
  obtain ⟨⟨x, s1⟩, q1, q⟩ := bind_some q
  obtain ⟨b, q2, q⟩ := bind_some q
  obtain ⟨b', q3, q⟩ := map_some q
  cases q
  refine ⟨h, s, δ, x, _, er, si, q1, fun v H1 st1 r1 => ⟨by show 2 ≤ sizeLine; decide, fun tp htp => ?_⟩⟩
  obtain ⟨n, e1, e2⟩ := isD_ok (K := X.K) q2
  obtain ⟨n', e1', e3⟩ := isD_ok (K := X.K) q3
  rw [e1] at e1'
  cases e1'
  refine ⟨v, tp, [.ty t.name, .ty u.name], .type n, [.type t.name, .type u.name], b || b', rfl, upd_same, .cons (.ty _) (.cons (.ty _) .nil), tyD_ok (Rep.mono (fun a o z => by rw [upd_ne (ne_of_none z htp)]; exact z) _ _ r1.un) e1, ?_, w _ _ (st1.trans (Step.new st1.si htp _)) (.bl _)⟩
  refine kitAny_cons e2 (fun eb => kitAny_cons e3 (fun eb' => ?_) fun eb' => ?_) fun eb => ?_
  · rw [eb, eb']; exact kitAny_nil
  · rw [eb']; exact Bool.or_true _
  · rw [eb]; rfl
end
end Fw

set_option Elab.async false
set_option linter.all false
set_option maxRecDepth 100000
namespace Fw
open PySem PySem.Spec PyProof.Rows L2
section
variable {X : Cx} {tg e a b c : Expr} {es : List Expr} {fe fa fb : FE} {fs : FA} {pos p : Pos}

/-! ### iteration -/
theorem iter_tup {K : PySem.W.Frag} {h : Addr → Bool} {s : S} {H : Hp} {p : Addr} {xs : List V} {ds : List D} (si : SI K h s H) (q : SqT K (hide h H) p xs) (r : Reps K (hide h H) xs ds) : IterD K h (Itt K p) s H ds := by
  intro h' s2 H2 x i
  have q2 : SqT K H2 p xs := sqt_un (ext_t (x.ext si) q)
  refine ⟨fun d e => ?_, fun hl => ⟨xs, q2, by rw [r.length]; exact hl⟩⟩
  obtain ⟨v, e1, r1⟩ := r.get e
  refine ⟨⟨xs, v, q2, e1⟩, fun y H3 hy => ?_⟩
  obtain ⟨rfl, hy⟩ := hy
  have := hy xs q2
  rw [e1] at this
  cases this
  exact ⟨Step.refl x.si, Rep.mono (x.ext si) _ _ r1⟩
theorem iter_lst {K : PySem.W.Frag} {h : Addr → Bool} {s : S} {H : Hp} {p : Addr} {xs : List V} {ds : List D} (si : SI K h s H) (q : hide h H p = some (.lst xs)) (r : Reps K (hide h H) xs ds) : IterD K h (Itl K p) s H ds := by
  intro h' s2 H2 x i
  have q2 : SqL K H2 p xs := SqL.of (hide_ext _ _ _ _ (x.ext si _ _ q))
  refine ⟨fun d e => ?_, fun hl => ⟨xs, q2, by rw [r.length]; exact hl⟩⟩
  obtain ⟨v, e1, r1⟩ := r.get e
  refine ⟨⟨xs, v, q2, e1⟩, fun y H3 hy => ?_⟩
  obtain ⟨rfl, hy⟩ := hy
  have := hy xs q2
  rw [e1] at this
  cases this
  exact ⟨Step.refl x.si, Rep.mono (x.ext si) _ _ r1⟩
def fItems (fe : FE) : FI := fun δ s => (fe δ s).bind fun p => (itemsD p.1).map fun ds => (ds, p.2)
theorem di_items (he : PE X e (tD X.K fe)) : PI X tg e (tDI X.K (fItems fe)) := ⟨fun pins s0 σ H R I hq => by
  obtain ⟨h, s, δ, ds, s', er, si, q, w⟩ := hq
  obtain ⟨⟨x, s1⟩, q1, q⟩ := bind_some q
  obtain ⟨es, q2, q⟩ := map_some q
  cases q
  cases x with
  | tup es' =>
    cases (show some es' = some _ from q2)
    refine (pi_tup (tg := tg) he).run pins s0 σ H R I ⟨h, s, δ, _, _, er, si, q1, fun v H1 st1 r1 => ?_⟩
    obtain ⟨a, xs, rfl, qa, ra⟩ := rep_tup r1
    exact ⟨a, rfl, ⟨xs, sqt_un qa⟩, w _ H1 st1 (iter_tup st1.si qa ra)⟩
  | lst es' =>
    cases (show some es' = some _ from q2)
    refine (pi_list (tg := tg) he).run pins s0 σ H R I ⟨h, s, δ, _, _, er, si, q1, fun v H1 st1 r1 => ?_⟩
    obtain ⟨a, xs, rfl, qa, ra⟩ := rep_lst r1
    exact ⟨a, rfl, ⟨xs, SqL.of (hide_ext _ _ _ _ qa)⟩, w _ H1 st1 (iter_lst st1.si qa ra)⟩
  | _ => cases (show none = some _ from q2)⟩
/-- lo, lo + 1, .. -/
def rangeD (lo : Int) (n : Nat) : List D := (List.range n).map fun i => .int (lo + (i : Nat))
theorem rangeD_get {lo : Int} {n i : Nat} : (rangeD lo n)[i]? = if i < n then some (.int (lo + i)) else none := by
  unfold rangeD
  rw [List.getElem?_map]
  by_cases h : i < n
  · rw [List.getElem?_range h, if_pos h]; rfl
  · rw [if_neg h, List.getElem?_eq_none (by rw [List.length_range]; omega)]; rfl
@[simp] theorem rangeD_length (lo : Int) (n : Nat) : (rangeD lo n).length = n := by
  unfold rangeD
  rw [List.length_map, List.length_range]
theorem iter_range {K : PySem.W.Frag} {h : Addr → Bool} {s : S} {H : Hp} {lo : Int} {n : Nat} : IterD K h (Itr lo n) s H (rangeD lo n) := by
  intro h' s2 H2 x i
  refine ⟨fun d e => ?_, fun hl => by rw [rangeD_length] at hl; exact hl⟩
  rw [rangeD_get] at e
  split at e
  · rename_i hi
    cases e
    refine ⟨hi, fun y H3 hy => ?_⟩
    obtain ⟨rfl, rfl⟩ := hy
    exact ⟨Step.refl x.si, .int _⟩
  · cases e
def okR (i : Int) : Bool := decide (-10000000 ≤ i) && decide (i ≤ 10000000)
@[simp] theorem okR_iff (i : Int) : (okR i = true) = (-10000000 ≤ i ∧ i ≤ 10000000) := by unfold okR; simp
theorem okR_ok {i : Int} (h : okR i = true) : -(2 ^ 62) ≤ i ∧ i < 2 ^ 62 := by
  unfold okR at h
  rw [Bool.and_eq_true, decide_eq_true_eq, decide_eq_true_eq] at h
  omega
def fRange (fs : FA) : FI := fun δ s => (fs δ s).bind fun p => match p.1 with
  | [.int j] => if okR j = true then some (rangeD 0 j.toNat, p.2) else none
  | _ => none
def fRange2 (fs : FA) : FI := fun δ s => (fs δ s).bind fun p => match p.1 with
  | [.int i, .int j] => if (okR i && okR j) = true then some (rangeD i (j - i).toNat, p.2) else none
  | _ => none
theorem di_range {q : Pos} (hg : Gl X "range") (hm : X.mg "range" = none) (ha : PA X [a] (tDA X.K fs)) (hs : starEach [a] X.env = [(false, eval a X.env)] := by rfl) : PI X tg (.Call (.Name "range" q) [a] [] pos) (tDI X.K (fRange fs)) :=
  imp_i (pi_range1 hg hm ha hs) fun σ H R ⟨h, s, δ, ds, s', er, si, q, w⟩ => by
  obtain ⟨⟨xs, s1⟩, q1, q⟩ := bind_some q
  dsimp only at q
  split at q
  · split at q
    · rename_i hr
      cases q
      refine ⟨h, s, δ, _, _, er, si, q1, fun vs H1 st1 r1 => ?_⟩
      obtain ⟨v, rfl, r⟩ := reps1 r1
      cases rep_int r
      obtain ⟨b1, b2⟩ := okR_ok hr
      exact ⟨_, rfl, b1, b2, w _ H1 st1 iter_range⟩
    · cases q
  · cases q
theorem di_range2 {q : Pos} (hg : Gl X "range") (hm : X.mg "range" = none) (ha : PA X [a, b] (tDA X.K fs)) (hs : starEach [a, b] X.env = [(false, eval a X.env), (false, eval b X.env)] := by rfl) (hs2 : starEach [b] X.env = [(false, eval b X.env)] := by rfl) :
    PI X tg (.Call (.Name "range" q) [a, b] [] pos) (tDI X.K (fRange2 fs)) :=
  imp_i (pi_range2 hg hm ha hs hs2) fun σ H R ⟨h, s, δ, ds, s', er, si, q, w⟩ => by
  obtain ⟨⟨xs, s1⟩, q1, q⟩ := bind_some q
  dsimp only at q
  split at q
  · split at q
    · rename_i hr
      cases q
      rw [Bool.and_eq_true] at hr
      refine ⟨h, s, δ, _, _, er, si, q1, fun vs H1 st1 r1 => ?_⟩
      obtain ⟨v, u, rfl, r, r'⟩ := reps2 r1
      cases rep_int r
      cases rep_int r'
      obtain ⟨b1, b2⟩ := okR_ok hr.1
      obtain ⟨b3, b4⟩ := okR_ok hr.2
      exact ⟨_, _, rfl, ⟨b1, b2, b3, b4⟩, w _ H1 st1 iter_range⟩
    · cases q
  · cases q
/-- zip of two tuples, of two lists -/
@[simp] def zipD : List D → List D → List D
  | x :: xs, y :: ys => .tup [x, y] :: zipD xs ys
  | _, _ => []
theorem zipD_get : ∀ {xs ys : List D} {i : Nat} {d : D}, (zipD xs ys)[i]? = some d → ∃ x y, xs[i]? = some x ∧ ys[i]? = some y ∧ d = .tup [x, y]
  | x :: xs, y :: ys, 0, d, e => by
    have e' : (D.tup [x, y]) = d := Option.some.inj (by simpa [zipD] using e)
    exact ⟨x, y, rfl, rfl, e'.symm⟩
  | x :: xs, y :: ys, i + 1, d, e => by
    obtain ⟨x', y', a, b, c⟩ := zipD_get (xs := xs) (ys := ys) (i := i) (by simpa [zipD] using e)
    exact ⟨x', y', by simpa using a, by simpa using b, c⟩
  | [], ys, i, d, e => by simp [zipD] at e
  | x :: xs, [], i, d, e => by simp [zipD] at e
theorem zipD_length : ∀ xs ys : List D, (zipD xs ys).length = min xs.length ys.length
  | [], ys => by simp [zipD]
  | x :: xs, [] => by simp [zipD]
  | x :: xs, y :: ys => by
    have := zipD_length xs ys
    simp only [zipD, List.length_cons, this]
    omega
theorem pair_new {K : PySem.W.Frag} {h : Addr → Bool} {s : S} {H : Hp} {T : Addr} {o : Obj} {x y : V} {dx dy : D} (si : SI K h s H) (hT : H T = none) (hd : o.dict = none) (rx : Rep K (hide h H) x dx) (ry : Rep K (hide h H) y dy) :
    Step K h s H s (upd H T (.frz o (.tup [x, y]))) ∧ Rep K (hide h (upd H T (.frz o (.tup [x, y])))) (.ref T) (.tup [dx, dy]) :=
  ⟨Step.new si hT _, new_tup si hT hd (.cons rx (.cons ry .nil))⟩
theorem iter_zipT {K : PySem.W.Frag} {h : Addr → Bool} {s : S} {H : Hp} {p q : Addr} {xs ys : List V} {ds es : List D} (si : SI K h s H) (qa : SqT K (hide h H) p xs) (ra : Reps K (hide h H) xs ds) (qb : SqT K (hide h H) q ys) (rb : Reps K (hide h H) ys es) : IterD K h (ItzPT K p q) s H (zipD ds es) := by
  intro h' s2 H2 x i
  have q1 : SqT K H2 p xs := sqt_un (ext_t (x.ext si) qa)
  have q2 : SqT K H2 q ys := sqt_un (ext_t (x.ext si) qb)
  refine ⟨fun d e => ?_, fun hl => ⟨xs, ys, q1, q2, by rw [zipD_length] at hl; rw [ra.length, rb.length]; omega⟩⟩
  obtain ⟨dx, dy, ex, ey, rfl⟩ := zipD_get e
  obtain ⟨vx, ex', rx⟩ := ra.get ex
  obtain ⟨vy, ey', ry⟩ := rb.get ey
  refine ⟨⟨xs, ys, vx, vy, q1, q2, ex', ey'⟩, fun z H3 hy => ?_⟩
  obtain ⟨T, o, u1, u2, rfl, hT, hd, rfl, h1, h2⟩ := hy
  have a1 := h1 xs q1
  have a2 := h2 ys q2
  rw [ex'] at a1; cases a1
  rw [ey'] at a2; cases a2
  exact pair_new x.si hT hd (Rep.mono (x.ext si) _ _ rx) (Rep.mono (x.ext si) _ _ ry)
theorem iter_zipL {K : PySem.W.Frag} {h : Addr → Bool} {s : S} {H : Hp} {p q : Addr} {xs ys : List V} {ds es : List D} (si : SI K h s H) (qa : hide h H p = some (.lst xs)) (ra : Reps K (hide h H) xs ds) (qb : hide h H q = some (.lst ys)) (rb : Reps K (hide h H) ys es) : IterD K h (ItzP K p q) s H (zipD ds es) := by
  intro h' s2 H2 x i
  have q1 : SqL K H2 p xs := SqL.of (hide_ext _ _ _ _ (x.ext si _ _ qa))
  have q2 : SqL K H2 q ys := SqL.of (hide_ext _ _ _ _ (x.ext si _ _ qb))
  refine ⟨fun d e => ?_, fun hl => ⟨xs, ys, q1, q2, by rw [zipD_length] at hl; rw [ra.length, rb.length]; omega⟩⟩
  obtain ⟨dx, dy, ex, ey, rfl⟩ := zipD_get e
  obtain ⟨vx, ex', rx⟩ := ra.get ex
  obtain ⟨vy, ey', ry⟩ := rb.get ey
  refine ⟨⟨xs, ys, vx, vy, q1, q2, ex', ey'⟩, fun z H3 hy => ?_⟩
  obtain ⟨T, o, u1, u2, rfl, hT, hd, rfl, h1, h2⟩ := hy
  have a1 := h1 xs q1
  have a2 := h2 ys q2
  rw [ex'] at a1; cases a1
  rw [ey'] at a2; cases a2
  exact pair_new x.si hT hd (Rep.mono (x.ext si) _ _ rx) (Rep.mono (x.ext si) _ _ ry)
def fZip (fs : FA) : FI := fun δ s => (fs δ s).bind fun p => match p.1 with
  | [.tup xs, .tup ys] => some (zipD xs ys, p.2)
  | [.lst xs, .lst ys] => some (zipD xs ys, p.2)
  | _ => none
theorem di_zip {q tpos : Pos} {elts : List Expr} {kk : Nat} (hg : Gl X "zip") (hm : X.mg "zip" = none) (ha : PA X [a, b] (tDA X.K fs)) (hs : starEach [a, b] X.env = (false, eval a X.env) :: starEach [b] X.env := by rfl) (hpl : (backTo pos (starEach [b] X.env)).any (·.1) = false := by rfl) :
    PI X (.Tuple elts kk tpos) (.Call (.Name "zip" q) [a, b] [] pos) (tDI X.K (fZip fs)) :=
  imp_i (pi_zipP hg hm ha hs hpl) fun σ H R ⟨h, s, δ, ds, s', er, si, q, w⟩ => by
  obtain ⟨⟨xs, s1⟩, q1, q⟩ := bind_some q
  dsimp only at q
  split at q
  · cases q
    refine ⟨h, s, δ, _, _, er, si, q1, fun vs H1 st1 r1 => ?_⟩
    obtain ⟨v, u, rfl, r, r'⟩ := reps2 r1
    obtain ⟨p1, ys, rfl, qa, ra⟩ := rep_tup r
    obtain ⟨p2, zs, rfl, qb, rb⟩ := rep_tup r'
    exact ⟨p1, p2, ys, zs, rfl, .inr ⟨sqt_un qa, sqt_un qb, w _ H1 st1 (iter_zipT st1.si qa ra qb rb)⟩⟩
  · cases q
    refine ⟨h, s, δ, _, _, er, si, q1, fun vs H1 st1 r1 => ?_⟩
    obtain ⟨v, u, rfl, r, r'⟩ := reps2 r1
    obtain ⟨p1, ys, rfl, qa, ra⟩ := rep_lst r
    obtain ⟨p2, zs, rfl, qb, rb⟩ := rep_lst r'
    exact ⟨p1, p2, ys, zs, rfl, .inl ⟨SqL.of (hide_ext _ _ _ _ qa), SqL.of (hide_ext _ _ _ _ qb), w _ H1 st1 (iter_zipL st1.si qa ra qb rb)⟩⟩
  · cases q

/-! ### a def of the text -/
@[simp] def startD (n : Nat) (ds : List D) : Fr := ds.map some ++ List.replicate (n - ds.length) none
def fBody (n : Nat) (f : FS) : FD := fun ds s => (f (startD n ds) s).bind fun p => match p.1 with
  | .rt d => some (d, p.2)
  | .nx _ => some (.non, p.2)
  | _ => none
theorem env_start {K : PySem.W.Frag} {H : Hp} {N : List Str} {vs : List V} {ds : List D} (r : Reps K H vs ds) : EnvR K H (L2.start N vs) (startD N.length ds) := by
  unfold L2.start startD
  rw [r.length]
  refine ⟨by simp [r.length], fun i d e => ?_⟩
  by_cases hi : i < ds.length
  · rw [List.getElem?_append_left (by simpa using hi), List.getElem?_map] at e
    rw [List.getElem?_append_left (by simpa [r.length] using hi), List.getElem?_map]
    cases e2 : ds[i]? with
    | none => rw [e2] at e; cases e
    | some d' =>
      rw [e2] at e
      cases (show some (some d') = some (some d) from e)
      obtain ⟨v, e3, r3⟩ := r.get e2
      exact ⟨v, by rw [e3]; rfl, r3⟩
  · rw [List.getElem?_append_right (by simpa using Nat.le_of_not_lt hi)] at e
    rw [List.getElem?_replicate] at e
    split at e <;> cases e
theorem okD {P : Program} {w : World} {K : PySem.W.Frag} {mg : Str → Option Value} {base : Heap} {x qual : Str} {st : Stmt} {f : Addr} {fd : FuncData} {N ps : List Str} {k : Nat} {g : FD} (F : Fun K x qual st f fd) (S : FnScope N ps (defScope st))
    (hb : ∀ (cdv : Value) (A : Around) (outer : List Env) (s : Shared) (H : Hp) (E : XK), Room k (A.deeper (envOfC qual (defScope st) s.heap.objs.size f cdv)) →
      ∃ fb, PSs (cxOf CX0 P w K mg base N qual (defScope st) f cdv A outer s H E).nox (defBody st) (tDS K fb) ∧ ∀ ds s d s', ds.length = ps.length → g ds s = some (d, s') → fBody N.length fb ds s = some (d, s')) :
    FnOk P w K mg base CX0 (k + 1) f fd ps (spD K ps.length g) := by
  refine F.ok S (fun vs H Q E h => ?_) (fun cdv A outer s H vs Q E hr h => ?_)
  · obtain ⟨h', s, ds, d, s', r, hl, _⟩ := h
    rw [r.length, hl]
  · obtain ⟨fb, p, hg⟩ := hb cdv A outer s H E hr
    refine ⟨_, p, ?_⟩
    obtain ⟨h', s, ds, d, s', r, hl, si, q, w⟩ := h
    obtain ⟨⟨o, s1⟩, q1, q⟩ := bind_some (hg ds s d s' hl q)
    refine ⟨h', s, startD N.length ds, o, s1, env_start r, si, q1, fun H' st => ?_⟩
    cases o with
    | rt d' => cases q; exact fun v rv => w v H' st rv
    | nx δ' => cases q; exact fun σ' _ => w .non H' st .non
    | bk δ' => cases q
    | ct δ' => cases q
/-- a promise in other words -/
theorem FnOk.to {P : Program} {w : World} {K : PySem.W.Frag} {mg : Str → Option Value} {base : Heap} {f : Addr} {fd : FuncData} {ps : List Str} {k n : Nat} {g g' : FD} (F : FnOk P w K mg base CX0 k f fd ps (spD K n g))
    (i : ∀ ds s d s', ds.length = n → g' ds s = some (d, s') → g ds s = some (d, s')) : FnOk P w K mg base CX0 k f fd ps (spD K n g') :=
  F.imp fun vs H Q E ⟨h', s, ds, d, s', r, hl, si, q, w⟩ => ⟨h', s, ds, d, s', r, hl, si, i ds s d s' hl q, w⟩
end
end Fw

set_option Elab.async false
set_option linter.all false
set_option maxRecDepth 100000
namespace Fw
open PySem PySem.Spec PyProof.Rows L2
section
variable {X : Cx} {tg e a b c o i v : Expr} {es : List Expr} {fe fa fb fc fo fi fv : FE} {fs : FA} {pos p pos' : Pos}

/-! ### a op b op' c -/
def fChain (g g' : G2) (fa fb fc : FE) : FE := fun δ s => (fa δ s).bind fun p => (fb δ p.2).bind fun q => (g p.1 q.1 q.2).bind fun k => match k with
  | .bl k => if k = true then (fc δ q.2).bind fun r => (g' q.1 r.1 r.2).map fun d => (d, r.2) else some (.bl false, q.2)
  | _ => none
theorem chain_of {K : PySem.W.Frag} {r r' : R2} {g g' : G2} (hg : GOp K r g) (hg' : GOp K r' g') {σ : L2.St} {H : Hp} {Q : VK} (hq : tD K (fChain g g' fa fb fc) σ H Q) : tChain r r' (tD K fa) (tD K fb) (tD K fc) σ H Q := by
  obtain ⟨h, s, δ, d, s', er, si, q, w⟩ := hq
  obtain ⟨⟨x, s1⟩, q1, q⟩ := bind_some q
  obtain ⟨⟨y, s2⟩, q2, q⟩ := bind_some q
  obtain ⟨z, q3, q⟩ := bind_some q
  refine ⟨h, s, δ, x, s1, er, si, q1, fun v H1 st1 r1 => ⟨h, s1, δ, y, s2, er.mono (st1.ext si), st1.si, q2, fun u H2 st2 r2 => ?_⟩⟩
  refine hg h s2 H2 v u x y z _ st2.si (st2.rep st1.si r1) r2 q3 fun zv H3 st3 r3 => ?_
  cases z with
  | bl k =>
    refine ⟨k, rep_bl r3, ?_⟩
    have st : Step K h s H s2 H3 := st1.trans (st2.trans st3)
    cases k with
    | true =>
      obtain ⟨⟨t, s4⟩, q4, q⟩ := bind_some (show (fc δ s2).bind _ = some (d, s') from q)
      obtain ⟨d', q5, q⟩ := map_some q
      cases q
      refine iteT ⟨h, s2, δ, t, _, er.mono (st.ext si), st3.si, q4, fun v' H4 st4 r4 => ?_⟩
      exact hg' h _ H4 u v' y t d Q st4.si (st4.rep st3.si (st3.rep st2.si r2)) r4 q5 fun z' H5 st5 r5 => w z' H5 (st.trans (st4.trans st5)) r5
    | false =>
      cases q
      exact iteF (w _ H3 st (.bl false))
  | _ => cases q
theorem d_chain {op op' : CmpOp} {r r' : R2} {g g' : G2} (ho : OpR X (compareOp op) r) (ho' : OpR X (compareOp op') r') (hg : GOp X.K r g) (hg' : GOp X.K r' g') (ha : PE X a (tD X.K fa)) (hb : PE X b (tD X.K fb)) (hc : PE X c (tD X.K fc))
    (hm : lastMarks [op, op'] [b, c] = false := by with_unfolding_all rfl) : PE X (.Compare a [op, op'] [b, c] pos) (tD X.K (fChain g g' fa fb fc)) := imp_e (pe_chain ho ho' ha hb hc hm) fun σ H Q hq => chain_of hg hg' hq
theorem dt_chain {op op' : CmpOp} {r r' : R2} {g g' : G2} (ho : OpR X (compareOp op) r) (ho' : OpR X (compareOp op') r') (hg : GOp X.K r g) (hg' : GOp X.K r' g') (ha : PE X a (tD X.K fa)) (hb : PE X b (tD X.K fb)) (hc : PE X c (tD X.K fc))
    (hm : lastMarks [op, op'] [b, c] = false := by with_unfolding_all rfl) : PT X (.Compare a [op, op'] [b, c] pos) (tDT X.K (fT (fChain g g' fa fb fc))) := imp_t (pt_chain ho ho' ha hb hc hm) fun σ H Q hq => chain_of hg hg' (tT_of hq)

/-! ### truth -/
@[simp] def truD : D → Option Bool
  | .non => some false
  | .bl b => some b
  | .int i => some (i != 0)
  | .tup xs => some (!xs.isEmpty)
  | .lst xs => some (!xs.isEmpty)
  | _ => none
def fTru (f : FE) : FT := fun δ s => (f δ s).bind fun p => (truD p.1).map fun k => (k, p.2)
theorem tru_ok' {K : PySem.W.Frag} {H : Hp} {v : V} {d : D} {k : Bool} (r : Rep K H v d) (q : truD d = some k) : TruV K v H k := by
  cases r with
  | non => cases (show some _ = some _ from q); rfl
  | bl b => cases (show some _ = some _ from q); rfl
  | int i => cases (show some _ = some _ from q); rfl
  | tup a r =>
    cases (show some _ = some _ from q)
    exact .inr (.inl ⟨_, a.sq, by cases r <;> rfl⟩)
  | lst a r =>
    cases (show some _ = some _ from q)
    exact .inl ⟨_, SqL.of a, by cases r <;> rfl⟩
  | _ => cases (show none = some _ from q)
theorem dt_tru (ha : PE X a (tD X.K fa)) (he : ∀ whole, isTrue a X.env whole = (do let v ← whole; standAt a.pos; holding [v] (truthy v)) := by intro _; rfl) : PT X a (tDT X.K (fTru fa)) := imp_t (pt_truth ha he) fun σ H Q ⟨h, s, δ, d, s', er, si, q, w⟩ => by
  obtain ⟨⟨x, s1⟩, q1, q⟩ := bind_some q
  obtain ⟨k, q2, q⟩ := map_some q
  cases q
  exact ⟨h, s, δ, x, _, er, si, q1, fun v H1 st1 r1 => ⟨_, tru_ok' r1.un q2, w H1 st1⟩⟩

/-! ### stores to what is owned -/
theorem SI.putL {K : PySem.W.Frag} {h : Addr → Bool} {s : S} {H : Hp} {a : Addr} {u : OO} {o : HO} {w : OO} (si : SI K h s H) (e : s a = some u) (r : RepO K (hide h H) (some o) w) : Step K h s H (supd s a w) (upd H a o) := by
  have ha : h a = true := si.own a u e
  have hid : hide h (upd H a o) = hide h H := by
    funext b
    unfold hide
    by_cases z : b = a
    · rw [z, ha, if_pos rfl, if_pos rfl]
    · rw [upd_ne z]
  refine ⟨fun b z => ?_, fun b u' z q => ?_, fun b u' z => ?_, fun b u' z => ?_, fun b z => ?_⟩
  · by_cases q : b = a
    · rw [q, e] at z; cases z
    · rw [supd_ne q]; exact z
  · have q' : b ≠ a := fun t => by rw [t, e] at z; cases z
    rw [upd_ne q']; exact q
  · by_cases q : b = a
    · rw [q]; exact ha
    · rw [supd_ne q] at z; exact si.own b u' z
  · rw [hid]
    by_cases q : b = a
    · rw [q, supd_same] at z
      cases z
      rw [q, upd_same]
      exact r
    · rw [supd_ne q] at z
      rw [upd_ne q]
      exact si.ob b u' z
  · by_cases q : b = a
    · rw [q, upd_same]; exact fun z => nomatch z
    · rw [upd_ne q]; exact si.hid b z
/-- o[i] = v at an owned list -/
def fPutIx (fv fo fi : FE) : FS := fun δ s => (fv δ s).bind fun v => (fo δ v.2).bind fun o => (fi δ o.2).bind fun i => match o.1, i.1 with
  | .ref a, .int k => match i.2 a with
    | some (.lst ds) => (ixN ds.length k).map fun j => (.nx δ, supd i.2 a (.lst (ds.set j v.1)))
    | _ => none
  | _, _ => none
theorem ds_putIx (hv : PE X v (tD X.K fv)) (ho : PE X o (tD X.K fo)) (hi : PE X i (tD X.K fi))
    (ha : ∀ v, assign (.Subscript o i pos) X.env v = (holding [v] (eval o X.env) >>= fun x => holding [v, x] (eval i X.env) >>= fun y => standAt pos >>= fun _ => holding [v, x, y] (setItem x y v) >>= fun _ => release [v, x, y] []) := by intro _; rfl) (hs : swapsWithSole [.Subscript o i pos] v pos'.line X.env = pure false := by rfl) (hw : swappedStores [.Subscript o i pos] v X.env = pure none := by rfl)
    (h1 : (assignEach [.Subscript o i pos] X.env).map (·.2) = [assign (.Subscript o i pos) X.env] := by rfl) : PS X (.Assign [.Subscript o i pos] v pos') (tDS X.K (fPutIx fv fo fi)) :=
  imp_s (ps_asg hv (pg_sub ho hi set_list ha) hs hw h1) fun D σ H ⟨h, s, δ, out, s', er, si, q, w⟩ => by
  obtain ⟨⟨dv, s1⟩, q1, q⟩ := bind_some q
  obtain ⟨⟨d_o, s2⟩, q2, q⟩ := bind_some q
  obtain ⟨⟨di, s3⟩, q3, q⟩ := bind_some q
  refine ⟨h, s, δ, dv, s1, er, si, q1, fun vv H1 st1 r1 => ⟨h, s1, δ, d_o, s2, er.mono (st1.ext si), st1.si, q2, fun vo H2 st2 r2 => ⟨h, s2, δ, di, s3, (er.mono (st1.ext si)).mono (st2.ext st1.si), st2.si, q3, fun vi H3 st3 r3 => ?_⟩⟩⟩
  dsimp only at q
  split at q
  · split at q
    · rename_i ds e
      obtain ⟨j, q4, q⟩ := map_some q
      cases q
      obtain ⟨xs, e2, rx⟩ := st3.si.ob _ _ e
      have st : Step X.K h s H s3 H3 := st1.trans (st2.trans st3)
      have rv : Rep X.K (hide h H3) vv dv := st3.rep st2.si (st2.rep st1.si r1)
      refine ⟨_, xs, _, j, rep_ref (st3.rep st2.si r2), rep_int r3, e2, by rw [rx.length]; exact q4, ?_⟩
      have st4 := st3.si.putL (o := .lst (xs.set j vv)) (w := .lst (ds.set j dv)) e ⟨_, rfl, rx.set rv j⟩
      exact w _ (st.trans st4) σ (er.mono ((st.trans st4).ext si))
    · cases q
  · cases q
/-- l.append(v) -/
def fApp (fo fv : FE) : FE := fun δ s => (fo δ s).bind fun o => match o.1 with
  | .ref a => match o.2 a with
    | some (.lst _) => (fv δ o.2).bind fun v => match v.2 a with
      | some (.lst ds) => if okLen ds.length = true then some (.non, supd v.2 a (.lst (ds ++ [v.1]))) else none
      | _ => none
    | _ => none
  | _ => none
/-- d[k] of an owned dict -/
@[simp] def dGet : G2 := fun x y s => match x, y with
  | .ref a, .str k => match s a with
    | some (.dct kvs) => kvs.lookup k
    | _ => none
  | _, _ => none
theorem repkv_get {K : PySem.W.Frag} {H : Hp} {k : Str} {d : D} : ∀ {kvs : List (Key × V)} {ds : List (Str × D)}, RepKV K H kvs ds → ds.lookup k = some d → ∃ v, valV kvs (Sum.inr k) = some v ∧ Rep K H v d
  | [], [], _, e => by cases e
  | [], _ :: _, r, _ => by cases r.1
  | _ :: _, [], r, _ => by cases r.1
  | (k1, v1) :: kvs, (k2, d2) :: ds, r, e => by
    obtain ⟨r1, r2⟩ := r
    have e1 : k1 = Sum.inr k2 ∧ kvs.map (·.1) = ds.map fun p => Sum.inr p.1 := by simpa using r1
    cases r2 with
    | cons a t =>
      rw [List.lookup_cons] at e
      by_cases hk : k = k2
      · subst hk
        rw [beq_self_eq_true] at e
        cases e
        exact ⟨v1, valV_pos (p := (k1, v1)) e1.1, a⟩
      · have hb : (k == k2) = false := beq_eq_false_iff_ne.mpr hk
        rw [hb] at e
        obtain ⟨v, e3, r3⟩ := repkv_get ⟨e1.2, t⟩ e
        exact ⟨v, by rw [valV_neg (p := (k1, v1)) (by rw [e1.1]; exact fun z => hk (Sum.inr.inj z).symm)]; exact e3, r3⟩
theorem d_dget (hu : X.A.units + 1 < cLine) (ho : PE X o (tD X.K fo)) (hi : PE X i (tD X.K fi)) (hs : NoSl i) : PE X (.Subscript o i pos) (tD X.K (f2 dGet fo fi)) := imp_e (pe_dget hu ho hi hs) fun σ H Q ⟨h, s, δ, d, s', er, si, q, w⟩ => by
  obtain ⟨⟨x, s1⟩, q1, q⟩ := bind_some q
  obtain ⟨⟨y, s2⟩, q2, q⟩ := bind_some q
  obtain ⟨z, q3, q⟩ := map_some q
  cases q
  cases x with
  | ref a =>
    cases y with
    | str k =>
      refine ⟨h, s, δ, _, s1, er, si, q1, fun v H1 st1 r1 => ⟨h, s1, δ, _, _, er.mono (st1.ext si), st1.si, q2, fun u H2 st2 r2 => ?_⟩⟩
      unfold dGet at q3
      dsimp only at q3
      split at q3
      · rename_i kvs e
        obtain ⟨es, e2, rk⟩ := st2.si.ob _ _ e
        obtain ⟨vv, e3, r3⟩ := repkv_get rk q3
        refine ⟨a, vv, rep_ref (st2.rep st1.si r1), ?_, w _ H2 (st1.trans st2) r3⟩
        rw [rep_str r2, ← e3]
        exact DGet.k (k := Sum.inr k) e2
      · cases q3
    | _ => cases q3
  | _ => cases q3
def putD (kvs : List (Str × D)) (k : Str) (v : D) : List (Str × D) := if (kvs.any fun kv => decide (kv.1 = k)) = true then kvs.map (fun kv => if kv.1 = k then (kv.1, v) else kv) else kvs ++ [(k, v)]
theorem inr_dec (a b : Str) : decide ((Sum.inr a : Key) = Sum.inr b) = decide (a = b) := key_rr a b
theorem repkv_put {K : PySem.W.Frag} {H : Hp} {k : Str} {v : V} {d : D} (rv : Rep K H v d) {kvs : List (Key × V)} {ds : List (Str × D)} (r : RepKV K H kvs ds) : RepKV K H (putK kvs (Sum.inr k) v) (putD ds k d) := by
  have hany : ∀ {kvs : List (Key × V)} {ds : List (Str × D)}, RepKV K H kvs ds → (kvs.any fun kv => decide (kv.1 = Sum.inr k)) = ds.any fun kv => decide (kv.1 = k) := by
    intro kvs
    induction kvs with
    | nil => intro ds r; cases ds with
      | nil => rfl
      | cons _ _ => cases r.1
    | cons p kvs ih => intro ds r; cases ds with
      | nil => cases r.1
      | cons q ds =>
        obtain ⟨r1, r2⟩ := r
        have e1 : p.1 = Sum.inr q.1 ∧ kvs.map (·.1) = ds.map fun p => Sum.inr p.1 := by simpa using r1
        cases r2 with
        | cons a t => rw [List.any_cons, List.any_cons, ih ⟨e1.2, t⟩, e1.1, inr_dec]
  have hmap : ∀ {kvs : List (Key × V)} {ds : List (Str × D)}, RepKV K H kvs ds → RepKV K H (kvs.map fun kv => if kv.1 = Sum.inr k then (kv.1, v) else kv) (ds.map fun kv => if kv.1 = k then (kv.1, d) else kv) := by
    intro kvs
    induction kvs with
    | nil => intro ds r; cases ds with
      | nil => exact r
      | cons _ _ => cases r.1
    | cons p kvs ih => intro ds r; cases ds with
      | nil => cases r.1
      | cons q ds =>
        obtain ⟨r1, r2⟩ := r
        have e1 : p.1 = Sum.inr q.1 ∧ kvs.map (·.1) = ds.map fun p => Sum.inr p.1 := by simpa using r1
        cases r2 with
        | cons a t =>
          have ih' := ih ⟨e1.2, t⟩
          rw [List.map_cons, List.map_cons]
          by_cases hk : q.1 = k
          · rw [if_pos hk, if_pos (by rw [e1.1, hk])]
            exact ⟨by simpa [e1.1] using ih'.1, .cons rv ih'.2⟩
          · rw [if_neg hk, if_neg (by rw [e1.1]; exact fun z => hk (Sum.inr.inj z))]
            exact ⟨by simpa [e1.1] using ih'.1, .cons a ih'.2⟩
  unfold putK putD
  rw [hany r]
  split
  · exact hmap r
  · exact ⟨by simp [r.1], by simpa using r.2.append (.cons rv .nil)⟩
/-- d[k] = v at an owned dict -/
def fPutD (fv fo fi : FE) : FS := fun δ s => (fv δ s).bind fun v => (fo δ v.2).bind fun o => (fi δ o.2).bind fun i => match o.1, i.1 with
  | .ref a, .str k => match i.2 a with
    | some (.dct kvs) => if okLen kvs.length = true then some (.nx δ, supd i.2 a (.dct (putD kvs k v.1))) else none
    | _ => none
  | _, _ => none
theorem ds_putD (hu : X.A.units + 1 < cLine) (hv : PE X v (tD X.K fv)) (ho : PE X o (tD X.K fo)) (hi : PE X i (tD X.K fi)) (hs : swapsWith v (some (.Subscript o i pos')) pos.line X.env = pure false := by rfl) : PS X (.Assign [.Subscript o i pos'] v pos) (tDS X.K (fPutD fv fo fi)) :=
  imp_s (ps_dput hu ho hi hv hs) fun D σ H ⟨h, s, δ, out, s', er, si, q, w⟩ => by
  obtain ⟨⟨dv, s1⟩, q1, q⟩ := bind_some q
  obtain ⟨⟨d_o, s2⟩, q2, q⟩ := bind_some q
  obtain ⟨⟨di, s3⟩, q3, q⟩ := bind_some q
  refine ⟨h, s, δ, dv, s1, er, si, q1, fun vv H1 st1 r1 => ⟨h, s1, δ, d_o, s2, er.mono (st1.ext si), st1.si, q2, fun vo H2 st2 r2 => ⟨h, s2, δ, di, s3, (er.mono (st1.ext si)).mono (st2.ext st1.si), st2.si, q3, fun vi H3 st3 r3 => ?_⟩⟩⟩
  dsimp only at q
  cases d_o with
  | ref a =>
    cases di with
    | str k =>
      dsimp only at q
      split at q
      · rename_i kvs e
        split at q
        · rename_i hl
          cases q
          obtain ⟨es, e2, rk⟩ := st3.si.ob _ _ e
          have st : Step X.K h s H s3 H3 := st1.trans (st2.trans st3)
          have rv : Rep X.K (hide h H3) vv dv := st3.rep st2.si (st2.rep st1.si r1)
          have hln : es.length = kvs.length := by have := congrArg List.length rk.1; simpa using this
          have st4 := st3.si.putL (o := .dK (putK es (Sum.inr k) vv)) (w := .dct (putD kvs k dv)) e ⟨_, rfl, repkv_put rv rk⟩
          refine ⟨a, _, rep_ref (st3.rep st2.si r2), by rw [rep_str r3]; exact DPut.k (k := Sum.inr k) e2 (by rw [hln]; exact okLen_lt hl), ?_⟩
          exact w _ (st.trans st4) σ (er.mono ((st.trans st4).ext si))
        · cases q
      · cases q
    | _ => cases q
  | _ => cases q

/-! ### a def that is known -/
structure Kn (P : Program) (w : World) (K : PySem.W.Frag) (mg : Str → Option Value) (base : Heap) (x : Str) (n k : Nat) (g : FD) : Prop where
  ex : ∃ (f : Addr) (fd : FuncData) (ps : List Str), FnOk P w K mg base CX0 k f fd ps (spD K n g) ∧ Binds K fd ps [] ∧ PySem.W.keepIn K (.ref f) = true ∧ mg x = some (.ref f)
theorem Kn.mono {P : Program} {w : World} {K : PySem.W.Frag} {mg : Str → Option Value} {base : Heap} {x : Str} {n j k : Nat} {g : FD} (F : Kn P w K mg base x n j g) (h : j ≤ k) : Kn P w K mg base x n k g :=
  let ⟨f, fd, ps, a, b, c, d⟩ := F.ex; ⟨f, fd, ps, a.mono h, b, c, d⟩
theorem Kn.to {P : Program} {w : World} {K : PySem.W.Frag} {mg : Str → Option Value} {base : Heap} {x : Str} {n k : Nat} {g g' : FD} (F : Kn P w K mg base x n k g) (i : ∀ ds s d s', ds.length = n → g' ds s = some (d, s') → g ds s = some (d, s')) : Kn P w K mg base x n k g' :=
  let ⟨f, fd, ps, a, b, c, d⟩ := F.ex; ⟨f, fd, ps, Fw.FnOk.to a i, b, c, d⟩
theorem d_kn {x : Str} {n k : Nat} {g : FD} (F : Kn X.prog X.w X.K X.mg X.base x n k g) (hr : Room k X.A) (hg : Gl X x) (ha : PA X (e :: es) (tDA X.K fs)) (hdb : (x == ("__debug__" : Str)) = false := by decide)
    (he : starEach (e :: es) X.env = (false, eval e X.env) :: starEach es X.env := by rfl) (hpl : (backTo pos (starEach es X.env)).any (·.1) = false := by rfl) : PE X (.Call (.Name x p) (e :: es) [] pos) (tD X.K (fCall n g fs)) :=
  let ⟨f, fd, ps, a, b, c, d⟩ := F.ex; d_call a hr hg d c b ha hdb he hpl
theorem d_kn0 {x : Str} {n k : Nat} {g : FD} (F : Kn X.prog X.w X.K X.mg X.base x n k g) (hr : Room k X.A) (hg : Gl X x) (hdb : (x == ("__debug__" : Str)) = false := by decide) : PE X (.Call (.Name x p) [] [] pos) (tD X.K (fCall n g fNil)) :=
  let ⟨f, fd, ps, a, b, c, d⟩ := F.ex; d_call0 a hr hg d c b hdb
/-- the built-in names that the text leaves alone -/
structure Bi (mg : Str → Option Value) : Prop where
  all : ∀ x ∈ (["len", "int", "str", "tuple", "list", "sum", "all", "any", "isinstance", "range", "zip", "enumerate", "sorted", "set", "min", "max", "super", "bool"] : List String), mg (Str.ofString x) = none
theorem Bi.get {mg : Str → Option Value} (B : Bi mg) (x : String) (h : x ∈ (["len", "int", "str", "tuple", "list", "sum", "all", "any", "isinstance", "range", "zip", "enumerate", "sorted", "set", "min", "max", "super", "bool"] : List String) := by decide) : mg (Str.ofString x) = none := B.all x h
end
end Fw

set_option Elab.async false
set_option linter.all false
set_option maxRecDepth 100000
namespace Fw
open PySem PySem.Spec PyProof.Rows L2
section
variable {X : Cx} {tg e a b c o i v : Expr} {es : List Expr} {fe fa fb fc fo fi fv : FE} {fs : FA} {pos p pos' : Pos}

/-! ### {k: v, ..}[i], the keys texts -/
theorem StepX.hideNew {K : PySem.W.Frag} {h : Addr → Bool} {s : S} {H : Hp} (i : SI K h s H) {p : Addr} (hp : H p = none) (o : HO) : StepX K h s H (fun a => h a || decide (a = p)) s (upd H p o) := by
  refine ⟨fun a z => by simp [z], fun a z => ?_, fun _ z => z, fun a u _ z => by rw [upd_ne (ne_of_none z hp)]; exact z, fun a u z => ?_, fun a u z => ?_, fun a z => ?_⟩
  · by_cases e : a = p
    · exact .inr (by rw [e]; exact hp)
    · exact .inl (by simpa [e] using z)
  · have := i.own a u z
    simp [this]
  · have ob := i.ob a u z
    have ne : a ≠ p := fun e => ob.there (by rw [e]; exact hp)
    rw [upd_ne ne]
    refine ob.mono fun b w q => ?_
    unfold hide at q ⊢
    split at q
    · cases q
    · rename_i hb
      have nb : b ≠ p := ne_of_none q hp
      rw [if_neg (by simp [hb, nb]), upd_ne nb]
      exact q
  · by_cases e : a = p
    · rw [e, upd_same]; exact fun z => nomatch z
    · rw [upd_ne e]
      exact i.hid a (by simpa [e] using z)
theorem hide_upd {h : Addr → Bool} {H : Hp} {p : Addr} {o : HO} (hp : h p = true) : hide h (upd H p o) = hide h H := by
  funext b
  unfold hide
  by_cases e : b = p
  · rw [e, hp, if_pos rfl, if_pos rfl]
  · rw [upd_ne e]
/-- a hidden thing that nobody owns is written -/
theorem StepX.put {K : PySem.W.Frag} {h h' : Addr → Bool} {s s' : S} {H H' : Hp} (x : StepX K h s H h' s' H') {p : Addr} (hh : h' p = true) (hp : H p = none) (hs : s' p = none) (o : HO) : StepX K h s H h' s' (upd H' p o) := by
  refine ⟨x.le, x.new, x.dom, fun a u z e => ?_, x.si.own, fun a u z => ?_, fun a z => ?_⟩
  · rw [upd_ne (ne_of_none e hp)]; exact x.fr a u z e
  · have ob := x.si.ob a u z
    have ne : a ≠ p := fun e => by rw [e, hs] at z; cases z
    rw [upd_ne ne, hide_upd hh]
    exact ob
  · by_cases e : a = p
    · rw [e, upd_same]; exact fun z => nomatch z
    · rw [upd_ne e]; exact x.si.hid a z
structure DP (X : Cx) (pos : Pos) (keys : List (Option Expr)) (values : List Expr) (ks : List Str) (fs : FA) : Prop where
  ex : ∃ trs, PPs X pos keys values trs ∧ keys.length = ks.length ∧ ∀ σ H Q, (∃ (h : Addr → Bool) (s : S) (δ : Fr) (ds : List D) (s' : S), EnvR X.K (hide h H) σ δ ∧ SI X.K h s H ∧ fs δ s = some (ds, s') ∧
    ∀ vs H', Step X.K h s H s' H' → Reps X.K (hide h H') vs ds → vs.length = ks.length → Q ((ks.map V.str).zip vs) H') → tPairs trs σ H Q
theorem dp_nil : DP X pos [] [] [] fNil := ⟨[], pps_nil, rfl, fun σ H Q ⟨h, s, δ, ds, s', er, si, q, w⟩ => by
  cases q
  exact w [] H (Step.refl si) .nil rfl⟩
theorem dp_cons {x : Str} {j : Nat} {p2 : Pos} {ks : List (Option Expr)} {vs : List Expr} {xs : List Str} (hv : PE X v (tD X.K fv)) (hr : DP X pos ks vs xs fs) : DP X pos (some (.Constant (.str x) j p2) :: ks) (v :: vs) (x :: xs) (fCons fv fs) := by
  obtain ⟨trs, h1, h2, h3⟩ := hr.ex
  refine ⟨(tC (.str x), tD X.K fv) :: trs, pps_cons pe_str hv h1, by simp [h2], fun σ H Q ⟨h, s, δ, ds, s', er, si, q, w⟩ => ?_⟩
  obtain ⟨⟨d, s1⟩, q1, q⟩ := bind_some q
  obtain ⟨⟨ds', s2⟩, q2, q⟩ := map_some q
  cases q
  refine ⟨h, s, δ, d, s1, er, si, q1, fun v H1 st1 r1 => ?_⟩
  refine h3 σ H1 _ ⟨h, s1, δ, ds', _, er.mono (st1.ext si), st1.si, q2, fun vs H2 st2 r2 hl => ?_⟩
  exact w (v :: vs) H2 (st1.trans st2) (.cons (st2.rep st1.si r1) r2) (by simp [hl])
theorem merge_new : ∀ (more kvs : List (Key × V)), ((kvs ++ more).map (·.1)).Nodup → mergeK kvs more = kvs ++ more
  | [], kvs, _ => by rw [List.append_nil]; rfl
  | (k, v) :: more, kvs, h => by
    have hn : valV kvs k = none := by
      cases e : valV kvs k with
      | none => rfl
      | some u =>
        exfalso
        have : ∃ p ∈ kvs, p.1 = k := by
          unfold valV at e
          cases q : kvs.find? (fun kv => decide (kv.1 = k)) with
          | none => rw [q] at e; cases e
          | some p =>
            have e3 := List.find?_some q
            exact ⟨p, List.mem_of_find?_eq_some q, by simpa using e3⟩
        obtain ⟨p, hp, e2⟩ := this
        rw [List.map_append, List.nodup_append] at h
        exact h.2.2 p.1 (List.mem_map_of_mem hp) k (by simp) e2
    show mergeK (putK kvs k v) more = _
    rw [putK_new v hn, merge_new more (kvs ++ [(k, v)]) (by rw [List.append_assoc]; exact h), List.append_assoc]
    rfl
@[simp] def lkD : List Str → List D → Str → Option D
  | k :: ks, d :: ds, x => if k = x then some d else lkD ks ds x
  | _, _, _ => none
theorem lkD_ok {K : PySem.W.Frag} {H : Hp} {x : Str} {d : D} : ∀ {ks : List Str} {ds : List D} {vs : List V}, Reps K H vs ds → lkD ks ds x = some d → ∃ v, valV ((ks.zip vs).map fun p => ((Sum.inr p.1 : Key), p.2)) (Sum.inr x) = some v ∧ Rep K H v d
  | k :: ks, _ :: ds, _, .cons a t, e => by
    unfold lkD at e
    by_cases hk : k = x
    · rw [if_pos hk] at e
      cases e
      exact ⟨_, valV_pos (by rw [hk]), a⟩
    · rw [if_neg hk] at e
      obtain ⟨v, e1, r1⟩ := lkD_ok t e
      exact ⟨v, by rw [List.zip_cons_cons, List.map_cons, valV_neg (fun z => hk (Sum.inr.inj z))]; exact e1, r1⟩
  | [], _, _, _, e => by simp [lkD] at e
  | _ :: _, [], _, _, e => by simp [lkD] at e
def fDictIx (ks : List Str) (fs : FA) (fi : FE) : FE := fun δ s => (fs δ s).bind fun p => (fi δ p.2).bind fun q => match q.1 with
  | .str x => (lkD ks p.1 x).map fun d => (d, q.2)
  | _ => none
theorem d_dictIx {p2 : Pos} {keys : List (Option Expr)} {values : List Expr} {ks : List Str} (hu : X.A.units + 1 < cLine) (hd : DP X p2 keys values ks fs) (hi : PE X i (tD X.K fi)) (hs : NoSl i)
    (hall : keys.all (·.isSome) = true := by rfl) (hl : keys.length = values.length := by rfl) (h0 : keys ≠ [] := by exact fun z => nomatch z) (h15 : keys.length ≤ 15 := by decide) (nd : ks.Nodup := by decide +kernel) :
    PE X (.Subscript (.Dict keys values p2) i pos) (tD X.K (fDictIx ks fs fi)) := by
  obtain ⟨trs, h1, h2, h3⟩ := hd.ex
  refine imp_e (pe_dget hu (pe_disp h1 hall hl h0 h15) hi hs) fun σ H Q ⟨h, s, δ, d, s', er, si, q, w⟩ => ?_
  obtain ⟨⟨ds, s1⟩, q1, q⟩ := bind_some q
  obtain ⟨⟨y, s2⟩, q2, q⟩ := bind_some q
  intro p hp
  have x0 := StepX.hideNew si hp (.dK [])
  have hh : (fun a => h a || decide (a = p)) p = true := by simp
  refine h3 σ _ _ ⟨_, s, δ, ds, s1, er.mono (x0.ext si), x0.si, q1, fun vs H1 st1 r1 hvl => ?_⟩
  have x1 := x0.trans st1
  have hsp : ∀ {s2 : S} {H1 : Hp}, StepX X.K h s H (fun a => h a || decide (a = p)) s2 H1 → s2 p = none := fun x => x.dom p (by
    cases e : s p with
    | none => rfl
    | some u => exact absurd hp ((si.ob p u e).there))
  have hp1 : H1 p = some (.dK []) := st1.fr p _ (hsp x0) upd_same
  refine ⟨hp1, (ks.zip vs).map (fun p => ((Sum.inr p.1 : Key), p.2)), ?_, ?_, ?_⟩
  · rw [List.map_map, List.zip_map_left]
    rfl
  · rw [List.length_map, List.length_zip, hvl]
    omega
  have hm : mergeK [] ((ks.zip vs).map fun p => ((Sum.inr p.1 : Key), p.2)) = (ks.zip vs).map fun p => ((Sum.inr p.1 : Key), p.2) := by
    refine merge_new _ [] ?_
    rw [List.nil_append, List.map_map]
    have e1 : (ks.zip vs).map ((fun x => x.1) ∘ fun p => ((Sum.inr p.1 : Key), p.2)) = ks.map fun k => (Sum.inr k : Key) := by
      have : ((fun x => x.1) ∘ fun (p : Str × V) => ((Sum.inr p.1 : Key), p.2)) = (fun k => (Sum.inr k : Key)) ∘ Prod.fst := rfl
      rw [this, ← List.map_map, List.map_fst_zip (by omega)]
    rw [e1]
    exact List.Pairwise.map _ (fun a b h e => h (Sum.inr.inj e)) nd
  rw [hm]
  have x2 := x1.put hh hp (hsp x1) (.dK ((ks.zip vs).map fun p => ((Sum.inr p.1 : Key), p.2)))
  refine ⟨_, s1, δ, y, s2, er.mono (x2.ext si), x2.si, q2, fun u H2 st2 r2 => ?_⟩
  have x3 := x2.trans st2
  cases y with
  | str x =>
    obtain ⟨z, q3, q⟩ := map_some (show (lkD ks ds x).map _ = some (d, s') from q)
    cases q
    have rs2 : Reps X.K (hide (fun a => h a || decide (a = p)) H2) vs ds := st2.reps x2.si (by rw [hide_upd hh]; exact r1)
    obtain ⟨vv, e3, r3⟩ := lkD_ok rs2 q3
    refine ⟨p, vv, rfl, ?_, ?_⟩
    · rw [rep_str r2, ← e3]
      exact DGet.k (k := Sum.inr x) (st2.fr p _ (hsp x2) upd_same)
    · have stb := x3.back si
      refine w vv H2 stb (Rep.mono (fun b o z => ?_) _ _ r3)
      unfold hide at z ⊢
      split at z
      · cases z
      · rename_i hb
        rw [if_neg (fun t => hb (by simp [t]))]
        exact z
  | _ => cases q

/-! ### l.append(v) of an owned list, as a statement -/
theorem d_app {apos : Pos} (h : PE X (.Call (.Attribute o "append" apos) [v] [] pos) (tBM X.K "list" rAppend (tD X.K fo) (tDA X.K (fCons fv fNil)))) : PE X (.Call (.Attribute o "append" apos) [v] [] pos) (tD X.K (fApp fo fv)) := imp_e h fun σ H Q ⟨h, s, δ, d, s', er, si, q, w⟩ => by
  obtain ⟨⟨x, s1⟩, q1, q⟩ := bind_some q
  cases x with
  | ref a =>
    dsimp only at q
    split at q
    · rename_i ds0 e0
      obtain ⟨⟨y, s2⟩, q2, q⟩ := bind_some q
      dsimp only at q
      split at q
      · rename_i ds e
        split at q
        · rename_i hl
          cases q
          refine ⟨h, s, δ, _, s1, er, si, q1, fun v H1 st1 r1 => ?_⟩
          cases rep_ref r1
          obtain ⟨xs0, e00, _⟩ := st1.si.ob _ _ e0
          refine ⟨Or.inl ⟨rfl, _, Or.inl (Or.inl e00)⟩, h, s1, δ, [y], s2, er.mono (st1.ext si), st1.si, ?_, fun vs H2 st2 r2 => ?_⟩
          · show (fv δ s1).bind _ = _
            rw [q2]
            rfl
          · obtain ⟨u, rfl, r⟩ := reps1 r2
            obtain ⟨xs, e2, rx⟩ := st2.si.ob _ _ e
            refine ⟨a, xs, u, rfl, rfl, e2, by rw [rx.length]; exact okLen_lt hl, ?_⟩
            have st3 := st2.si.putL (o := .lst (xs ++ [u])) (w := .lst (ds ++ [y])) e ⟨_, rfl, rx.append (.cons r .nil)⟩
            exact w .non _ (st1.trans (st2.trans st3)) .non
        · cases q
      · cases q
    · cases q
  | _ => cases q

theorem kn_of {P : Program} {w : World} {K : PySem.W.Frag} {mg : Str → Option Value} {base : Heap} {x qual : Str} {st : Stmt} {f : Addr} {fd : FuncData} {N ps : List Str} {k : Nat} {fb : FS} (F : Fun K x qual st f fd) (hm : mg x = some (.ref f)) (S : FnScope N ps (defScope st)) (bi : Binds K fd ps [])
    (hb : ∀ (cdv : Value) (A : Around) (outer : List Env) (s : Shared) (H : Hp) (E : XK), Room k (A.deeper (envOfC qual (defScope st) s.heap.objs.size f cdv)) → PSs (cxOf CX0 P w K mg base N qual (defScope st) f cdv A outer s H E).nox (defBody st) (tDS K fb)) :
    Kn P w K mg base x ps.length (k + 1) (fBody N.length fb) :=
  ⟨f, fd, ps, okD F S fun cdv A outer s H E hr => ⟨fb, hb cdv A outer s H E hr, fun _ _ _ _ _ q => q⟩, bi, F.kp, hm⟩
end
end Fw

set_option Elab.async false
set_option linter.all false
set_option maxRecDepth 100000
/-! Fw11: how the readings reckon: each step waits for what stands ahead of it. -/
namespace Fw
open PySem PySem.Spec PyProof.Rows L2
variable {fe fa fb fc fo fi fv : FE} {fs : FA} {t u tt : FT} {f g : FS} {gi : FI} {ft : FG} {δ δ' : Fr} {s s' : S} {d x y : D} {ds xs : List D} {i j l n : Nat}
/-- a value and the state -/
def kR (s : S) : Option D → Option (D × S) | some d => some (d, s) | none => none
@[simp] theorem kR_s : kR s (some d) = some (d, s) := rfl
@[simp] theorem kR_n : kR s none = none := rfl
def kRB (s : S) : Option Bool → Option (D × S) | some d => some (.bl d, s) | none => none
@[simp] theorem kRB_s {b : Bool} : kRB s (some b) = some (.bl b, s) := rfl
theorem map_kR (o : Option D) : (o.map fun d => (d, s)) = kR s o := by cases o <;> rfl

def kVar (s : S) : Option (Option D) → Option (D × S) | some (some d) => some (d, s) | _ => none
@[simp] theorem kVar_s : kVar s (some (some d)) = some (d, s) := rfl
@[simp] theorem fVar_e : fVar i δ s = kVar s δ[i]? := by unfold fVar kVar; split <;> first | rfl | (split <;> simp_all) | simp_all
@[simp] theorem fC_e : fC d δ s = some (d, s) := rfl
@[simp] theorem fNil_e : fNil δ s = some ([], s) := rfl
def kCons' (x : D) : Option (List D × S) → Option (List D × S) | some (xs, s) => some (x :: xs, s) | none => none
@[simp] theorem kCons'_s : kCons' x (some (xs, s)) = some (x :: xs, s) := rfl
def kCons (fs : FA) (δ : Fr) : Option (D × S) → Option (List D × S) | some (x, s) => kCons' x (fs δ s) | none => none
@[simp] theorem kCons_s : kCons fs δ (some (x, s)) = kCons' x (fs δ s) := rfl
@[simp] theorem fCons_e : fCons fe fs δ s = kCons fs δ (fe δ s) := by
  unfold fCons kCons
  cases fe δ s with
  | none => rfl
  | some p => show (fs δ p.2).map _ = kCons' p.1 (fs δ p.2); cases fs δ p.2 <;> rfl
def kTup : Option (List D × S) → Option (D × S) | some (xs, s) => if okLen xs.length = true then some (.tup xs, s) else none | none => none
@[simp] theorem kTup_s : kTup (some (xs, s)) = if okLen xs.length = true then some (.tup xs, s) else none := rfl
@[simp] theorem fTup_e : fTup fs δ s = kTup (fs δ s) := by unfold fTup kTup; cases fs δ s <;> rfl
def kLst : Option (List D × S) → Option (D × S) | some (xs, s) => if okLen xs.length = true then some (.lst xs, s) else none | none => none
@[simp] theorem kLst_s : kLst (some (xs, s)) = if okLen xs.length = true then some (.lst xs, s) else none := rfl
@[simp] theorem fLst_e : fLst fs δ s = kLst (fs δ s) := by unfold fLst kLst; cases fs δ s <;> rfl
def k2' (g : G2) (x : D) : Option (D × S) → Option (D × S) | some (y, s) => kR s (g x y s) | none => none
@[simp] theorem k2'_s {g : G2} : k2' g x (some (y, s)) = kR s (g x y s) := rfl
def k2 (g : G2) (fb : FE) (δ : Fr) : Option (D × S) → Option (D × S) | some (x, s) => k2' g x (fb δ s) | none => none
@[simp] theorem k2_s {g : G2} : k2 g fb δ (some (x, s)) = k2' g x (fb δ s) := rfl
@[simp] theorem f2_e {g : G2} : f2 g fa fb δ s = k2 g fb δ (fa δ s) := by
  unfold f2 k2
  cases fa δ s with
  | none => rfl
  | some p => show (fb δ p.2).bind _ = k2' g p.1 (fb δ p.2); cases fb δ p.2 with
    | none => rfl
    | some q => exact map_kR _
def kT : Option (D × S) → Option (Bool × S) | some (.bl c, s) => some (c, s) | _ => none
@[simp] theorem kT_s {c : Bool} : kT (some (.bl c, s)) = some (c, s) := rfl
@[simp] theorem fT_e : fT fe δ s = kT (fe δ s) := by
  unfold fT
  rcases fe δ s with _ | ⟨p, s1⟩
  · rfl
  · cases p <;> rfl
def kAnd (fb : FE) (δ : Fr) : Option (D × S) → Option (D × S) | some (.bl true, s) => fb δ s | some (.bl false, s) => some (.bl false, s) | _ => none
@[simp] theorem kAnd_t : kAnd fb δ (some (.bl true, s)) = fb δ s := rfl
@[simp] theorem kAnd_f : kAnd fb δ (some (.bl false, s)) = some (.bl false, s) := rfl
@[simp] theorem fAnd_e : fAnd fa fb δ s = kAnd fb δ (fa δ s) := by
  unfold fAnd
  rcases fa δ s with _ | ⟨p, s1⟩
  · rfl
  · cases p with
    | bl c => cases c <;> rfl
    | _ => rfl
def kOr (fb : FE) (δ : Fr) : Option (D × S) → Option (D × S) | some (.bl true, s) => some (.bl true, s) | some (.bl false, s) => fb δ s | _ => none
@[simp] theorem kOr_t : kOr fb δ (some (.bl true, s)) = some (.bl true, s) := rfl
@[simp] theorem kOr_f : kOr fb δ (some (.bl false, s)) = fb δ s := rfl
@[simp] theorem fOr_e : fOr fa fb δ s = kOr fb δ (fa δ s) := by
  unfold fOr
  rcases fa δ s with _ | ⟨p, s1⟩
  · rfl
  · cases p with
    | bl c => cases c <;> rfl
    | _ => rfl
def kNot : Option (D × S) → Option (D × S) | some (.bl c, s) => some (.bl (!c), s) | _ => none
@[simp] theorem kNot_s {c : Bool} : kNot (some (.bl c, s)) = some (.bl (!c), s) := rfl
@[simp] theorem fNot_e : fNot fa δ s = kNot (fa δ s) := by
  unfold fNot
  rcases fa δ s with _ | ⟨p, s1⟩
  · rfl
  · cases p <;> rfl
def kIf (fa fb : FE) (δ : Fr) : Option (Bool × S) → Option (D × S) | some (true, s) => fa δ s | some (false, s) => fb δ s | none => none
@[simp] theorem kIf_t : kIf fa fb δ (some (true, s)) = fa δ s := rfl
@[simp] theorem kIf_f : kIf fa fb δ (some (false, s)) = fb δ s := rfl
@[simp] theorem fIf_e : fIf t fa fb δ s = kIf fa fb δ (t δ s) := by
  unfold fIf
  rcases t δ s with _ | ⟨c, s1⟩
  · rfl
  · cases c <;> rfl
def kAndT (u : FT) (δ : Fr) : Option (Bool × S) → Option (Bool × S) | some (true, s) => u δ s | some (false, s) => some (false, s) | none => none
@[simp] theorem kAndT_t : kAndT u δ (some (true, s)) = u δ s := rfl
@[simp] theorem kAndT_f : kAndT u δ (some (false, s)) = some (false, s) := rfl
@[simp] theorem tAndF_e : tAndF t u δ s = kAndT u δ (t δ s) := by
  unfold tAndF
  rcases t δ s with _ | ⟨c, s1⟩
  · rfl
  · cases c <;> rfl
def kOrT (u : FT) (δ : Fr) : Option (Bool × S) → Option (Bool × S) | some (true, s) => some (true, s) | some (false, s) => u δ s | none => none
@[simp] theorem kOrT_t : kOrT u δ (some (true, s)) = some (true, s) := rfl
@[simp] theorem kOrT_f : kOrT u δ (some (false, s)) = u δ s := rfl
@[simp] theorem tOrF_e : tOrF t u δ s = kOrT u δ (t δ s) := by
  unfold tOrF
  rcases t δ s with _ | ⟨c, s1⟩
  · rfl
  · cases c <;> rfl
def kNotT : Option (Bool × S) → Option (Bool × S) | some (c, s) => some (!c, s) | none => none
@[simp] theorem kNotT_s {c : Bool} : kNotT (some (c, s)) = some (!c, s) := rfl
@[simp] theorem tNotF_e : tNotF t δ s = kNotT (t δ s) := by unfold tNotF; rcases t δ s with _ | ⟨c, s1⟩ <;> rfl
@[simp] theorem tTrue_e : tTrue δ s = some (true, s) := rfl
def kL (g : GL) : Option (List D × S) → Option (D × S) | some (xs, s) => kR s (g xs s) | none => none
@[simp] theorem kL_s {g : GL} : kL g (some (xs, s)) = kR s (g xs s) := rfl
@[simp] theorem fL_e {g : GL} : fL g fs δ s = kL g (fs δ s) := by
  unfold fL
  rcases fs δ s with _ | ⟨c, s1⟩
  · rfl
  · exact map_kR _
def kCall (n : Nat) (g : FD) : Option (List D × S) → Option (D × S) | some (xs, s) => if xs.length = n then g xs s else none | none => none
@[simp] theorem kCall_s {g : FD} : kCall n g (some (xs, s)) = if xs.length = n then g xs s else none := rfl
@[simp] theorem fCall_e {g : FD} : fCall n g fs δ s = kCall n g (fs δ s) := by unfold fCall; rcases fs δ s with _ | ⟨c, s1⟩ <;> rfl

/-! ### statements -/
@[simp] theorem fNx_e : fNx δ s = some (.nx δ, s) := rfl
def kSeq (g : FS) : Option (Out × S) → Option (Out × S) | some (.nx δ, s) => g δ s | some (.rt d, s) => some (.rt d, s) | some (.bk δ, s) => some (.bk δ, s) | some (.ct δ, s) => some (.ct δ, s) | none => none
@[simp] theorem kSeq_nx : kSeq g (some (.nx δ, s)) = g δ s := rfl
@[simp] theorem kSeq_rt : kSeq g (some (.rt d, s)) = some (.rt d, s) := rfl
@[simp] theorem kSeq_bk : kSeq g (some (.bk δ, s)) = some (.bk δ, s) := rfl
@[simp] theorem kSeq_ct : kSeq g (some (.ct δ, s)) = some (.ct δ, s) := rfl
@[simp] theorem fSeq_e : fSeq f g δ s = kSeq g (f δ s) := by
  unfold fSeq
  rcases f δ s with _ | ⟨o, s1⟩
  · rfl
  · cases o <;> rfl
def kRet : Option (D × S) → Option (Out × S) | some (d, s) => some (.rt d, s) | none => none
@[simp] theorem kRet_s : kRet (some (d, s)) = some (.rt d, s) := rfl
@[simp] theorem fRet_e : fRet fe δ s = kRet (fe δ s) := by unfold fRet; rcases fe δ s with _ | ⟨c, s1⟩ <;> rfl
def kDrop (δ : Fr) : Option (D × S) → Option (Out × S) | some (_, s) => some (.nx δ, s) | none => none
@[simp] theorem kDrop_s : kDrop δ (some (d, s)) = some (.nx δ, s) := rfl
@[simp] theorem fDrop_e : fDrop fe δ s = kDrop δ (fe δ s) := by unfold fDrop; rcases fe δ s with _ | ⟨c, s1⟩ <;> rfl
def kIfS (f g : FS) (δ : Fr) : Option (Bool × S) → Option (Out × S) | some (true, s) => f δ s | some (false, s) => g δ s | none => none
@[simp] theorem kIfS_t : kIfS f g δ (some (true, s)) = f δ s := rfl
@[simp] theorem kIfS_f : kIfS f g δ (some (false, s)) = g δ s := rfl
@[simp] theorem fIfS_e : fIfS t f g δ s = kIfS f g δ (t δ s) := by
  unfold fIfS
  rcases t δ s with _ | ⟨c, s1⟩
  · rfl
  · cases c <;> rfl
def kSet (i : Nat) (δ : Fr) : Option (D × S) → Option (Out × S) | some (d, s) => some (.nx (δ.set i (some d)), s) | none => none
@[simp] theorem kSet_s : kSet i δ (some (d, s)) = some (.nx (δ.set i (some d)), s) := rfl
@[simp] theorem fSet_e : fSet i fe δ s = kSet i δ (fe δ s) := by unfold fSet; rcases fe δ s with _ | ⟨c, s1⟩ <;> rfl
def kPar (i j : Nat) (δ : Fr) : Option (List D × S) → Option (Out × S) | some ([x, y], s) => some (.nx ((δ.set i (some x)).set j (some y)), s) | _ => none
@[simp] theorem kPar_s : kPar i j δ (some ([x, y], s)) = some (.nx ((δ.set i (some x)).set j (some y)), s) := rfl
@[simp] theorem fPar_e : fPar i j fs δ s = kPar i j δ (fs δ s) := by
  unfold fPar
  rcases fs δ s with _ | ⟨c, s1⟩
  · rfl
  · show (match c with | [x, y] => _ | _ => _) = _
    split <;> rename_i h <;> first | rfl | (unfold kPar; split <;> simp_all)
def kPar3 (i j l : Nat) (δ : Fr) : Option (List D × S) → Option (Out × S) | some ([x, y, z], s) => some (.nx (((δ.set i (some x)).set j (some y)).set l (some z)), s) | _ => none
@[simp] theorem kPar3_s {z : D} : kPar3 i j l δ (some ([x, y, z], s)) = some (.nx (((δ.set i (some x)).set j (some y)).set l (some z)), s) := rfl
@[simp] theorem fPar3_e : fPar3 i j l fs δ s = kPar3 i j l δ (fs δ s) := by
  unfold fPar3
  rcases fs δ s with _ | ⟨c, s1⟩
  · rfl
  · show (match c with | [x, y, z] => _ | _ => _) = _
    split <;> rename_i h <;> first | rfl | (unfold kPar3; split <;> simp_all)
def kAsg' (s : S) : Option Fr → Option (Out × S) | some δ => some (.nx δ, s) | none => none
@[simp] theorem kAsg'_s : kAsg' s (some δ) = some (.nx δ, s) := rfl
def kAsg (ft : FG) (δ : Fr) : Option (D × S) → Option (Out × S) | some (d, s) => kAsg' s (ft d δ) | none => none
@[simp] theorem kAsg_s : kAsg ft δ (some (d, s)) = kAsg' s (ft d δ) := rfl
@[simp] theorem fAsg_e : fAsg ft fe δ s = kAsg ft δ (fe δ s) := by
  unfold fAsg
  rcases fe δ s with _ | ⟨c, s1⟩
  · rfl
  · show (ft c δ).map _ = kAsg' s1 (ft c δ); cases ft c δ <;> rfl
def kItems : Option (D × S) → Option (List D × S) | some (.tup ds, s) => some (ds, s) | some (.lst ds, s) => some (ds, s) | _ => none
@[simp] theorem kItems_t : kItems (some (.tup ds, s)) = some (ds, s) := rfl
@[simp] theorem kItems_l : kItems (some (.lst ds, s)) = some (ds, s) := rfl
@[simp] theorem fItems_e : fItems fe δ s = kItems (fe δ s) := by
  unfold fItems
  rcases fe δ s with _ | ⟨c, s1⟩
  · rfl
  · cases c <;> rfl
def kFor (ft : FG) (fb : FS) (δ : Fr) : Option (List D × S) → Option (Out × S) | some (ds, s) => loopF ft fb ds δ s | none => none
@[simp] theorem kFor_s : kFor ft g δ (some (ds, s)) = loopF ft g ds δ s := rfl
@[simp] theorem fFor_e : fFor gi ft g δ s = kFor ft g δ (gi δ s) := by unfold fFor; rcases gi δ s with _ | ⟨c, s1⟩ <;> rfl
@[simp] theorem loopF_nil : loopF ft g [] δ s = some (.nx δ, s) := rfl
def kLoop2 (ft : FG) (fb : FS) (ds : List D) : Option (Out × S) → Option (Out × S) | some (.nx δ, s) => loopF ft fb ds δ s | some (.ct δ, s) => loopF ft fb ds δ s | some (.bk δ, s) => some (.nx δ, s) | some (.rt d, s) => some (.rt d, s) | none => none
@[simp] theorem kLoop2_nx : kLoop2 ft g ds (some (.nx δ, s)) = loopF ft g ds δ s := rfl
@[simp] theorem kLoop2_ct : kLoop2 ft g ds (some (.ct δ, s)) = loopF ft g ds δ s := rfl
@[simp] theorem kLoop2_bk : kLoop2 ft g ds (some (.bk δ, s)) = some (.nx δ, s) := rfl
@[simp] theorem kLoop2_rt : kLoop2 ft g ds (some (.rt d, s)) = some (.rt d, s) := rfl
def kLoop (ft : FG) (fb : FS) (ds : List D) (s : S) : Option Fr → Option (Out × S) | some δ => kLoop2 ft fb ds (fb δ s) | none => none
@[simp] theorem kLoop_s : kLoop ft g ds s (some δ) = kLoop2 ft g ds (g δ s) := rfl
theorem loopF_cons : loopF ft g (d :: ds) δ s = kLoop ft g ds s (ft d δ) := by
  rw [loopF]
  cases ft d δ with
  | none => rfl
  | some δ1 => show (g δ1 s).bind _ = kLoop2 ft g ds (g δ1 s); rcases g δ1 s with _ | ⟨o, s1⟩
               · rfl
               · cases o <;> rfl
def kCompR : Option (List D × S) → Option (D × S) | some (r, s) => some (.lst r, s) | none => none
@[simp] theorem kCompR_s : kCompR (some (ds, s)) = some (.lst ds, s) := rfl
def kComp (vs : List Nat) (ft : FG) (tt : FT) (fe : FE) (δ : Fr) : Option (List D × S) → Option (D × S) | some (ds, s) => if okLen ds.length = true then kCompR (compL ft tt fe ds (wipeD δ vs) s) else none | none => none
@[simp] theorem kComp_s {vs : List Nat} : kComp vs ft tt fe δ (some (ds, s)) = if okLen ds.length = true then kCompR (compL ft tt fe ds (wipeD δ vs) s) else none := rfl
@[simp] theorem fComp_e {vs : List Nat} : fComp vs gi ft tt fe δ s = kComp vs ft tt fe δ (gi δ s) := by
  unfold fComp
  rcases gi δ s with _ | ⟨c, s1⟩
  · rfl
  · show (if okLen c.length = true then (compL ft tt fe c (wipeD δ vs) s1).map _ else none) = if okLen c.length = true then kCompR (compL ft tt fe c (wipeD δ vs) s1) else none
    cases compL ft tt fe c (wipeD δ vs) s1 <;> rfl
@[simp] theorem compL_nil : compL ft tt fe [] δ s = some ([], s) := rfl
def kRange : Option (List D × S) → Option (List D × S) | some ([.int j], s) => if okR j = true then some (rangeD 0 j.toNat, s) else none | _ => none
@[simp] theorem kRange_s {j : Int} : kRange (some ([.int j], s)) = if okR j = true then some (rangeD 0 j.toNat, s) else none := rfl
@[simp] theorem fRange_e : fRange fs δ s = kRange (fs δ s) := by
  unfold fRange
  rcases fs δ s with _ | ⟨c, s1⟩
  · rfl
  · show (match c with | [.int j] => _ | _ => _) = _
    split <;> rename_i h <;> first | rfl | (unfold kRange; split <;> simp_all)
def kRange2 : Option (List D × S) → Option (List D × S) | some ([.int i, .int j], s) => if (okR i && okR j) = true then some (rangeD i (j - i).toNat, s) else none | _ => none
@[simp] theorem kRange2_s {i j : Int} : kRange2 (some ([.int i, .int j], s)) = if (okR i && okR j) = true then some (rangeD i (j - i).toNat, s) else none := rfl
@[simp] theorem fRange2_e : fRange2 fs δ s = kRange2 (fs δ s) := by
  unfold fRange2
  rcases fs δ s with _ | ⟨c, s1⟩
  · rfl
  · show (match c with | [.int i, .int j] => _ | _ => _) = _
    split <;> rename_i h <;> first | rfl | (unfold kRange2; split <;> simp_all)
def kZip : Option (List D × S) → Option (List D × S) | some ([.tup xs, .tup ys], s) => some (zipD xs ys, s) | some ([.lst xs, .lst ys], s) => some (zipD xs ys, s) | _ => none
@[simp] theorem kZip_t {ys : List D} : kZip (some ([.tup xs, .tup ys], s)) = some (zipD xs ys, s) := rfl
@[simp] theorem kZip_l {ys : List D} : kZip (some ([.lst xs, .lst ys], s)) = some (zipD xs ys, s) := rfl
@[simp] theorem fZip_e : fZip fs δ s = kZip (fs δ s) := by
  unfold fZip
  rcases fs δ s with _ | ⟨c, s1⟩
  · rfl
  · show (match c with | [.tup xs, .tup ys] => _ | [.lst xs, .lst ys] => _ | _ => _) = _
    split <;> rename_i h <;> first | rfl | (unfold kZip; split <;> simp_all)
def kIsI (t : Ty5) : Option (D × S) → Option (D × S) | some (x, s) => kRB s (isD x t) | none => none
@[simp] theorem kIsI_s {t : Ty5} : kIsI t (some (x, s)) = kRB s (isD x t) := rfl
@[simp] theorem fIsI_e {t : Ty5} : fIsI t fa δ s = kIsI t (fa δ s) := by
  unfold fIsI
  rcases fa δ s with _ | ⟨c, s1⟩
  · rfl
  · show (isD c t).map _ = kRB s1 (isD c t); cases isD c t <;> rfl
def kRB2 (s : S) : Option Bool → Option Bool → Option (D × S) | some a, some b => some (.bl (a || b), s) | _, _ => none
@[simp] theorem kRB2_s {a b : Bool} : kRB2 s (some a) (some b) = some (.bl (a || b), s) := rfl
def kIsI2 (t u : Ty5) : Option (D × S) → Option (D × S) | some (x, s) => kRB2 s (isD x t) (isD x u) | none => none
@[simp] theorem kIsI2_s {t u : Ty5} : kIsI2 t u (some (x, s)) = kRB2 s (isD x t) (isD x u) := rfl
@[simp] theorem fIsI2_e {t u : Ty5} : fIsI2 t u fa δ s = kIsI2 t u (fa δ s) := by
  unfold fIsI2
  rcases fa δ s with _ | ⟨c, s1⟩
  · rfl
  · show ((isD c t).bind fun b => (isD c u).map _) = kRB2 s1 (isD c t) (isD c u); cases isD c t <;> cases isD c u <;> rfl
def kChain3 (g' : G2) (y : D) : Option (D × S) → Option (D × S) | some (z, s) => kR s (g' y z s) | none => none
@[simp] theorem kChain3_s {g' : G2} : kChain3 g' y (some (x, s)) = kR s (g' y x s) := rfl
def kChain2 (g' : G2) (fc : FE) (δ : Fr) (y : D) (s : S) : Option D → Option (D × S) | some (.bl true) => kChain3 g' y (fc δ s) | some (.bl false) => some (.bl false, s) | _ => none
@[simp] theorem kChain2_t {g' : G2} : kChain2 g' fc δ y s (some (.bl true)) = kChain3 g' y (fc δ s) := rfl
@[simp] theorem kChain2_f {g' : G2} : kChain2 g' fc δ y s (some (.bl false)) = some (.bl false, s) := rfl
def kChain1 (g g' : G2) (fc : FE) (δ : Fr) (x : D) : Option (D × S) → Option (D × S) | some (y, s) => kChain2 g' fc δ y s (g x y s) | none => none
@[simp] theorem kChain1_s {g g' : G2} : kChain1 g g' fc δ x (some (y, s)) = kChain2 g' fc δ y s (g x y s) := rfl
def kChain (g g' : G2) (fb fc : FE) (δ : Fr) : Option (D × S) → Option (D × S) | some (x, s) => kChain1 g g' fc δ x (fb δ s) | none => none
@[simp] theorem kChain_s {g g' : G2} : kChain g g' fb fc δ (some (x, s)) = kChain1 g g' fc δ x (fb δ s) := rfl
@[simp] theorem fChain_e {g g' : G2} : fChain g g' fa fb fc δ s = kChain g g' fb fc δ (fa δ s) := by
  unfold fChain
  rcases fa δ s with _ | ⟨x, s1⟩
  · rfl
  · show (fb δ s1).bind _ = kChain1 g g' fc δ x (fb δ s1)
    rcases fb δ s1 with _ | ⟨y, s2⟩
    · rfl
    · show (g x y s2).bind _ = kChain2 g' fc δ y s2 (g x y s2)
      rcases g x y s2 with _ | z
      · rfl
      · cases z with
        | bl k => cases k with
          | true => show (fc δ s2).bind _ = kChain3 g' y (fc δ s2); rcases fc δ s2 with _ | ⟨z, s3⟩
                    · rfl
                    · exact map_kR _
          | false => rfl
        | _ => rfl
def kTru' (s : S) : Option Bool → Option (Bool × S) | some k => some (k, s) | none => none
@[simp] theorem kTru'_s {b : Bool} : kTru' s (some b) = some (b, s) := rfl
def kTru : Option (D × S) → Option (Bool × S) | some (x, s) => kTru' s (truD x) | none => none
@[simp] theorem kTru_s : kTru (some (x, s)) = kTru' s (truD x) := rfl
@[simp] theorem fTru_e : fTru fa δ s = kTru (fa δ s) := by
  unfold fTru
  rcases fa δ s with _ | ⟨c, s1⟩
  · rfl
  · show (truD c).map _ = kTru' s1 (truD c); cases truD c <;> rfl
def kPutIx4 (δ : Fr) (s : S) (a : Addr) (ds : List D) (v : D) : Option Nat → Option (Out × S) | some j => some (.nx δ, supd s a (.lst (ds.set j v))) | none => none
@[simp] theorem kPutIx4_s {a : Addr} : kPutIx4 δ s a ds x (some j) = some (.nx δ, supd s a (.lst (ds.set j x))) := rfl
def kPutIx3 (δ : Fr) (s : S) (a : Addr) (k : Int) (v : D) : Option OO → Option (Out × S) | some (.lst ds) => kPutIx4 δ s a ds v (ixN ds.length k) | _ => none
@[simp] theorem kPutIx3_s {a : Addr} {k : Int} : kPutIx3 δ s a k x (some (.lst ds)) = kPutIx4 δ s a ds x (ixN ds.length k) := rfl
def kPutIx2 (δ : Fr) (v o : D) : Option (D × S) → Option (Out × S) | some (.int k, s) => (match o with | .ref a => kPutIx3 δ s a k v (s a) | _ => none) | _ => none
@[simp] theorem kPutIx2_s {a : Addr} {k : Int} : kPutIx2 δ x (.ref a) (some (.int k, s)) = kPutIx3 δ s a k x (s a) := rfl
def kPutIx1 (fi : FE) (δ : Fr) (v : D) : Option (D × S) → Option (Out × S) | some (o, s) => kPutIx2 δ v o (fi δ s) | none => none
@[simp] theorem kPutIx1_s : kPutIx1 fi δ x (some (y, s)) = kPutIx2 δ x y (fi δ s) := rfl
def kPutIx (fo fi : FE) (δ : Fr) : Option (D × S) → Option (Out × S) | some (v, s) => kPutIx1 fi δ v (fo δ s) | none => none
@[simp] theorem kPutIx_s : kPutIx fo fi δ (some (x, s)) = kPutIx1 fi δ x (fo δ s) := rfl
@[simp] theorem fPutIx_e : fPutIx fv fo fi δ s = kPutIx fo fi δ (fv δ s) := by
  unfold fPutIx
  rcases fv δ s with _ | ⟨v, s1⟩
  · rfl
  · show (fo δ s1).bind _ = kPutIx1 fi δ v (fo δ s1)
    rcases fo δ s1 with _ | ⟨o, s2⟩
    · rfl
    · show (fi δ s2).bind _ = kPutIx2 δ v o (fi δ s2)
      rcases fi δ s2 with _ | ⟨i, s3⟩
      · rfl
      · cases o <;> cases i <;> first | rfl | skip
        rename_i a k
        show (match s3 a with | some (.lst ds) => _ | _ => _) = kPutIx3 δ s3 a k v (s3 a)
        rcases s3 a with _ | w
        · rfl
        · cases w with
          | lst ds => show (ixN ds.length k).map _ = kPutIx4 δ s3 a ds v (ixN ds.length k); cases ixN ds.length k <;> rfl
          | _ => rfl
def kPutD3 (δ : Fr) (s : S) (a : Addr) (k : Str) (v : D) : Option OO → Option (Out × S) | some (.dct kvs) => if okLen kvs.length = true then some (.nx δ, supd s a (.dct (putD kvs k v))) else none | _ => none
@[simp] theorem kPutD3_s {a : Addr} {k : Str} {kvs : List (Str × D)} : kPutD3 δ s a k x (some (.dct kvs)) = if okLen kvs.length = true then some (.nx δ, supd s a (.dct (putD kvs k x))) else none := rfl
def kPutD2 (δ : Fr) (v o : D) : Option (D × S) → Option (Out × S) | some (.str k, s) => (match o with | .ref a => kPutD3 δ s a k v (s a) | _ => none) | _ => none
@[simp] theorem kPutD2_s {a : Addr} {k : Str} : kPutD2 δ x (.ref a) (some (.str k, s)) = kPutD3 δ s a k x (s a) := rfl
def kPutD1 (fi : FE) (δ : Fr) (v : D) : Option (D × S) → Option (Out × S) | some (o, s) => kPutD2 δ v o (fi δ s) | none => none
@[simp] theorem kPutD1_s : kPutD1 fi δ x (some (y, s)) = kPutD2 δ x y (fi δ s) := rfl
def kPutD (fo fi : FE) (δ : Fr) : Option (D × S) → Option (Out × S) | some (v, s) => kPutD1 fi δ v (fo δ s) | none => none
@[simp] theorem kPutD_s : kPutD fo fi δ (some (x, s)) = kPutD1 fi δ x (fo δ s) := rfl
@[simp] theorem fPutD_e : fPutD fv fo fi δ s = kPutD fo fi δ (fv δ s) := by
  unfold fPutD
  rcases fv δ s with _ | ⟨v, s1⟩
  · rfl
  · show (fo δ s1).bind _ = kPutD1 fi δ v (fo δ s1)
    rcases fo δ s1 with _ | ⟨o, s2⟩
    · rfl
    · show (fi δ s2).bind _ = kPutD2 δ v o (fi δ s2)
      rcases fi δ s2 with _ | ⟨i, s3⟩
      · rfl
      · cases o <;> cases i <;> first | rfl | skip
def kDict2 (ks : List Str) (ds : List D) : Option (D × S) → Option (D × S) | some (.str x, s) => kR s (lkD ks ds x) | _ => none
@[simp] theorem kDict2_s {ks : List Str} {z : Str} : kDict2 ks ds (some (.str z, s)) = kR s (lkD ks ds z) := rfl
def kDict (ks : List Str) (fi : FE) (δ : Fr) : Option (List D × S) → Option (D × S) | some (ds, s) => kDict2 ks ds (fi δ s) | none => none
@[simp] theorem kDict_s {ks : List Str} : kDict ks fi δ (some (ds, s)) = kDict2 ks ds (fi δ s) := rfl
@[simp] theorem fDictIx_e {ks : List Str} : fDictIx ks fs fi δ s = kDict ks fi δ (fs δ s) := by
  unfold fDictIx
  rcases fs δ s with _ | ⟨ds, s1⟩
  · rfl
  · show (fi δ s1).bind _ = kDict2 ks ds (fi δ s1)
    rcases fi δ s1 with _ | ⟨x, s2⟩
    · rfl
    · cases x with
      | str z => exact map_kR _
      | _ => rfl
def kNeg : Option (D × S) → Option (D × S) | some (.int i, s) => some (.int (-i), s) | _ => none
@[simp] theorem kNeg_s {i : Int} : kNeg (some (.int i, s)) = some (.int (-i), s) := rfl
@[simp] theorem fNeg_e : fNeg fa δ s = kNeg (fa δ s) := by
  unfold fNeg f1
  rcases fa δ s with _ | ⟨c, s1⟩
  · rfl
  · cases c <;> rfl
def kYes : Option (D × S) → Option (Option Int × S) | some (.int i, s) => some (some i, s) | _ => none
@[simp] theorem kYes_s {i : Int} : kYes (some (.int i, s)) = some (some i, s) := rfl
@[simp] theorem fYes_e : fYes fe δ s = kYes (fe δ s) := by
  unfold fYes
  rcases fe δ s with _ | ⟨c, s1⟩
  · rfl
  · cases c <;> rfl
@[simp] theorem fNo_e : fNo δ s = some (none, s) := rfl
def kSl2 (x : D) (lo : Option Int) : Option (Option Int × S) → Option (D × S) | some (hi, s) => (match x with | .tup ds => some (.tup (cutD ds lo hi), s) | .lst ds => some (.lst (cutD ds lo hi), s) | _ => none) | none => none
@[simp] theorem kSl2_t {lo hi : Option Int} : kSl2 (.tup ds) lo (some (hi, s)) = some (.tup (cutD ds lo hi), s) := rfl
@[simp] theorem kSl2_l {lo hi : Option Int} : kSl2 (.lst ds) lo (some (hi, s)) = some (.lst (cutD ds lo hi), s) := rfl
def kSl1 (fh : FO) (δ : Fr) (x : D) : Option (Option Int × S) → Option (D × S) | some (lo, s) => kSl2 x lo (fh δ s) | none => none
@[simp] theorem kSl1_s {fh : FO} {lo : Option Int} : kSl1 fh δ x (some (lo, s)) = kSl2 x lo (fh δ s) := rfl
def kSl (fl fh : FO) (δ : Fr) : Option (D × S) → Option (D × S) | some (x, s) => kSl1 fh δ x (fl δ s) | none => none
@[simp] theorem kSl_s {fl fh : FO} : kSl fl fh δ (some (x, s)) = kSl1 fh δ x (fl δ s) := rfl
@[simp] theorem fSlice_e {fl fh : FO} : fSlice fe fl fh δ s = kSl fl fh δ (fe δ s) := by
  unfold fSlice
  rcases fe δ s with _ | ⟨x, s1⟩
  · rfl
  · show (fl δ s1).bind _ = kSl1 fh δ x (fl δ s1)
    rcases fl δ s1 with _ | ⟨lo, s2⟩
    · rfl
    · show (fh δ s2).bind _ = kSl2 x lo (fh δ s2)
      rcases fh δ s2 with _ | ⟨hi, s3⟩
      · rfl
      · cases x <;> rfl
def kApp3 (a : Addr) (v : D) (s : S) : Option OO → Option (D × S) | some (.lst ds) => if okLen ds.length = true then some (.non, supd s a (.lst (ds ++ [v]))) else none | _ => none
@[simp] theorem kApp3_s {a : Addr} : kApp3 a x s (some (.lst ds)) = if okLen ds.length = true then some (.non, supd s a (.lst (ds ++ [x]))) else none := rfl
def kApp2 (a : Addr) : Option (D × S) → Option (D × S) | some (v, s) => kApp3 a v s (s a) | none => none
@[simp] theorem kApp2_s {a : Addr} : kApp2 a (some (x, s)) = kApp3 a x s (s a) := rfl
def kApp1 (fv : FE) (δ : Fr) (a : Addr) (s : S) : Option OO → Option (D × S) | some (.lst _) => kApp2 a (fv δ s) | _ => none
@[simp] theorem kApp1_s {a : Addr} : kApp1 fv δ a s (some (.lst ds)) = kApp2 a (fv δ s) := rfl
def kApp (fv : FE) (δ : Fr) : Option (D × S) → Option (D × S) | some (.ref a, s) => kApp1 fv δ a s (s a) | _ => none
@[simp] theorem kApp_s {a : Addr} : kApp fv δ (some (.ref a, s)) = kApp1 fv δ a s (s a) := rfl
@[simp] theorem fApp_e : fApp fo fv δ s = kApp fv δ (fo δ s) := by
  unfold fApp
  rcases fo δ s with _ | ⟨o, s1⟩
  · rfl
  · cases o <;> first | rfl | skip
    rename_i a
    show (match s1 a with | some (.lst _) => _ | _ => _) = kApp1 fv δ a s1 (s1 a)
    rcases s1 a with _ | w
    · rfl
    · cases w with
      | lst ds =>
        show (fv δ s1).bind _ = kApp2 a (fv δ s1)
        rcases fv δ s1 with _ | ⟨v, s2⟩
        · rfl
        · show (match s2 a with | some (.lst ds) => _ | _ => _) = kApp3 a v s2 (s2 a)
          rcases s2 a with _ | w2
          · rfl
          · cases w2 <;> rfl
      | _ => rfl
def kBody : Option (Out × S) → Option (D × S) | some (.rt d, s) => some (d, s) | some (.nx _, s) => some (.non, s) | _ => none
@[simp] theorem kBody_rt : kBody (some (.rt d, s)) = some (d, s) := rfl
@[simp] theorem kBody_nx : kBody (some (.nx δ, s)) = some (.non, s) := rfl
@[simp] theorem fBody_e : fBody n f ds s = kBody (f (startD n ds) s) := by
  unfold fBody
  rcases f (startD n ds) s with _ | ⟨o, s1⟩
  · rfl
  · cases o <;> rfl
end Fw

set_option Elab.async false
set_option linter.all false
set_option maxRecDepth 100000
namespace Fw
open PySem PySem.Spec PyProof.Rows L2
section
variable {X : Cx} {tg e a b c o i v : Expr} {es : List Expr} {fe fa fb fc fo fi fv : FE} {fs : FA} {pos p pos' tpos npos : Pos}
def kPutDN (δ : Fr) (y : D) (o : D) : Option (D × S) → Option (Out × S) | some (.str k, s) => (match o with | .ref a => kPutD3 δ s a k y (s a) | _ => none) | _ => none
@[simp] theorem kPutDN_s {δ : Fr} {y : D} {s : S} {a : Addr} {k : Str} : kPutDN δ y (.ref a) (some (.str k, s)) = kPutD3 δ s a k y (s a) := rfl
def kAsgND2 (fi : FE) (δ : Fr) (y : D) : Option (D × S) → Option (Out × S) | some (o, s) => kPutDN δ y o (fi δ s) | none => none
@[simp] theorem kAsgND2_s {δ : Fr} {y o : D} {s : S} : kAsgND2 fi δ y (some (o, s)) = kPutDN δ y o (fi δ s) := rfl
def kAsgND (j : Nat) (fo fi : FE) (δ : Fr) : Option (D × S) → Option (Out × S) | some (.tup [x, y], s) => kAsgND2 fi (δ.set j (some x)) y (fo (δ.set j (some x)) s) | _ => none
@[simp] theorem kAsgND_s {δ : Fr} {x y : D} {s : S} {j : Nat} : kAsgND j fo fi δ (some (.tup [x, y], s)) = kAsgND2 fi (δ.set j (some x)) y (fo (δ.set j (some x)) s) := rfl
/-- x, o[i] = e: a name and an item of an owned dict -/
def fAsgND (j : Nat) (fe fo fi : FE) : FS := fun δ s => kAsgND j fo fi δ (fe δ s)
@[simp] theorem fAsgND_e {δ : Fr} {s : S} {j : Nat} : fAsgND j fe fo fi δ s = kAsgND j fo fi δ (fe δ s) := rfl
theorem ds_asgND {j k : Nat} {x : Str} (hu : X.A.units + 1 < cLine) (hN : X.N.Nodup) (hj : X.N[j]? = some x) (hx : Loc X.env.scope x) (he : PE X e (tD X.K fe)) (ho : PE X o (tD X.K fo)) (hi : PE X i (tD X.K fi))
    (hf : X.fn x = true ∨ X.env.scope.names.lookup x = some .local := by first | exact .inl rfl | exact .inr rfl | assumption) (hc : X.calm = true := by rfl)
    (ha : ∀ v, assign (.Subscript o i pos) X.env v = (holding [v] (eval o X.env) >>= fun x => holding [v, x] (eval i X.env) >>= fun y => standAt pos >>= fun _ => holding [v, x, y] (setItem x y v) >>= fun _ => release [v, x, y] []) := by intro _; rfl)
    (hn : (assignEach [.Name x npos, .Subscript o i pos] X.env).length = 2 := by rfl) (hst : (assignEach [.Name x npos, .Subscript o i pos] X.env).findIdx? (·.1) = none := by rfl)
    (h2 : (assignEach [.Name x npos, .Subscript o i pos] X.env).map (·.2) = assign (.Name x npos) X.env :: (assignEach [.Subscript o i pos] X.env).map (·.2) := by rfl) (h3 : (assignEach [.Subscript o i pos] X.env).map (·.2) = assign (.Subscript o i pos) X.env :: (assignEach [] X.env).map (·.2) := by rfl)
    (hs : swapsWithSole [.Tuple [.Name x npos, .Subscript o i pos] k tpos] e pos'.line X.env = pure false := by rfl) (hw : swappedStores [.Tuple [.Name x npos, .Subscript o i pos] k tpos] e X.env = pure none := by rfl)
    (h1 : (assignEach [.Tuple [.Name x npos, .Subscript o i pos] k tpos] X.env).map (·.2) = [assign (.Tuple [.Name x npos, .Subscript o i pos] k tpos) X.env] := by rfl) :
    PS X (.Assign [.Tuple [.Name x npos, .Subscript o i pos] k tpos] e pos') (tDS X.K (fAsgND j fe fo fi)) :=
  imp_s (ps_asg he (pg_tup hc (pgs_cons (pg_name hN hj hx hf) (pgs_cons (pg_sub ho hi (set_dict hu) ha) pgs_nil h3) h2) hn hst) hs hw h1) fun D σ H ⟨h, s, δ, out, s', er, si, q, w⟩ => by
  unfold fAsgND at q
  cases q1 : fe δ s with
  | none => rw [q1] at q; cases q
  | some p =>
    obtain ⟨d, s1⟩ := p
    rw [q1] at q
    refine ⟨h, s, δ, d, s1, er, si, q1, fun vv H1 st1 r1 => ?_⟩
    unfold kAsgND at q
    split at q
    rotate_left
    · cases q
    rename_i dx dy s1' e1
    cases e1
    cases r1 with
    | tup hq rs =>
      rename_i t xs
      obtain ⟨v1, v2, rfl, r1, r2⟩ := reps2 rs
      refine ⟨t, [v1, v2], rfl, sqt_un hq.sq, rfl, v1, [v2], rfl, v2, [], rfl, ?_⟩
      have er1 := (er.mono (st1.ext si)).set r1 j
      unfold kAsgND2 at q
      cases q2 : fo (δ.set j (some dx)) s1 with
      | none => rw [q2] at q; cases q
      | some po =>
        obtain ⟨d_o, s2⟩ := po
        rw [q2] at q
        refine ⟨h, s1, _, d_o, s2, er1, st1.si, q2, fun vo H2 st2 r3 => ?_⟩
        cases q3 : fi (δ.set j (some dx)) s2 with
        | none =>
          have q' : kPutDN (δ.set j (some dx)) dy d_o (fi (δ.set j (some dx)) s2) = some (out, s') := q
          rw [q3] at q'; cases q'
        | some pi =>
          obtain ⟨di, s3⟩ := pi
          have q' : kPutDN (δ.set j (some dx)) dy d_o (fi (δ.set j (some dx)) s2) = some (out, s') := q
          rw [q3] at q'
          refine ⟨h, s2, _, di, s3, er1.mono (st2.ext st1.si), st2.si, q3, fun vi H3 st3 r4 => ?_⟩
          cases d_o with
          | ref a =>
            cases di with
            | str kk =>
              have q2' : kPutD3 (δ.set j (some dx)) s3 a kk dy (s3 a) = some (out, s') := q'
              unfold kPutD3 at q2'
              split at q2'
              · rename_i kvs e
                split at q2'
                · rename_i hl
                  cases q2'
                  obtain ⟨es, e2, rk⟩ := st3.si.ob _ _ e
                  have st : Step X.K h s H s3 H3 := st1.trans (st2.trans st3)
                  have rv : Rep X.K (hide h H3) v2 dy := st3.rep st2.si (st2.rep st1.si r2)
                  have hln : es.length = kvs.length := by have := congrArg List.length rk.1; simpa using this
                  have st4 := st3.si.putL (o := .dK (putK es (Sum.inr kk) v2)) (w := .dct (putD kvs kk dy)) e ⟨_, rfl, repkv_put rv rk⟩
                  refine ⟨a, _, rep_ref (st3.rep st2.si r3), by rw [rep_str r4]; exact DPut.k (k := Sum.inr kk) e2 (by rw [hln]; exact okLen_lt hl), rfl, ?_⟩
                  exact w _ (st.trans st4) _ (er1.mono ((st2.trans (st3.trans st4)).ext st1.si))
                · cases q2'
              · cases q2'
            | _ => cases q'
          | _ => cases di <;> cases q'
end
end Fw

set_option Elab.async false
set_option linter.all false
set_option maxRecDepth 100000
namespace Fw
open PySem PySem.Spec PyProof.Rows L2

/-! ### the row of draws -/
def rowO (ns : List Int) (i sd r : Int) : OO := .lst [.scr ns, .int i, .int sd, .int r]
def IsRow (s : S) (a : Addr) : Prop := ∃ ns i sd r, s a = some (rowO ns i sd r) ∧ 0 ≤ i
def RowTo (s : S) (a : Addr) (s' : S) : Prop := ∃ ns i sd r, s' = supd s a (rowO ns i sd r) ∧ 0 ≤ i
theorem RowTo.is {s s' : S} {a : Addr} (h : RowTo s a s') : IsRow s' a := by
  obtain ⟨ns, i, sd, r, rfl, hi⟩ := h
  exact ⟨ns, i, sd, r, supd_same, hi⟩
theorem RowTo.trans {s s1 s2 : S} {a : Addr} (h : RowTo s a s1) (h' : RowTo s1 a s2) : RowTo s a s2 := by
  obtain ⟨ns, i, sd, r, rfl, hi⟩ := h
  obtain ⟨ns', i', sd', r', rfl, hi'⟩ := h'
  exact ⟨ns', i', sd', r', supd_supd, hi'⟩
theorem RowTo.refl {s : S} {a : Addr} (h : IsRow s a) : RowTo s a s := by
  obtain ⟨ns, i, sd, r, hs, hi⟩ := h
  exact ⟨ns, i, sd, r, (supd_self hs).symm, hi⟩
def P_taken (g : FD) : Prop := ∀ (a : Addr) (s : S) (m : Int), IsRow s a → 0 < m → m < 1073741824 → ∃ v s', g [.ref a, .int m] s = some (.int v, s') ∧ RowTo s a s' ∧ 0 ≤ v ∧ v < m
def P_pick (g : FD) : Prop := ∀ (a : Addr) (s : S) (x : D) (ds : List D), itemsD x = some ds → IsRow s a → ds ≠ [] → ds.length ≤ 10000000 → ∃ d s', g [.ref a, x] s = some (d, s') ∧ RowTo s a s' ∧ d ∈ ds

theorem atI_of {α : Type} {xs : List α} {i : Int} (h0 : 0 ≤ i) (h1 : i < xs.length) : ∃ v, L2.atI xs i = some v ∧ v ∈ xs := by
  have hi : i.toNat < xs.length := by omega
  refine ⟨xs[i.toNat], ?_, List.getElem_mem hi⟩
  unfold L2.atI ixN
  rw [if_pos h0, if_pos h1]
  show xs[i.toNat]? = _
  exact List.getElem?_eq_getElem hi

/-- a comprehension whose elements are made one by one -/
theorem compL_ex {ft : FG} {fe : FE} {δ : Fr} (I : S → Prop) (Pv : D → Prop) : ∀ (ds : List D) (s : S), I s → (∀ d ∈ ds, ∃ δ1, ft d δ = some δ1 ∧ ∀ s, I s → ∃ v s', fe δ1 s = some (v, s') ∧ I s' ∧ Pv v) →
    ∃ vs s', compL ft tTrue fe ds δ s = some (vs, s') ∧ I s' ∧ vs.length = ds.length ∧ ∀ v ∈ vs, Pv v
  | [], s, hs, _ => ⟨[], s, rfl, hs, rfl, fun _ h => nomatch h⟩
  | d :: ds, s, hs, h => by
    obtain ⟨δ1, e1, h1⟩ := h d List.mem_cons_self
    obtain ⟨v, s1, e2, i1, pv⟩ := h1 s hs
    obtain ⟨vs, s2, e3, i2, hl, hv⟩ := compL_ex I Pv ds s1 i1 fun d hd => h d (List.mem_cons_of_mem _ hd)
    refine ⟨v :: vs, s2, ?_, i2, by simp [hl], fun x hx => ?_⟩
    · simp [compL, e1, e2, e3]
    · rcases List.mem_cons.mp hx with rfl | hx
      · exact pv
      · exact hv x hx
/-- a comprehension that filters and makes nothing of the state -/
theorem compL_pure {ft : FG} {tt : FT} {fe : FE} {δ : Fr} {s : S} (b : D → Bool) (f : D → D) : ∀ (ds : List D), (∀ d ∈ ds, ∃ δ1, ft d δ = some δ1 ∧ tt δ1 s = some (b d, s) ∧ (b d = true → fe δ1 s = some (f d, s))) →
    compL ft tt fe ds δ s = some ((ds.filter b).map f, s)
  | [], _ => rfl
  | d :: ds, h => by
    obtain ⟨δ1, e1, e2, e3⟩ := h d List.mem_cons_self
    have ih := compL_pure b f ds fun d hd => h d (List.mem_cons_of_mem _ hd)
    cases hb : b d with
    | true => simp [compL, e1, e2, e3 hb, ih, hb]
    | false => simp [compL, e1, e2, ih, hb]
theorem compL_map {ft : FG} {fe : FE} {δ : Fr} {s : S} (f : D → D) (ds : List D) (h : ∀ d ∈ ds, ∃ δ1, ft d δ = some δ1 ∧ fe δ1 s = some (f d, s)) : compL ft tTrue fe ds δ s = some (ds.map f, s) := by
  have := compL_pure (ft := ft) (tt := tTrue) (fe := fe) (δ := δ) (s := s) (fun _ => true) f ds fun d hd => by
    obtain ⟨δ1, e1, e2⟩ := h d hd
    exact ⟨δ1, e1, rfl, fun _ => e2⟩
  rw [this, List.filter_eq_self.mpr fun _ _ => rfl]
end Fw

set_option Elab.async false
set_option linter.all false
set_option maxRecDepth 100000
namespace Fw
open PySem PySem.Spec PyProof.Rows L2
/-! ### texts as strings -/
@[simp] theorem strOk_ofString (x : String) : PyData.strOk (Str.ofString x) = true := by
  rw [Str.ofString_eq_toList]
  unfold PyData.strOk
  rw [Array.all_eq_true]
  intro i hi
  have hi' : i < x.toList.length := by simpa using hi
  have e : (x.toList.map Char.toNat).toArray[i] = (x.toList[i]).toNat := by simp
  show decide ((x.toList.map Char.toNat).toArray[i] < 0x110000) = true
  rw [e]
  refine decide_eq_true ?_
  have h := (x.toList[i]).valid
  rcases h with h | h
  · have h2 : (x.toList[i]).toNat < 0xd800 := h
    omega
  · exact h.2
@[simp] def strD (x : String) : D := .str (Str.ofString x)
theorem strs_flat (ws : List String) : (ws.map strD).all flatD = true := by
  induction ws with
  | nil => rfl
  | cons x ws ih => rw [List.map_cons, List.all_cons, ih]; rfl
theorem eqF_str (x y : String) : eqF (strD x) (strD y) = decide (y = x) := by
  show (Str.ofString x == Str.ofString y) = _
  by_cases h : y = x
  · subst h; simp
  · rw [decide_eq_false h]
    exact beq_eq_false_iff_ne.mpr fun e => h (ofString_inj' e).symm
theorem strs_any (ws : List String) (y : String) : ((ws.map strD).any fun z => eqF z (strD y)) = decide (y ∈ ws) := by
  induction ws with
  | nil => rfl
  | cons x ws ih =>
    rw [List.map_cons, List.any_cons, ih, eqF_str]
    by_cases h : y = x
    · simp [h]
    · simp [h]
@[simp high] theorem dIn_strs (y : String) (ws : List String) (s : S) : dIn (.str (Str.ofString y)) (.tup (ws.map strD)) s = some (.bl (decide (y ∈ ws))) := by
  show (if (flatD (strD y) && (ws.map strD).all flatD) = true then some (D.bl ((ws.map strD).any fun z => eqF z (strD y))) else none) = _
  rw [strs_flat, strs_any]
  rfl
@[simp high] theorem dNotIn_strs (y : String) (ws : List String) (s : S) : dNotIn (.str (Str.ofString y)) (.tup (ws.map strD)) s = some (.bl (!decide (y ∈ ws))) := by
  show (if (flatD (strD y) && (ws.map strD).all flatD) = true then some (D.bl (!(ws.map strD).any fun z => eqF z (strD y))) else none) = _
  rw [strs_flat, strs_any]
  rfl
def P_into (g : FD) : Prop := ∀ (ws : List String) (a b c : Bool) (s : S), g [.tup (ws.map strD), .bl a, .bl b, .bl c] s = some (.bl (a || ((!b || decide ("straight" ∈ ws)) && (!c || decide ("under" ∈ ws)))), s)
def wordsL : List String := ["ends seen", "ifs", "marks", "prints", "prints seen", "splits", "steps seen", "stops", "straight", "tells", "under", "whiles"]
def lotsL : List (List String) := [["ends seen", "splits"], ["ends seen", "whiles"], ["ifs", "prints", "prints seen"], ["ifs", "steps seen"], ["ifs", "stops"], ["ifs", "under"], ["marks"], ["prints", "prints seen", "whiles"], ["prints seen", "tells"], ["steps seen", "whiles"], ["stops", "whiles"], ["straight"], ["under", "whiles"]]
def lotD (l : List String) : D := .tup (l.map strD)

/-! ### programs -/
inductive Sm where
  | sum (x : Nat) (ts : List Nat) (n : Nat)
  | ite (x : Nat) (p q : List Sm)
  | times (n : Nat) (b : List Sm)
  | whl (x : Nat) (b : List Sm)
  | print (x : Nat)
  | stop
  | split (x y : Nat)
  | keep (t : Bool) (x y : Nat)
  | fetch (t : Bool) (x y : Nat)
/-- a sort or a table by whether it is secret -/
def sortD (t : Bool) : D := strD (if t then "secret" else "open")
def natD (n : Nat) : D := .int (n : Int)
mutual
def smD : Sm → D
  | .sum x ts n => .tup [strD "sum", natD x, .tup (ts.map natD), natD n]
  | .ite x p q => .tup [strD "if", natD x, .tup (smsD p), .tup (smsD q)]
  | .times n b => .tup [strD "times", natD n, .tup (smsD b)]
  | .whl x b => .tup [strD "while", natD x, .tup (smsD b)]
  | .print x => .tup [strD "print", natD x]
  | .stop => .tup [strD "stop"]
  | .split x y => .tup [strD "split", natD x, natD y]
  | .keep t x y => .tup [strD "keep", sortD t, natD x, natD y]
  | .fetch t x y => .tup [strD "fetch", sortD t, natD x, natD y]
def smsD : List Sm → List D
  | [] => []
  | a :: b => smD a :: smsD b
end
theorem smsD_map : ∀ b : List Sm, smsD b = b.map smD
  | [] => rfl
  | a :: b => by rw [smsD, smsD_map b]; rfl
mutual
/-- of m names, with at most d of if, times, while within one another, inner bodies of at most 4 -/
def smOk (m : Nat) : Nat → Sm → Prop
  | _, .sum x ts n => x < m ∧ ts.length ≤ 2 ∧ (∀ t ∈ ts, t < m) ∧ n ≤ 9
  | d, .ite x p q => x < m ∧ p.length ≤ 4 ∧ q.length ≤ 4 ∧ 0 < d ∧ smsOk m (d - 1) p ∧ smsOk m (d - 1) q
  | d, .times n b => n ≤ 3 ∧ b.length ≤ 4 ∧ 0 < d ∧ smsOk m (d - 1) b
  | d, .whl x b => x < m ∧ b.length ≤ 4 ∧ 0 < d ∧ smsOk m (d - 1) b
  | _, .print x => x < m
  | _, .stop => True
  | _, .split x y => x < m ∧ y < m
  | _, .keep _ x y => x < m ∧ y < m
  | _, .fetch _ x y => x < m ∧ y < m
def smsOk (m : Nat) : Nat → List Sm → Prop
  | _, [] => True
  | d, a :: b => smOk m d a ∧ smsOk m d b
end
theorem smsOk_iff {m d : Nat} : ∀ {b : List Sm}, smsOk m d b ↔ ∀ a ∈ b, smOk m d a
  | [] => by simp [smsOk]
  | a :: b => by rw [smsOk, smsOk_iff (b := b)]; simp
end Fw

set_option Elab.async false
set_option linter.all false
set_option maxRecDepth 100000
namespace Fw
open PySem PySem.Spec PyProof.Rows L2
/-- the body of a lot -/
def toldM (l : List String) : List Sm :=
  let up := Sm.sum 0 [] 1
  let down := Sm.sum 1 [] 0
  if l = ["marks"] then [up, .keep false 1 0]
  else if l = ["straight"] then [.sum 0 [1] 0]
  else if l = ["ends seen", "splits"] then [.split 1 1]
  else if l = ["prints seen", "tells"] then [.print 1]
  else if l = ["ifs", "prints", "prints seen"] then [.ite 1 [.print 0] []]
  else if l = ["ifs", "steps seen"] then [.ite 1 [down] []]
  else if l = ["ifs", "stops"] then [.ite 1 [.stop] [], up]
  else if l = ["ifs", "under"] then [.ite 1 [up] []]
  else if l = ["ends seen", "whiles"] then [.whl 1 []]
  else if l = ["prints", "prints seen", "whiles"] then [.whl 1 [.print 0, down]]
  else if l = ["steps seen", "whiles"] then [.whl 1 [down]]
  else if l = ["stops", "whiles"] then [.whl 1 [.stop], up]
  else [.whl 1 [up, down]]
def bodyD (b : List Sm) : D := .tup (smsD b)
def P_told (g : FD) : Prop := ∀ l ∈ lotsL, ∀ s, g [lotD l] s = some (bodyD (toldM l), s)

/-! ### the checker -/
def intoM (ws : List String) (sec src und : Bool) : Bool := sec || ((!src || decide ("straight" ∈ ws)) && (!und || decide ("under" ∈ ws)))
def hid (so : List Bool) (x : Nat) : Bool := so.getD x false
def standsM (ws : List String) (so : List Bool) (und : Bool) : Sm → Bool
  | .sum x ts _ => intoM ws (hid so x) (ts.any (hid so)) und
  | .ite x _ _ => !hid so x || decide ("ifs" ∈ ws)
  | .times _ _ => true
  | .whl x _ => !(hid so x || und) || decide ("whiles" ∈ ws)
  | .print x => (!hid so x || decide ("tells" ∈ ws)) && (!und || decide ("prints" ∈ ws))
  | .stop => !und || decide ("stops" ∈ ws)
  | .split x y => ((!hid so y && !und) || decide ("splits" ∈ ws)) && intoM ws (hid so x) (hid so y) und
  | .keep t x y => (t || (!hid so x || decide ("marks" ∈ ws))) && intoM ws t (hid so y) und
  | .fetch t x y => intoM ws (hid so x) (t || hid so y) und
mutual
def faultM (ws : List String) (so : List Bool) : Bool → Sm → Option (List Nat)
  | und, .ite x p q => if standsM ws so und (.ite x p q) then
      match faultsM ws so (und || hid so x) 0 p with
      | some z => some (0 :: z)
      | none => (faultsM ws so (und || hid so x) 0 q).map fun z => 1 :: z
    else some []
  | und, .times n b => if standsM ws so und (.times n b) then faultsM ws so und 0 b else some []
  | und, .whl x b => if standsM ws so und (.whl x b) then faultsM ws so (und || hid so x) 0 b else some []
  | und, .sum x ts n => if standsM ws so und (.sum x ts n) then none else some []
  | und, .print x => if standsM ws so und (.print x) then none else some []
  | und, .stop => if standsM ws so und .stop then none else some []
  | und, .split x y => if standsM ws so und (.split x y) then none else some []
  | und, .keep t x y => if standsM ws so und (.keep t x y) then none else some []
  | und, .fetch t x y => if standsM ws so und (.fetch t x y) then none else some []
def faultsM (ws : List String) (so : List Bool) : Bool → Nat → List Sm → Option (List Nat)
  | _, _, [] => none
  | und, k, a :: b => match faultM ws so und a with
    | some z => some (k :: z)
    | none => faultsM ws so und (k + 1) b
end
def placeD : Option (List Nat) → D
  | none => .non
  | some z => .tup (z.map natD)
def sortsD (so : List Bool) : D := .tup (so.map sortD)
def P_stands (g : FD) : Prop := ∀ (ws : List String) (so : List Bool) (a : Sm) (d : Nat) (und : Bool) (s : S), so.length ≤ 1000 → smOk so.length d a → g [.tup (ws.map strD), sortsD so, smD a, .bl und] s = some (.bl (standsM ws so und a), s)
def P_check (d : Nat) (g : FD) : Prop := ∀ (ws : List String) (so : List Bool) (b : List Sm) (und : Bool) (s : S), so.length ≤ 1000 → b.length ≤ 1000 → smsOk so.length d b → g [.tup (ws.map strD), sortsD so, bodyD b, .bl und] s = some (placeD (faultsM ws so und 0 b), s)
end Fw

set_option Elab.async false
set_option linter.all false
set_option maxRecDepth 100000
namespace Fw
open PySem PySem.Spec PyProof.Rows L2
theorem set_get {δ : Fr} {i : Nat} {x : Option D} (h : i < δ.length) : (δ.set i x)[i]? = some x := by
  rw [List.getElem?_set]
  simp [h]
theorem compL_so {δ : Fr} {i : Nat} {s : S} (so : List Bool) (h : i < δ.length) : compL (gtName i) tTrue (f2 dEq (fVar i) (fC (.str (Str.ofString "secret")))) (so.map sortD) δ s = some (so.map D.bl, s) := by
  induction so with
  | nil => rfl
  | cons b so ih =>
    have e1 : f2 dEq (fVar i) (fC (.str (Str.ofString "secret"))) (δ.set i (some (sortD b))) s = some (.bl b, s) := by
      cases b <;> simp [set_get h, sortD]
    rw [List.map_cons, List.map_cons, compL]
    show (f2 dEq (fVar i) (fC (.str (Str.ofString "secret"))) (δ.set i (some (sortD b))) s).bind _ = _
    rw [e1]
    show (compL _ _ _ _ δ s).map _ = _
    rw [ih]
    rfl
theorem hid_get {so : List Bool} {x : Nat} (h : x < so.length) : L2.atI (so.map D.bl) (x : Int) = some (.bl (hid so x)) := by
  rw [atI_cast, List.getElem?_map, List.getElem?_eq_getElem h]
  unfold hid
  rw [List.getD_eq_getElem?_getD, List.getElem?_eq_getElem h]
  rfl
theorem compL_hid {δ : Fr} {i j : Nat} {s : S} {so : List Bool} : ∀ (ts : List Nat), (∀ t ∈ ts, t < so.length) → δ[j]? = some (some (.lst (so.map D.bl))) → i < δ.length → i ≠ j →
    compL (gtName i) tTrue (f2 dIx (fVar j) (fVar i)) (ts.map natD) δ s = some ((ts.map (hid so)).map D.bl, s)
  | [], _, _, _, _ => rfl
  | t :: ts, ht, hj, hi, hij => by
    have ih := compL_hid (s := s) ts (fun t h => ht t (List.mem_cons_of_mem _ h)) hj hi hij
    have e1 : f2 dIx (fVar j) (fVar i) (δ.set i (some (natD t))) s = some (.bl (hid so t), s) := by
      have hj2 : (δ.set i (some (D.int (t : Nat))))[j]? = some (some (.lst (so.map D.bl))) := by rw [List.getElem?_set_ne hij]; exact hj
      unfold natD
      simp only [f2_e, fVar_e, hj2, set_get hi, kVar_s, k2_s, k2'_s, dIx, hid_get (ht t List.mem_cons_self), kR_s]
    rw [List.map_cons, List.map_cons, compL]
    show (f2 dIx (fVar j) (fVar i) (δ.set i (some (natD t))) s).bind _ = _
    rw [e1]
    show (compL _ _ _ _ δ s).map _ = _
    rw [ih]
    rfl
theorem bls_flat (bs : List Bool) : (bs.map D.bl).all flatD = true := by
  induction bs with
  | nil => rfl
  | cons b bs ih => rw [List.map_cons, List.all_cons, ih]; rfl
theorem bls_any (bs : List Bool) : ((bs.map D.bl).any fun z => eqF z (.bl true)) = bs.any id := by
  induction bs with
  | nil => rfl
  | cons b bs ih =>
    rw [List.map_cons, List.any_cons, List.any_cons, ih]
    cases b <;> rfl
@[simp high] theorem dIn_bls (bs : List Bool) (s : S) : dIn (.bl true) (.lst (bs.map D.bl)) s = some (.bl (bs.any id)) := by
  show (if (bs.map D.bl).all flatD = true then some (D.bl ((bs.map D.bl).any fun z => eqF z (.bl true))) else none) = _
  rw [bls_flat, bls_any]
  rfl
@[simp] theorem str_add_s_if : Str.ofString "if" ++ Str.ofString "s" = Str.ofString "ifs" := by decide +kernel
@[simp] theorem str_add_s_while : Str.ofString "while" ++ Str.ofString "s" = Str.ofString "whiles" := by decide +kernel
@[simp] theorem str_len_if : (Str.ofString "if").length = 2 := by decide +kernel
@[simp] theorem str_len_while : (Str.ofString "while").length = 5 := by decide +kernel
@[simp] theorem str_len_s : (Str.ofString "s").length = 1 := by decide +kernel
end Fw

set_option Elab.async false
set_option linter.all false
set_option maxRecDepth 100000
namespace Fw
open PySem PySem.Spec PyProof.Rows L2
theorem rangeD_zero (lo : Int) : rangeD lo 0 = [] := rfl
theorem rangeD_succ (lo : Int) (n : Nat) : rangeD lo (n + 1) = .int lo :: rangeD (lo + 1) n := by
  unfold rangeD
  rw [List.range_succ_eq_map, List.map_cons, List.map_map]
  congr 1
  · simp
  · apply List.map_congr_left
    intro i _
    simp only [Function.comp, Nat.succ_eq_add_one]
    congr 1
    omega
@[simp] theorem rangeD_1 (lo : Int) : rangeD lo 1 = [.int lo] := by rw [rangeD_succ, rangeD_zero]
@[simp] theorem rangeD_2 (lo : Int) : rangeD lo 2 = [.int lo, .int (lo + 1)] := by rw [rangeD_succ, rangeD_1]
/-- a loop by an invariant: I by the turn; Rt what it may return -/
theorem loopF_inv {ft : FG} {fb : FS} (I : Nat → Fr → S → Prop) (Rt : D → S → Prop) : ∀ (ds : List D) (k : Nat) (δ : Fr) (s : S), I k δ s →
    (∀ i d δ s, ds[i]? = some d → I (k + i) δ s → ∃ δ1, ft d δ = some δ1 ∧ ((∃ δ2 s2, fb δ1 s = some (.nx δ2, s2) ∧ I (k + i + 1) δ2 s2) ∨ (∃ d s2, fb δ1 s = some (.rt d, s2) ∧ Rt d s2))) →
    (∃ δ' s', loopF ft fb ds δ s = some (.nx δ', s') ∧ I (k + ds.length) δ' s') ∨ (∃ d s', loopF ft fb ds δ s = some (.rt d, s') ∧ Rt d s')
  | [], k, δ, s, h0, _ => .inl ⟨δ, s, rfl, h0⟩
  | d :: ds, k, δ, s, h0, hs => by
    obtain ⟨δ1, e1, h⟩ := hs 0 d δ s rfl h0
    rw [loopF_cons, e1, kLoop_s]
    rcases h with ⟨δ2, s2, e2, i2⟩ | ⟨r, s2, e2, r2⟩
    · rw [e2, kLoop2_nx]
      have := loopF_inv I Rt ds (k + 1) δ2 s2 (by simpa using i2) fun i d δ s hd hi => by
        have := hs (i + 1) d δ s (by simpa using hd) (by have : k + (i + 1) = k + 1 + i := by omega
                                                         rw [this]; exact hi)
        have e : k + (i + 1) + 1 = k + 1 + i + 1 := by omega
        rw [e] at this
        exact this
      rw [show k + (d :: ds).length = k + 1 + ds.length by simp; omega]
      exact this
    · rw [e2, kLoop2_rt]
      exact .inr ⟨r, s2, rfl, r2⟩
/-- .. as a def's loop, with what follows -/
theorem kSeq_loop {ft : FG} {fb g : FS} {ds : List D} {δ : Fr} {s : S} {r : Option (D × S)} (I : Nat → Fr → S → Prop) (Rt : D → S → Prop) (h0 : I 0 δ s)
    (hs : ∀ i d δ s, ds[i]? = some d → I i δ s → ∃ δ1, ft d δ = some δ1 ∧ ((∃ δ2 s2, fb δ1 s = some (.nx δ2, s2) ∧ I (i + 1) δ2 s2) ∨ (∃ d s2, fb δ1 s = some (.rt d, s2) ∧ Rt d s2)))
    (h1 : ∀ δ s, I ds.length δ s → kBody (g δ s) = r) (h2 : ∀ d s, Rt d s → some (d, s) = r) : kBody (kSeq g (loopF ft fb ds δ s)) = r := by
  rcases loopF_inv I Rt ds 0 δ s h0 (by simpa using hs) with ⟨δ', s', e, i⟩ | ⟨d, s', e, i⟩
  · rw [e, kSeq_nx]
    exact h1 δ' s' (by simpa using i)
  · rw [e, kSeq_rt, kBody_rt]
    exact h2 d s' i
theorem smsD_length (b : List Sm) : (smsD b).length = b.length := by rw [smsD_map, List.length_map]
theorem smsD_get {b : List Sm} {i : Nat} {a : Sm} (h : b[i]? = some a) : L2.atI (smsD b) (i : Int) = some (smD a) := by
  rw [atI_cast, smsD_map, List.getElem?_map, h]
  rfl
theorem so_get {so : List Bool} {x : Nat} (h : x < so.length) : L2.atI (so.map sortD) (x : Int) = some (sortD (hid so x)) := by
  rw [atI_cast, List.getElem?_map, List.getElem?_eq_getElem h]
  unfold hid
  rw [List.getD_eq_getElem?_getD, List.getElem?_eq_getElem h]
  rfl
theorem drop_get {α : Type} {b : List α} {i : Nat} {a : α} (h : b[i]? = some a) : b.drop i = a :: b.drop (i + 1) := by
  obtain ⟨hi, e⟩ := List.getElem?_eq_some_iff.mp h
  rw [← e]
  exact List.drop_eq_getElem_cons hi
@[simp] theorem rep1 {α : Type} (l : List α) : (List.replicate 1 l).flatten = l := by simp
@[simp] theorem placeD_n : placeD none = .non := rfl
@[simp] theorem placeD_s (z : List Nat) : placeD (some z) = .tup (z.map natD) := rfl
mutual
/-- places are short -/
theorem fault_len {ws : List String} {so : List Bool} {m : Nat} : ∀ (d : Nat) (a : Sm) (und : Bool) (z : List Nat), smOk m d a → faultM ws so und a = some z → z.length ≤ 2 * d + 1
  | d, .ite x p q, und, z, ok, e => by
    obtain ⟨_, _, _, hd, ok1, ok2⟩ := ok
    rw [faultM] at e
    split at e
    · cases e1 : faultsM ws so (und || hid so x) 0 p with
      | some y =>
        rw [e1] at e
        cases e
        have := faults_len (d - 1) p (und || hid so x) 0 y ok1 e1
        simp; omega
      | none =>
        rw [e1] at e
        obtain ⟨y, e2, e3⟩ := map_some e
        subst e3
        have := faults_len (d - 1) q (und || hid so x) 0 y ok2 e2
        simp; omega
    · cases e; simp
  | d, .times n b, und, z, ok, e => by
    obtain ⟨_, _, hd, ok1⟩ := ok
    rw [faultM] at e
    split at e
    · have := faults_len (d - 1) b und 0 z ok1 e
      omega
    · cases e; simp
  | d, .whl n b, und, z, ok, e => by
    obtain ⟨_, _, hd, ok1⟩ := ok
    rw [faultM] at e
    split at e
    · have := faults_len (d - 1) b _ 0 z ok1 e
      omega
    · cases e; simp
  | d, .sum _ _ _, und, z, ok, e => by rw [faultM] at e; split at e <;> cases e; simp
  | d, .print _, und, z, ok, e => by rw [faultM] at e; split at e <;> cases e; simp
  | d, .stop, und, z, ok, e => by rw [faultM] at e; split at e <;> cases e; simp
  | d, .split _ _, und, z, ok, e => by rw [faultM] at e; split at e <;> cases e; simp
  | d, .keep _ _ _, und, z, ok, e => by rw [faultM] at e; split at e <;> cases e; simp
  | d, .fetch _ _ _, und, z, ok, e => by rw [faultM] at e; split at e <;> cases e; simp
theorem faults_len {ws : List String} {so : List Bool} {m : Nat} : ∀ (d : Nat) (b : List Sm) (und : Bool) (k : Nat) (z : List Nat), smsOk m d b → faultsM ws so und k b = some z → z.length ≤ 2 * d + 2
  | d, [], und, k, z, ok, e => by rw [faultsM] at e; cases e
  | d, a :: b, und, k, z, ok, e => by
    rw [faultsM] at e
    cases e1 : faultM ws so und a with
    | some y =>
      rw [e1] at e
      cases e
      have := fault_len d a und y ok.1 e1
      simp; omega
    | none =>
      rw [e1] at e
      exact faults_len d b und (k + 1) z ok.2 e
end
end Fw

set_option Elab.async false
set_option linter.all false
set_option maxRecDepth 100000
namespace Fw
open PySem PySem.Spec PyProof.Rows L2
theorem takenN {g : FD} (h : P_taken g) (a : Addr) (s : S) (m : Nat) (hr : IsRow s a) (h0 : 0 < m) (h1 : m ≤ 10000000) : ∃ (v : Nat) (s' : S), g [.ref a, .int (m : Nat)] s = some (.int (v : Nat), s') ∧ RowTo s a s' ∧ v < m := by
  obtain ⟨v, s', e, rt, v0, v1⟩ := h a s (m : Nat) hr (by omega) (by omega)
  refine ⟨v.toNat, s', ?_, rt, by omega⟩
  rw [e]
  congr 3
  omega
theorem compL_draw {fe : FE} {i : Nat} {δ : Fr} {a : Addr} (Pv : D → Prop) (ds : List D) (s : S) (hr : IsRow s a) (h : ∀ d ∈ ds, ∀ s, IsRow s a → ∃ v s', fe (δ.set i (some d)) s = some (v, s') ∧ RowTo s a s' ∧ Pv v) :
    ∃ vs s', compL (gtName i) tTrue fe ds δ s = some (vs, s') ∧ RowTo s a s' ∧ vs.length = ds.length ∧ ∀ v ∈ vs, Pv v := by
  refine compL_ex (fun s' => RowTo s a s') Pv ds s (RowTo.refl hr) fun d hd => ⟨_, rfl, fun s1 h1 => ?_⟩
  obtain ⟨v, s', e, rt, pv⟩ := h d hd s1 h1.is
  exact ⟨v, s', e, h1.trans rt, pv⟩
theorem nats_of {vs : List D} {m : Nat} (h : ∀ v ∈ vs, ∃ n : Nat, v = .int (n : Int) ∧ n < m) : ∃ ts : List Nat, vs = ts.map natD ∧ ∀ t ∈ ts, t < m := by
  induction vs with
  | nil => exact ⟨[], rfl, fun _ h => nomatch h⟩
  | cons v vs ih =>
    obtain ⟨n, e, hn⟩ := h v List.mem_cons_self
    obtain ⟨ts, e2, ht⟩ := ih fun v hv => h v (List.mem_cons_of_mem _ hv)
    refine ⟨n :: ts, by rw [e, e2]; rfl, fun t h => ?_⟩
    rcases List.mem_cons.mp h with rfl | h
    · exact hn
    · exact ht t h
theorem sms_of {vs : List D} {m d : Nat} (h : ∀ v ∈ vs, ∃ n : Sm, v = smD n ∧ smOk m d n) : ∃ ts : List Sm, vs = smsD ts ∧ smsOk m d ts ∧ ts.length = vs.length := by
  induction vs with
  | nil => exact ⟨[], rfl, trivial, rfl⟩
  | cons v vs ih =>
    obtain ⟨n, e, hn⟩ := h v List.mem_cons_self
    obtain ⟨ts, e2, ht, hl⟩ := ih fun v hv => h v (List.mem_cons_of_mem _ hv)
    exact ⟨n :: ts, by rw [e, e2]; rfl, ⟨hn, ht⟩, by simp [hl]⟩
theorem bools_of {vs : List D} (h : ∀ v ∈ vs, ∃ n : Bool, v = sortD n) : ∃ ts : List Bool, vs = ts.map sortD := by
  induction vs with
  | nil => exact ⟨[], rfl⟩
  | cons v vs ih =>
    obtain ⟨n, e⟩ := h v List.mem_cons_self
    obtain ⟨ts, e2⟩ := ih fun v hv => h v (List.mem_cons_of_mem _ hv)
    exact ⟨n :: ts, by rw [e, e2]; rfl⟩
def P_statement (d : Nat) (g : FD) : Prop := ∀ (a : Addr) (s : S) (m : Nat), IsRow s a → 0 < m → m ≤ 1000 → ∃ (st : Sm) (s' : S), g [.ref a, .int (m : Nat), .int (d : Nat)] s = some (smD st, s') ∧ RowTo s a s' ∧ smOk m d st
def P_sorts (g : FD) : Prop := ∀ (a : Addr) (s : S), IsRow s a → ∃ (so : List Bool) (s' : S), g [.ref a] s = some (sortsD so, s') ∧ RowTo s a s' ∧ 2 ≤ so.length ∧ so.length ≤ 4
end Fw

set_option Elab.async false
set_option linter.all false
set_option maxRecDepth 100000
namespace Fw
open PySem PySem.Spec PyProof.Rows L2
theorem stands_ext {ws : List String} {so so' : List Bool} {m d : Nat} {und : Bool} (h : ∀ x, x < m → hid so x = hid so' x) (a : Sm) (ok : smOk m d a) : standsM ws so und a = standsM ws so' und a := by
  cases a with
  | sum x ts n =>
    obtain ⟨h1, _, h3, _⟩ := ok
    have e : ts.any (hid so) = ts.any (hid so') := by
      clear h1
      induction ts with
      | nil => rfl
      | cons t ts ih => rw [List.any_cons, List.any_cons, h t (h3 t List.mem_cons_self), ih (by simp at *; omega) fun t ht => h3 t (List.mem_cons_of_mem _ ht)]
    simp only [standsM, h x h1, e]
  | ite x p q => simp only [standsM, h x ok.1]
  | times n b => rfl
  | whl x b => simp only [standsM, h x ok.1]
  | print x => simp only [standsM, h x ok]
  | stop => rfl
  | split x y => simp only [standsM, h x ok.1, h y ok.2]
  | keep t x y => simp only [standsM, h x ok.1, h y ok.2]
  | fetch t x y => simp only [standsM, h x ok.1, h y ok.2]
mutual
theorem fault_ext {ws : List String} {so so' : List Bool} {m : Nat} (h : ∀ x, x < m → hid so x = hid so' x) : ∀ (d : Nat) (a : Sm) (und : Bool), smOk m d a → faultM ws so und a = faultM ws so' und a
  | d, .ite x p q, und, ok => by
    rw [faultM, faultM, stands_ext h _ ok, h x ok.1, faults_ext h (d - 1) p _ 0 ok.2.2.2.2.1, faults_ext h (d - 1) q _ 0 ok.2.2.2.2.2]
  | d, .times n b, und, ok => by rw [faultM, faultM, stands_ext h _ ok, faults_ext h (d - 1) b _ 0 ok.2.2.2]
  | d, .whl x b, und, ok => by rw [faultM, faultM, stands_ext h _ ok, h x ok.1, faults_ext h (d - 1) b _ 0 ok.2.2.2]
  | d, .sum x ts n, und, ok => by rw [faultM, faultM, stands_ext h _ ok]
  | d, .print x, und, ok => by rw [faultM, faultM, stands_ext h _ ok]
  | d, .stop, und, ok => by rw [faultM, faultM, stands_ext h _ ok]
  | d, .split x y, und, ok => by rw [faultM, faultM, stands_ext h _ ok]
  | d, .keep t x y, und, ok => by rw [faultM, faultM, stands_ext h _ ok]
  | d, .fetch t x y, und, ok => by rw [faultM, faultM, stands_ext h _ ok]
theorem faults_ext {ws : List String} {so so' : List Bool} {m : Nat} (h : ∀ x, x < m → hid so x = hid so' x) : ∀ (d : Nat) (b : List Sm) (und : Bool) (k : Nat), smsOk m d b → faultsM ws so und k b = faultsM ws so' und k b
  | d, [], und, k, ok => by rw [faultsM, faultsM]
  | d, a :: b, und, k, ok => by rw [faultsM, faultsM, fault_ext h d a und ok.1, faults_ext h d b und (k + 1) ok.2]
end
mutual
theorem smOk_mono {m m' : Nat} (h : m ≤ m') : ∀ (d : Nat) (a : Sm), smOk m d a → smOk m' d a
  | d, .ite x p q, ok => ⟨by have := ok.1; omega, ok.2.1, ok.2.2.1, ok.2.2.2.1, smsOk_mono h _ p ok.2.2.2.2.1, smsOk_mono h _ q ok.2.2.2.2.2⟩
  | d, .times n b, ok => ⟨ok.1, ok.2.1, ok.2.2.1, smsOk_mono h _ b ok.2.2.2⟩
  | d, .whl x b, ok => ⟨by have := ok.1; omega, ok.2.1, ok.2.2.1, smsOk_mono h _ b ok.2.2.2⟩
  | d, .sum x ts n, ok => ⟨by have := ok.1; omega, ok.2.1, fun t ht => by have := ok.2.2.1 t ht; omega, ok.2.2.2⟩
  | d, .print x, ok => by have q : x < m := ok; exact (by omega : x < m')
  | d, .stop, ok => trivial
  | d, .split x y, ok => ⟨by have := ok.1; omega, by have := ok.2; omega⟩
  | d, .keep t x y, ok => ⟨by have := ok.1; omega, by have := ok.2; omega⟩
  | d, .fetch t x y, ok => ⟨by have := ok.1; omega, by have := ok.2; omega⟩
theorem smsOk_mono {m m' : Nat} (h : m ≤ m') : ∀ (d : Nat) (b : List Sm), smsOk m d b → smsOk m' d b
  | d, [], ok => trivial
  | d, a :: b, ok => ⟨smOk_mono h d a ok.1, smsOk_mono h d b ok.2⟩
end
theorem faults_append {ws : List String} {so : List Bool} {und : Bool} : ∀ (b c : List Sm) (k : Nat), faultsM ws so und k b = none → faultsM ws so und k (b ++ c) = faultsM ws so und (k + b.length) c
  | [], c, k, _ => rfl
  | a :: b, c, k, h => by
    rw [List.cons_append, faultsM]
    rw [faultsM] at h
    cases e : faultM ws so und a with
    | some z => rw [e] at h; cases h
    | none =>
      rw [e] at h
      show faultsM ws so und (k + 1) (b ++ c) = _
      rw [faults_append b c (k + 1) h, List.length_cons]
      congr 1
      omega
theorem faults_shift {ws : List String} {so : List Bool} {und : Bool} : ∀ (b : List Sm) (k j : Nat), faultsM ws so und k b = none → faultsM ws so und j b = none
  | [], k, j, _ => rfl
  | a :: b, k, j, h => by
    rw [faultsM] at h ⊢
    cases e : faultM ws so und a with
    | some z => rw [e] at h; cases h
    | none => rw [e] at h; exact faults_shift b (k + 1) (j + 1) h
theorem smsD_append (b c : List Sm) : smsD (b ++ c) = smsD b ++ smsD c := by rw [smsD_map, smsD_map, smsD_map, List.map_append]
theorem told_ok {l : List String} (h : l ∈ lotsL) : smsOk 2 2 (toldM l) ∧ (toldM l).length ≤ 2 := by
  simp only [lotsL, List.mem_cons, List.mem_nil_iff, or_false] at h
  rcases h with rfl | rfl | rfl | rfl | rfl | rfl | rfl | rfl | rfl | rfl | rfl | rfl | rfl <;> simp [toldM, smsOk, smOk]
theorem seq_then {g : FS} {o : Option (Out × S)} {R : Option (D × S) → Prop} (Inv : Fr → S → Prop) (h1 : ∃ δ s, o = some (.nx δ, s) ∧ Inv δ s) (h2 : ∀ δ s, Inv δ s → R (kBody (g δ s))) : R (kBody (kSeq g o)) := by
  obtain ⟨δ, s, rfl, hi⟩ := h1
  exact h2 δ s hi
theorem kSeq_loopR {ft : FG} {fb g : FS} {ds : List D} {δ : Fr} {s : S} {R : Option (D × S) → Prop} (I : Nat → Fr → S → Prop) (h0 : I 0 δ s)
    (hs : ∀ i d δ s, ds[i]? = some d → I i δ s → ∃ δ1, ft d δ = some δ1 ∧ ∃ δ2 s2, fb δ1 s = some (.nx δ2, s2) ∧ I (i + 1) δ2 s2)
    (h1 : ∀ δ s, I ds.length δ s → R (kBody (g δ s))) : R (kBody (kSeq g (loopF ft fb ds δ s))) := by
  rcases loopF_inv I (fun _ _ => False) ds 0 δ s h0 (fun i d δ s hd hi => by
    obtain ⟨δ1, e1, δ2, s2, e2, i2⟩ := hs i d δ s hd (by simpa using hi)
    exact ⟨δ1, e1, .inl ⟨δ2, s2, e2, by simpa using i2⟩⟩) with ⟨δ', s', e, i⟩ | ⟨d, s', e, i⟩
  · rw [e, kSeq_nx]
    exact h1 δ' s' (by simpa using i)
  · exact i.elim
def P_program (g : FD) : Prop := ∀ (a : Addr) (s : S) (ws : List String), IsRow s a → ∃ (so : List Bool) (b : List Sm) (s' : S), g [.ref a, .tup (ws.map strD)] s = some (.tup [sortsD so, bodyD b], s') ∧ RowTo s a s' ∧ 2 ≤ so.length ∧ so.length ≤ 4 ∧ b.length ≤ 7 ∧ smsOk so.length 2 b ∧ faultsM ws so false 0 b = none
def natsD (ns : List Nat) : D := .tup (ns.map natD)
def P_start (g : FD) : Prop := ∀ (a : Addr) (s : S) (so : List Bool), IsRow s a → so.length ≤ 1000 → ∃ (ns : List Nat) (s' : S), g [.ref a, sortsD so] s = some (natsD ns, s') ∧ RowTo s a s' ∧ ns.length = so.length ∧ ∀ n ∈ ns, n < 10
theorem cut_pre (ds : List D) (k : Nat) : cutD ds none (some (k : Int)) = ds.take k := by
  unfold cutD
  rw [HT.sIx_none, HT.sIx_nat, List.drop_zero, Nat.sub_zero]
  by_cases h : k ≤ ds.length
  · rw [Nat.min_eq_left h]
  · rw [Nat.min_eq_right (by omega), List.take_of_length_le (Nat.le_refl _), List.take_of_length_le (by omega)]
theorem cut_suf (ds : List D) (k : Nat) : cutD ds (some (k : Int)) none = ds.drop k := by
  unfold cutD
  rw [HT.sIx_none, HT.sIx_nat]
  by_cases h : k ≤ ds.length
  · rw [Nat.min_eq_left h, List.take_of_length_le (by rw [List.length_drop]; exact Nat.le_refl _)]
  · rw [Nat.min_eq_right (by omega), List.drop_length, List.drop_eq_nil_of_le (by omega)]
    simp
@[simp] theorem cut_pre' (ds : List D) (k : Nat) : cutD ds none (some (no_index (@OfNat.ofNat Int k _))) = ds.take k := cut_pre ds k
@[simp] theorem cut_suf' (ds : List D) (k : Nat) : cutD ds (some (no_index (@OfNat.ofNat Int k _))) none = ds.drop k := cut_suf ds k
theorem hid_two (k : Nat) (so : List Bool) (x : Nat) (h : x < 2) : hid [false, true] x = hid ([false, true] ++ so.take k) x := by
  match x, h with
  | 0, _ => rfl
  | 1, _ => rfl
end Fw

set_option Elab.async false
set_option linter.all false
set_option maxRecDepth 100000
/-! Mx: what a run does, by plain data. -/
namespace Fw
open PySem PySem.Spec PyProof.Rows L2
structure Wd where
  nums : List Nat
  op : List Nat
  sec : List Nat
  prints : List Nat
  steps : Nat
  rounds : Nat
inductive How where
  | stops | breaks | goes
def howS : Option How → String
  | none => "ends"
  | some .stops => "stops"
  | some .breaks => "breaks"
  | some .goes => "goes on"
def num (w : Wd) (x : Nat) : Nat := w.nums.getD x 0
def tab (w : Wd) (t : Bool) : List Nat := if t then w.sec else w.op
def setN (w : Wd) (x v : Nat) : Wd := { w with nums := w.nums.set x v }
def setT (w : Wd) (t : Bool) (i v : Nat) : Wd := if t then { w with sec := w.sec.set i v } else { w with op := w.op.set i v }
def bump (w : Wd) : Wd := { w with steps := w.steps + 1 }
def sumN (w : Wd) : List Nat → Nat
  | [] => 0
  | t :: ts => num w t + sumN w ts
def timesM (f : Wd → Wd × Option How) : Nat → Wd → Wd × Option How
  | 0, w => (w, none)
  | k + 1, w => match f w with
    | (w', none) => timesM f k w'
    | (w', some h) => (w', some h)
def whileM (x : Nat) (f : Wd → Wd × Option How) : Nat → Wd → Wd × Option How
  | 0, w => (w, none)
  | k + 1, w => if num w x = 0 then (w, none) else if w.rounds = 60 then (w, some .goes) else match f { w with rounds := w.rounds + 1 } with
    | (w', none) => whileM x f k w'
    | (w', some h) => (w', some h)
mutual
def exM : Sm → Wd → Wd × Option How
  | .sum x ts n, w => (setN w x ((n + sumN w ts) % 10), none)
  | .ite x p q, w => if num w x = 0 then exsM q w else exsM p w
  | .times n b, w => timesM (fun w => exsM b w) n w
  | .whl x b, w => whileM x (fun w => exsM b w) 99 w
  | .print x, w => ({ w with prints := w.prints ++ [num w x] }, none)
  | .stop, w => (w, some .stops)
  | .split x y, w => if num w y = 0 then (w, some .breaks) else (setN w x (9 / num w y), none)
  | .keep t x y, w => (setT w t (num w x) (num w y), none)
  | .fetch t x y, w => (setN w x ((tab w t).getD (num w y) 0), none)
def exsM : List Sm → Wd → Wd × Option How
  | [], w => (w, none)
  | a :: b, w => match exM a (bump w) with
    | (w', none) => exsM b w'
    | (w', some h) => (w', some h)
end
structure WOk (m : Nat) (w : Wd) : Prop where
  nl : w.nums.length = m
  nv : ∀ n ∈ w.nums, n < 10
  ol : w.op.length = 10
  ov : ∀ n ∈ w.op, n < 10
  sl : w.sec.length = 10
  sv : ∀ n ∈ w.sec, n < 10
  pl : w.prints.length ≤ w.steps
  pv : ∀ n ∈ w.prints, n < 10
  rl : w.rounds ≤ 60
theorem getD_lt {l : List Nat} (h : ∀ n ∈ l, n < 10) (i : Nat) : l.getD i 0 < 10 := by
  rw [List.getD_eq_getElem?_getD]
  cases e : l[i]? with
  | none => simp
  | some v =>
    have := h v (List.mem_of_getElem? e)
    simpa using this
theorem set_lt {l : List Nat} (h : ∀ n ∈ l, n < 10) (i : Nat) {v : Nat} (hv : v < 10) : ∀ n ∈ l.set i v, n < 10 := fun n hn => by
  rcases List.mem_or_eq_of_mem_set hn with hn | rfl
  · exact h n hn
  · exact hv
section
variable {m : Nat} {w : Wd}
theorem WOk.num (h : WOk m w) (x : Nat) : num w x < 10 := getD_lt h.nv x
theorem WOk.setN (h : WOk m w) (x : Nat) {v : Nat} (hv : v < 10) : WOk m (setN w x v) := ⟨by simp [Fw.setN, h.nl], set_lt h.nv x hv, h.ol, h.ov, h.sl, h.sv, h.pl, h.pv, h.rl⟩
theorem WOk.setT (h : WOk m w) (t : Bool) (i : Nat) {v : Nat} (hv : v < 10) : WOk m (setT w t i v) := by
  cases t
  · exact ⟨h.nl, h.nv, by simp [Fw.setT, h.ol], set_lt h.ov i hv, h.sl, h.sv, h.pl, h.pv, h.rl⟩
  · exact ⟨h.nl, h.nv, h.ol, h.ov, by simp [Fw.setT, h.sl], set_lt h.sv i hv, h.pl, h.pv, h.rl⟩
theorem WOk.bump (h : WOk m w) : WOk m (bump w) := ⟨h.nl, h.nv, h.ol, h.ov, h.sl, h.sv, Nat.le_succ_of_le h.pl, h.pv, h.rl⟩
theorem WOk.round (h : WOk m w) (hr : w.rounds ≠ 60) : WOk m { w with rounds := w.rounds + 1 } := ⟨h.nl, h.nv, h.ol, h.ov, h.sl, h.sv, h.pl, h.pv, by have := h.rl; show w.rounds + 1 ≤ 60; omega⟩
end
/-- steps at most, of a statement, d of if, times, while within one another -/
def cst : Nat → Nat
  | 0 => 1
  | d + 1 => 1 + 396 * cst d
theorem cst_pos : ∀ d, 1 ≤ cst d
  | 0 => Nat.le_refl _
  | d + 1 => by show 1 ≤ 1 + 396 * cst d; omega
/-- what a run of f keeps: c steps at most, the rounds grow -/
structure Keeps (m c : Nat) (w w' : Wd) : Prop where
  ok : WOk m w'
  st : w'.steps ≤ w.steps + c
  rd : w.rounds ≤ w'.rounds
theorem timesM_ok {m c : Nat} {f : Wd → Wd × Option How} (hf : ∀ w, WOk m w → Keeps m c w (f w).1) : ∀ (k : Nat) (w : Wd), WOk m w → Keeps m (k * c) w (timesM f k w).1
  | 0, w, h => ⟨h, by simp [timesM], Nat.le_refl _⟩
  | k + 1, w, h => by
    have h1 := hf w h
    rw [timesM]
    cases e : f w with
    | mk w' o =>
      rw [e] at h1
      cases o with
      | none =>
        have h2 := timesM_ok hf k w' h1.ok
        refine ⟨h2.ok, ?_, Nat.le_trans h1.rd h2.rd⟩
        have a1 := h1.st; have a2 := h2.st
        show (timesM f k w').1.steps ≤ _
        rw [Nat.succ_mul]; simp only at a1; omega
      | some hh =>
        refine ⟨h1.ok, ?_, h1.rd⟩
        have a1 := h1.st
        show w'.steps ≤ _
        rw [Nat.succ_mul]; simp only at a1; omega
theorem cst_s (e : Nat) : cst (e + 1) = 1 + 396 * cst e := rfl
theorem whileM_ok {m c x : Nat} {f : Wd → Wd × Option How} (hf : ∀ w, WOk m w → Keeps m c w (f w).1) : ∀ (k : Nat) (w : Wd), WOk m w → Keeps m (k * c) w (whileM x f k w).1
  | 0, w, h => ⟨h, by simp [whileM], Nat.le_refl _⟩
  | k + 1, w, h => by
    rw [whileM]
    split
    · exact ⟨h, Nat.le_add_right _ _, Nat.le_refl _⟩
    · split
      · exact ⟨h, Nat.le_add_right _ _, Nat.le_refl _⟩
      · rename_i hr
        have h1 := hf _ (h.round hr)
        cases e : f { w with rounds := w.rounds + 1 } with
        | mk w' o =>
          rw [e] at h1
          have a1 := h1.st; have a3 := h1.rd
          simp only at a1 a3
          cases o with
          | none =>
            have h2 := whileM_ok (x := x) hf k w' h1.ok
            refine ⟨h2.ok, ?_, ?_⟩
            · have a2 := h2.st
              show (whileM x f k w').1.steps ≤ _
              rw [Nat.succ_mul]; omega
            · have := h2.rd
              show w.rounds ≤ (whileM x f k w').1.rounds
              omega
          | some hh =>
            refine ⟨h1.ok, ?_, by show w.rounds ≤ w'.rounds; omega⟩
            show w'.steps ≤ _
            rw [Nat.succ_mul]; omega
theorem Keeps.mono {m c c' : Nat} {w w' : Wd} (h : Keeps m c w w') (hc : c ≤ c') : Keeps m c' w w' := ⟨h.ok, by have := h.st; omega, h.rd⟩
mutual
theorem exM_ok {m : Nat} : ∀ (d : Nat) (a : Sm) (w : Wd), smOk m d a → WOk m w → w.prints.length < w.steps → Keeps m (cst d - 1) w (exM a w).1
  | d, .sum x ts n, w, ok, h, hp => ⟨h.setN x (Nat.mod_lt _ (by omega)), Nat.le_add_right _ _, Nat.le_refl _⟩
  | d, .ite x p q, w, ok, h, hp => by
    obtain ⟨_, h1, hq, hd, okp, okq⟩ := ok
    obtain ⟨e, rfl⟩ : ∃ e, d = e + 1 := ⟨d - 1, by omega⟩
    have c1 : cst (e + 1) - 1 = 396 * cst e := by rw [cst_s]; omega
    rw [exM, c1]
    split
    · exact (exsM_ok e q w okq h).mono (by have := Nat.mul_le_mul_right (cst e) hq; omega)
    · exact (exsM_ok e p w okp h).mono (by have := Nat.mul_le_mul_right (cst e) h1; omega)
  | d, .times n b, w, ok, h, hp => by
    obtain ⟨hn, hb, hd, okb⟩ := ok
    obtain ⟨e, rfl⟩ : ∃ e, d = e + 1 := ⟨d - 1, by omega⟩
    have c1 : cst (e + 1) - 1 = 396 * cst e := by rw [cst_s]; omega
    rw [exM, c1]
    refine (timesM_ok (fun w hw => exsM_ok e b w okb hw) n w h).mono ?_
    have a1 := Nat.mul_le_mul_right (cst e) hb
    have a2 := Nat.mul_le_mul hn a1
    omega
  | d, .whl x b, w, ok, h, hp => by
    obtain ⟨hn, hb, hd, okb⟩ := ok
    obtain ⟨e, rfl⟩ : ∃ e, d = e + 1 := ⟨d - 1, by omega⟩
    have c1 : cst (e + 1) - 1 = 396 * cst e := by rw [cst_s]; omega
    rw [exM, c1]
    refine (whileM_ok (fun w hw => exsM_ok e b w okb hw) 99 w h).mono ?_
    have a1 := Nat.mul_le_mul_right (cst e) hb
    have a2 := Nat.mul_le_mul_left 99 a1
    omega
  | d, .print x, w, ok, h, hp => by
    refine ⟨⟨h.nl, h.nv, h.ol, h.ov, h.sl, h.sv, ?_, ?_, h.rl⟩, Nat.le_add_right _ _, Nat.le_refl _⟩
    · show (w.prints ++ [num w x]).length ≤ w.steps
      rw [List.length_append]; exact hp
    · intro n hn
      rcases List.mem_append.mp hn with hn | hn
      · exact h.pv n hn
      · rw [List.mem_singleton.mp hn]; exact h.num x
  | d, .stop, w, ok, h, hp => ⟨h, Nat.le_add_right _ _, Nat.le_refl _⟩
  | d, .split x y, w, ok, h, hp => by
    rw [exM]
    split
    · exact ⟨h, Nat.le_add_right _ _, Nat.le_refl _⟩
    · refine ⟨h.setN x ?_, Nat.le_add_right _ _, Nat.le_refl _⟩
      have : 9 / num w y ≤ 9 := Nat.div_le_self _ _
      omega
  | d, .keep t x y, w, ok, h, hp => ⟨h.setT t _ (h.num y), by cases t <;> exact Nat.le_add_right _ _, by cases t <;> exact Nat.le_refl _⟩
  | d, .fetch t x y, w, ok, h, hp => by
    refine ⟨h.setN x ?_, Nat.le_add_right _ _, Nat.le_refl _⟩
    cases t
    · exact getD_lt h.ov _
    · exact getD_lt h.sv _
theorem exsM_ok {m : Nat} : ∀ (d : Nat) (b : List Sm) (w : Wd), smsOk m d b → WOk m w → Keeps m (b.length * cst d) w (exsM b w).1
  | d, [], w, ok, h => ⟨h, by simp [exsM], Nat.le_refl _⟩
  | d, a :: b, w, ok, h => by
    have h1 := exM_ok d a (bump w) ok.1 h.bump (Nat.lt_succ_of_le h.pl)
    have hc := cst_pos d
    rw [exsM]
    cases e : exM a (bump w) with
    | mk w' o =>
      rw [e] at h1
      have a1 := h1.st; have a3 := h1.rd
      simp only [bump] at a1 a3
      have a4 : (a :: b).length * cst d = b.length * cst d + cst d := by rw [List.length_cons, Nat.succ_mul]
      cases o with
      | none =>
        have h2 := exsM_ok d b w' ok.2 h1.ok
        have a2 := h2.st; have a5 := h2.rd
        exact ⟨h2.ok, by show (exsM b w').1.steps ≤ _; omega, by show w.rounds ≤ (exsM b w').1.rounds; omega⟩
      | some hh => exact ⟨h1.ok, by show w'.steps ≤ _; omega, a3⟩
end
end Fw

set_option Elab.async false
set_option linter.all false
set_option maxRecDepth 100000
namespace Fw
open PySem PySem.Spec PyProof.Rows L2
def plainN : Nat → D → Prop
  | 0, d => match d with
    | .int _ => True
    | .str _ => True
    | _ => False
  | n + 1, d => match d with
    | .int _ => True
    | .str _ => True
    | .tup ds => ds.length ≤ 10000000 ∧ ∀ d ∈ ds, plainN n d
    | _ => False
def P_alike (n : Nat) (g : FD) : Prop := ∀ (d : D) (s : S), plainN n d → g [d, d] s = some (.bl true, s)
end Fw

set_option Elab.async false
set_option linter.all false
set_option maxRecDepth 100000
namespace Fw
open PySem PySem.Spec PyProof.Rows L2

/-! ### what a def makes and keeps for itself -/
structure Grow (K : PySem.W.Frag) (h : Addr → Bool) (s : S) (H : Hp) (h' : Addr → Bool) (s' : S) (H' : Hp) : Prop where
  le : ∀ a, h a = true → h' a = true
  new : ∀ a, h' a = true → h a = true ∨ H a = none
  dom : ∀ a, s a = none → H a ≠ none → s' a = none
  fr : ∀ a o, s a = none → H a = some o → H' a = some o
  si : SI K h' s' H'
section
variable {K : PySem.W.Frag} {h h1 h2 : Addr → Bool} {s s1 s2 : S} {H H1 H2 : Hp}
theorem Grow.of (a : Step K h s H s1 H1) : Grow K h s H h s1 H1 := ⟨fun _ z => z, fun _ z => .inl z, fun a' z _ => a.dom a' z, a.fr, a.si⟩
theorem Grow.stays (i : SI K h s H) (g : Grow K h s H h1 s1 H1) (a : Addr) (z : H a ≠ none) : H1 a ≠ none := by
  cases e : s a with
  | none =>
    cases q : H a with
    | none => exact absurd q z
    | some o => rw [g.fr a o e q]; exact fun z => nomatch z
  | some u => exact g.si.hid a (g.le a (i.own a u e))
theorem Grow.back (i : SI K h s H) (g : Grow K h s H h1 s1 H1) {a : Addr} (z : H1 a = none) : H a = none := by
  cases e : H a with
  | none => rfl
  | some o => exact absurd z (g.stays i a (by rw [e]; exact fun z => nomatch z))
theorem Grow.trans (i : SI K h s H) (a : Grow K h s H h1 s1 H1) (b : Grow K h1 s1 H1 h2 s2 H2) : Grow K h s H h2 s2 H2 :=
  ⟨fun x z => b.le x (a.le x z), fun x z => (b.new x z).elim (a.new x) fun q => .inr (a.back i q), fun x z q => b.dom x (a.dom x z q) (a.stays i x q), fun x o z q => b.fr x o (a.dom x z (by rw [q]; exact fun z => nomatch z)) (a.fr x o z q), b.si⟩
theorem Grow.ext (i : SI K h s H) (a : Grow K h s H h1 s1 H1) : Ext (hide h H) (hide h1 H1) := fun x o e => by
  unfold hide at e ⊢
  split at e
  · cases e
  · rename_i hx
    have hx1 : ¬ h1 x = true := fun z => (a.new x z).elim hx fun q => by rw [q] at e; cases e
    rw [if_neg hx1]
    refine a.fr x o ?_ e
    cases q : s x with
    | none => rfl
    | some u => exact absurd (i.own x u q) hx
theorem Grow.alloc (i : SI K h s H) {p : Addr} (hp : H p = none) (o : HO) (u : OO) (r : RepO K (hide h H) (some o) u) : Grow K h s H (fun a => h a || decide (a = p)) (supd s p u) (upd H p o) := by
  have hx : Ext (hide h H) (hide (fun a => h a || decide (a = p)) (upd H p o)) := fun b w q => by
    unfold hide at q ⊢
    split at q
    · cases q
    · rename_i hb
      have nb : b ≠ p := ne_of_none q hp
      rw [if_neg (by simp [hb, nb]), upd_ne nb]
      exact q
  refine ⟨fun a z => by simp [z], fun a z => ?_, fun a z q => ?_, fun a u z e => by rw [upd_ne (ne_of_none e hp)]; exact e, ⟨fun a u z => ?_, fun a u z => ?_, fun a z => ?_⟩⟩
  · by_cases e : a = p
    · exact .inr (by rw [e]; exact hp)
    · exact .inl (by simpa [e] using z)
  · rw [supd_ne (fun e => q (by rw [e]; exact hp))]
    exact z
  · by_cases e : a = p
    · simp [e]
    · rw [supd_ne e] at z
      simp [i.own a u z]
  · by_cases e : a = p
    · subst e
      rw [supd_same] at z
      cases z
      rw [upd_same]
      exact r.mono hx
    · rw [supd_ne e] at z
      rw [upd_ne e]
      exact (i.ob a u z).mono hx
  · by_cases e : a = p
    · rw [e, upd_same]; exact fun z => nomatch z
    · rw [upd_ne e]
      exact i.hid a (by simpa [e] using z)
/-- what was made is let go -/
def keepS (s s2 : S) : S := fun a => if s a = none then none else s2 a
theorem Grow.done (i : SI K h s H) (a : Grow K h s H h1 s1 H1) (b : Step K h1 s1 H1 s2 H2) : Step K h s H (keepS s s2) H2 ∧ Ext (hide h1 H2) (hide h H2) := by
  have hx : Ext (hide h1 H2) (hide h H2) := fun x o e => by
    unfold hide at e ⊢
    split at e
    · cases e
    · rename_i hx
      rw [if_neg fun z => hx (a.le x z)]
      exact e
  refine ⟨⟨fun x z => by unfold keepS; rw [if_pos z], fun x o z q => b.fr x o (a.dom x z (by rw [q]; exact fun z => nomatch z)) (a.fr x o z q), ⟨fun x o z => ?_, fun x o z => ?_, fun x z => b.si.hid x (a.le x z)⟩⟩, hx⟩
  · unfold keepS at z
    split at z
    · cases z
    · rename_i hn
      cases e : s x with
      | none => exact absurd e hn
      | some u => exact i.own x u e
  · unfold keepS at z
    split at z
    · cases z
    · exact (b.si.ob x o z).mono hx
end

abbrev FOw := Fr → S → Option (OO × S)
/-- an expression whose value nobody else has -/
def tO (K : PySem.W.Frag) (f : FOw) : TE := fun σ H Q => ∃ (h : Addr → Bool) (s : S) (δ : Fr) (u : OO) (s1 : S), EnvR K (hide h H) σ δ ∧ SI K h s H ∧ f δ s = some (u, s1) ∧
  ∀ p h' H', H p = none → Grow K h s H h' (supd s1 p u) H' → Q (.ref p) H'
section
variable {X : Cx} {e a b c o i v : Expr} {es : List Expr} {fe fa fb : FE} {fs : FA} {pos p pos' : Pos}
def oLst (fs : FA) : FOw := fun δ s => (fs δ s).bind fun p => if okLen p.1.length = true then some (.lst p.1, p.2) else none
theorem o_lst (ha : PA X es (tDA X.K fs)) : PE X (.List es pos) (tO X.K (oLst fs)) := imp_e (pe_lst ha) fun σ H Q ⟨h, s, δ, u, s', er, si, q, w⟩ => by
  obtain ⟨⟨xs, s1⟩, q1, q⟩ := bind_some q
  split at q
  · rename_i hl
    cases q
    refine ⟨h, s, δ, xs, _, er, si, q1, fun vs H1 st1 r1 => ⟨?_, fun p hp => ?_⟩⟩
    · rw [r1.length]; exact okLen_le hl
    · exact w p _ _ ((Grow.of st1).back si hp) ((Grow.of st1).trans si (Grow.alloc st1.si hp _ _ ⟨vs, rfl, r1⟩))
  · cases q
/-- list(t) -/
def oList (fs : FA) : FOw := fun δ s => (fs δ s).bind fun p => match p.1 with
  | [.tup ds] => some (.lst ds, p.2)
  | [.lst ds] => some (.lst ds, p.2)
  | _ => none
theorem o_list {r : List V → Hp → VK → Prop} (hr : r = fun xs H Q => ∃ p ys, xs = [V.ref p] ∧ (SqL X.K H p ys ∨ SqT X.K H p ys) ∧ ∀ l, H l = none → Q (V.ref l) (upd H l (HO.lst ys)))
    (pe : PE X e (tCB r (tDA X.K fs))) : PE X e (tO X.K (oList fs)) := imp_e pe fun σ H Q ⟨h, s, δ, u, s', er, si, q, w⟩ => by
  subst hr
  obtain ⟨⟨xs, s1⟩, q1, q⟩ := bind_some q
  refine ⟨h, s, δ, xs, s1, er, si, q1, fun vs H1 st1 r1 => ?_⟩
  dsimp only at q
  split at q
  · cases q
    obtain ⟨v, rfl, r⟩ := reps1 r1
    obtain ⟨p, xs, rfl, q1, q2⟩ := rep_tup r
    exact ⟨p, xs, rfl, .inr (sqt_un q1), fun l hl => w l _ _ ((Grow.of st1).back si hl) ((Grow.of st1).trans si (Grow.alloc st1.si hl _ _ ⟨xs, rfl, q2⟩))⟩
  · cases q
    obtain ⟨v, rfl, r⟩ := reps1 r1
    obtain ⟨p, xs, rfl, q1, q2⟩ := rep_lst r
    exact ⟨p, xs, rfl, .inl (SqL.of (hide_ext _ _ _ _ q1)), fun l hl => w l _ _ ((Grow.of st1).back si hl) ((Grow.of st1).trans si (Grow.alloc st1.si hl _ _ ⟨xs, rfl, q2⟩))⟩
  · cases q
/-- l * k -/
def oRep (fa fb : FE) : FOw := fun δ s => (fa δ s).bind fun p => (fb δ p.2).bind fun q => match p.1, q.1 with
  | .lst a, .int k => if (decide (a.length ≤ 1000) && (decide (-1000 ≤ k) && decide (k ≤ 1000))) = true then some (.lst (List.replicate k.toNat a).flatten, q.2) else none
  | _, _ => none
theorem o_rep (ha : PE X a (tD X.K fa)) (hb : PE X b (tD X.K fb)) : PE X (.BinOp a .Mult b pos) (tO X.K (oRep fa fb)) := imp_e (pe_op op_rep ha hb) fun σ H Q ⟨h, s, δ, u, s', er, si, q, w⟩ => by
  obtain ⟨⟨x, s1⟩, q1, q⟩ := bind_some q
  obtain ⟨⟨y, s2⟩, q2, q⟩ := bind_some q
  refine ⟨h, s, δ, x, s1, er, si, q1, fun vx H1 st1 rx => ⟨h, s1, δ, y, s2, er.mono (st1.ext si), st1.si, q2, fun vy H2 st2 ry => ?_⟩⟩
  dsimp only at q
  split at q
  · split at q
    · rename_i xs k e0 hl
      cases q
      simp only [Bool.and_eq_true, decide_eq_true_eq] at hl
      obtain ⟨p0, ys, rfl, qa, ra⟩ := rep_lst (st2.rep st1.si rx)
      have hz : ys.length * k.toNat ≤ sizeLine := by
        rw [ra.length, sizeLine_eq]
        have a1 : xs.length * k.toNat ≤ 1000 * 1000 := Nat.mul_le_mul hl.1 (by omega)
        omega
      have st := st1.trans st2
      exact ⟨p0, k, ys, rfl, rep_int ry, hide_ext _ _ _ _ qa, by omega, by omega, hz, fun p hp => w p _ _ ((Grow.of st).back si hp) ((Grow.of st).trans si (Grow.alloc st.si hp _ _ ⟨_, rfl, Reps.rep _ ra⟩))⟩
    · cases q
  · cases q

/-! ### a dict of one's own -/
def Free (s : S) (as : List Addr) : Prop := as.Nodup ∧ ∀ a ∈ as, s a = none
theorem Free.tail {s : S} {a : Addr} {as : List Addr} {u : OO} (f : Free s (a :: as)) : Free (supd s a u) as := by
  obtain ⟨f1, f2⟩ := f
  rw [List.nodup_cons] at f1
  exact ⟨f1.2, fun b hb => by rw [supd_ne (fun e => f1.1 (by rw [← e]; exact hb))]; exact f2 b (List.mem_cons_of_mem _ hb)⟩
theorem Free.cons {s : S} {a : Addr} {as : List Addr} {u : OO} (h : s a = none) (f : Free (supd s a u) as) : Free s (a :: as) := by
  have hn : ∀ b ∈ as, b ≠ a := fun b hb e => by
    have := f.2 b hb
    rw [e, supd_same] at this
    cases this
  refine ⟨List.nodup_cons.mpr ⟨fun e => hn a e rfl, f.1⟩, fun b hb => ?_⟩
  rcases List.mem_cons.mp hb with rfl | hb
  · exact h
  · have := f.2 b hb
    rwa [supd_ne (hn b hb)] at this
abbrev FP := List Addr → Fr → S → Option (List D × S)
/-- the values of a display, some of them made for it alone -/
structure DO (X : Cx) (pos : Pos) (keys : List (Option Expr)) (values : List Expr) (ks : List Str) (n : Nat) (P : Fr → S → Prop) (f : FP) : Prop where
  ex : ∃ trs, PPs X pos keys values trs ∧ keys.length = ks.length ∧ ∀ σ H Q, (∃ (h : Addr → Bool) (s : S) (δ : Fr), EnvR X.K (hide h H) σ δ ∧ SI X.K h s H ∧ P δ s ∧
    ∀ as ds s' vs h' H', as.length = n → Free s as → (∀ a ∈ as, H a = none) → f as δ s = some (ds, s') → Grow X.K h s H h' s' H' → Reps X.K (hide h' H') vs ds → vs.length = ks.length → Q ((ks.map V.str).zip vs) H') → tPairs trs σ H Q
def pNil : FP := fun as _ s => match as with
  | [] => some ([], s)
  | _ => none
theorem do_nil : DO X pos [] [] [] 0 (fun _ _ => True) pNil := ⟨[], pps_nil, rfl, fun σ H Q ⟨h, s, δ, er, si, ok, w⟩ =>
  w [] [] s [] h H rfl ⟨.nil, fun _ z => nomatch z⟩ (fun _ z => nomatch z) rfl (Grow.of (Step.refl si)) .nil rfl⟩
def pCons (fv : FE) (f : FP) : FP := fun as δ s => (fv δ s).bind fun p => (f as δ p.2).map fun q => (p.1 :: q.1, q.2)
def pOwn (fo : FOw) (f : FP) : FP := fun as δ s => match as with
  | a :: as => (fo δ s).bind fun p => (f as δ (supd p.2 a p.1)).map fun q => (.ref a :: q.1, q.2)
  | [] => none
def qCons (fv : FE) (P : Fr → S → Prop) : Fr → S → Prop := fun δ s => ∃ d s1, fv δ s = some (d, s1) ∧ P δ s1 ∧ ∀ a, s1 a = none → s a = none
def qOwn (fo : FOw) (P : Fr → S → Prop) : Fr → S → Prop := fun δ s => ∃ u s1, fo δ s = some (u, s1) ∧ (∀ a, s1 a = none → P δ (supd s1 a u)) ∧ (∀ a, s1 a = none ↔ s a = none)
theorem Free.of {s s1 : S} {as : List Addr} (f : Free s1 as) (h : ∀ a, s1 a = none → s a = none) : Free s as := ⟨f.1, fun a ha => h a (f.2 a ha)⟩
theorem none_of {K : PySem.W.Frag} {h : Addr → Bool} {s : S} {H : Hp} (i : SI K h s H) {a : Addr} (z : H a = none) : s a = none := by
  cases e : s a with
  | none => rfl
  | some u => exact absurd z (i.ob a u e).there
theorem do_cons {x : Str} {j n : Nat} {p2 : Pos} {ks : List (Option Expr)} {vs : List Expr} {xs : List Str} {P : Fr → S → Prop} {f : FP} (hv : PE X v (tD X.K fv)) (hr : DO X pos ks vs xs n P f) : DO X pos (some (.Constant (.str x) j p2) :: ks) (v :: vs) (x :: xs) n (qCons fv P) (pCons fv f) := by
  obtain ⟨trs, h1, h2, h3⟩ := hr.ex
  refine ⟨(tC (.str x), tD X.K fv) :: trs, pps_cons pe_str hv h1, by simp [h2], fun σ H Q ⟨h, s, δ, er, si, ⟨d, s1, q1, ok, hd⟩, w⟩ => ?_⟩
  refine ⟨h, s, δ, d, s1, er, si, q1, fun v H1 st1 r1 => ?_⟩
  refine h3 σ H1 _ ⟨h, s1, δ, er.mono (st1.ext si), st1.si, ok, fun as ds s' vs h' H' hl fr hn e g r hvl => ?_⟩
  have g1 := Grow.of st1
  exact w as (d :: ds) s' (v :: vs) h' H' hl (fr.of hd) (fun a ha => g1.back si (hn a ha)) (by unfold pCons; rw [q1]; show (f as δ s1).map _ = _; rw [e]; rfl) (g1.trans si g) (.cons (Rep.mono (g.ext st1.si) _ _ r1) r) (by simp [hvl])
theorem do_own {x : Str} {j n : Nat} {p2 : Pos} {ks : List (Option Expr)} {vs : List Expr} {xs : List Str} {P : Fr → S → Prop} {f : FP} {fo : FOw} (hv : PE X v (tO X.K fo)) (hr : DO X pos ks vs xs n P f) : DO X pos (some (.Constant (.str x) j p2) :: ks) (v :: vs) (x :: xs) (n + 1) (qOwn fo P) (pOwn fo f) := by
  obtain ⟨trs, h1, h2, h3⟩ := hr.ex
  refine ⟨(tC (.str x), tO X.K fo) :: trs, pps_cons pe_str hv h1, by simp [h2], fun σ H Q ⟨h, s, δ, er, si, ⟨u, s1, q1, ok, hd⟩, w⟩ => ?_⟩
  refine ⟨h, s, δ, u, s1, er, si, q1, fun a h1 H1 ha g1 => ?_⟩
  have sa : s a = none := none_of si ha
  have s1a : s1 a = none := (hd a).mpr sa
  refine h3 σ H1 _ ⟨h1, _, δ, er.mono (g1.ext si), g1.si, ok a s1a, fun as ds s' vs h' H' hl fr hn e g r hvl => ?_⟩
  refine w (a :: as) (.ref a :: ds) s' (.ref a :: vs) h' H' (by simp [hl]) ((fr.cons s1a).of fun b z => (hd b).mp z) (fun b hb => ?_) (by unfold pOwn; rw [q1]; show (f as δ (supd s1 a u)).map _ = _; rw [e]; rfl) (g1.trans si g) (.cons (.ref a) r) (by simp [hvl])
  rcases List.mem_cons.mp hb with rfl | hb
  · exact ha
  · exact g1.back si (hn b hb)

/-! ### a block that begins with a thing of its own -/
def GoodL (i : Nat) (fo : FOw) (rest : FS) (δ : Fr) (s : S) (d : D) : Prop :=
  (∃ a, s a = none) ∧ ∃ u, fo δ s = some (u, s) ∧ ∀ a, s a = none → ∃ s2, rest (δ.set i (some (.ref a))) (supd s a u) = some (.rt d, s2) ∧ keepS s s2 = s
open Classical in
noncomputable def fOwnL (i : Nat) (fo : FOw) (rest : FS) : FS := fun δ s => if h : ∃ d, GoodL i fo rest δ s d then some (.rt h.choose, s) else none
theorem fOwnL_eq {i : Nat} {fo : FOw} {rest : FS} {δ : Fr} {s : S} {d : D} (g : GoodL i fo rest δ s d) : fOwnL i fo rest δ s = some (.rt d, s) := by
  have h : ∃ d, GoodL i fo rest δ s d := ⟨d, g⟩
  have e : h.choose = d := by
    obtain ⟨⟨a, ha⟩, u, e1, q⟩ := g
    obtain ⟨_, u', e1', q'⟩ := h.choose_spec
    rw [e1] at e1'
    cases e1'
    obtain ⟨s2, e2, _⟩ := q a ha
    obtain ⟨s3, e3, _⟩ := q' a ha
    rw [e2] at e3
    injection e3 with e3
    injection e3 with e3
    injection e3 with e3
    exact e3.symm
  unfold fOwnL
  rw [dif_pos h, e]
theorem dss_ownL {st : Stmt} {sts : List Stmt} {i : Nat} {fo : FOw} {rest : FS} (h1 : PS X st (tAsg (tO X.K fo) (gName i))) (h2 : PSs X sts (tDS X.K rest)) : PSs X (st :: sts) (tDS X.K (fOwnL i fo rest)) := imp_ss (pss_cons h1 h2) fun D σ H ⟨h, s, δ, o, s', er, si, q, w⟩ => by
  unfold fOwnL at q
  split at q
  · rename_i hg
    cases q
    obtain ⟨_, u, e1, q⟩ := hg.choose_spec
    refine ⟨h, s, δ, u, s, er, si, e1, fun p h' H' hp g => ?_⟩
    obtain ⟨s2, e2, ek⟩ := q p (none_of si hp)
    refine ⟨h', _, _, _, s2, (er.mono (g.ext si)).set (.ref p) i, g.si, e2, fun H2 st2 v r => ?_⟩
    obtain ⟨a1, a2⟩ := g.done si st2
    rw [ek] at a1
    exact w H2 a1 v (Rep.mono a2 _ _ r)
  · cases q
def GoodD (i n : Nat) (ks : List Str) (P : Fr → S → Prop) (f : FP) (rest : FS) (δ : Fr) (s : S) (d : D) : Prop :=
  (∃ a as, as.length = n ∧ Free s (a :: as)) ∧ (∀ a, s a = none → P δ (supd s a (.dct []))) ∧ ∀ a as, as.length = n → Free s (a :: as) → ∃ ds s' s2, f as δ (supd s a (.dct [])) = some (ds, s') ∧ s' a = some (.dct []) ∧
    rest (δ.set i (some (.ref a))) (supd s' a (.dct (ks.zip ds))) = some (.rt d, s2) ∧ keepS s s2 = s
open Classical in
noncomputable def fOwnD (i n : Nat) (ks : List Str) (P : Fr → S → Prop) (f : FP) (rest : FS) : FS := fun δ s => if h : ∃ d, GoodD i n ks P f rest δ s d then some (.rt h.choose, s) else none
theorem fOwnD_eq {i n : Nat} {ks : List Str} {P : Fr → S → Prop} {f : FP} {rest : FS} {δ : Fr} {s : S} {d : D} (g : GoodD i n ks P f rest δ s d) : fOwnD i n ks P f rest δ s = some (.rt d, s) := by
  have h : ∃ d, GoodD i n ks P f rest δ s d := ⟨d, g⟩
  have e : h.choose = d := by
    obtain ⟨⟨a, as, hl, hf⟩, _, q⟩ := g
    obtain ⟨_, _, q'⟩ := h.choose_spec
    obtain ⟨ds, s1, s2, e1, _, e2, _⟩ := q a as hl hf
    obtain ⟨ds', s1', s3, e1', _, e3, _⟩ := q' a as hl hf
    rw [e1] at e1'
    cases e1'
    rw [e2] at e3
    injection e3 with e3
    injection e3 with e3
    injection e3 with e3
    exact e3.symm
  unfold fOwnD
  rw [dif_pos h, e]
theorem dss_ownD {sts : List Stmt} {i n : Nat} {x : Str} {p2 : Pos} {keys : List (Option Expr)} {values : List Expr} {ks : List Str} {P : Fr → S → Prop} {f : FP} {rest : FS} (hN : X.N.Nodup) (hi : X.N[i]? = some x) (hx : Loc X.env.scope x)
    (hd : DO X p2 keys values ks n P f) (h2 : PSs X sts (tDS X.K rest)) (hall : keys.all (·.isSome) = true := by rfl) (hl : keys.length = values.length := by rfl) (h0 : keys ≠ [] := by exact fun z => nomatch z) (h15 : keys.length ≤ 15 := by decide) (nd : ks.Nodup := by decide +kernel)
    (hs : swapsWith (.Dict keys values p2) (some (.Name x pos')) pos.line X.env = pure false := by rfl) (hf : X.fn x = true ∨ X.env.scope.names.lookup x = some .local := by first | exact .inl rfl | exact .inr rfl | assumption) :
    PSs X (.Assign [.Name x pos'] (.Dict keys values p2) pos :: sts) (tDS X.K (fOwnD i n ks P f rest)) := by
  obtain ⟨trs, t1, t2, t3⟩ := hd.ex
  refine imp_ss (pss_cons (ps_set hN hi hx (pe_disp t1 hall hl h0 h15) hs hf) h2) fun D σ H ⟨h, s, δ, o, s', er, si, q, w⟩ => ?_
  unfold fOwnD at q
  split at q
  rotate_left
  · cases q
  rename_i hg
  cases q
  obtain ⟨_, ok, q⟩ := hg.choose_spec
  intro p hp
  have g0 := Grow.alloc si hp (.dK []) (.dct []) ⟨[], rfl, rfl, .nil⟩
  have sp := none_of si hp
  refine t3 σ _ _ ⟨_, _, δ, er.mono (g0.ext si), g0.si, ok p sp, fun as ds s1 vs h' H' hln fr hn e g r hvl => ?_⟩
  have gg := g0.trans si g
  have fr' : Free s (p :: as) := fr.cons sp
  obtain ⟨ds', s1', s2, e1, e2, e3, ek⟩ := q p as hln fr'
  rw [e] at e1
  cases e1
  obtain ⟨kv0, k1, k2, k3⟩ := gg.si.ob p _ e2
  have hk0 : kv0 = [] := by
    cases kv0 with
    | nil => rfl
    | cons _ _ => cases k2
  subst hk0
  refine ⟨k1, (ks.zip vs).map (fun p => ((Sum.inr p.1 : Key), p.2)), ?_, ?_, ?_⟩
  · rw [List.map_map, List.zip_map_left]
    rfl
  · rw [List.length_map, List.length_zip, hvl]
    omega
  have hm : mergeK [] ((ks.zip vs).map fun p => ((Sum.inr p.1 : Key), p.2)) = (ks.zip vs).map fun p => ((Sum.inr p.1 : Key), p.2) := by
    refine merge_new _ [] ?_
    rw [List.nil_append, List.map_map]
    have e1 : (ks.zip vs).map ((fun x => x.1) ∘ fun p => ((Sum.inr p.1 : Key), p.2)) = ks.map fun k => (Sum.inr k : Key) := by
      have : ((fun x => x.1) ∘ fun (p : Str × V) => ((Sum.inr p.1 : Key), p.2)) = (fun k => (Sum.inr k : Key)) ∘ Prod.fst := rfl
      rw [this, ← List.map_map, List.map_fst_zip (by omega)]
    rw [e1]
    exact List.Pairwise.map _ (fun a b h e => h (Sum.inr.inj e)) nd
  rw [hm]
  have hdl : ds.length = ks.length := by rw [← r.length]; exact hvl
  have hkv : RepKV X.K (hide h' H') ((ks.zip vs).map fun p => ((Sum.inr p.1 : Key), p.2)) (ks.zip ds) := by
    refine ⟨?_, ?_⟩
    · rw [List.map_map]
      have a1 : (ks.zip vs).map ((fun x => x.1) ∘ fun p => ((Sum.inr p.1 : Key), p.2)) = ks.map fun k => (Sum.inr k : Key) := by
        have : ((fun x => x.1) ∘ fun (p : Str × V) => ((Sum.inr p.1 : Key), p.2)) = (fun k => (Sum.inr k : Key)) ∘ Prod.fst := rfl
        rw [this, ← List.map_map, List.map_fst_zip (by omega)]
      have a2 : (ks.zip ds).map (fun p => (Sum.inr p.1 : Key)) = ks.map fun k => (Sum.inr k : Key) := by
        have : (fun (p : Str × Fw.D) => (Sum.inr p.1 : Key)) = (fun k => (Sum.inr k : Key)) ∘ Prod.fst := rfl
        rw [this, ← List.map_map, List.map_fst_zip (by omega)]
      rw [a1, a2]
    · rw [List.map_map]
      have a1 : (ks.zip vs).map ((fun x => x.2) ∘ fun p => ((Sum.inr p.1 : Key), p.2)) = vs := by
        have : ((fun x => x.2) ∘ fun (p : Str × V) => ((Sum.inr p.1 : Key), p.2)) = Prod.snd := rfl
        rw [this, List.map_snd_zip (by omega)]
      rw [a1, List.map_snd_zip (by omega)]
      exact r
  have st4 := gg.si.putL (o := .dK ((ks.zip vs).map fun p => ((Sum.inr p.1 : Key), p.2))) (w := .dct (ks.zip ds)) e2 ⟨_, rfl, hkv⟩
  have g4 := gg.trans si (Grow.of st4)
  refine ⟨h', _, _, _, s2, (er.mono (g4.ext si)).set (.ref p) i, g4.si, e3, fun H2 st2 v r => ?_⟩
  obtain ⟨a1, a2⟩ := g4.done si st2
  rw [ek] at a1
  exact w H2 a1 v (Rep.mono a2 _ _ r)
end
end Fw

set_option Elab.async false
set_option linter.all false
set_option maxRecDepth 100000
namespace Fw
open PySem PySem.Spec PyProof.Rows L2
/-- the addresses of a world: the dict and its four lists -/
structure WC where
  a : Addr
  n : Addr
  o : Addr
  e : Addr
  p : Addr
  na : n ≠ a
  oa : o ≠ a
  ea : e ≠ a
  pa : p ≠ a
  on : o ≠ n
  en : e ≠ n
  pn : p ≠ n
  eo : e ≠ o
  po : p ≠ o
  pe : p ≠ e
def worldL (c : WC) (st rd : Nat) (h : String) : List (Str × D) :=
  [(Str.ofString "numbers", .ref c.n), (Str.ofString "open", .ref c.o), (Str.ofString "secret", .ref c.e), (Str.ofString "prints", .ref c.p), (Str.ofString "steps", .int st), (Str.ofString "rounds", .int rd), (Str.ofString "how", .str (Str.ofString h))]
def wst (s0 : S) (c : WC) (w : Wd) (h : String) : S := fun b =>
  if b = c.a then some (.dct (worldL c w.steps w.rounds h)) else if b = c.n then some (.lst (w.nums.map natD)) else if b = c.o then some (.lst (w.op.map natD)) else if b = c.e then some (.lst (w.sec.map natD)) else if b = c.p then some (.lst (w.prints.map natD)) else s0 b
section
variable {s0 : S} {c : WC} {w : Wd} {h : String}
@[simp] theorem wst_a : wst s0 c w h c.a = some (.dct (worldL c w.steps w.rounds h)) := by simp [wst]
@[simp] theorem wst_n : wst s0 c w h c.n = some (.lst (w.nums.map natD)) := by simp [wst, c.na]
@[simp] theorem wst_o : wst s0 c w h c.o = some (.lst (w.op.map natD)) := by simp [wst, c.oa, c.on]
@[simp] theorem wst_e : wst s0 c w h c.e = some (.lst (w.sec.map natD)) := by simp [wst, c.ea, c.en, c.eo]
@[simp] theorem wst_p : wst s0 c w h c.p = some (.lst (w.prints.map natD)) := by simp [wst, c.pa, c.pn, c.po, c.pe]
theorem supd_a {st rd : Nat} {h' : String} : supd (wst s0 c w h) c.a (.dct (worldL c st rd h')) = wst s0 c { w with steps := st, rounds := rd } h' := by
  funext b; unfold supd wst
  by_cases q : b = c.a
  · simp [q]
  · simp [q]
theorem supd_n {l : List Nat} : supd (wst s0 c w h) c.n (.lst (l.map natD)) = wst s0 c { w with nums := l } h := by
  funext b; unfold supd wst
  by_cases q : b = c.n
  · simp [q, c.na]
  · simp [q]
theorem supd_o {l : List Nat} : supd (wst s0 c w h) c.o (.lst (l.map natD)) = wst s0 c { w with op := l } h := by
  funext b; unfold supd wst
  by_cases q : b = c.o
  · simp [q, c.oa, c.on]
  · simp [q]
theorem supd_e {l : List Nat} : supd (wst s0 c w h) c.e (.lst (l.map natD)) = wst s0 c { w with sec := l } h := by
  funext b; unfold supd wst
  by_cases q : b = c.e
  · simp [q, c.ea, c.en, c.eo]
  · simp [q]
theorem supd_p {l : List Nat} : supd (wst s0 c w h) c.p (.lst (l.map natD)) = wst s0 c { w with prints := l } h := by
  funext b; unfold supd wst
  by_cases q : b = c.p
  · simp [q, c.pa, c.pn, c.po, c.pe]
  · simp [q]
@[simp] theorem wl_numbers {st rd : Nat} : (worldL c st rd h).lookup (Str.ofString "numbers") = some (.ref c.n) := by simp [worldL]
@[simp] theorem wl_open {st rd : Nat} : (worldL c st rd h).lookup (Str.ofString "open") = some (.ref c.o) := by simp [worldL, List.lookup_cons]
@[simp] theorem wl_secret {st rd : Nat} : (worldL c st rd h).lookup (Str.ofString "secret") = some (.ref c.e) := by simp [worldL, List.lookup_cons]
@[simp] theorem wl_prints {st rd : Nat} : (worldL c st rd h).lookup (Str.ofString "prints") = some (.ref c.p) := by simp [worldL, List.lookup_cons]
@[simp] theorem wl_steps {st rd : Nat} : (worldL c st rd h).lookup (Str.ofString "steps") = some (.int st) := by simp [worldL, List.lookup_cons]
@[simp] theorem wl_rounds {st rd : Nat} : (worldL c st rd h).lookup (Str.ofString "rounds") = some (.int rd) := by simp [worldL, List.lookup_cons]
@[simp] theorem wl_how {st rd : Nat} : (worldL c st rd h).lookup (Str.ofString "how") = some (.str (Str.ofString h)) := by simp [worldL, List.lookup_cons]
theorem wl_put_steps {st rd : Nat} : putD (worldL c st rd h) (Str.ofString "steps") (.int ((st : Int) + 1)) = worldL c (st + 1) rd h := by simp [worldL, putD]
theorem wl_put_rounds {st rd : Nat} : putD (worldL c st rd h) (Str.ofString "rounds") (.int ((rd : Int) + 1)) = worldL c st (rd + 1) h := by simp [worldL, putD]
theorem wl_put_how {st rd : Nat} {h' : String} : putD (worldL c st rd h) (Str.ofString "how") (.str (Str.ofString h')) = worldL c st rd h' := by simp [worldL, putD]
theorem wl_len {st rd : Nat} : (worldL c st rd h).length = 7 := rfl
variable {δ : Fr}
@[simp high] theorem k_steps : kPutD3 δ (wst s0 c w h) c.a (Str.ofString "steps") (.int ((w.steps : Int) + 1)) (some (.dct (worldL c w.steps w.rounds h))) = some (.nx δ, wst s0 c (bump w) h) := by
  rw [kPutD3_s, wl_put_steps, supd_a, wl_len]; rfl
@[simp high] theorem k_rounds : kPutD3 δ (wst s0 c w h) c.a (Str.ofString "rounds") (.int ((w.rounds : Int) + 1)) (some (.dct (worldL c w.steps w.rounds h))) = some (.nx δ, wst s0 c { w with rounds := w.rounds + 1 } h) := by
  rw [kPutD3_s, wl_put_rounds, supd_a, wl_len]; rfl
@[simp high] theorem k_how {h' : String} : kPutD3 δ (wst s0 c w h) c.a (Str.ofString "how") (.str (Str.ofString h')) (some (.dct (worldL c w.steps w.rounds h))) = some (.nx δ, wst s0 c w h') := by
  rw [kPutD3_s, wl_put_how, supd_a, wl_len]; rfl
theorem nat_get {l : List Nat} {x : Nat} (hx : x < l.length) : L2.atI (l.map natD) (x : Int) = some (.int ((l.getD x 0 : Nat) : Int)) := by
  rw [atI_cast, List.getElem?_map, List.getElem?_eq_getElem hx, List.getD_eq_getElem?_getD, List.getElem?_eq_getElem hx]
  rfl
theorem ixN_cast (m n : Nat) : ixN m (n : Int) = if n < m then some n else none := ixN_ofNat m n
theorem map_set_nat (l : List Nat) (x v : Nat) : (l.map natD).set x (.int (v : Int)) = (l.set x v).map natD := by rw [List.map_set]; rfl
theorem k_putn {x v : Nat} (hx : x < w.nums.length) : kPutIx3 δ (wst s0 c w h) c.n (x : Int) (.int (v : Int)) (some (.lst (w.nums.map natD))) = some (.nx δ, wst s0 c (setN w x v) h) := by
  rw [kPutIx3_s, List.length_map, ixN_cast, if_pos hx, kPutIx4_s, map_set_nat, supd_n]; rfl
theorem k_puto {x v : Nat} (hx : x < w.op.length) : kPutIx3 δ (wst s0 c w h) c.o (x : Int) (.int (v : Int)) (some (.lst (w.op.map natD))) = some (.nx δ, wst s0 c (setT w false x v) h) := by
  rw [kPutIx3_s, List.length_map, ixN_cast, if_pos hx, kPutIx4_s, map_set_nat, supd_o]; rfl
theorem k_pute {x v : Nat} (hx : x < w.sec.length) : kPutIx3 δ (wst s0 c w h) c.e (x : Int) (.int (v : Int)) (some (.lst (w.sec.map natD))) = some (.nx δ, wst s0 c (setT w true x v) h) := by
  rw [kPutIx3_s, List.length_map, ixN_cast, if_pos hx, kPutIx4_s, map_set_nat, supd_e]; rfl
theorem k_app {v : Nat} (hx : w.prints.length ≤ 10000000) : kApp3 c.p (.int (v : Int)) (wst s0 c w h) (some (.lst (w.prints.map natD))) = some (.non, wst s0 c { w with prints := w.prints ++ [v] } h) := by
  have e : w.prints.map natD ++ [D.int (v : Int)] = (w.prints ++ [v]).map natD := by rw [List.map_append]; rfl
  rw [kApp3_s, e, supd_p]
  simp [hx]
theorem intsD_nat : ∀ l : List Nat, intsD (l.map natD) = some (l.map fun (n : Nat) => (n : Int))
  | [] => rfl
  | n :: l => by rw [List.map_cons, List.map_cons]; show (intsD (l.map natD)).map _ = _; rw [intsD_nat l]; rfl
theorem sum_nat (w : Wd) : ∀ l : List Nat, (l.map fun t => ((num w t : Nat) : Int)).sum = ((sumN w l : Nat) : Int)
  | [] => rfl
  | t :: l => by rw [List.map_cons, List.sum_cons, sum_nat w l, sumN]; omega
end
def P_body (d : Nat) (g : FD) : Prop := ∀ (s0 : S) (c : WC) (m : Nat) (w : Wd) (b : List Sm), WOk m w → b.length ≤ 100 → smsOk m d b → w.steps + b.length * cst d ≤ 10000000 →
  g [.ref c.a, bodyD b] (wst s0 c w "ends") = some (.bl (exsM b w).2.isNone, wst s0 c (exsM b w).1 (howS (exsM b w).2))
def deepS : Sm → Bool
  | .ite _ _ _ => true
  | .times _ _ => true
  | .whl _ _ => true
  | _ => false
def P_inner (d : Nat) (g : FD) : Prop := ∀ (s0 : S) (c : WC) (m : Nat) (w : Wd) (a : Sm), WOk m w → deepS a = true → smOk m d a → w.steps + (cst d - 1) ≤ 10000000 →
  g [.ref c.a, smD a] (wst s0 c w "ends") = some (.bl (exM a w).2.isNone, wst s0 c (exM a w).1 (howS (exM a w).2))
end Fw
namespace Fw
open PySem PySem.Spec PyProof.Rows L2
section
variable {s0 : S} {c : WC} {v : Wd} {h : String} {δ : Fr}
theorem compL_num {i j : Nat} : ∀ (ts : List Nat), (∀ t ∈ ts, t < v.nums.length) → δ[j]? = some (some (.ref c.n)) → i < δ.length → i ≠ j →
    compL (gtName i) tTrue (f2 dIx (fVar j) (fVar i)) (ts.map natD) δ (wst s0 c v h) = some ((ts.map (num v)).map natD, wst s0 c v h)
  | [], _, _, _, _ => rfl
  | t :: ts, ht, hj, hi, hij => by
    have ih := compL_num ts (fun t h => ht t (List.mem_cons_of_mem _ h)) hj hi hij
    have hg := nat_get (ht t List.mem_cons_self)
    change L2.atI _ _ = some (D.int ((num v t : Nat) : Int)) at hg
    have e1 : f2 dIx (fVar j) (fVar i) (δ.set i (some (.int (t : Nat)))) (wst s0 c v h) = some (.int ((num v t : Nat) : Int), wst s0 c v h) := by
      have hj2 : (δ.set i (some (D.int (t : Nat))))[j]? = some (some (.ref c.n)) := by rw [List.getElem?_set_ne hij]; exact hj
      simp [hj2, set_get hi, hg]
    rw [List.map_cons, List.map_cons, List.map_cons, compL]
    show (f2 dIx (fVar j) (fVar i) (δ.set i (some (.int (t : Nat)))) (wst s0 c v h)).bind _ = _
    rw [e1]
    show (compL _ _ _ _ δ _).map _ = _
    rw [ih]
    rfl
theorem intsD_num (ts : List Nat) : intsD ((ts.map (num v)).map natD) = some (ts.map fun t => ((num v t : Nat) : Int)) := by
  rw [intsD_nat, List.map_map]; rfl
theorem modC (n k : Nat) : ((n : Int) + (k : Int)) % 10 = (((n + k) % 10 : Nat) : Int) := by omega
theorem divC (k : Nat) : (9 : Int) / (k : Int) = ((9 / k : Nat) : Int) := by
  rw [show (9 : Int) = ((9 : Nat) : Int) from rfl, Int.natCast_ediv]
theorem k_putm {x n k : Nat} (hx : x < v.nums.length) : kPutIx3 δ (wst s0 c v h) c.n (x : Int) (.int (((n : Int) + (k : Int)) % 10)) (some (.lst (v.nums.map natD))) = some (.nx δ, wst s0 c (setN v x ((n + k) % 10)) h) := by
  rw [modC]; exact k_putn hx
theorem k_putv {x k : Nat} (hx : x < v.nums.length) : kPutIx3 δ (wst s0 c v h) c.n (x : Int) (.int (9 / (k : Int))) (some (.lst (v.nums.map natD))) = some (.nx δ, wst s0 c (setN v x (9 / k)) h) := by
  rw [divC]; exact k_putn hx
end
end Fw
namespace Fw
open PySem PySem.Spec PyProof.Rows L2
def w0 (ns : List Nat) : Wd := { nums := ns, op := List.replicate 10 0, sec := List.replicate 10 0, prints := [], steps := 0, rounds := 0 }
/-- what a run ends with -/
def runD (b : List Sm) (ns : List Nat) : D :=
  let r := exsM b (w0 ns)
  .tup [strD (howS r.2), natsD r.1.nums, .tup [natsD r.1.op, natsD r.1.sec], natsD r.1.prints, natD r.1.steps]
def Fin (s : S) : Prop := ∃ N : Nat, ∀ a, N ≤ a → s a = none
def P_run (g : FD) : Prop := ∀ (s : S) (so : List Bool) (b : List Sm) (ns : List Nat), Fin s → smsOk ns.length 2 b → b.length ≤ 50 → ns.length ≤ 1000 → (∀ n ∈ ns, n < 10) → g [.tup [sortsD so, bodyD b], natsD ns] s = some (runD b ns, s)
end Fw
namespace Fw
open PySem PySem.Spec PyProof.Rows L2
theorem keep_wst {s : S} {c : WC} {w : Wd} {h : String} (ha : s c.a = none) (hn : s c.n = none) (ho : s c.o = none) (he : s c.e = none) (hp : s c.p = none) : keepS s (wst s c w h) = s := by
  funext b
  unfold keepS wst
  split
  · rename_i z; exact z.symm
  · rename_i z
    rw [if_neg (fun q => z (by rw [q]; exact ha)), if_neg (fun q => z (by rw [q]; exact hn)), if_neg (fun q => z (by rw [q]; exact ho)), if_neg (fun q => z (by rw [q]; exact he)), if_neg (fun q => z (by rw [q]; exact hp))]
theorem made_wst {s : S} {c : WC} {ns : List Nat} {u0 : OO} : supd (supd (supd (supd (supd (supd s c.a u0) c.n (.lst (ns.map natD))) c.o (.lst ((List.replicate 10 0).map natD))) c.e (.lst ((List.replicate 10 0).map natD))) c.p (.lst [])) c.a
    (.dct ([Str.ofString "numbers", Str.ofString "open", Str.ofString "secret", Str.ofString "prints", Str.ofString "steps", Str.ofString "rounds", Str.ofString "how"].zip [.ref c.n, .ref c.o, .ref c.e, .ref c.p, .int 0, .int 0, .str (Str.ofString "ends")])) = wst s c (w0 ns) "ends" := by
  funext b
  unfold supd wst
  by_cases h1 : b = c.a
  · rw [if_pos h1, if_pos h1]; rfl
  by_cases h2 : b = c.n
  · simp [h2, c.na, c.on.symm, c.en.symm, c.pn.symm, w0]
  by_cases h3 : b = c.o
  · simp [h3, c.oa, c.on, c.eo.symm, c.po.symm, w0]
  by_cases h4 : b = c.e
  · simp [h4, c.ea, c.en, c.eo, c.pe.symm, w0]
  by_cases h5 : b = c.p
  · simp [h5, c.pa, c.pn, c.po, c.pe, w0]
  simp [h1, h2, h3, h4, h5]
end Fw

set_option Elab.async false
set_option linter.all false
set_option maxRecDepth 100000
namespace Fw
open PySem PySem.Spec PyProof.Rows L2

/-! ### attributes of an owned instance -/
def putFD (f : Str) (d : D) : List (Str × D) → List (Str × D)
  | [] => [(f, d)]
  | (g, x) :: r => if g = f then (g, d) :: r else (g, x) :: putFD f d r
section
variable {K : PySem.W.Frag} {H : Hp} {f : Str} {v : V} {d : D}
theorem repfs_get : ∀ {vs : List (Str × V)} {ds : List (Str × D)}, RepFs K H vs ds → ds.lookup f = some d → ∃ v, vs.lookup f = some v ∧ Rep K H v d
  | [], [], _, e => by cases e
  | [], _ :: _, r, _ => by cases r.1
  | _ :: _, [], r, _ => by cases r.1
  | (k1, v1) :: vs, (k2, d2) :: ds, r, e => by
    obtain ⟨r1, r2⟩ := r
    have e1 : k1 = k2 ∧ vs.map (·.1) = ds.map (·.1) := by simpa using r1
    obtain ⟨rfl, e2⟩ := e1
    cases r2 with
    | cons a t =>
      rw [List.lookup_cons] at e ⊢
      cases hk : f == k1 with
      | true =>
        rw [hk] at e
        cases e
        exact ⟨v1, rfl, a⟩
      | false =>
        rw [hk] at e
        exact repfs_get ⟨e2, t⟩ e
theorem repfs_put (rv : Rep K H v d) : ∀ {vs : List (Str × V)} {ds : List (Str × D)}, RepFs K H vs ds → RepFs K H (putF f v vs) (putFD f d ds)
  | [], [], _ => ⟨rfl, .cons rv .nil⟩
  | [], _ :: _, r => by cases r.1
  | _ :: _, [], r => by cases r.1
  | (k1, v1) :: vs, (k2, d2) :: ds, r => by
    obtain ⟨r1, r2⟩ := r
    have e1 : k1 = k2 ∧ vs.map (·.1) = ds.map (·.1) := by simpa using r1
    obtain ⟨rfl, e2⟩ := e1
    cases r2 with
    | cons a t =>
      have ih := repfs_put rv ⟨e2, t⟩
      unfold putF putFD
      by_cases hk : k1 = f
      · rw [if_pos hk, if_pos hk]
        exact ⟨by simp [e2], .cons rv t⟩
      · rw [if_neg hk, if_neg hk]
        exact ⟨by simp [ih.1], .cons a ih.2⟩
theorem repfs_len {vs : List (Str × V)} {ds : List (Str × D)} (r : RepFs K H vs ds) : vs.length = ds.length := by have := congrArg List.length r.1; simpa using this
theorem len_putF (vs : List (Str × V)) : ∀ {ds : List (Str × D)}, vs.map (·.1) = ds.map (·.1) → (putF f v vs).length = (putFD f d ds).length := by
  induction vs with
  | nil => intro ds e; cases ds with
    | nil => rfl
    | cons _ _ => cases e
  | cons p vs ih => intro ds e; cases ds with
    | nil => cases e
    | cons q ds =>
      obtain ⟨g, x⟩ := p
      obtain ⟨g', x'⟩ := q
      have e1 : g = g' ∧ vs.map (·.1) = ds.map (·.1) := by simpa using e
      obtain ⟨rfl, e2⟩ := e1
      unfold putF putFD
      split
      · have := congrArg List.length e2; simpa using this
      · rw [List.length_cons, List.length_cons, ih e2]
theorem mem_put {C : Addr} {g : Str} {ds : List (Str × D)} (hn : ∀ p ∈ ds, NoAttr K C p.1) (h : NoAttr K C g) : ∀ p ∈ putFD g d ds, NoAttr K C p.1 := by
  induction ds with
  | nil => intro p hp; cases List.mem_singleton.mp hp; exact h
  | cons q ds ih =>
    obtain ⟨k, x⟩ := q
    intro p hp
    unfold putFD at hp
    split at hp
    · rcases List.mem_cons.mp hp with rfl | hp
      · exact hn (k, x) List.mem_cons_self
      · exact hn p (List.mem_cons_of_mem _ hp)
    · rcases List.mem_cons.mp hp with rfl | hp
      · exact hn (k, x) List.mem_cons_self
      · exact ih (fun p hp => hn p (List.mem_cons_of_mem _ hp)) p hp
theorem noattr_of {C : Addr} {ds : List (Str × D)} (hn : ∀ p ∈ ds, NoAttr K C p.1) (e : ds.lookup f = some d) : NoAttr K C f := by
  induction ds with
  | nil => cases e
  | cons q ds ih =>
    obtain ⟨k, x⟩ := q
    rw [List.lookup_cons] at e
    cases hk : f == k with
    | true =>
      have : f = k := eq_of_beq hk
      rw [this]
      exact hn (k, x) List.mem_cons_self
    | false =>
      rw [hk] at e
      exact ih (fun p hp => hn p (List.mem_cons_of_mem _ hp)) e
end
section
variable {X : Cx} {o e v : Expr} {f : Str} {fe fo fv : FE} {pos pos' tpos : Pos}
def k1 (g : G1) : Option (D × S) → Option (D × S) | some (x, s) => kR s (g x s) | none => none
@[simp] theorem k1_s {g : G1} {x : D} {s : S} : k1 g (some (x, s)) = kR s (g x s) := rfl
@[simp] theorem f1_e {g : G1} {δ : Fr} {s : S} : f1 g fe δ s = k1 g (fe δ s) := by
  unfold f1
  rcases fe δ s with _ | ⟨c, s1⟩
  · rfl
  · show (g c s1).map _ = kR s1 (g c s1)
    cases g c s1 <;> rfl
@[simp] def dFld (f : Str) : G1 := fun x s => match x with
  | .ref a => match s a with
    | some (.ins _ fs) => fs.lookup f
    | _ => none
  | _ => none
theorem d_fld (ho : PE X o (tD X.K fo)) (hb : attributeBase o f X.env (eval o X.env) = eval o X.env := by rfl) : PE X (.Attribute o f pos) (tD X.K (f1 (dFld f) fo)) := imp_e (pe_fld ho hb) fun σ H Q ⟨h, s, δ, d, s', er, si, q, w⟩ => by
  obtain ⟨⟨x, s1⟩, q1, q⟩ := bind_some q
  obtain ⟨z, q3, q⟩ := map_some q
  cases q
  cases x with
  | ref a =>
    refine ⟨h, s, δ, _, _, er, si, q1, fun vx H1 st1 r1 => ?_⟩
    unfold dFld at q3
    dsimp only at q3
    split at q3
    · rename_i C fs e
      obtain ⟨dx, vs, e2, hc, hn, rf⟩ := st1.si.ob _ _ e
      obtain ⟨vv, e3, r3⟩ := repfs_get rf q3
      exact ⟨a, C, dx, vs, vv, rep_ref r1, e2, hc, noattr_of hn q3, e3, w _ H1 st1 r3⟩
    · cases q3
  | _ => cases q3
def kFldS3 (δ : Fr) (f : Str) (v : D) (s : S) (a : Addr) : Option OO → Option (Out × S)
  | some (.ins C fs) => if ((fs.lookup f).isSome && decide (fs.length < 1000)) = true then some (.nx δ, supd s a (.ins C (putFD f v fs))) else none
  | _ => none
@[simp] theorem kFldS3_s {δ : Fr} {x : D} {s : S} {a C : Addr} {fs : List (Str × D)} : kFldS3 δ f x s a (some (.ins C fs)) = if ((fs.lookup f).isSome && decide (fs.length < 1000)) = true then some (.nx δ, supd s a (.ins C (putFD f x fs))) else none := rfl
def kFldS2 (δ : Fr) (f : Str) (v : D) : Option (D × S) → Option (Out × S) | some (.ref a, s) => kFldS3 δ f v s a (s a) | _ => none
@[simp] theorem kFldS2_s {δ : Fr} {x : D} {s : S} {a : Addr} : kFldS2 δ f x (some (.ref a, s)) = kFldS3 δ f x s a (s a) := rfl
def kFldS (fo : FE) (f : Str) (δ : Fr) : Option (D × S) → Option (Out × S) | some (v, s) => kFldS2 δ f v (fo δ s) | none => none
@[simp] theorem kFldS_s {δ : Fr} {x : D} {s : S} : kFldS fo f δ (some (x, s)) = kFldS2 δ f x (fo δ s) := rfl
/-- o.f = v, f an attribute that is there -/
def fFldS (fv fo : FE) (f : Str) : FS := fun δ s => kFldS fo f δ (fv δ s)
@[simp] theorem fFldS_e {δ : Fr} {s : S} : fFldS fv fo f δ s = kFldS fo f δ (fv δ s) := rfl
theorem ds_fld (ho : PE X o (tD X.K fo)) (hv : PE X v (tD X.K fv)) (hs : swapsWith v (some (.Attribute o f pos')) pos.line X.env = pure false := by rfl) : PS X (.Assign [.Attribute o f pos'] v pos) (tDS X.K (fFldS fv fo f)) := imp_s (ps_fld ho hv hs) fun D σ H ⟨h, s, δ, out, s', er, si, q, w⟩ => by
  unfold fFldS at q
  cases q1 : fv δ s with
  | none => rw [q1] at q; cases q
  | some pv =>
    obtain ⟨dv, s1⟩ := pv
    rw [q1] at q
    have q : kFldS2 δ f dv (fo δ s1) = some (out, s') := q
    refine ⟨h, s, δ, dv, s1, er, si, q1, fun vv H1 st1 r1 => ?_⟩
    cases q2 : fo δ s1 with
    | none => rw [q2] at q; cases q
    | some po =>
      obtain ⟨d_o, s2⟩ := po
      rw [q2] at q
      refine ⟨h, s1, δ, d_o, s2, er.mono (st1.ext si), st1.si, q2, fun vo H2 st2 r2 => ?_⟩
      cases d_o with
      | ref a =>
        have q : kFldS3 δ f dv s2 a (s2 a) = some (out, s') := q
        unfold kFldS3 at q
        split at q
        · rename_i C fs e
          split at q
          · rename_i hc
            cases q
            simp only [Bool.and_eq_true, decide_eq_true_eq] at hc
            obtain ⟨d0, e0⟩ := Option.isSome_iff_exists.mp hc.1
            obtain ⟨dx, vs, e2, cl, hn, rf⟩ := st2.si.ob _ _ e
            have na := noattr_of hn e0
            have st := st1.trans st2
            have rv : Rep X.K (hide h H2) vv dv := st2.rep st1.si r1
            have st4 := st2.si.putL (o := .ins C dx (putF f vv vs)) (w := .ins C (putFD f dv fs)) e ⟨dx, _, rfl, cl, mem_put hn na, repfs_put rv rf⟩
            exact ⟨a, C, dx, vs, rep_ref r2, e2, cl, na, by rw [repfs_len rf]; exact hc.2, w _ (st.trans st4) σ (er.mono ((st.trans st4).ext si))⟩
          · cases q
        · cases q
      | _ => cases q
def kFA4 (δ : Fr) (f : Str) (i : Int) (a C : Addr) (s : S) : D → Option OO → Option (Out × S)
  | .int j, some (.ins C' fs) => if (decide (C' = C) && ((fs.lookup f).isSome && decide (fs.length < 1000))) = true then some (.nx δ, supd s a (.ins C (putFD f (.int (i + j)) fs))) else none
  | _, _ => none
@[simp] theorem kFA4_s {δ : Fr} {s : S} {a C : Addr} {i j : Int} {fs : List (Str × D)} : kFA4 δ f i a C s (.int j) (some (.ins C fs)) = if ((fs.lookup f).isSome && decide (fs.length < 1000)) = true then some (.nx δ, supd s a (.ins C (putFD f (.int (i + j)) fs))) else none := by
  show (if (decide (C = C) && _) = true then _ else _) = _
  rw [decide_eq_true rfl, Bool.true_and]
def kFA3 (δ : Fr) (f : Str) (i : Int) (a C : Addr) : Option (D × S) → Option (Out × S) | some (d, s) => kFA4 δ f i a C s d (s a) | none => none
@[simp] theorem kFA3_s {δ : Fr} {s : S} {a C : Addr} {i : Int} {d : D} : kFA3 δ f i a C (some (d, s)) = kFA4 δ f i a C s d (s a) := rfl
def kFA2 (fv : FE) (δ : Fr) (f : Str) (a C : Addr) (s : S) : Option D → Option (Out × S) | some (.int i) => kFA3 δ f i a C (fv δ s) | _ => none
@[simp] theorem kFA2_s {δ : Fr} {s : S} {a C : Addr} {i : Int} : kFA2 fv δ f a C s (some (.int i)) = kFA3 δ f i a C (fv δ s) := rfl
def kFA1 (fv : FE) (δ : Fr) (f : Str) (a : Addr) (s : S) : Option OO → Option (Out × S) | some (.ins C fs) => kFA2 fv δ f a C s (fs.lookup f) | _ => none
@[simp] theorem kFA1_s {δ : Fr} {s : S} {a C : Addr} {fs : List (Str × D)} : kFA1 fv δ f a s (some (.ins C fs)) = kFA2 fv δ f a C s (fs.lookup f) := rfl
def kFA (fv : FE) (δ : Fr) (f : Str) : Option (D × S) → Option (Out × S) | some (.ref a, s) => kFA1 fv δ f a s (s a) | _ => none
@[simp] theorem kFA_s {δ : Fr} {s : S} {a : Addr} : kFA fv δ f (some (.ref a, s)) = kFA1 fv δ f a s (s a) := rfl
/-- o.f += v of ints -/
def fFldA (fo fv : FE) (f : Str) : FS := fun δ s => kFA fv δ f (fo δ s)
@[simp] theorem fFldA_e {δ : Fr} {s : S} : fFldA fo fv f δ s = kFA fv δ f (fo δ s) := rfl
theorem ds_fldA (ho : PE X o (tD X.K fo)) (hv : PE X v (tD X.K fv)) : PS X (.AugAssign (.Attribute o f tpos) .Add v pos) (tDS X.K (fFldA fo fv f)) := imp_s (ps_fldaug ho hv in_add) fun D σ H ⟨h, s, δ, out, s', er, si, q, w⟩ => by
  unfold fFldA at q
  cases q1 : fo δ s with
  | none => rw [q1] at q; cases q
  | some po =>
    obtain ⟨d_o, s1⟩ := po
    rw [q1] at q
    cases d_o with
    | ref a =>
      have q : kFA1 fv δ f a s1 (s1 a) = some (out, s') := q
      refine ⟨h, s, δ, .ref a, s1, er, si, q1, fun vo H1 st1 r1 => ?_⟩
      unfold kFA1 at q
      split at q
      rotate_left
      · cases q
      rename_i C fs e
      unfold kFA2 at q
      split at q
      rotate_left
      · cases q
      rename_i i e0
      obtain ⟨dx, vs, e2, cl, hn, rf⟩ := st1.si.ob _ _ e
      obtain ⟨v0, e3, r3⟩ := repfs_get rf e0
      refine ⟨a, C, dx, vs, v0, rep_ref r1, e2, cl, noattr_of hn e0, e3, ?_⟩
      cases q2 : fv δ s1 with
      | none => rw [q2] at q; cases q
      | some pv =>
        obtain ⟨dv, s2⟩ := pv
        rw [q2] at q
        have q : kFA4 δ f i a C s2 dv (s2 a) = some (out, s') := q
        refine ⟨h, s1, δ, dv, s2, er.mono (st1.ext si), st1.si, q2, fun vv H2 st2 r2 => ?_⟩
        unfold kFA4 at q
        split at q
        · rename_i j C' fs' e4 ex
          split at q
          · rename_i hc
            cases q
            simp only [Bool.and_eq_true, decide_eq_true_eq] at hc
            obtain ⟨dx', vs', e5, cl', hn', rf'⟩ := st2.si.ob _ _ e4
            obtain ⟨d0, e6⟩ := Option.isSome_iff_exists.mp hc.2.1
            have na := noattr_of hn' e6
            have st := st1.trans st2
            have rj : Rep X.K (hide h H2) (.int (i + j)) (.int (i + j)) := .int _
            have hcc : C' = C := hc.1
            subst hcc
            have st4 := st2.si.putL (o := .ins C' dx' (putF f (.int (i + j)) vs')) (w := .ins C' (putFD f (.int (i + j)) fs')) e4 ⟨dx', _, rfl, cl', mem_put hn' na, repfs_put rj rf'⟩
            refine ⟨i, j, rep_int r3, rep_int r2, dx', vs', e5, by rw [repfs_len rf']; exact hc.2.2, ?_⟩
            exact w _ (st.trans st4) σ (er.mono ((st.trans st4).ext si))
          · cases q
        · cases q
    | _ => cases q
end
end Fw

set_option Elab.async false
set_option linter.all false
set_option maxRecDepth 100000
namespace Fw
open PySem PySem.Spec PyProof.Rows L2

/-! ### what the module holds and nobody changes -/
structure Gc (K : PySem.W.Frag) (mg : Str → Option Value) (x : Str) (d : D) : Prop where
  ex : ∃ u v, mg x = some u ∧ RelV v u ∧ ∀ H, Rep K H v d
/-- a dict of texts -/
structure GK (K : PySem.W.Frag) (w : World) (kvs : List (Str × D)) (a : Addr) : Prop where
  kd : ∃ es n, KDict K w a es n
  ns : ∀ z, ∃ r, PySem.W.nsIn K a z = some r ∧ r.isSome = (kvs.lookup z).isSome ∧ ∀ d, kvs.lookup z = some d → ∃ u v, r = some u ∧ RelV v u ∧ ∀ H, Rep K H v d
@[simp] def dInK (kvs : List (Str × D)) (a : Addr) : G2 := fun x y _ => match x, y with
  | .str z, .ref b => if b = a then some (.bl (kvs.lookup z).isSome) else none
  | _, _ => none
@[simp] def dNotInK (kvs : List (Str × D)) (a : Addr) : G2 := fun x y _ => match x, y with
  | .str z, .ref b => if b = a then some (.bl (!(kvs.lookup z).isSome)) else none
  | _, _ => none
@[simp] def dItemK (kvs : List (Str × D)) (a : Addr) : G2 := fun x y _ => match x, y with
  | .ref b, .str z => if b = a then kvs.lookup z else none
  | _, _ => none
theorem g_inK {K : PySem.W.Frag} {w : World} {kvs : List (Str × D)} {a : Addr} (G : GK K w kvs a) : GOp K (fun x y H Q => ∃ (z : Str) (r : Option Value), x = .str z ∧ y = .ref a ∧ PySem.W.nsIn K a z = some r ∧ Q (.bl r.isSome) H) (dInK kvs a) := by
  intro h s H x y dx dy d Q si rx ry q w
  unfold dInK at q
  split at q
  · rename_i z b
    split at q
    · rename_i hb
      subst hb
      cases q
      obtain ⟨r, e1, e2, _⟩ := G.ns z
      exact ⟨z, r, rep_str rx, rep_ref ry, e1, w _ H (Step.refl si) (by rw [e2]; exact .bl _)⟩
    · cases q
  · cases q
theorem g_notInK {K : PySem.W.Frag} {w : World} {kvs : List (Str × D)} {a : Addr} (G : GK K w kvs a) : GOp K (fun x y H Q => ∃ (z : Str) (r : Option Value), x = .str z ∧ y = .ref a ∧ PySem.W.nsIn K a z = some r ∧ Q (.bl (!r.isSome)) H) (dNotInK kvs a) := by
  intro h s H x y dx dy d Q si rx ry q w
  unfold dNotInK at q
  split at q
  · rename_i z b
    split at q
    · rename_i hb
      subst hb
      cases q
      obtain ⟨r, e1, e2, _⟩ := G.ns z
      exact ⟨z, r, rep_str rx, rep_ref ry, e1, w _ H (Step.refl si) (by rw [e2]; exact .bl _)⟩
    · cases q
  · cases q
theorem g_itemK {K : PySem.W.Frag} {w : World} {kvs : List (Str × D)} {a : Addr} (G : GK K w kvs a) : GOp K (fun x y H Q => ∃ (z : Str) (u0 : Value) (v0 : V), x = .ref a ∧ y = .str z ∧ PySem.W.nsIn K a z = some (some u0) ∧ RelV v0 u0 ∧ Q v0 H) (dItemK kvs a) := by
  intro h s H x y dx dy d Q si rx ry q w
  unfold dItemK at q
  split at q
  · rename_i b z
    split at q
    · rename_i hb
      subst hb
      obtain ⟨r, e1, _, e3⟩ := G.ns z
      obtain ⟨u, v, rfl, rl, rp⟩ := e3 d q
      exact ⟨z, u, v, rep_ref rx, rep_str ry, e1, rl, w _ H (Step.refl si) (rp _)⟩
    · cases q
  · cases q
section
variable {X : Cx} {o e i v : Expr} {es : List Expr} {x : Str} {fe fo fi fv : FE} {fs : FA} {pos p : Pos} {kvs : List (Str × D)} {a : Addr}
theorem d_gc {d : D} (G : Gc X.K X.mg x d) (hg : Gl X x) (hd : (x == ("__debug__" : Str)) = false := by decide) : PE X (.Name x pos) (tD X.K (fC d)) := by
  obtain ⟨u, v, hm, r, rp⟩ := G.ex
  refine imp_e (pe_glob hg hm r hd) fun σ H Q ⟨h, s, δ, d', s', er, si, q, w⟩ => ?_
  cases q
  exact w v H (Step.refl si) (rp _)
theorem d_inK (G : GK X.K X.w kvs a) (he : PE X e (tD X.K fe)) (ho : PE X o (tD X.K fo)) (hm : behindInMarks .In o = false := by rfl) : PE X (.Compare e [.In] [o] pos) (tD X.K (f2 (dInK kvs a) fe fo)) := by
  obtain ⟨es, n, D⟩ := G.kd
  exact d_cmp (op_in_kd D) (g_inK G) he ho hm
theorem d_notInK (G : GK X.K X.w kvs a) (he : PE X e (tD X.K fe)) (ho : PE X o (tD X.K fo)) (hm : behindInMarks .NotIn o = false := by rfl) : PE X (.Compare e [.NotIn] [o] pos) (tD X.K (f2 (dNotInK kvs a) fe fo)) := by
  obtain ⟨es, n, D⟩ := G.kd
  exact d_cmp (op_notIn_kd D) (g_notInK G) he ho hm
theorem dt_inK (G : GK X.K X.w kvs a) (he : PE X e (tD X.K fe)) (ho : PE X o (tD X.K fo)) (hm : behindInMarks .In o = false := by rfl) : PT X (.Compare e [.In] [o] pos) (tDT X.K (fT (f2 (dInK kvs a) fe fo))) := by
  obtain ⟨es, n, D⟩ := G.kd
  exact dt_cmp (op_in_kd D) (g_inK G) he ho hm
theorem dt_notInK (G : GK X.K X.w kvs a) (he : PE X e (tD X.K fe)) (ho : PE X o (tD X.K fo)) (hm : behindInMarks .NotIn o = false := by rfl) : PT X (.Compare e [.NotIn] [o] pos) (tDT X.K (fT (f2 (dNotInK kvs a) fe fo))) := by
  obtain ⟨es, n, D⟩ := G.kd
  exact dt_cmp (op_notIn_kd D) (g_notInK G) he ho hm
theorem g_rIxD {K : PySem.W.Frag} {w : World} (G : GK K w kvs a) : GOp K (rIxD K w) (dItemK kvs a) := by
  intro h s H x y dx dy d Q si rx ry q wq
  unfold dItemK at q
  split at q
  · rename_i b z
    split at q
    · rename_i hb
      subst hb
      obtain ⟨r, e1, _, e3⟩ := G.ns z
      obtain ⟨u, v, rfl, rl, rp⟩ := e3 d q
      obtain ⟨es, n, D⟩ := G.kd
      exact ⟨b, z, v, rep_ref rx, rep_str ry, ⟨es, n, u, D.at_, D.lit, e1, rl⟩, wq _ H (Step.refl si) (rp _)⟩
    · cases q
  · cases q
theorem d_itemK (G : GK X.K X.w kvs a) (ho : PE X o (tD X.K fo)) (hi : PE X i (tD X.K fi)) (hs : PlainIx i) : PE X (.Subscript o i pos) (tD X.K (f2 (dItemK kvs a) fo fi)) := d_2 ho hi (g_rIxD G) (pe_ix ix_kdict ho hi hs)
/-- a local name that holds one of some defs is called -/
def kCallA (n : Nat) (tb : Addr → Option FD) (fs : FA) (δ : Fr) (s : S) : Option (Option D) → Option (D × S)
  | some (some (.ref f)) => (match tb f with | some g => fCall n g fs δ s | none => none)
  | _ => none
def fCallA (n i : Nat) (tb : Addr → Option FD) (fs : FA) : FE := fun δ s => kCallA n tb fs δ s δ[i]?
@[simp] theorem fCallA_e {n i : Nat} {tb : Addr → Option FD} {δ : Fr} {s : S} : fCallA n i tb fs δ s = kCallA n tb fs δ s δ[i]? := rfl
@[simp] theorem kCallA_s {n : Nat} {tb : Addr → Option FD} {δ : Fr} {s : S} {f : Addr} : kCallA n tb fs δ s (some (some (.ref f))) = (match tb f with | some g => fCall n g fs δ s | none => none) := rfl
theorem d_callA {n k j : Nat} {tb : Addr → Option FD} {x : Str} (A : ∀ f g, tb f = some g → Held X.prog X.w X.K X.mg X.base k f (spD X.K n g)) (hr : Room k X.A) (hN : X.N[j]? = some x) (hv : Vis X.env.scope x) (ha : PA X (e :: es) (tDA X.K fs))
    (hdb : (x == ("__debug__" : Str)) = false := by decide) (hcd : (x == ("__classdict__" : Str)) = false := by decide)
    (he : starEach (e :: es) X.env = (false, eval e X.env) :: starEach es X.env := by rfl) (hpl : (backTo pos (starEach es X.env)).any (·.1) = false := by rfl) : PE X (.Call (.Name x p) (e :: es) [] pos) (tD X.K (fCallA n j tb fs)) :=
  imp_e (pe_callA (S := fun f => (tb f).map (spD X.K n)) (fun f sp h => by
    obtain ⟨g, h1, h2⟩ := map_some h
    subst h2
    exact A f g h1) hr hN hv ha hdb hcd he hpl) fun σ H Q ⟨h, s, δ, d, s', er, si, q, w⟩ => by
  unfold fCallA kCallA at q
  split at q
  rotate_left
  · cases q
  rename_i f e1
  split at q
  rotate_left
  · cases q
  rename_i g e2
  obtain ⟨v, e3, r3⟩ := er.at_ _ _ e1
  cases rep_ref r3
  obtain ⟨⟨xs, s1⟩, q1, q⟩ := bind_some q
  split at q
  rotate_left
  · cases q
  rename_i hl
  refine ⟨f, spD X.K n g, e3, by show (tb f).map _ = _; rw [e2]; rfl, h, s, δ, xs, s1, er, si, q1, fun vs H1 st1 r1 => ?_⟩
  exact ⟨h, s1, xs, d, s', r1, hl, st1.si, q, fun v H2 st2 r2 => w v H2 (st1.trans st2) r2⟩
theorem held_of {P : Program} {w : World} {K : PySem.W.Frag} {mg : Str → Option Value} {base : Heap} {x : Str} {n k : Nat} {g : FD} (F : Kn P w K mg base x n k g) : ∃ f, mg x = some (.ref f) ∧ Held P w K mg base k f (spD K n g) :=
  let ⟨f, fd, ps, a, b, c, d⟩ := F.ex; ⟨f, d, ⟨fd, ps, a, c, b⟩⟩
end

/-! ### while -/
def loopW (tt : FT) (fb : FS) : Nat → Fr → S → Option (Out × S)
  | 0, _, _ => none
  | n + 1, δ, s => (tt δ s).bind fun p => if p.1 = true then (fb δ p.2).bind fun q => match q.1 with
      | .nx δ2 => loopW tt fb n δ2 q.2
      | .ct δ2 => loopW tt fb n δ2 q.2
      | .bk δ2 => some (.nx δ2, q.2)
      | .rt d => some (.rt d, q.2)
    else some (.nx δ, p.2)
def fWhile (n : Nat) (tt : FT) (fb : FS) : FS := fun δ s => loopW tt fb n δ s
@[simp] theorem fWhile_e {n : Nat} {tt : FT} {fb : FS} {δ : Fr} {s : S} : fWhile n tt fb δ s = loopW tt fb n δ s := rfl
theorem ds_while {X : Cx} {c : Expr} {body : List Stmt} {pos : Pos} {tt : FT} {fb : FS} (n : Nat) (hp : PassesOwn (model X.prog X.w) X.A X.env X.xe) (hc : PT X c (tDT X.K tt)) (hb : PSs X body (tDS X.K fb)) : PS X (.While c body [] pos) (tDS X.K (fWhile n tt fb)) := imp_s (ps_while hp hc hb) fun D σ H ⟨h, s, δ, o, s', er, si, q, w⟩ => by
  refine ⟨fun m σ2 H2 => ∃ s2 δ2, Step X.K h s H s2 H2 ∧ EnvR X.K (hide h H2) σ2 δ2 ∧ loopW tt fb m δ2 s2 = some (o, s'), ⟨n, s, δ, Step.refl si, er, q⟩, ?_⟩
  rintro m σ2 H2 ⟨s2, δ2, st2, er2, q2⟩
  cases m with
  | zero => cases q2
  | succ m =>
    obtain ⟨⟨b, s3⟩, q3, q2⟩ := bind_some q2
    refine ⟨h, s2, δ2, b, s3, er2, st2.si, q3, fun H3 st3 => ?_⟩
    cases b with
    | true =>
      obtain ⟨⟨o4, s4⟩, q4, q2⟩ := bind_some q2
      refine ⟨fun σ' H' => ∃ s2 δ2, Step X.K h s H s2 H' ∧ EnvR X.K (hide h H') σ' δ2 ∧ loopW tt fb m δ2 s2 = some (o, s'), fun σ' H' z => ⟨m, Nat.lt_succ_self m, z⟩, ?_⟩
      refine ⟨h, s3, δ2, o4, s4, er2.mono (st3.ext st2.si), st3.si, q4, fun H4 st4 => ?_⟩
      have st14 : Step X.K h s H s4 H4 := st2.trans (st3.trans st4)
      cases o4 with
      | nx δ4 => exact fun σ' er' => ⟨s4, δ4, st14, er', q2⟩
      | ct δ4 => exact fun σ' er' => ⟨s4, δ4, st14, er', q2⟩
      | bk δ4 => cases q2; exact w H4 st14
      | rt d => cases q2; exact w H4 st14
    | false =>
      cases q2
      exact w H3 (st2.trans st3) σ2 (er2.mono (st3.ext st2.si))
end Fw

set_option Elab.async false
set_option linter.all false
set_option maxRecDepth 100000
namespace Fw
open PySem PySem.Spec PyProof.Rows L2
/-! ### the program's own checks, of what is as it should be -/
def P_is_pair (g : FD) : Prop := ∀ (a b : D) (s : S), g [.tup [a, b]] s = some (.bl true, s)
def P_is_sort (g : FD) : Prop := ∀ (t : Bool) (s : S), g [sortD t] s = some (.bl true, s)
def P_is_number (g : FD) : Prop := ∀ (n : Nat) (k : Int) (s : S), (n : Int) ≤ k → g [.int n, .int k] s = some (.bl true, s)
def P_is_sorts (g : FD) : Prop := ∀ (so : List Bool) (s : S), 1 ≤ so.length → so.length ≤ 6 → g [sortsD so] s = some (.bl true, s)
def P_is_terms (g : FD) : Prop := ∀ (ts : List Nat) (m : Nat) (s : S), ts.length ≤ 2 → (∀ t ∈ ts, t < m) → g [natsD ts, .int m] s = some (.bl true, s)
def P_is_statement (d : Nat) (g : FD) : Prop := ∀ (a : Sm) (m k : Nat) (s : S), smOk m d a → k + d ≤ 2 → g [smD a, .int m, .int k] s = some (.bl true, s)
def P_is_body (d : Nat) (g : FD) : Prop := ∀ (b : List Sm) (m most k : Nat) (s : S), smsOk m d b → b.length ≤ most → most ≤ 1000 → k + d ≤ 2 → g [bodyD b, .int m, .int most, .int k] s = some (.bl true, s)
def P_is_item (d : Nat) (g : FD) : Prop := ∀ (m k : Nat) (s : S), k + d ≤ 2 → (∀ x : Nat, x < m → g [strD "name", natD x, .int m, .int k] s = some (.bl true, s)) ∧ (∀ n : Nat, n ≤ 9 → g [strD "number", natD n, .int m, .int k] s = some (.bl true, s)) ∧
  (∀ n : Nat, n ≤ 3 → g [strD "turns", natD n, .int m, .int k] s = some (.bl true, s)) ∧ (∀ t : Bool, g [strD "sort", sortD t, .int m, .int k] s = some (.bl true, s)) ∧
  (∀ ts : List Nat, ts.length ≤ 2 → (∀ t ∈ ts, t < m) → g [strD "terms", natsD ts, .int m, .int k] s = some (.bl true, s)) ∧ (∀ b : List Sm, 0 < d → smsOk m (d - 1) b → b.length ≤ 4 → g [strD "body", bodyD b, .int m, .int k] s = some (.bl true, s))
def P_is_whole_body (g : FD) : Prop := ∀ (b : List Sm) (m : Nat) (s : S), smsOk m 2 b → b.length ≤ 8 → g [bodyD b, .int m] s = some (.bl true, s)
def P_check_program (g : FD) : Prop := ∀ (so : List Bool) (b : List Sm) (s : S), 1 ≤ so.length → so.length ≤ 6 → smsOk so.length 2 b → b.length ≤ 8 → g [.tup [sortsD so, bodyD b]] s = some (.non, s)
/-- a comprehension of trues -/
theorem compL_true {ft : FG} {fe : FE} {δ : Fr} {s : S} (ds : List D) (h : ∀ d ∈ ds, ∃ δ1, ft d δ = some δ1 ∧ fe δ1 s = some (.bl true, s)) : compL ft tTrue fe ds δ s = some (List.replicate ds.length (.bl true), s) := by
  rw [compL_map (fun _ => .bl true) ds h, List.map_const']
@[simp] theorem blsD_true : ∀ n : Nat, blsD (List.replicate n (.bl true)) = some (List.replicate n true)
  | 0 => rfl
  | n + 1 => by rw [List.replicate_succ, List.replicate_succ]; show (blsD _).map _ = _; rw [blsD_true n]; rfl
@[simp] theorem all_true (n : Nat) : (List.replicate n true).all id = true := by
  induction n with
  | zero => rfl
  | succ n ih => rw [List.replicate_succ, List.all_cons, ih]; rfl
def formsL : List (Str × D) := [(Str.ofString "sum", .tup [strD "name", strD "terms", strD "number"]), (Str.ofString "if", .tup [strD "name", strD "body", strD "body"]), (Str.ofString "times", .tup [strD "turns", strD "body"]), (Str.ofString "while", .tup [strD "name", strD "body"]),
  (Str.ofString "print", .tup [strD "name"]), (Str.ofString "stop", .tup []), (Str.ofString "split", .tup [strD "name", strD "name"]), (Str.ofString "keep", .tup [strD "sort", strD "name", strD "name"]), (Str.ofString "fetch", .tup [strD "sort", strD "name", strD "name"])]
end Fw

set_option Elab.async false
set_option linter.all false
set_option maxRecDepth 100000
namespace Fw
open PySem PySem.Spec PyProof.Rows L2

/-! ### statements that make things: the new addresses are named -/
abbrev FGS := List Addr → Fr → S → Option (Fr × S)
def tGS (K : PySem.W.Frag) (n : Nat) (P : Fr → S → Prop) (f : FGS) : TS := fun D σ H => ∃ (h : Addr → Bool) (s : S) (δ : Fr), EnvR K (hide h H) σ δ ∧ SI K h s H ∧ P δ s ∧
  ∀ as δ' s' σ' h' H', as.length = n → Free s as → (∀ a ∈ as, H a = none) → f as δ s = some (δ', s') → Grow K h s H h' s' H' → EnvR K (hide h' H') σ' δ' → D.nx σ' H'
section
variable {X : Cx} {o e v : Expr} {st : Stmt} {sts : List Stmt} {fe fv : FE} {fo : FOw} {pos pos' : Pos} {n n1 n2 : Nat} {P P1 P2 : Fr → S → Prop} {f f1 f2 : FGS}
def gNilS : FGS := fun as δ s => match as with
  | [] => some (δ, s)
  | _ => none
theorem gs_nil : PSs X [] (tGS X.K 0 (fun _ _ => True) gNilS) := imp_ss pss_nil fun D σ H ⟨h, s, δ, er, si, _, w⟩ =>
  w [] δ s σ h H rfl ⟨.nil, fun _ z => nomatch z⟩ (fun _ z => nomatch z) rfl (Grow.of (Step.refl si)) er
def gSeqS (n1 : Nat) (f1 f2 : FGS) : FGS := fun as δ s => (f1 (as.take n1) δ s).bind fun r => f2 (as.drop n1) r.1 r.2
def qSeqS (n1 : Nat) (P1 P2 : Fr → S → Prop) (f1 : FGS) : Fr → S → Prop := fun δ s => P1 δ s ∧ ∀ as δ' s', as.length = n1 → Free s as → f1 as δ s = some (δ', s') → P2 δ' s' ∧ ∀ a ∈ as, s' a ≠ none
theorem gs_cons (h1 : PS X st (tGS X.K n1 P1 f1)) (h2 : PSs X sts (tGS X.K n2 P2 f2)) : PSs X (st :: sts) (tGS X.K (n1 + n2) (qSeqS n1 P1 P2 f1) (gSeqS n1 f1 f2)) := imp_ss (pss_cons h1 h2) fun D σ H ⟨h, s, δ, er, si, ⟨p1, p2⟩, w⟩ => by
  refine ⟨h, s, δ, er, si, p1, fun as δ1 s1 σ1 h1 H1 hl hf hn e1 g1 er1 => ?_⟩
  obtain ⟨q2, own⟩ := p2 as δ1 s1 hl hf e1
  refine ⟨h1, s1, δ1, er1, g1.si, q2, fun bs δ2 s2 σ2 h2 H2 hl2 hf2 hn2 e2 g2 er2 => ?_⟩
  have hb : ∀ b ∈ bs, H b = none := fun b hb => g1.back si (hn2 b hb)
  refine w (as ++ bs) δ2 s2 σ2 h2 H2 (by rw [List.length_append, hl, hl2]) ⟨?_, ?_⟩ ?_ ?_ (g1.trans si g2) er2
  · refine List.nodup_append.mpr ⟨hf.1, hf2.1, fun a ha b hb e => own a ha ?_⟩
    rw [e]; exact hf2.2 b hb
  · intro a ha
    rcases List.mem_append.mp ha with ha | ha
    · exact hf.2 a ha
    · exact none_of si (hb a ha)
  · intro a ha
    rcases List.mem_append.mp ha with ha | ha
    · exact hn a ha
    · exact hb a ha
  · unfold gSeqS
    rw [← hl, List.take_left' rfl, List.drop_left' rfl, e1]
    exact e2
/-- an attribute is put into an owned instance -/
theorem put_ins {K : PySem.W.Frag} {h : Addr → Bool} {s : S} {H : Hp} {x C : Addr} {fs : List (Str × Fw.D)} {y : V} {d : Fw.D} {g : Str} (si : SI K h s H) (e : s x = some (.ins C fs)) (na : NoAttr K C g) (ry : Rep K (hide h H) y d) :
    ∃ dx vs, H x = some (.ins C dx vs) ∧ Cls K C ∧ vs.length = fs.length ∧ Step K h s H (supd s x (.ins C (putFD g d fs))) (upd H x (.ins C dx (putF g y vs))) := by
  obtain ⟨dx, vs, e2, cl, hn, rf⟩ := si.ob _ _ e
  exact ⟨dx, vs, e2, cl, repfs_len rf, si.putL (o := .ins C dx (putF g y vs)) (w := .ins C (putFD g d fs)) e ⟨dx, _, rfl, cl, mem_put hn na, repfs_put ry rf⟩⟩
/-- self.g = what is made for it -/
def gOwnS (i : Nat) (g : Str) (fo : FOw) : FGS := fun as δ s => match as with
  | [a] => (fo δ s).bind fun p => match δ[i]? with
    | some (some (.ref x)) => (match p.2 x with
      | some (.ins C fs) => some (δ, supd (supd p.2 a p.1) x (.ins C (putFD g (.ref a) fs)))
      | _ => none)
    | _ => none
  | _ => none
def qOwnS (i : Nat) (C : Addr) (fo : FOw) : Fr → S → Prop := fun δ s => ∃ u x fs, fo δ s = some (u, s) ∧ δ[i]? = some (some (.ref x)) ∧ s x = some (.ins C fs) ∧ fs.length < 1000
theorem gs_own {i : Nat} {g : Str} {C : Addr} (na : NoAttr X.K C g) (ho : PE X o (tD X.K (fVar i))) (hv : PE X v (tO X.K fo)) (hs : swapsWith v (some (.Attribute o g pos')) pos.line X.env = pure false := by rfl) :
    PS X (.Assign [.Attribute o g pos'] v pos) (tGS X.K 1 (qOwnS i C fo) (gOwnS i g fo)) := imp_s (ps_fld ho hv hs) fun D σ H ⟨h, s, δ, er, si, ⟨u, x, fs, e1, e2, e3, e4⟩, w⟩ => by
  refine ⟨h, s, δ, u, s, er, si, e1, fun a h1 H1 ha g1 => ?_⟩
  have er1 := er.mono (g1.ext si)
  have hxa : x ≠ a := fun e => by rw [← e] at ha; exact absurd (none_of si ha) (by rw [e3]; exact fun z => nomatch z)
  have e3' : (supd s a u) x = some (.ins C fs) := by rw [supd_ne hxa]; exact e3
  refine ⟨h1, _, δ, .ref x, _, er1, g1.si, by unfold fVar; rw [e2], fun vx H2 st2 r2 => ?_⟩
  obtain ⟨dx, vs, k1, k2, k3, k4⟩ := put_ins (g := g) (y := .ref a) (d := .ref a) st2.si e3' na (.ref a)
  refine ⟨x, C, dx, vs, rep_ref r2, k1, k2, na, by rw [k3]; exact e4, ?_⟩
  have gg := (g1.trans si (Grow.of st2)).trans si (Grow.of k4)
  exact w [a] δ _ σ h1 _ rfl ⟨List.nodup_cons.mpr ⟨(fun z => nomatch z), List.Pairwise.nil⟩, fun b hb => by rw [List.mem_singleton.mp hb]; exact none_of si ha⟩ (fun b hb => by rw [List.mem_singleton.mp hb]; exact ha)
    (by unfold gOwnS; simp only [e1, Option.bind_some, e2, e3]) gg (er.mono (gg.ext si))
/-- self.g = a plain value -/
def gSetS (i : Nat) (g : Str) (fe : FE) : FGS := fun as δ s => match as with
  | [] => (fe δ s).bind fun p => match δ[i]? with
    | some (some (.ref x)) => (match p.2 x with
      | some (.ins C fs) => some (δ, supd p.2 x (.ins C (putFD g p.1 fs)))
      | _ => none)
    | _ => none
  | _ => none
def qSetS (i : Nat) (C : Addr) (fe : FE) : Fr → S → Prop := fun δ s => ∃ d x fs, fe δ s = some (d, s) ∧ δ[i]? = some (some (.ref x)) ∧ s x = some (.ins C fs) ∧ fs.length < 1000
theorem gs_set {i : Nat} {g : Str} {C : Addr} (na : NoAttr X.K C g) (ho : PE X o (tD X.K (fVar i))) (hv : PE X v (tD X.K fe)) (hs : swapsWith v (some (.Attribute o g pos')) pos.line X.env = pure false := by rfl) :
    PS X (.Assign [.Attribute o g pos'] v pos) (tGS X.K 0 (qSetS i C fe) (gSetS i g fe)) := imp_s (ps_fld ho hv hs) fun D σ H ⟨h, s, δ, er, si, ⟨d, x, fs, e1, e2, e3, e4⟩, w⟩ => by
  refine ⟨h, s, δ, d, s, er, si, e1, fun vy H1 st1 r1 => ?_⟩
  refine ⟨h, s, δ, .ref x, _, er.mono (st1.ext si), st1.si, by unfold fVar; rw [e2], fun vx H2 st2 r2 => ?_⟩
  obtain ⟨dx, vs, k1, k2, k3, k4⟩ := put_ins (g := g) st2.si e3 na (st2.rep st1.si r1)
  refine ⟨x, C, dx, vs, rep_ref r2, k1, k2, na, by rw [k3]; exact e4, ?_⟩
  have gg := Grow.of ((st1.trans st2).trans k4)
  exact w [] δ _ σ h _ rfl ⟨.nil, fun _ z => nomatch z⟩ (fun _ z => nomatch z) (by unfold gSetS; simp only [e1, Option.bind_some, e2, e3]) gg (er.mono (gg.ext si))
end

/-! ### {k: [..] for k in T}, T a tuple of texts of the module -/
def ownAll (L : OO) (as : List Addr) (s : S) : S := fun b => if b ∈ as then some L else s b
theorem zip_any {k : Str} : ∀ (keys : List Str) (l : List D), keys.Nodup → keys[l.length]? = some k → (keys.zip l).any (fun kv => decide (kv.1 = k)) = false
  | [], _, _, h => by simp at h
  | _ :: _, [], _, _ => rfl
  | x :: xs, y :: ys, hn, h => by
    rw [List.nodup_cons] at hn
    have h' : xs[ys.length]? = some k := by simpa using h
    have hx : x ≠ k := fun e => hn.1 (by rw [e]; exact List.mem_of_getElem? h')
    rw [List.zip_cons_cons, List.any_cons, zip_any xs ys hn.2 h', decide_eq_false hx]
    rfl
theorem zip_snoc {k : Str} {d : D} : ∀ (keys : List Str) (l : List D), keys[l.length]? = some k → keys.zip (l ++ [d]) = keys.zip l ++ [(k, d)]
  | [], _, h => by simp at h
  | x :: xs, [], h => by
    have : x = k := by simpa using h
    rw [this]
    simp
  | x :: xs, y :: ys, h => by
    have h' : xs[ys.length]? = some k := by simpa using h
    rw [List.cons_append, List.zip_cons_cons, List.zip_cons_cons, zip_snoc xs ys h']
    rfl
theorem put_zip {k : Str} {d : D} {keys : List Str} {l : List D} (hn : keys.Nodup) (h : keys[l.length]? = some k) : putD (keys.zip l) k d = keys.zip (l ++ [d]) := by
  unfold putD
  rw [zip_any keys l hn h, if_neg Bool.false_ne_true, zip_snoc keys l h]
def tOD (K : PySem.W.Frag) (j : Nat) (keys : List Str) (L : List D) : TE := fun σ H Q => ∃ (h : Addr → Bool) (s : S) (δ : Fr), EnvR K (hide h H) σ δ ∧ SI K h s H ∧ j < δ.length ∧
  ∀ p as h' H', as.length = keys.length → Free s (p :: as) → (∀ a ∈ p :: as, H a = none) → Grow K h s H h' (ownAll (.lst L) as (supd s p (.dct (keys.zip (as.map D.ref))))) H' → Q (.ref p) H'
theorem strs_of {K : PySem.W.Frag} {H : Hp} : ∀ {keys : List Str} {xs : List V}, Reps K H xs (keys.map D.str) → xs = keys.map V.str
  | [], _, r => by cases r; rfl
  | k :: ks, _, r => by
    cases r with
    | cons a t => rw [rep_str a, strs_of t]; rfl
theorem o_dc {X : Cx} {T : Str} {kx vx tg : Expr} {scope : Scope} {own : List (Str × Nat)} {pos p2 : Pos} {j : Nat} {keys : List Str} {L : List D} {fo : FOw} (G : Gc X.K X.mg T (.tup (keys.map D.str))) (hgT : Gl X T) (hnd : keys.Nodup) (hkl : keys.length ≤ 1000)
    (hc : X.calm = true) (hN : X.N.Nodup) (ok : BlkOk X.N X.env.scope scope own) (hown : own.map (·.2) = [j]) (hfo : ∀ δ s, fo δ s = some (.lst L, s))
    (hg : ∀ (s : Shared) (H : Hp) (C : Addr) (cl : List (Str × Addr)) (fp : List Addr), PG (X.blk s H scope (compEnvC scope cl C X.env) fp) tg (gName j))
    (hk : ∀ (s : Shared) (H : Hp) (C : Addr) (cl : List (Str × Addr)) (fp : List Addr), PE (X.blk s H scope (compEnvC scope cl C X.env) fp) kx (tD X.K (fVar j)))
    (he : ∀ (s : Shared) (H : Hp) (C : Addr) (cl : List (Str × Addr)) (fp : List Addr), PE (X.blk s H scope (compEnvC scope cl C X.env) fp) vx (tO X.K fo))
    (hdT : (T == ("__debug__" : Str)) = false := by decide) (hs : ∀ x, foldedSetIterable (.Name T p2) X.env x = pure x := by intro _; rfl) :
    PE X (.DictComp kx vx [⟨tg, .Name T p2, [], 0⟩] scope pos) (tOD X.K j keys L) := by
  obtain ⟨u, v, hm, r, rp⟩ := G.ex
  have hv : ∃ a, v = .ref a ∧ ∀ H, SqT X.K H a (keys.map V.str) := by
    obtain ⟨a, xs, e, _, _⟩ := rep_tup (rp (fun _ => none))
    refine ⟨a, e, fun H => ?_⟩
    obtain ⟨a', xs', e', q, r'⟩ := rep_tup (rp H)
    rw [e] at e'
    cases e'
    rw [strs_of r'] at q
    exact q
  obtain ⟨a, rfl, sq⟩ := hv
  refine imp_e (pe_dc hc hN (pi_tup (pe_glob hgT hm r hdT)) ok hg (fun _ _ _ _ _ => pts_nil) hk he hs) fun σ H Q ⟨h, s, δ, er, si, hjl, w⟩ => ?_
  rw [hown]
  refine ⟨a, rfl, ⟨_, sq H⟩, fun D hD => ?_⟩
  have sD : s D = none := none_of si hD
  refine dc_tup (xs := keys.map V.str) (fun i H' => ∃ as h', as.length = i ∧ Free s (D :: as) ∧ (∀ a ∈ D :: as, H a = none) ∧ Grow X.K h s H h' (ownAll (.lst L) as (supd s D (.dct (keys.zip (as.map Fw.D.ref))))) H') ?_ (fun i H' _ _ => sq H') ?_ ?_
  · have e0 : ownAll (.lst L) [] (supd s D (.dct (keys.zip ([].map Fw.D.ref)))) = supd s D (.dct []) := by
      funext b
      unfold ownAll
      rw [if_neg (fun z => nomatch z), List.map_nil, List.zip_nil_right]
    refine ⟨[], (fun a => h a || decide (a = D)), rfl, ⟨List.nodup_cons.mpr ⟨(fun z => nomatch z), List.Pairwise.nil⟩, fun b hb => by rw [List.mem_singleton.mp hb]; exact sD⟩, fun b hb => by rw [List.mem_singleton.mp hb]; exact hD, ?_⟩
    rw [e0]
    exact Grow.alloc si hD (.dK []) (.dct []) ⟨[], rfl, rfl, .nil⟩
  · rintro i x H2 hx ⟨as, h2, hl, hfr, hno, g2⟩
    rw [List.getElem?_map] at hx
    obtain ⟨k, hk1, rfl⟩ := Option.map_eq_some_iff.mp hx
    have er2 : EnvR X.K (hide h2 H2) ((wipe σ [j]).set j (some (.str k))) ((wipeD δ [j]).set j (some (.str k))) := ((er.wipe [j]).mono (g2.ext si)).set (.str k) j
    refine ⟨by show ((σ.set j none).set j _).set j none = σ.set j none; rw [List.set_set, List.set_set], ?_⟩
    change tD X.K (fVar j) _ H2 _
    have ej : ((wipeD δ [j]).set j (some (Fw.D.str k)))[j]? = some (some (.str k)) := by
      show ((δ.set j none).set j _)[j]? = _
      rw [List.set_set, List.getElem?_set, if_pos rfl, if_pos hjl]
    refine ⟨h2, _, _, .str k, _, er2, g2.si, by unfold fVar; rw [ej], fun vy H4 st4 r4 => ?_⟩
    refine ⟨h2, _, _, .lst L, _, er2.mono (st4.ext g2.si), st4.si, hfo _ _, fun p h5 H5 hp g5 => ?_⟩
    have g4 := g2.trans si (Grow.of st4)
    have gg := g4.trans si g5
    have hDas : D ∉ as := (List.nodup_cons.mp hfr.1).1
    have sp : (ownAll (.lst L) as (supd s D (.dct (keys.zip (as.map Fw.D.ref))))) p = none := none_of st4.si hp
    have hpD : p ≠ D := fun e => by
      rw [e] at sp
      unfold ownAll at sp
      rw [if_neg hDas, supd_same] at sp
      cases sp
    have hpas : p ∉ as := fun e => by
      unfold ownAll at sp
      rw [if_pos e] at sp
      cases sp
    have hHp : H p = none := g4.back si hp
    have e5 : (supd (ownAll (.lst L) as (supd s D (.dct (keys.zip (as.map Fw.D.ref))))) p (.lst L)) D = some (.dct (keys.zip (as.map Fw.D.ref))) := by
      rw [supd_ne (Ne.symm hpD)]
      unfold ownAll
      rw [if_neg hDas, supd_same]
    obtain ⟨kvs, k1, rk⟩ := g5.si.ob _ _ e5
    have hkl2 : kvs.length = (keys.zip (as.map Fw.D.ref)).length := by have := congrArg List.length rk.1; simpa using this
    have hil : i < keys.length := (List.getElem?_eq_some_iff.mp hk1).1
    have st6 := g5.si.putL (o := .dK (putK kvs (Sum.inr k) (.ref p))) (w := .dct (putD (keys.zip (as.map Fw.D.ref)) k (.ref p))) e5 ⟨_, rfl, repkv_put (.ref p) rk⟩
    have hput : putD (keys.zip (as.map Fw.D.ref)) k (.ref p) = keys.zip ((as ++ [p]).map Fw.D.ref) := by
      rw [put_zip hnd (by rw [List.length_map, hl]; exact hk1), List.map_append]
      rfl
    have hst : supd (supd (ownAll (.lst L) as (supd s D (.dct (keys.zip (as.map Fw.D.ref))))) p (.lst L)) D (.dct (putD (keys.zip (as.map Fw.D.ref)) k (.ref p))) = ownAll (.lst L) (as ++ [p]) (supd s D (.dct (keys.zip ((as ++ [p]).map Fw.D.ref)))) := by
      rw [hput]
      funext b
      by_cases b1 : b = D
      · rw [b1, supd_same]
        unfold ownAll
        rw [if_neg (fun z => (List.mem_append.mp z).elim hDas fun z => hpD (List.mem_singleton.mp z).symm), supd_same]
      · rw [supd_ne b1]
        by_cases b2 : b = p
        · rw [b2, supd_same]
          unfold ownAll
          rw [if_pos (List.mem_append_right _ List.mem_cons_self)]
        · rw [supd_ne b2]
          unfold ownAll
          by_cases b3 : b ∈ as
          · rw [if_pos b3, if_pos (List.mem_append_left _ b3)]
          · rw [if_neg b3, if_neg (fun z => (List.mem_append.mp z).elim b3 fun z => b2 (List.mem_singleton.mp z)), supd_ne b1, supd_ne b1]
    refine ⟨kvs, Sum.inr k, rep_str r4, k1, ?_, as ++ [p], h5, by rw [List.length_append, hl]; rfl, ⟨?_, ?_⟩, ?_, ?_⟩
    · rw [hkl2, List.length_zip, sizeLine_eq]; omega
    · rw [← List.cons_append]
      refine List.nodup_append.mpr ⟨hfr.1, List.nodup_cons.mpr ⟨(fun z => nomatch z), List.Pairwise.nil⟩, fun a ha b hb e => ?_⟩
      rw [List.mem_singleton.mp hb] at e
      rcases List.mem_cons.mp ha with ha | ha
      · exact hpD (e.symm.trans ha)
      · exact hpas (e ▸ ha)
    · intro b hb
      rw [← List.cons_append] at hb
      rcases List.mem_append.mp hb with hb | hb
      · exact hfr.2 b hb
      · rw [List.mem_singleton.mp hb]; exact none_of si hHp
    · intro b hb
      rw [← List.cons_append] at hb
      rcases List.mem_append.mp hb with hb | hb
      · exact hno b hb
      · rw [List.mem_singleton.mp hb]; exact hHp
    · rw [← hst]
      exact gg.trans si (Grow.of st6)
  · rintro H2 ⟨as, h2, hl, hfr, hno, g2⟩
    exact w D as h2 H2 (by rw [hl, List.length_map]) hfr hno g2
/-- self.g = {k: [..] for k in T} -/
def gDcS (i : Nat) (g : Str) (keys : List Str) (L : List D) : FGS := fun as δ s => match as with
  | p :: as => (match δ[i]? with
    | some (some (.ref x)) => (match s x with
      | some (.ins C fs) => some (δ, supd (ownAll (.lst L) as (supd s p (.dct (keys.zip (as.map D.ref))))) x (.ins C (putFD g (.ref p) fs)))
      | _ => none)
    | _ => none)
  | _ => none
def qDcS (i j : Nat) (C : Addr) : Fr → S → Prop := fun δ s => ∃ x fs, j < δ.length ∧ δ[i]? = some (some (.ref x)) ∧ s x = some (.ins C fs) ∧ fs.length < 1000
theorem gs_dc {X : Cx} {o v : Expr} {pos pos' : Pos} {i j : Nat} {g : Str} {C : Addr} {keys : List Str} {L : List D} (na : NoAttr X.K C g) (ho : PE X o (tD X.K (fVar i))) (hv : PE X v (tOD X.K j keys L)) (hs : swapsWith v (some (.Attribute o g pos')) pos.line X.env = pure false := by rfl) :
    PS X (.Assign [.Attribute o g pos'] v pos) (tGS X.K (keys.length + 1) (qDcS i j C) (gDcS i g keys L)) := imp_s (ps_fld ho hv hs) fun D σ H ⟨h, s, δ, er, si, ⟨x, fs, hj, e2, e3, e4⟩, w⟩ => by
  refine ⟨h, s, δ, er, si, hj, fun p as h1 H1 hl hf hn g1 => ?_⟩
  have er1 := er.mono (g1.ext si)
  have hx : ∀ a ∈ p :: as, x ≠ a := fun a ha e => by
    have := hf.2 a ha
    rw [← e, e3] at this
    cases this
  have e3' : (ownAll (.lst L) as (supd s p (.dct (keys.zip (as.map Fw.D.ref))))) x = some (.ins C fs) := by
    unfold ownAll
    rw [if_neg (fun z => hx x (List.mem_cons_of_mem _ z) rfl), supd_ne (hx p List.mem_cons_self)]
    exact e3
  refine ⟨h1, _, δ, .ref x, _, er1, g1.si, by unfold fVar; rw [e2], fun vx H2 st2 r2 => ?_⟩
  obtain ⟨dx, vs, k1, k2, k3, k4⟩ := put_ins (g := g) (y := .ref p) (d := .ref p) st2.si e3' na (.ref p)
  refine ⟨x, C, dx, vs, rep_ref r2, k1, k2, na, by rw [k3]; exact e4, ?_⟩
  have gg := (g1.trans si (Grow.of st2)).trans si (Grow.of k4)
  exact w (p :: as) δ _ σ h1 _ (by rw [List.length_cons, hl]) hf hn (by unfold gDcS; simp only [e2, e3]) gg (er.mono (gg.ext si))

/-! ### an instance of one's own: C(args) -/
/-- what __init__ makes: the given arguments by data, the new addresses (the first is the instance's) -/
def spI (K : PySem.W.Frag) (C : Addr) (m n : Nat) (P : List D → S → Prop) (f : List D → List Addr → S → Option S) : Sp := fun vs H Q _ => ∃ (h : Addr → Bool) (s : S) (ds : List D) (x : Addr) (us : List V), vs = .ref x :: us ∧ Reps K (hide h H) us ds ∧ ds.length = m ∧ SI K h s H ∧
  s x = some (.ins C []) ∧ P ds s ∧ ∀ as s' h' H', as.length = n → Free s as → (∀ a ∈ as, H a = none) → f ds (x :: as) s = some s' → Grow K h s H h' s' H' → Q .non H'
def tOI (K : PySem.W.Frag) (C : Addr) (n : Nat) (P : List D → S → Prop) (f : List D → List Addr → S → Option S) (fs : FA) : TE := fun σ H Q => ∃ (h : Addr → Bool) (s : S) (δ : Fr) (ds : List D), EnvR K (hide h H) σ δ ∧ SI K h s H ∧ fs δ s = some (ds, s) ∧
  (∀ x, s x = none → P ds (supd s x (.ins C []))) ∧ ∀ x as s' h' H', as.length = n → Free s (x :: as) → (∀ a ∈ x :: as, H a = none) → f ds (x :: as) (supd s x (.ins C [])) = some s' → Grow K h s H h' s' H' → Q (.ref x) H'
theorem o_make {X : Cx} {e : Expr} {es : List Expr} {fs : FA} {C f : Addr} {fd : FuncData} {ps : List Str} {k m n : Nat} {P : List D → S → Prop} {F : List D → List Addr → S → Option S} {x : Str} {p pos : Pos} (M : Mk X.K C f) (cl : Cls X.K C) (Fn : FnOk X.prog X.w X.K X.mg X.base CX0 k f fd ps (spI X.K C m n P F)) (hr : Room (k + 1) X.A) (hg : Gl X x) (hm : X.mg x = some (.ref C)) (hb : Binds X.K fd ps [])
    (ha : PA X (e :: es) (tDA X.K fs)) (hlen : ∀ δ s ds s', fs δ s = some (ds, s') → ds.length = m) (hdb : (x == ("__debug__" : Str)) = false := by decide) (he : starEach (e :: es) X.env = (false, eval e X.env) :: starEach es X.env := by rfl) (hpl : (backTo pos (starEach es X.env)).any (·.1) = false := by rfl) :
    PE X (.Call (.Name x p) (e :: es) [] pos) (tOI X.K C n P F fs) := imp_e (pe_make M Fn hr hg hm hb .nil pass0 ha hdb he hpl) fun σ H Q ⟨h, s, δ, ds, er, si, q, hP, w⟩ => by
  refine ⟨h, s, δ, ds, s, er, si, q, fun vs H1 st1 r1 => fun y dx hy hdx hne => ?_⟩
  have g1 := Grow.of st1
  have st2 := Step.new st1.si hdx (.own y)
  have hy2 : (upd H1 dx (.own y)) y = none := by rw [upd_ne (Ne.symm hne)]; exact hy
  have g3 := Grow.alloc st2.si hy2 (.ins C dx []) (.ins C []) ⟨dx, [], rfl, cl, (fun _ z => (nomatch z)), rfl, .nil⟩
  have gg := (g1.trans si (Grow.of st2)).trans si g3
  have hHy : H y = none := g1.back si hy
  have sy : s y = none := none_of si hHy
  refine ⟨_, _, ds, y, vs ++ [], rfl, by rw [List.append_nil]; exact Reps.mono (((Grow.of st2).trans st1.si g3).ext st1.si) _ _ r1, hlen _ _ _ _ q, g3.si, supd_same, hP y sy, fun as s' h' H' hl hf hn e g => ⟨rfl, ?_⟩⟩
  refine w y as s' h' H' hl (hf.cons sy) (fun b hb => ?_) e (gg.trans si g)
  rcases List.mem_cons.mp hb with rfl | hb
  · exact hHy
  · exact gg.back si (hn b hb)
/-- __init__ keeps its promise -/
theorem okI {P : Program} {w : World} {K : PySem.W.Frag} {mg : Str → Option Value} {base : Heap} {x qual : Str} {st : Stmt} {f : Addr} {fd : FuncData} {N ps : List Str} {k m n : Nat} {C : Addr} {Pd : Fr → S → Prop} {fg : FGS} (F : Fun K x qual st f fd) (S : FnScope N ps (defScope st)) (hps : ps.length = m + 1)
    (hb : ∀ (cdv : Value) (A : Around) (outer : List Env) (s : Shared) (H : Hp) (E : XK), Room k (A.deeper (envOfC qual (defScope st) s.heap.objs.size f cdv)) → PSs (cxOf CX0 P w K mg base N qual (defScope st) f cdv A outer s H E).nox (defBody st) (tGS K n Pd fg)) :
    FnOk P w K mg base CX0 (k + 1) f fd ps (spI K C m n (fun ds s => ∀ x, s x = some (.ins C []) → Pd (startD N.length (.ref x :: ds)) s) (fun ds as s => match as with | x :: as => (fg as (startD N.length (.ref x :: ds)) s).map (·.2) | [] => none)) := by
  refine F.ok S (fun vs H Q E h => ?_) (fun cdv A outer s H vs Q E hr h => ?_)
  · obtain ⟨h', s, ds, y, us, rfl, r, hl, _⟩ := h
    rw [List.length_cons, r.length, hl, hps]
  · obtain ⟨h', s, ds, y, us, rfl, r, hl, si, e, hP, w⟩ := h
    refine ⟨_, hb cdv A outer _ H E hr, h', s, startD N.length (.ref y :: ds), env_start (.cons (.ref y) r), si, hP y e, fun as δ' s' σ' h2 H' hl2 hf hn e2 g er => ?_⟩
    exact w as s' h2 H' hl2 hf hn (by show (fg as _ s).map _ = _; rw [e2]; rfl) g
def GoodI (i n : Nat) (C : Addr) (P : List D → S → Prop) (F : List D → List Addr → S → Option S) (fs : FA) (rest : FS) (δ : Fr) (s : S) (d : D) : Prop :=
  (∃ x as, as.length = n ∧ Free s (x :: as)) ∧ ∃ ds, fs δ s = some (ds, s) ∧ (∀ x, s x = none → P ds (supd s x (.ins C []))) ∧ ∀ x as, as.length = n → Free s (x :: as) → ∃ s' s2, F ds (x :: as) (supd s x (.ins C [])) = some s' ∧
    rest (δ.set i (some (.ref x))) s' = some (.rt d, s2) ∧ keepS s s2 = s
open Classical in
noncomputable def fOwnI (i n : Nat) (C : Addr) (P : List D → S → Prop) (F : List D → List Addr → S → Option S) (fs : FA) (rest : FS) : FS := fun δ s => if h : ∃ d, GoodI i n C P F fs rest δ s d then some (.rt h.choose, s) else none
theorem fOwnI_eq {i n : Nat} {C : Addr} {P : List D → S → Prop} {F : List D → List Addr → S → Option S} {fs : FA} {rest : FS} {δ : Fr} {s : S} {d : D} (g : GoodI i n C P F fs rest δ s d) : fOwnI i n C P F fs rest δ s = some (.rt d, s) := by
  have h : ∃ d, GoodI i n C P F fs rest δ s d := ⟨d, g⟩
  have e : h.choose = d := by
    obtain ⟨⟨x, as, hl, hf⟩, ds, e0, _, q⟩ := g
    obtain ⟨_, ds', e0', _, q'⟩ := h.choose_spec
    rw [e0] at e0'
    cases e0'
    obtain ⟨s1, s2, e1, e2, _⟩ := q x as hl hf
    obtain ⟨s1', s3, e1', e3, _⟩ := q' x as hl hf
    rw [e1] at e1'
    cases e1'
    rw [e2] at e3
    injection e3 with e3
    injection e3 with e3
    injection e3 with e3
    exact e3.symm
  unfold fOwnI
  rw [dif_pos h, e]
theorem dss_ownI {X : Cx} {st : Stmt} {sts : List Stmt} {i n : Nat} {C : Addr} {P : List D → S → Prop} {F : List D → List Addr → S → Option S} {fs : FA} {rest : FS} (h1 : PS X st (tAsg (tOI X.K C n P F fs) (gName i))) (h2 : PSs X sts (tDS X.K rest)) : PSs X (st :: sts) (tDS X.K (fOwnI i n C P F fs rest)) := imp_ss (pss_cons h1 h2) fun D σ H ⟨h, s, δ, o, s', er, si, q, w⟩ => by
  unfold fOwnI at q
  split at q
  · rename_i hg
    cases q
    obtain ⟨_, ds, e0, hP, q⟩ := hg.choose_spec
    refine ⟨h, s, δ, ds, er, si, e0, hP, fun x as s1 h' H' hl hf hn e g => ?_⟩
    obtain ⟨s1', s2, e1, e2, ek⟩ := q x as hl hf
    rw [e] at e1
    cases e1
    refine ⟨h', _, _, _, s2, (er.mono (g.ext si)).set (.ref x) i, g.si, e2, fun H2 st2 v r => ?_⟩
    obtain ⟨a1, a2⟩ := g.done si st2
    rw [ek] at a1
    exact w H2 a1 v (Rep.mono a2 _ _ r)
  · cases q
end Fw

set_option Elab.async false
set_option linter.all false
set_option maxRecDepth 100000
namespace Fw
open PySem PySem.Spec PyProof.Rows L2
/-! ### the program's own state of a run -/
structure SC where
  C : Addr
  a : Addr
  n : Addr
  d : Addr
  o : Addr
  e : Addr
  p : Addr
  na : n ≠ a
  da : d ≠ a
  oa : o ≠ a
  ea : e ≠ a
  pa : p ≠ a
  dn : d ≠ n
  on : o ≠ n
  en : e ≠ n
  pn : p ≠ n
  od : o ≠ d
  ed : e ≠ d
  pd : p ≠ d
  eo : e ≠ o
  po : p ≠ o
  pe : p ≠ e
def stateL (c : SC) (st rd : Nat) : List (Str × D) :=
  [(Str.ofString "numbers", .ref c.n), (Str.ofString "tables", .ref c.d), (Str.ofString "prints", .ref c.p), (Str.ofString "steps", .int st), (Str.ofString "rounds", .int rd)]
def tabsL (c : SC) : List (Str × D) := [(Str.ofString "open", .ref c.o), (Str.ofString "secret", .ref c.e)]
def sst (s0 : S) (c : SC) (w : Wd) : S := fun b =>
  if b = c.a then some (.ins c.C (stateL c w.steps w.rounds)) else if b = c.n then some (.lst (w.nums.map natD)) else if b = c.d then some (.dct (tabsL c)) else if b = c.o then some (.lst (w.op.map natD)) else if b = c.e then some (.lst (w.sec.map natD)) else if b = c.p then some (.lst (w.prints.map natD)) else s0 b
section
variable {s0 : S} {c : SC} {w : Wd} {δ : Fr}
@[simp] theorem sst_a : sst s0 c w c.a = some (.ins c.C (stateL c w.steps w.rounds)) := by simp [sst]
@[simp] theorem sst_n : sst s0 c w c.n = some (.lst (w.nums.map natD)) := by simp [sst, c.na]
@[simp] theorem sst_d : sst s0 c w c.d = some (.dct (tabsL c)) := by simp [sst, c.da, c.dn]
@[simp] theorem sst_o : sst s0 c w c.o = some (.lst (w.op.map natD)) := by simp [sst, c.oa, c.on, c.od]
@[simp] theorem sst_e : sst s0 c w c.e = some (.lst (w.sec.map natD)) := by simp [sst, c.ea, c.en, c.ed, c.eo]
@[simp] theorem sst_p : sst s0 c w c.p = some (.lst (w.prints.map natD)) := by simp [sst, c.pa, c.pn, c.pd, c.po, c.pe]
theorem ssupd_a {st rd : Nat} : supd (sst s0 c w) c.a (.ins c.C (stateL c st rd)) = sst s0 c { w with steps := st, rounds := rd } := by
  funext b; unfold supd sst
  by_cases q : b = c.a
  · simp [q]
  · simp [q]
theorem ssupd_n {l : List Nat} : supd (sst s0 c w) c.n (.lst (l.map natD)) = sst s0 c { w with nums := l } := by
  funext b; unfold supd sst
  by_cases q : b = c.n
  · simp [q, c.na]
  · simp [q]
theorem ssupd_o {l : List Nat} : supd (sst s0 c w) c.o (.lst (l.map natD)) = sst s0 c { w with op := l } := by
  funext b; unfold supd sst
  by_cases q : b = c.o
  · simp [q, c.oa, c.on, c.od]
  · simp [q]
theorem ssupd_e {l : List Nat} : supd (sst s0 c w) c.e (.lst (l.map natD)) = sst s0 c { w with sec := l } := by
  funext b; unfold supd sst
  by_cases q : b = c.e
  · simp [q, c.ea, c.en, c.ed, c.eo]
  · simp [q]
theorem ssupd_p {l : List Nat} : supd (sst s0 c w) c.p (.lst (l.map natD)) = sst s0 c { w with prints := l } := by
  funext b; unfold supd sst
  by_cases q : b = c.p
  · simp [q, c.pa, c.pn, c.pd, c.po, c.pe]
  · simp [q]
@[simp] theorem sl_numbers {st rd : Nat} : (stateL c st rd).lookup (Str.ofString "numbers") = some (.ref c.n) := by simp [stateL]
@[simp] theorem sl_tables {st rd : Nat} : (stateL c st rd).lookup (Str.ofString "tables") = some (.ref c.d) := by simp [stateL, List.lookup_cons]
@[simp] theorem sl_prints {st rd : Nat} : (stateL c st rd).lookup (Str.ofString "prints") = some (.ref c.p) := by simp [stateL, List.lookup_cons]
@[simp] theorem sl_steps {st rd : Nat} : (stateL c st rd).lookup (Str.ofString "steps") = some (.int st) := by simp [stateL, List.lookup_cons]
@[simp] theorem sl_rounds {st rd : Nat} : (stateL c st rd).lookup (Str.ofString "rounds") = some (.int rd) := by simp [stateL, List.lookup_cons]
@[simp] theorem tl_open : (tabsL c).lookup (Str.ofString "open") = some (.ref c.o) := by simp [tabsL]
@[simp] theorem tl_secret : (tabsL c).lookup (Str.ofString "secret") = some (.ref c.e) := by simp [tabsL, List.lookup_cons]
theorem sl_put_steps {st rd : Nat} : putFD (Str.ofString "steps") (.int ((st : Int) + 1)) (stateL c st rd) = stateL c (st + 1) rd := by simp [stateL, putFD]
theorem sl_put_rounds {st rd : Nat} : putFD (Str.ofString "rounds") (.int ((rd : Int) + 1)) (stateL c st rd) = stateL c st (rd + 1) := by simp [stateL, putFD]
theorem sl_len {st rd : Nat} : (stateL c st rd).length = 5 := rfl
@[simp high] theorem s_steps : kFA4 δ (Str.ofString "steps") (w.steps : Int) c.a c.C (sst s0 c w) (.int 1) (some (.ins c.C (stateL c w.steps w.rounds))) = some (.nx δ, sst s0 c (bump w)) := by
  rw [kFA4_s, sl_put_steps, ssupd_a, sl_len, sl_steps]; rfl
@[simp high] theorem s_rounds : kFA4 δ (Str.ofString "rounds") (w.rounds : Int) c.a c.C (sst s0 c w) (.int 1) (some (.ins c.C (stateL c w.steps w.rounds))) = some (.nx δ, sst s0 c { w with rounds := w.rounds + 1 }) := by
  rw [kFA4_s, sl_put_rounds, ssupd_a, sl_len, sl_rounds]; rfl
theorem s_putn {x v : Nat} (hx : x < w.nums.length) : kPutIx3 δ (sst s0 c w) c.n (x : Int) (.int (v : Int)) (some (.lst (w.nums.map natD))) = some (.nx δ, sst s0 c (setN w x v)) := by
  rw [kPutIx3_s, List.length_map, ixN_cast, if_pos hx, kPutIx4_s, map_set_nat, ssupd_n]; rfl
theorem s_puto {x v : Nat} (hx : x < w.op.length) : kPutIx3 δ (sst s0 c w) c.o (x : Int) (.int (v : Int)) (some (.lst (w.op.map natD))) = some (.nx δ, sst s0 c (setT w false x v)) := by
  rw [kPutIx3_s, List.length_map, ixN_cast, if_pos hx, kPutIx4_s, map_set_nat, ssupd_o]; rfl
theorem s_pute {x v : Nat} (hx : x < w.sec.length) : kPutIx3 δ (sst s0 c w) c.e (x : Int) (.int (v : Int)) (some (.lst (w.sec.map natD))) = some (.nx δ, sst s0 c (setT w true x v)) := by
  rw [kPutIx3_s, List.length_map, ixN_cast, if_pos hx, kPutIx4_s, map_set_nat, ssupd_e]; rfl
theorem s_putm {x n k : Nat} (hx : x < w.nums.length) : kPutIx3 δ (sst s0 c w) c.n (x : Int) (.int (((n : Int) + (k : Int)) % 10)) (some (.lst (w.nums.map natD))) = some (.nx δ, sst s0 c (setN w x ((n + k) % 10))) := by
  rw [modC]; exact s_putn hx
theorem s_putv {x k : Nat} (hx : x < w.nums.length) : kPutIx3 δ (sst s0 c w) c.n (x : Int) (.int (9 / (k : Int))) (some (.lst (w.nums.map natD))) = some (.nx δ, sst s0 c (setN w x (9 / k))) := by
  rw [divC]; exact s_putn hx
theorem s_app {v : Nat} (hx : w.prints.length ≤ 10000000) : kApp3 c.p (.int (v : Int)) (sst s0 c w) (some (.lst (w.prints.map natD))) = some (.non, sst s0 c { w with prints := w.prints ++ [v] }) := by
  have e : w.prints.map natD ++ [D.int (v : Int)] = (w.prints ++ [v]).map natD := by rw [List.map_append]; rfl
  rw [kApp3_s, e, ssupd_p]
  simp [hx]
end
def haltD : Option How → D
  | none => .non
  | some .stops => strD "stops"
  | some .breaks => strD "breaks"
  | some .goes => strD "goes on"
def P_do_body (d : Nat) (g : FD) : Prop := ∀ (s0 : S) (c : SC) (m : Nat) (w : Wd) (b : List Sm), WOk m w → b.length ≤ 100 → smsOk m d b → w.steps + b.length * cst d ≤ 10000000 →
  g [.ref c.a, bodyD b] (sst s0 c w) = some (haltD (exsM b w).2, sst s0 c (exsM b w).1)
/-- an action, of the statements that it is for -/
def P_act (d : Nat) (is : Sm → Bool) (g : FD) : Prop := ∀ (s0 : S) (c : SC) (m : Nat) (w : Wd) (a : Sm), WOk m w → is a = true → smOk m d a → w.steps + (cst d - 1) ≤ 10000000 → w.prints.length < w.steps →
  g [.ref c.a, smD a] (sst s0 c w) = some (haltD (exM a w).2, sst s0 c (exM a w).1)
def isSum : Sm → Bool | .sum _ _ _ => true | _ => false
def isIf : Sm → Bool | .ite _ _ _ => true | _ => false
def isTimes : Sm → Bool | .times _ _ => true | _ => false
def isWhile : Sm → Bool | .whl _ _ => true | _ => false
def isPrint : Sm → Bool | .print _ => true | _ => false
def isStop : Sm → Bool | .stop => true | _ => false
def isSplit : Sm → Bool | .split _ _ => true | _ => false
def isKeep : Sm → Bool | .keep _ _ _ => true | _ => false
def isFetch : Sm → Bool | .fetch _ _ _ => true | _ => false
/-- the numbers of some names, read through an attribute -/
theorem compL_attr {s0 : S} {c : SC} {v : Wd} {δ : Fr} {i j : Nat} : ∀ (ts : List Nat), (∀ t ∈ ts, t < v.nums.length) → δ[j]? = some (some (.ref c.a)) → i < δ.length → i ≠ j →
    compL (gtName i) tTrue (f2 dIx (f1 (dFld "numbers") (fVar j)) (fVar i)) (ts.map natD) δ (sst s0 c v) = some ((ts.map (num v)).map natD, sst s0 c v)
  | [], _, _, _, _ => rfl
  | t :: ts, ht, hj, hi, hij => by
    have ih := compL_attr (s0 := s0) ts (fun t h => ht t (List.mem_cons_of_mem _ h)) hj hi hij
    have hg := nat_get (ht t List.mem_cons_self)
    change L2.atI _ _ = some (D.int ((num v t : Nat) : Int)) at hg
    have e1 : f2 dIx (f1 (dFld "numbers") (fVar j)) (fVar i) (δ.set i (some (.int (t : Nat)))) (sst s0 c v) = some (.int ((num v t : Nat) : Int), sst s0 c v) := by
      have hj2 : (δ.set i (some (D.int (t : Nat))))[j]? = some (some (.ref c.a)) := by rw [List.getElem?_set_ne hij]; exact hj
      simp [hj2, set_get hi, hg]
    rw [List.map_cons, List.map_cons, List.map_cons, compL]
    show (f2 dIx (f1 (dFld "numbers") (fVar j)) (fVar i) (δ.set i (some (.int (t : Nat)))) (sst s0 c v)).bind _ = _
    rw [e1]
    show (compL _ _ _ _ δ _).map _ = _
    rw [ih]
    rfl
theorem loopW_f {tt : FT} {fb : FS} {n : Nat} {δ : Fr} {s s1 : S} (h : tt δ s = some (false, s1)) : loopW tt fb (n + 1) δ s = some (.nx δ, s1) := by
  rw [loopW, h]; rfl
theorem loopW_rt {tt : FT} {fb : FS} {n : Nat} {δ : Fr} {s s1 s2 : S} {d : D} (h : tt δ s = some (true, s1)) (h2 : fb δ s1 = some (.rt d, s2)) : loopW tt fb (n + 1) δ s = some (.rt d, s2) := by
  rw [loopW, h]
  show (fb δ s1).bind _ = _
  rw [h2]; rfl
theorem loopW_nx {tt : FT} {fb : FS} {n : Nat} {δ δ2 : Fr} {s s1 s2 : S} (h : tt δ s = some (true, s1)) (h2 : fb δ s1 = some (.nx δ2, s2)) : loopW tt fb (n + 1) δ s = loopW tt fb n δ2 s2 := by
  rw [loopW, h]
  show (fb δ s1).bind _ = _
  rw [h2]; rfl
def endW (mk : Option D → Fr) (st : Wd → S) (x5 : Option D) : Wd × Option How → Option (Out × S)
  | (v, none) => some (.nx (mk x5), st v)
  | (v, some h) => some (.rt (haltD (some h)), st v)
theorem loopW_while {m x e : Nat} {b : List Sm} {tt : FT} {fb : FS} {mk : Option D → Fr} {st : Wd → S} (okb : smsOk m e b) (hl : b.length ≤ 4)
    (h1 : ∀ v x4, WOk m v → tt (mk x4) (st v) = some (decide (num v x ≠ 0), st v))
    (h2 : ∀ v x4, WOk m v → v.rounds = 60 → fb (mk x4) (st v) = some (.rt (strD "goes on"), st v))
    (h3 : ∀ v x4, WOk m v → v.rounds ≠ 60 → v.steps + b.length * cst e ≤ 10000000 → fb (mk x4) (st v) = endW mk st (some .non) (exsM b { v with rounds := v.rounds + 1 })) :
    ∀ (k : Nat) (v : Wd) (x4 : Option D), WOk m v → 61 ≤ v.rounds + k → v.steps + (61 - v.rounds) * (4 * cst e) ≤ 10000000 → ∃ x5, loopW tt fb (k + 1) (mk x4) (st v) = endW mk st x5 (whileM x (fun w => exsM b w) k v)
  | 0, v, x4, hv, hk, _ => by have := hv.rl; omega
  | k + 1, v, x4, hv, hk, hs => by
    have hrl := hv.rl
    have hc : b.length * cst e ≤ 4 * cst e := Nat.mul_le_mul_right (cst e) hl
    have hr1 : (61 - v.rounds) * (4 * cst e) = (60 - v.rounds) * (4 * cst e) + 4 * cst e := by
      rw [show 61 - v.rounds = (60 - v.rounds) + 1 by omega, Nat.succ_mul]
    rw [whileM]
    by_cases hz : num v x = 0
    · rw [if_pos hz]
      exact ⟨x4, loopW_f (by rw [h1 v x4 hv, hz]; rfl)⟩
    · have ht := h1 v x4 hv
      rw [decide_eq_true hz] at ht
      rw [if_neg hz]
      by_cases hr : v.rounds = 60
      · rw [if_pos hr]
        exact ⟨x4, loopW_rt ht (h2 v x4 hv hr)⟩
      · rw [if_neg hr]
        have hb := h3 v x4 hv hr (by omega)
        have hk2 := exsM_ok e b { v with rounds := v.rounds + 1 } okb (hv.round hr)
        cases er : exsM b { v with rounds := v.rounds + 1 } with
        | mk v' o =>
          rw [er] at hb hk2
          cases o with
          | none =>
            rw [loopW_nx ht hb]
            have a1 := hk2.rd; have a2 := hk2.st
            simp only at a1 a2
            have hm : (61 - v'.rounds) * (4 * cst e) ≤ (60 - v.rounds) * (4 * cst e) := Nat.mul_le_mul_right _ (by omega)
            exact loopW_while okb hl h1 h2 h3 k v' (some .non) hk2.ok (by omega) (by omega)
          | some hh => exact ⟨x4, loopW_rt ht hb⟩
structure Acts where
  sum : Addr
  ite : Addr
  times : Addr
  whl : Addr
  print : Addr
  stop : Addr
  split : Addr
  keep : Addr
  fetch : Addr
def actsL (A : Acts) : List (Str × D) := [(Str.ofString "sum", .ref A.sum), (Str.ofString "if", .ref A.ite), (Str.ofString "times", .ref A.times), (Str.ofString "while", .ref A.whl), (Str.ofString "print", .ref A.print), (Str.ofString "stop", .ref A.stop), (Str.ofString "split", .ref A.split), (Str.ofString "keep", .ref A.keep), (Str.ofString "fetch", .ref A.fetch)]
structure ActsOk (d : Nat) (A : Acts) (tb : Addr → Option FD) : Prop where
  sum : ∃ g, tb A.sum = some g ∧ P_act d isSum g
  ite : ∃ g, tb A.ite = some g ∧ P_act d isIf g
  times : ∃ g, tb A.times = some g ∧ P_act d isTimes g
  whl : ∃ g, tb A.whl = some g ∧ P_act d isWhile g
  print : ∃ g, tb A.print = some g ∧ P_act d isPrint g
  stop : ∃ g, tb A.stop = some g ∧ P_act d isStop g
  split : ∃ g, tb A.split = some g ∧ P_act d isSplit g
  keep : ∃ g, tb A.keep = some g ∧ P_act d isKeep g
  fetch : ∃ g, tb A.fetch = some g ∧ P_act d isFetch g
/-- the action of a statement -/
theorem ActsOk.of {d : Nat} {A : Acts} {tb : Addr → Option FD} (T : ActsOk d A tb) (a : Sm) : ∃ (k : String) (r : List D) (f : Addr) (g : FD), smD a = .tup (strD k :: r) ∧ (actsL A).lookup (Str.ofString k) = some (.ref f) ∧ tb f = some g ∧
    ∀ (s0 : S) (c : SC) (m : Nat) (w : Wd), WOk m w → smOk m d a → w.steps + (cst d - 1) ≤ 10000000 → w.prints.length < w.steps → g [.ref c.a, smD a] (sst s0 c w) = some (haltD (exM a w).2, sst s0 c (exM a w).1) := by
  cases a with
  | sum x ts n => obtain ⟨g, h1, h2⟩ := T.sum; exact ⟨_, _, _, g, by rw [smD], by simp [actsL, List.lookup_cons], h1, fun s0 c m w hw ok hs hp => h2 s0 c m w _ hw rfl ok hs hp⟩
  | ite x p q => obtain ⟨g, h1, h2⟩ := T.ite; exact ⟨_, _, _, g, by rw [smD], by simp [actsL, List.lookup_cons], h1, fun s0 c m w hw ok hs hp => h2 s0 c m w _ hw rfl ok hs hp⟩
  | times n b => obtain ⟨g, h1, h2⟩ := T.times; exact ⟨_, _, _, g, by rw [smD], by simp [actsL, List.lookup_cons], h1, fun s0 c m w hw ok hs hp => h2 s0 c m w _ hw rfl ok hs hp⟩
  | whl x b => obtain ⟨g, h1, h2⟩ := T.whl; exact ⟨_, _, _, g, by rw [smD], by simp [actsL, List.lookup_cons], h1, fun s0 c m w hw ok hs hp => h2 s0 c m w _ hw rfl ok hs hp⟩
  | print x => obtain ⟨g, h1, h2⟩ := T.print; exact ⟨_, _, _, g, by rw [smD], by simp [actsL, List.lookup_cons], h1, fun s0 c m w hw ok hs hp => h2 s0 c m w _ hw rfl ok hs hp⟩
  | stop => obtain ⟨g, h1, h2⟩ := T.stop; exact ⟨_, _, _, g, by rw [smD], by simp [actsL, List.lookup_cons], h1, fun s0 c m w hw ok hs hp => h2 s0 c m w _ hw rfl ok hs hp⟩
  | split x y => obtain ⟨g, h1, h2⟩ := T.split; exact ⟨_, _, _, g, by rw [smD], by simp [actsL, List.lookup_cons], h1, fun s0 c m w hw ok hs hp => h2 s0 c m w _ hw rfl ok hs hp⟩
  | keep t x y => obtain ⟨g, h1, h2⟩ := T.keep; exact ⟨_, _, _, g, by rw [smD], by simp [actsL, List.lookup_cons], h1, fun s0 c m w hw ok hs hp => h2 s0 c m w _ hw rfl ok hs hp⟩
  | fetch t x y => obtain ⟨g, h1, h2⟩ := T.fetch; exact ⟨_, _, _, g, by rw [smD], by simp [actsL, List.lookup_cons], h1, fun s0 c m w hw ok hs hp => h2 s0 c m w _ hw rfl ok hs hp⟩
def P_is_start (g : FD) : Prop := ∀ (so : List Bool) (b : List Sm) (ns : List Nat) (s : S), ns.length = so.length → ns.length ≤ 1000 → (∀ n ∈ ns, n < 10) → g [.tup [sortsD so, bodyD b], natsD ns] s = some (.bl true, s)
def P_check_start (g : FD) : Prop := ∀ (so : List Bool) (b : List Sm) (ns : List Nat) (s : S), ns.length = so.length → ns.length ≤ 1000 → (∀ n ∈ ns, n < 10) → g [.tup [sortsD so, bodyD b], natsD ns] s = some (.non, s)
/-- the program's run, of a program and a start of it -/
def P_out (g : FD) : Prop := ∀ (s : S) (so : List Bool) (b : List Sm) (ns : List Nat), Fin s → 1 ≤ so.length → so.length ≤ 6 → smsOk ns.length 2 b → b.length ≤ 8 → ns.length = so.length → (∀ n ∈ ns, n < 10) → g [.tup [sortsD so, bodyD b], natsD ns] s = some (runD b ns, s)
theorem len_one {fe : FE} {δ : Fr} {s s' : S} {ds : List D} (h : fCons fe fNil δ s = some (ds, s')) : ds.length = 1 := by
  obtain ⟨⟨d, s1⟩, h1, h⟩ := bind_some h
  obtain ⟨⟨x, y⟩, h2, h⟩ := map_some h
  cases h2
  cases h
  rfl
def P_init (C : Addr) (Pd : Fr → S → Prop) (fg : FGS) : Prop := (∀ (ns : List Nat) (s : S) (x : Addr), s x = some (.ins C []) → Pd (startD 3 [.ref x, natsD ns]) s) ∧
  ∀ (s0 : S) (c : SC) (ns : List Nat), c.C = C → ∃ δ', fg [c.n, c.d, c.o, c.e, c.p] (startD 3 [.ref c.a, natsD ns]) (supd s0 c.a (.ins C [])) = some (δ', sst s0 c (w0 ns))
theorem gOwnS_eq {i : Nat} {g : Str} {fo : FOw} {a x C : Addr} {δ : Fr} {s : S} {u : OO} {fs : List (Str × D)} (e1 : fo δ s = some (u, s)) (e2 : δ[i]? = some (some (.ref x))) (e3 : s x = some (.ins C fs)) :
    gOwnS i g fo [a] δ s = some (δ, supd (supd s a u) x (.ins C (putFD g (.ref a) fs))) := by
  unfold gOwnS; simp only [e1, Option.bind_some, e2, e3]
theorem gDcS_eq {i : Nat} {g : Str} {keys : List Str} {L : List D} {a x C : Addr} {as : List Addr} {δ : Fr} {s : S} {fs : List (Str × D)} (e2 : δ[i]? = some (some (.ref x))) (e3 : s x = some (.ins C fs)) :
    gDcS i g keys L (a :: as) δ s = some (δ, supd (ownAll (.lst L) as (supd s a (.dct (keys.zip (as.map D.ref))))) x (.ins C (putFD g (.ref a) fs))) := by
  unfold gDcS; simp only [e2, e3]
theorem gSetS_eq {i : Nat} {g : Str} {fe : FE} {x C : Addr} {δ : Fr} {s : S} {d : D} {fs : List (Str × D)} (e1 : fe δ s = some (d, s)) (e2 : δ[i]? = some (some (.ref x))) (e3 : s x = some (.ins C fs)) :
    gSetS i g fe [] δ s = some (δ, supd s x (.ins C (putFD g d fs))) := by
  unfold gSetS; simp only [e1, Option.bind_some, e2, e3]
/-- one statement of __init__ after another -/
theorem qSeq_own {i : Nat} {g : Str} {fo : FOw} {x C : Addr} {δ : Fr} {s : S} {u : OO} {fs : List (Str × D)} {P2 : Fr → S → Prop} (e1 : fo δ s = some (u, s)) (e2 : δ[i]? = some (some (.ref x))) (e3 : s x = some (.ins C fs)) (hl : fs.length < 1000)
    (h : ∀ a s', s' x = some (.ins C (putFD g (.ref a) fs)) → P2 δ s') : qSeqS 1 (qOwnS i C fo) P2 (gOwnS i g fo) δ s := by
  refine ⟨⟨u, x, fs, e1, e2, e3, hl⟩, fun as δ' s' hn hf e => ?_⟩
  match as, hn, hf with
  | [a], _, hf =>
  rw [gOwnS_eq e1 e2 e3] at e
  cases e
  have hax : a ≠ x := fun z => by
    have := hf.2 a List.mem_cons_self
    rw [z, e3] at this
    cases this
  refine ⟨h a _ supd_same, fun b hb => ?_⟩
  rw [List.mem_singleton.mp hb, supd_ne hax, supd_same]
  exact fun z => nomatch z
theorem qSeq_dc {i j : Nat} {g : Str} {keys : List Str} {L : List D} {x C : Addr} {δ : Fr} {s : S} {fs : List (Str × D)} {P2 : Fr → S → Prop} (hj : j < δ.length) (e2 : δ[i]? = some (some (.ref x))) (e3 : s x = some (.ins C fs)) (hl : fs.length < 1000)
    (h : ∀ a s', s' x = some (.ins C (putFD g (.ref a) fs)) → P2 δ s') : qSeqS (keys.length + 1) (qDcS i j C) P2 (gDcS i g keys L) δ s := by
  refine ⟨⟨x, fs, hj, e2, e3, hl⟩, fun as δ' s' hn hf e => ?_⟩
  match as, hn, hf with
  | a :: as, _, hf =>
  rw [gDcS_eq e2 e3] at e
  cases e
  have hax : ∀ b ∈ a :: as, b ≠ x := fun b hb z => by
    have := hf.2 b hb
    rw [z, e3] at this
    cases this
  refine ⟨h a _ supd_same, fun b hb => ?_⟩
  rw [supd_ne (hax b hb)]
  unfold ownAll
  rcases List.mem_cons.mp hb with rfl | hb
  · rw [if_neg (List.nodup_cons.mp hf.1).1, supd_same]
    exact fun z => nomatch z
  · rw [if_pos hb]
    exact fun z => nomatch z
theorem qSeq_set {i : Nat} {g : Str} {fe : FE} {x C : Addr} {δ : Fr} {s : S} {d : D} {fs : List (Str × D)} {P2 : Fr → S → Prop} (e1 : fe δ s = some (d, s)) (e2 : δ[i]? = some (some (.ref x))) (e3 : s x = some (.ins C fs)) (hl : fs.length < 1000)
    (h : ∀ s', s' x = some (.ins C (putFD g d fs)) → P2 δ s') : qSeqS 0 (qSetS i C fe) P2 (gSetS i g fe) δ s := by
  refine ⟨⟨d, x, fs, e1, e2, e3, hl⟩, fun as δ' s' hn hf e => ?_⟩
  match as, hn with
  | [], _ =>
  rw [gSetS_eq e1 e2 e3] at e
  cases e
  exact ⟨h _ supd_same, fun b hb => nomatch hb⟩
theorem keep_sst {s : S} {c : SC} {w : Wd} (ha : s c.a = none) (hn : s c.n = none) (hd : s c.d = none) (ho : s c.o = none) (he : s c.e = none) (hp : s c.p = none) : keepS s (sst s c w) = s := by
  funext b
  unfold keepS sst
  split
  · rename_i z; exact z.symm
  · rename_i z
    rw [if_neg (fun q => z (by rw [q]; exact ha)), if_neg (fun q => z (by rw [q]; exact hn)), if_neg (fun q => z (by rw [q]; exact hd)), if_neg (fun q => z (by rw [q]; exact ho)), if_neg (fun q => z (by rw [q]; exact he)), if_neg (fun q => z (by rw [q]; exact hp))]
end Fw

set_option Elab.async false
set_option linter.all false
set_option maxRecDepth 100000
namespace Fw
open PySem PySem.Spec PyProof.Rows L2
/-! ### what is no start -/
def numOk : D → Bool
  | .int i => decide (0 ≤ i) && decide (i ≤ 9)
  | _ => false
def simpD : D → Bool
  | .int _ => true
  | .bl _ => true
  | .non => true
  | _ => false
def P_is_num9 (g : FD) : Prop := ∀ (d : D) (s : S), simpD d = true → g [d, .int 9] s = some (.bl (numOk d), s)
def oddD (m : Nat) : D → Prop
  | .non => True
  | .int _ => True
  | .lst _ => True
  | .tup ds => ds.length ≤ 1000 ∧ (∀ d ∈ ds, simpD d = true) ∧ (ds.length = m → ds.all numOk = false)
  | _ => False
def P_is_start_bad (g : FD) : Prop := ∀ (so : List Bool) (b : List Sm) (x : D) (s : S), so.length ≤ 1000 → oddD so.length x → g [.tup [sortsD so, bodyD b], x] s = some (.bl false, s)
theorem blsD_map (f : D → Bool) : ∀ ds : List D, blsD (ds.map fun d => .bl (f d)) = some (ds.map f)
  | [] => rfl
  | d :: ds => by rw [List.map_cons, List.map_cons]; show (blsD _).map _ = _; rw [blsD_map f ds]; rfl
theorem all_map_id (f : D → Bool) (ds : List D) : (ds.map f).all id = ds.all f := by
  induction ds with
  | nil => rfl
  | cons d ds ih => rw [List.map_cons, List.all_cons, List.all_cons, ih]; rfl
end Fw
namespace Fw
open PySem PySem.Spec PyProof.Rows L2
def oddsD (ds : List D) : List D := [.non, .tup [], .tup (cutD ds (some 1) none), .tup (ds ++ [.int 0]), .lst ds, .tup (.int 10 :: cutD ds (some 1) none), .tup (.int (-1) :: cutD ds (some 1) none), .tup (.bl true :: cutD ds (some 1) none), .tup (cutD ds none (some (-1)) ++ [.non]), .int 0]
end Fw
namespace Fw
open PySem PySem.Spec PyProof.Rows L2
theorem kSeq_loopX {ft : FG} {fb g : FS} {ds : List D} {δ : Fr} {s : S} {R : Option (Out × S) → Prop} (I : Nat → Fr → S → Prop) (h0 : I 0 δ s)
    (hs : ∀ i d δ s, ds[i]? = some d → I i δ s → ∃ δ1, ft d δ = some δ1 ∧ ∃ δ2 s2, fb δ1 s = some (.nx δ2, s2) ∧ I (i + 1) δ2 s2)
    (h1 : ∀ δ s, I ds.length δ s → R (g δ s)) : R (kSeq g (loopF ft fb ds δ s)) := by
  rcases loopF_inv I (fun _ _ => False) ds 0 δ s h0 (fun i d δ s hd hi => by
    obtain ⟨δ1, e1, δ2, s2, e2, i2⟩ := hs i d δ s hd (by simpa using hi)
    exact ⟨δ1, e1, .inl ⟨δ2, s2, e2, by simpa using i2⟩⟩) with ⟨δ', s', e, i⟩ | ⟨d, s', e, i⟩
  · rw [e, kSeq_nx]
    exact h1 δ' s' (by simpa using i)
  · exact i.elim
theorem plain_nats (n : Nat) {l : List Nat} (h : l.length ≤ 10000000) : plainN (n + 1) (natsD l) := by
  refine ⟨by rw [List.length_map]; exact h, fun d hd => ?_⟩
  obtain ⟨x, _, rfl⟩ := List.mem_map.mp hd
  cases n <;> exact True.intro
theorem plain_runD {b : List Sm} {ns : List Nat} (ok : smsOk ns.length 2 b) (hb : b.length ≤ 7) (hn : ns.length ≤ 1000) (hv : ∀ n ∈ ns, n < 10) : plainN 3 (runD b ns) := by
  have hw : WOk ns.length (w0 ns) := ⟨rfl, hv, by simp [w0], by simp [w0], by simp [w0], by simp [w0], by simp [w0], by simp [w0], by simp [w0]⟩
  have hk := exsM_ok 2 b (w0 ns) ok hw
  have h1 := hk.ok.nl; have h2 := hk.ok.ol; have h3 := hk.ok.sl; have h4 := hk.ok.pl; have h5 := hk.st
  have hc2 : b.length * cst 2 ≤ 7 * cst 2 := Nat.mul_le_mul_right _ hb
  have hc3 : cst 2 = 157213 := by rfl
  have h0 : (w0 ns).steps = 0 := rfl
  refine ⟨by simp, fun d hd => ?_⟩
  simp only [List.mem_cons, List.mem_nil_iff, or_false] at hd
  rcases hd with rfl | rfl | rfl | rfl | rfl
  · exact True.intro
  · exact plain_nats 1 (by omega)
  · refine ⟨by simp, fun d hd => ?_⟩
    simp only [List.mem_cons, List.mem_nil_iff, or_false] at hd
    rcases hd with rfl | rfl
    · exact plain_nats 0 (by omega)
    · exact plain_nats 0 (by omega)
  · exact plain_nats 1 (by omega)
  · exact True.intro
theorem fin_row (a : Addr) (o : OO) : Fin (supd S0 a o) := ⟨a + 1, fun b hb => supd_ne (Nat.ne_of_gt (Nat.lt_of_succ_le hb))⟩
end Fw
namespace Fw
open PySem PySem.Spec PyProof.Rows L2
theorem simp_nats {ns : List Nat} : ∀ d ∈ ns.map natD, simpD d = true := fun d hd => by
  obtain ⟨x, _, rfl⟩ := List.mem_map.mp hd
  rfl
theorem odds_odd {ns : List Nat} {m : Nat} (hl : ns.length = m) (h1 : 1 ≤ m) (h2 : m ≤ 100) : ∀ x ∈ oddsD (ns.map natD), oddD m x := by
  have ht : cutD (ns.map natD) (some 1) none = (ns.map natD).tail := by simp
  have htl : (ns.map natD).tail.length = m - 1 := by rw [List.length_tail, List.length_map, hl]
  have hts : ∀ d ∈ (ns.map natD).tail, simpD d = true := fun d hd => simp_nats d (List.mem_of_mem_tail hd)
  have hc : ∀ d ∈ cutD (ns.map natD) none (some (-1)), simpD d = true := fun d hd => by
    unfold cutD at hd
    exact simp_nats d (List.mem_of_mem_drop (List.mem_of_mem_take hd))
  have hcl : (cutD (ns.map natD) none (some (-1))).length ≤ m := by
    unfold cutD
    rw [List.length_take, List.length_drop, List.length_map]
    omega
  intro x hx
  simp only [oddsD, ht, List.mem_cons, List.mem_nil_iff, or_false] at hx
  rcases hx with rfl | rfl | rfl | rfl | rfl | rfl | rfl | rfl | rfl | rfl
  · exact True.intro
  · exact ⟨by simp, (fun d hd => nomatch hd), fun h => absurd h (by simp; omega)⟩
  · exact ⟨by omega, hts, fun h => absurd h (by omega)⟩
  · refine ⟨by rw [List.length_append, List.length_map]; simp; omega, fun d hd => ?_, fun h => ?_⟩
    · rcases List.mem_append.mp hd with hd | hd
      · exact simp_nats d hd
      · rw [List.mem_singleton.mp hd]; rfl
    · rw [List.length_append, List.length_map, List.length_singleton] at h
      omega
  · exact True.intro
  · exact ⟨by rw [List.length_cons]; omega, fun d hd => (List.mem_cons.mp hd).elim (fun e => by rw [e]; rfl) (hts d), fun _ => rfl⟩
  · exact ⟨by rw [List.length_cons]; omega, fun d hd => (List.mem_cons.mp hd).elim (fun e => by rw [e]; rfl) (hts d), fun _ => rfl⟩
  · exact ⟨by rw [List.length_cons]; omega, fun d hd => (List.mem_cons.mp hd).elim (fun e => by rw [e]; rfl) (hts d), fun _ => rfl⟩
  · refine ⟨by rw [List.length_append, List.length_singleton]; omega, fun d hd => ?_, fun _ => ?_⟩
    · rcases List.mem_append.mp hd with hd | hd
      · exact hc d hd
      · rw [List.mem_singleton.mp hd]; rfl
    · rw [List.all_append]
      show (_ && (numOk .non && true)) = false
      rw [show numOk .non = false from rfl, Bool.false_and, Bool.and_false]
  · exact True.intro
end Fw

set_option Elab.async false
set_option linter.all false
set_option maxRecDepth 100000
set_option maxHeartbeats 4000000
/-! Ss1: sets of texts: set(t) of a tuple of texts, walked in whatever order. -/
namespace Fw
open PySem PySem.Spec PyProof.Rows L2
def txtOf (e : Int × Value) : Str := match e.2 with | .str x _ => x | _ => Str.empty
def TxtE (w : World) (e : Int × Value) : Prop := ∃ x tk, e = (hashStr w x, Value.str x tk)
/-- the set at a holds the texts xs, its table can be walked -/
def SetS (w : World) (h : Heap) (a : Addr) (xs : List Str) : Prop := ∃ o es ep t, h.get? a = some o ∧ o.ExactSet ∧ o.data = .set es ep t ∧ (∀ e ∈ es.toList, TxtE w e) ∧ (es.toList.map txtOf).Perm xs ∧ xs.Nodup ∧
  es.size < scanBound ∧ t.fits es.size = true ∧ Ris t.place.toList ∧ (w.params.followText "set-order" = true ∨ t.led = true)
theorem SetS.at {w : World} {h h' : Heap} {a : Addr} {xs : List Str} (R : SetS w h a xs) (k : ∀ o, h.get? a = some o → h'.get? a = some o) : SetS w h' a xs := let ⟨o, es, ep, t, ho, r⟩ := R; ⟨o, es, ep, t, k o ho, r⟩
theorem txt_elems {P : Program} {w : World} {l : List (Int × Value)} (g : ∀ e ∈ l, TxtE w e) : ElemsOf (PySem.strKind P w) l := fun e he => by
  obtain ⟨x, tk, rfl⟩ := g e he
  exact ⟨⟨x, strKind_is P w x tk, rfl⟩, rfl⟩
theorem txt_is {P : Program} {w : World} {e : Int × Value} (g : TxtE w e) (x : Str) : (PySem.strKind P w).is x e.2 = decide (txtOf e = x) := by
  obtain ⟨y, tk, rfl⟩ := g
  show (y == x) = decide (y = x)
  by_cases h : y = x
  · rw [decide_eq_true h]; exact beq_iff_eq.mpr h
  · rw [decide_eq_false h]; exact beq_eq_false_iff_ne.mpr h
section
variable {P : Program} {w : World} {A : Around} {E : Value → Shared → Prop} {s : Shared} {a : Addr}
/-- what is known of a set's object behind a store -/
structure Held1 (w : World) (h h' : Heap) (a : Addr) (l : List (Int × Value)) : Prop where
  sb : Heap.SameBut a h h'
  ob : ∃ o es ep t, h'.get? a = some o ∧ o.ExactSet ∧ o.data = .set es ep t ∧ es.toList.Perm l ∧ es.size < scanBound ∧ t.fits es.size = true ∧ Ris t.place.toList ∧ (w.params.followText "set-order" = true ∨ t.led = true)
/-- the end of an addition: the store, and where the table is too full it is laid anew -/
theorem put_tail {g : Bool → Sem Unit} (hg : ∀ (b : Bool) (s1 : Shared) (Q1 : Unit → Shared → Prop), Q1 () s1 → wpAny (model P w) A (g b) Q1 E s1) {o : Obj} {es es1 : Array (Int × Value)} {ep : Nat} {t t2 : SetTable}
    (ho : s.heap.get? a = some o) (hx : o.ExactSet) (hd : o.data = .set es ep t) (hb : es1.size < scanBound) (hf : t2.fits es1.size = true) (hr : Ris t2.place.toList) (hl : w.params.followText "set-order" = true ∨ t2.led = true) {dm : Bool} {R : Option Bool → Shared → Prop}
    (hR : ∀ h', Held1 w s.heap h' a es1.toList → R (some true) { s with heap := h' }) :
    wpAny (model P w) A (do
      storeSet a es1 t2
      if (!dm && t2.tooFull) = true then do
        g (relayAll t2 es1 (SetTable.grown es1.size)).2.2
        storeSet a (relayAll t2 es1 (SetTable.grown es1.size)).1 (relayAll t2 es1 (SetTable.grown es1.size)).2.1
        pure (some true)
      else pure (some true)) R E s := by
  have s1 := store_at (es' := es1) (t' := t2) ho hd
  have b1 := Heap.SameBut.update s.heap a (Obj.putSet es1 t2)
  refine wpAny_bind (wpAny_storeSet_of ho hd ?_ (fits_of_scanBound hb))
  split
  · have q1 := relayAll_perm t2 es1 (SetTable.grown es1.size); have q2 := relayAll_fits t2 es1 (SetTable.grown es1.size)
    have q3 := relayAll_ris t2 es1 (SetTable.grown es1.size); have q4 := relayAll_led t2 es1 (SetTable.grown es1.size)
    generalize relayAll t2 es1 (SetTable.grown es1.size) = Z at q1 q2 q3 q4 ⊢
    obtain ⟨es2, t3, gv⟩ := Z
    dsimp only at q1 q2 q3 q4 ⊢
    have hz : es2.size = es1.size := by simpa using q1.length_eq
    refine wpAny_bind (hg _ _ _ (wpAny_bind (wpAny_storeSet_of s1 rfl (wpAny_pure (hR _ ⟨b1.trans (Heap.SameBut.update _ a _), _, es2, _, t3, store_at (es' := es2) (t' := t3) s1 rfl, hx, rfl, q1, by rw [hz]; exact hb, q2, q3, ?_⟩)) (fits_of_scanBound (by rw [hz]; exact hb)))))
    exact hl.imp id fun z => by rw [q4]; exact z
  · exact wpAny_pure (hR _ ⟨b1, _, es1, _, t2, s1, hx, rfl, .refl _, hb, hf, hr, hl⟩)
/-- a text is put into the set -/
theorem put_txt {x : Str} {tk : Tok} {xs : List Str} {Q : Bool → Shared → Prop} (R : SetS w s.heap a xs) (room : xs.length + 1 < scanBound)
    (hQ : ∀ h' b, Heap.SameBut a s.heap h' → SetS w h' a (if x ∈ xs then xs else x :: xs) → Q b { s with heap := h' }) : wpAny (model P w) A (setAddHashed a (.str x tk) ((PySem.strKind P w).hash x)) Q E s := by
  obtain ⟨o, es, ep, t, ho, hx, hd, g, pm, nd, hb, hf, hr, hl⟩ := R
  have hel := txt_elems (P := P) g
  have hk : (PySem.strKind P w).is x (.str x tk) = true := strKind_is P w x tk
  have hes : es.size = xs.length := by simpa using pm.length_eq
  unfold setAddHashed setAddHashedIn
  refine wpAny_holding (wpAny_bind (wpAny_setState_of ho hd hf ?_)); dsimp only
  rw [byScan_of (x := .str x tk) rfl hb hel]; simp only [↓reduceIte]; unfold setAddByScan
  refine wpAny_bind (wpAny_bind (wpAny_rule (wpAny_bind (wpAny_setScan_of hk ho hd hf hel ?_))))
  cases hfi : List.findIdx? (fun e => (PySem.strKind P w).is x e.2) es.toList with
  | some j =>
    obtain ⟨hj, pj, _⟩ := List.findIdx?_eq_some_iff_getElem.mp hfi
    have hm : x ∈ xs := pm.mem_iff.mp (List.mem_map.mpr ⟨es.toList[j], List.getElem_mem hj, by rw [txt_is (g _ (List.getElem_mem hj))] at pj; exact of_decide_eq_true pj⟩)
    refine wpAny_pure (wpAny_pure (hQ s.heap _ (Heap.SameBut.refl a s.heap) ?_))
    rw [if_pos hm]
    exact ⟨o, es, ep, t, ho, hx, hd, g, pm, nd, hb, hf, hr, hl⟩
  | none =>
    have hm : x ∉ xs := fun z => by
      obtain ⟨e, he, q⟩ := List.mem_map.mp (pm.mem_iff.mpr z)
      have c := List.findIdx?_eq_none_iff.mp hfi e he
      rw [txt_is (g e he), decide_eq_true q] at c
      cases c
    have gw : ∀ (b : Bool) {s1 : Shared} {Q1 : Unit → Shared → Prop}, Q1 () s1 → wpAny (model P w) A (match b with | true => rule "set.scan.the-table-gave-way" | false => pure ()) Q1 E s1 := fun b s1 Q1 q => by
      cases b
      · exact wpAny_pure q
      · exact wpAny_rule q
    have l1 := layNew_perm t es ((PySem.strKind P w).hash x) (.str x tk); have l2 := layNew_fits t es ((PySem.strKind P w).hash x) (.str x tk)
    have l3 := layNew_ris t es ((PySem.strKind P w).hash x) (.str x tk) hr; have l4 := layNew_led t es ((PySem.strKind P w).hash x) (.str x tk)
    generalize layNew t es ((PySem.strKind P w).hash x) (.str x tk) = Z at l1 l2 l3 l4 ⊢
    obtain ⟨es1, t1, dm, gv⟩ := Z
    dsimp only at l1 l2 l3 l4 ⊢
    rw [Array.toList_push] at l1
    have pc : es1.toList.Perm ((hashStr w x, Value.str x tk) :: es.toList) := l1.trans (List.perm_append_singleton _ _)
    have hz : es1.size = es.size + 1 := by simpa using pc.length_eq
    have hb1 : es1.size < scanBound := by omega
    have hl1 : w.params.followText "set-order" = true ∨ t1.led = true := hl.imp id fun z => by rw [l4]; exact z
    have fin : ∀ h', Held1 w s.heap h' a es1.toList → Q true { s with heap := h' } := fun h' H => by
      obtain ⟨o2, es2, ep2, t3, e1, e2, e3, e4, e5, e6, e7, e8⟩ := H.ob
      refine hQ h' true H.sb ?_
      rw [if_neg hm]
      refine ⟨o2, es2, ep2, t3, e1, e2, e3, fun e he => ?_, ((e4.trans pc).map txtOf).trans (.cons x pm), List.nodup_cons.mpr ⟨hm, nd⟩, e5, e6, e7, e8⟩
      rcases List.mem_cons.mp ((e4.trans pc).mem_iff.mp he) with rfl | he
      · exact ⟨x, tk, rfl⟩
      · exact g e he
    refine wpAny_bind (gw _ ?_)
    split
    · refine wpAny_bind ?_
      rw [hashByValue_scannable 8 (x := .str x tk) rfl]
      refine wpAny_pure (put_tail (fun b s1 Q1 q => by cases b <;> first | exact wpAny_pure q | exact wpAny_rule q) ho hx hd hb1 ?_ ?_ ?_ fun h' H => wpAny_pure (fin h' H))
      · split <;> first | exact l2 | exact SetTable.fits_plain_off l2
      · split <;> exact l3
      · split <;> exact hl1
    · refine wpAny_bind (wpAny_pure ?_); simp only [↓reduceIte]
      exact put_tail (fun b s1 Q1 q => by cases b <;> first | exact wpAny_pure q | exact wpAny_rule q) ho hx hd hb1 l2 l3 hl1 fun h' H => wpAny_pure (fin h' H)
end
end Fw

set_option Elab.async false
set_option linter.all false
set_option maxRecDepth 100000
set_option maxHeartbeats 4000000
namespace Fw
open PySem PySem.Spec PyProof.Rows L2
/-- the texts of a list, each once -/
def addT (l : List Str) (x : Str) : List Str := if x ∈ l then l else x :: l
def onceT (xs : List Str) : List Str := xs.foldl addT []
theorem onceT_snoc (xs : List Str) (x : Str) : onceT (xs ++ [x]) = addT (onceT xs) x := by unfold onceT; rw [List.foldl_append]; rfl
theorem addT_le (l : List Str) (x : Str) : (addT l x).length ≤ l.length + 1 := by
  unfold addT; split
  · omega
  · rw [List.length_cons]; omega
theorem fold_le : ∀ (xs l : List Str), (xs.foldl addT l).length ≤ l.length + xs.length
  | [], l => by rw [List.foldl_nil, List.length_nil]; omega
  | x :: xs, l => by
    rw [List.foldl_cons, List.length_cons]
    have a := fold_le xs (addT l x); have b := addT_le l x
    omega
theorem onceT_le (xs : List Str) : (onceT xs).length ≤ xs.length := by have := fold_le xs []; simpa [onceT] using this
theorem fold_nodup : ∀ (xs l : List Str), (l ++ xs).Nodup → (xs.foldl addT l) = xs.reverse ++ l
  | [], l, _ => rfl
  | x :: xs, l, h => by
    have hx : x ∉ l := fun z => (List.nodup_append.mp h).2.2 x z x List.mem_cons_self rfl
    have h2 : ((x :: l) ++ xs).Nodup := by
      refine (List.Perm.nodup_iff ?_).mp h
      exact List.perm_middle
    rw [List.foldl_cons, show addT l x = x :: l from if_neg hx, fold_nodup xs (x :: l) h2, List.reverse_cons, List.append_assoc]
    rfl
theorem onceT_nodup {xs : List Str} (h : xs.Nodup) : onceT xs = xs.reverse := by unfold onceT; rw [fold_nodup xs [] h, List.append_nil]
section
variable {P : Program} {w : World} {A : Around} {R : Result → Shared → Prop} {I : Addr} {fp wr : List Addr} {G : Array GenState → Array GenState → Prop} {n : Nat} {Pv : Nat → Value → Prop} {St : Nat → Shared → Prop}
/-- the walk that fills a set with texts -/
theorem fill_txt (W : WalksS P w A.in1 I fp wr G n Pv St) (z : Addr) (hz : z ∉ fp) (xs : List Str) (hl : xs.length = n) (hn : n + 1 < scanBound) (hv : ∀ i v, Pv i v → ∃ t, v = .str (xs.getD i Str.empty) t) :
    ∀ (k i : Nat) (s : Shared), i + k = n → St i s → SetS w s.heap z (onceT (xs.take i)) → (∀ s', Moved (z :: wr) G s s' → SetS w s'.heap z (onceT xs) → R (.ok (.ret .none)) s') →
      codeAny (model P w) A (.builtin "set.update.loop" ⟨[.ref z, .ref I], []⟩) R s := by
  have zw : z ∉ wr := fun q => hz (W.sub _ q)
  have more : ∀ b ∈ wr, b ∈ z :: wr := fun b q => List.mem_cons_of_mem _ q
  intro k
  induction k with
  | zero =>
    intro i s hi st hs hR
    obtain rfl : i = n := by omega
    refine codeAny_builtin PyProof.Rows.F.entry_set_update_loop ?_
    rw [Around.under_plainId PyProof.Rows.F.plain_set_update_loop _]
    refine wpAny_bind (m := pyNext (.ref I)) (W.done s _ _ st fun s' hm => wpAny_pure (hR s' (hm.mono more) ?_))
    rw [List.take_of_length_le (Nat.le_of_eq hl)] at hs
    exact hs.at fun o e => hm.heap z o zw e
  | succ k ih =>
    intro i s hi st hs hR
    have hlt : i < n := by omega
    refine codeAny_builtin PyProof.Rows.F.entry_set_update_loop ?_
    rw [Around.under_plainId PyProof.Rows.F.plain_set_update_loop _]
    refine wpAny_bind (m := pyNext (.ref I)) (W.item i s _ _ hlt st fun v s' hp st' hm => ?_)
    obtain ⟨t, rfl⟩ := hv i v hp
    have hs' : SetS w s'.heap z (onceT (xs.take i)) := hs.at fun o e => hm.heap z o zw e
    refine wpAny_bind (m := holding [Value.str (xs.getD i Str.empty) t] (setAdd z (.str (xs.getD i Str.empty) t))) (wpAny_holding ?_)
    unfold setAdd
    refine wpAny_holding (wpAny_bind ((PySem.strKind P w).pyHash (k := xs.getD i Str.empty) (strKind_is _ _ _ _) ?_))
    have hroom : (onceT (xs.take i)).length + 1 < scanBound := by
      have q1 := onceT_le (xs.take i)
      rw [List.length_take] at q1
      omega
    refine put_txt (s := { s' with toks := s'.toks + 1 }) hs' hroom fun h' b sb hs2 => ?_
    have ei : xs.take (i + 1) = xs.take i ++ [xs.getD i Str.empty] := by
      have q : xs[i]? = some (xs.getD i Str.empty) := by rw [List.getD_eq_getElem?_getD, List.getElem?_eq_getElem (by omega)]; rfl
      rw [List.take_succ, q]; rfl
    have hs3 : SetS w h' z (onceT (xs.take (i + 1))) := by rw [ei, onceT_snoc]; exact hs2
    refine wpAny_pure ⟨plainId_quiet PyProof.Rows.F.plain_set_update_loop _, ih (i + 1) _ (by omega) (W.frame _ s' _ _ st' (Nat.le_succ _) fun c hc o e => ?_) hs3 fun s2 m2 q2 => hR s2 (Moved.trans W.gtrans ((hm.mono more).then_heap (Nat.le_succ _) fun c o hc e => ?_) m2) q2⟩
    · rw [sb.2 c (fun q : c = z => hz (q ▸ hc))]; exact e
    · rw [sb.2 c (fun q : c = z => hc (q ▸ List.mem_cons_self))]; exact e
end
end Fw

set_option Elab.async false
set_option linter.all false
set_option maxRecDepth 100000
set_option maxHeartbeats 4000000
namespace Fw
open PySem PySem.Spec PyProof.Rows L2
/-- an empty set -/
abbrev obS (w : World) : Obj := { cls := .type "set", dict := none, data := .set #[] 0 (.fresh 0 0 (!w.params.followText "set-order")) }
theorem setS_fresh {w : World} {h : Heap} {a : Addr} (ho : h.get? a = some (obS w)) : SetS w h a [] :=
  ⟨_, #[], 0, _, ho, ⟨rfl, rfl, rfl⟩, rfl, fun e he => by simp at he, List.Perm.refl _, List.nodup_nil, by decide, by rfl, List.Pairwise.nil, by
    show _ ∨ (!w.params.followText "set-order") = true
    cases w.params.followText "set-order"
    · exact .inr rfl
    · exact .inl rfl⟩
section
variable {P : Program} {w : World} {A : Around} {E : Value → Shared → Prop} {s : Shared}
/-- set(t), t a tuple of texts -/
theorem call_txt {l : Addr} {its : Array Value} (xs : List Str) {Q : Value → Shared → Prop} (hh : A.handled = none) (hl : s.heap.IsTuple l its) (hx : StrsAre its.toList xs) (hb : xs.length + 1 < scanBound)
    (hq : ∀ (h' : Heap) (tk : Nat), SetS w h' s.heap.objs.size (onceT xs) → (∀ b o, s.heap.get? b = some o → h'.get? b = some o) → Q (.ref s.heap.objs.size) { s with heap := h', toks := tk }) :
    wpAny (model P w) A (call (.type "set") [.ref l]) Q E s := by
  have hz : xs.length = its.size := by rw [← StrsAre.len_eq hx, Array.length_toList]
  obtain ⟨c, tl, hmro⟩ := F.called_set.mro
  have hmade := F.called_set.made; have hsub := F.called_set.sub; have h1 := F.called_set.notType; have h2 := F.called_set.canCreate; have hct := F.typeCall_set_1 (.ref l)
  refine wpAny_call (codeAny_of_tree ?_); show wpAny _ _ (callAny (.type "set") _) _ _ _; refine wpAny_pure ⟨Code.quiet_builtin _ (by decide +kernel), codeAny_builtin F.entry_type_call ?_⟩
  rw [Around.under_plain (weight_type_call_type "set" [.ref l] []) rfl]; repeat (any_goals (first | assumption | wp_step))
  refine codeAny_mono (code_set_led1 (.ref l) (E := E) (Q₁ := fun u s1 => u = .ref s.heap.objs.size ∧ s1 = { s with heap := s.heap.push (obS w) }) ⟨rfl, rfl⟩) fun r s1 hr => ?_
  cases r with
  | error e => exact hr
  | ok fl =>
    cases fl with
    | next => exact hr.elim
    | brk => exact hr.elim
    | cont => exact hr.elim
    | ret u =>
      obtain ⟨rfl, rfl⟩ := hr
      have hS : (s.heap.push (obS w)).get? s.heap.objs.size = some (obS w) := Heap.get?_push_size _ rfl
      have hT : Shared.TypeIs { s with heap := s.heap.push (obS w) } (.ref s.heap.objs.size) "set" := ⟨_, hS, rfl⟩
      have hli := F.called_set.init.lookup; have hbi := F.called_set.init.bind (.ref s.heap.objs.size)
      repeat (any_goals (first | assumption | wp_step))
      refine codeAny_mono (codeAny_call_builtin (R := wants (fun r s2 => r = .none ∧ ∃ h' tk, s2 = { s with heap := h', toks := tk } ∧ SetS w h' s.heap.objs.size (onceT xs) ∧ ∀ b o, s.heap.get? b = some o → h'.get? b = some o) E)
        F.called_set.init.plain F.entry_set_init (check_set_init_1 hT ?_)) fun r2 s2 hr2 => ?_
      · obtain ⟨⟨oc, od, odt, osl⟩, hol, hcl, nl, hdl⟩ := hl
        simp only at hcl hdl
        subst hcl hdl
        have hol2 : (s.heap.push (obS w)).get? l = some { cls := .type "tuple", dict := od, data := .seq its nl, slots := osl } := Heap.get?_push_of_some _ hol
        have hsls := F.sub_tuple_set; have hslf := F.sub_tuple_frozenset; have hne : (Value.type "tuple" == Value.type "dict") = false := by decide
        have hl1 : (s.heap.push (obS w)).IsTuple l its := ⟨_, hol2, rfl, nl, rfl⟩
        unfold Builtin.«set.__init__» noKeywords Builtin.Frozenset.updateFrom
        generalize hPI : pyIter = PI; wp_walk; subst hPI
        refine wpAny_pyIter_tuple hl1 (wpAny_bind (wpAny_runValue ?_))
        have lt : l < s.heap.objs.size := Heap.lt_size hol
        have hh3 : A.in1.in1.in1.handled = none := by simp [hh]
        have sz1 : (s.heap.push (obS w)).objs.size = s.heap.objs.size + 1 := Heap.size_push ..
        have ni : l ≠ (s.heap.push (obS w)).objs.size := by rw [sz1]; exact Nat.ne_of_lt (Nat.lt_succ_of_lt lt)
        have nf : s.heap.objs.size ∉ [(s.heap.push (obS w)).objs.size, l] := by
          rw [sz1]; simp only [List.mem_cons, List.not_mem_nil, or_false, not_or]; exact ⟨Nat.ne_of_lt (Nat.lt_succ_self _), Nat.ne_of_gt lt⟩
        have hv : ∀ (i : Nat) (v : Value), its[i]? = some v → ∃ t, v = .str (xs.getD i Str.empty) t := fun i v q => SS.strs_at hx i v (by rw [Array.getElem?_toList]; exact q)
        refine fill_txt ((Walks.tuple hh3 _ l ni its).toS) s.heap.objs.size nf xs hz (by rw [← hz]; exact hb) hv its.size 0 _ (by omega) ⟨⟨_, Heap.get?_push_size _ rfl, rfl, rfl⟩, hl1.push _⟩ (setS_fresh (Heap.get?_push_of_some _ hS)) ?_
        intro s' hm hs'
        obtain ⟨h', g2, d', tk', os'⟩ := s'
        obtain rfl : g2 = s.gens := hm.gens
        obtain rfl : d' = s.drawn := hm.drawn
        obtain rfl : os' = s.os := hm.os
        refine wpAny_pure ?_; show wpAny _ _ (ret Value.none) _ _ _; refine wpAny_pure ⟨rfl, h', tk', rfl, hs', fun b o e => ?_⟩
        have hb0 : b < s.heap.objs.size := Heap.lt_size e
        refine hm.heap b o ?_ (Heap.get?_push_of_some _ (Heap.get?_push_of_some _ e))
        rw [sz1]; simp only [List.mem_cons, List.not_mem_nil, or_false, not_or]; exact ⟨Nat.ne_of_lt hb0, Nat.ne_of_lt (Nat.lt_succ_of_lt hb0)⟩
      · cases r2 with
        | error e => exact hr2
        | ok fl2 =>
          cases fl2 with
          | next => exact hr2.elim
          | brk => exact hr2.elim
          | cont => exact hr2.elim
          | ret u =>
            obtain ⟨rfl, h', tk, rfl, q1, q2⟩ := hr2
            repeat (any_goals (first | assumption | wp_step))
            exact hq _ _ q1 q2
end
end Fw

set_option Elab.async false
set_option linter.all false
set_option maxRecDepth 100000
set_option maxHeartbeats 4000000
namespace Fw
open PySem PySem.Spec PyProof.Rows L2
/-! ### texts in order -/
def leT (a b : Str) : Bool := !ltCps b.cps.toList a.cps.toList
theorem leT_iff {a b : Str} : leT a b = true ↔ a.cps.toList ≤ b.cps.toList := by
  unfold leT
  rw [ltCps_eq, Bool.not_eq_true', decide_eq_false_iff_not]
  exact List.not_lt
theorem leT_trans (a b c : Str) (h1 : leT a b = true) (h2 : leT b c = true) : leT a c = true := leT_iff.mpr (List.le_trans (leT_iff.mp h1) (leT_iff.mp h2))
theorem leT_total (a b : Str) : (leT a b || leT b a) = true := by
  rw [Bool.or_eq_true, leT_iff, leT_iff]
  exact List.le_total _ _
theorem leT_anti {a b : Str} (h1 : leT a b = true) (h2 : leT b a = true) : a = b := by
  have h := List.le_antisymm (leT_iff.mp h1) (leT_iff.mp h2)
  obtain ⟨x⟩ := a
  obtain ⟨y⟩ := b
  exact congrArg Str.mk (Array.toList_inj.mp h)
theorem rising_pw : ∀ (l : List Str) (p : Str), risingS p l = true → (p :: l).Pairwise fun a b => leT a b = true
  | [], p, _ => List.pairwise_singleton _ _
  | x :: r, p, h => by
    unfold risingS at h
    rw [Bool.and_eq_true] at h
    have ih := rising_pw r x h.2
    have hx : leT p x = true := h.1
    refine List.pairwise_cons.mpr ⟨fun y hy => ?_, ih⟩
    rcases List.mem_cons.mp hy with rfl | hy
    · exact hx
    · exact leT_trans p x y hx ((List.pairwise_cons.mp ih).1 y hy)
theorem sortedS_pw {l : List Str} (h : sortedS l = true) : l.Pairwise fun a b => leT a b = true := by
  cases l with
  | nil => exact .nil
  | cons x r => exact rising_pw r x h
/-- the texts of a list once each, ascending -/
def srtT (xs : List Str) : List Str := (onceT xs).mergeSort leT
theorem srtT_of {xs ys : List Str} (p : ys.Perm (onceT xs)) (h : sortedS ys = true) : ys = srtT xs := by
  refine List.Perm.eq_of_pairwise (fun a b _ _ h1 h2 => leT_anti h1 h2) (sortedS_pw h) (List.pairwise_mergeSort leT_trans leT_total _) (p.trans (List.mergeSort_perm _ _).symm)
theorem srtT_self {xs : List Str} (h : xs.Pairwise fun a b => leT a b = true) (nd : xs.Nodup) : srtT xs = xs := by
  refine (List.Perm.eq_of_pairwise (fun a b _ _ h1 h2 => leT_anti h1 h2) h (List.pairwise_mergeSort leT_trans leT_total _) ?_).symm
  rw [onceT_nodup nd]
  exact (List.reverse_perm xs).symm.trans (List.mergeSort_perm _ _).symm
/-! ### sorted(set(t)) -/
def vTxt : Value → Str | .str x _ => x | _ => Str.empty
theorem strs_val : ∀ (l : List Value), (∀ v ∈ l, ∃ x t, v = Value.str x t) → StrsAre l (l.map vTxt)
  | [], _ => .nil
  | v :: l, h => by
    obtain ⟨x, t, rfl⟩ := h v List.mem_cons_self
    exact .cons x t (strs_val l fun u hu => h u (List.mem_cons_of_mem _ hu))
section
variable {P : Program} {w : World} {A : Around} {E : Value → Shared → Prop} {s : Shared} {a : Addr}
theorem sorted_txt {xs : List Str} {Q : Value → Shared → Prop} (R : SetS w s.heap a xs) (hh : A.handled = none) (h64 : xs.length < 64)
    (hQ : ∀ s' p (out : Array Value) (c : Nat) (ys : List Str), (∀ b o, s.heap.get? b = some o → s'.heap.get? b = some o) → s'.gens = s.gens → s'.os = s.os → s.heap.objs.size ≤ p →
      s'.heap.get? p = some (seqObj "list" out c) → StrsAre out.toList ys → ys.Perm xs → sortedS ys = true → Q (.ref p) s') : wpAny (model P w) A (call (.builtin "sorted") [.ref a]) Q E s := by
  obtain ⟨o, es, ep, t, ho, hx, hd, g, pm, nd, hb, hf, hr, hl⟩ := R
  have hes : es.size = xs.length := by simpa using pm.length_eq
  refine Calls.call_function_entry kind_sorted plain_sorted entry_sorted (args_sorted1 _) ?_
  unfold Builtin.«sorted»
  refine wpAny_bind (m := checkCount "sorted" 1 1 _) (wpAny_pure (wpAny_bind (collect_set (A := A.in1) hh ⟨o, ho, hx.1, hd⟩ hf hb hr hl fun s1 vs k1 sz g1 o1 pv => ?_)))
  have hvl : vs.length = xs.length := by rw [pv.length_eq, List.length_map, Array.length_toList]; exact hes
  have hS : StrsAre vs (vs.map vTxt) := strs_val vs fun v hv => by
    obtain ⟨e, he, q⟩ := List.mem_map.mp (pv.mem_iff.mp hv)
    obtain ⟨x, tk, rfl⟩ := g e he
    exact ⟨x, tk, q.symm⟩
  have pk : (vs.map vTxt).Perm xs := by
    have q := pv.map vTxt
    rw [List.map_map] at q
    exact q.trans pm
  refine wpAny_bind (wpAny_newList ?_ (by rw [hvl, sizeLine_eq]; omega))
  have hoL : (s1.heap.push (seqObj "list" vs.toArray 0)).get? s1.heap.objs.size = some (seqObj "list" vs.toArray 0) := Heap.get?_push_size _ rfl
  refine wpAny_bind (wpAny_holding (wpAny_call_entry slot_list_sort ⟨_, hoL, rfl⟩ entry_list_sort
    (list_sort_treeK strKind_oneLt hoL hS.keysOf (fun v1 v2 rest e => keyKind_strs (by rw [← e]; exact hS)) (by rw [hvl]; exact h64) fun st hp hs => ⟨_, rfl, ?_⟩) (args_list_sort _)))
  obtain ⟨ys, y1, y2, y3⟩ := sorted_out_str hS hp hs
  obtain ⟨c, hc⟩ := sortedHeap_at (vs := vs) (out := (arrOf st).map (·.2)) hoL
  refine wpAny_pure ⟨_, rfl, hQ _ s1.heap.objs.size _ c ys (fun b u e => ?_) g1 o1 sz hc y1 (y2.trans pk) y3⟩
  have hlt := Heap.lt_size (k1 b u e)
  show (sortedHeap (s1.heap.push (seqObj "list" vs.toArray 0)) s1.heap.objs.size vs ((arrOf st).map (·.2))).get? b = some u
  rw [sortedHeap_old (Nat.ne_of_lt hlt) (by rw [size_push']; exact Nat.lt_succ_of_lt hlt)]
  exact Heap.get?_push_of_some _ (k1 b u e)
end
/-- sorted(set(e)) -/
def tSrtS (K : PySem.W.Frag) (ta : TE) : TE := fun σ H Q => ta σ H fun x H1 => ∃ (l : Addr) (xs : List Str), x = .ref l ∧ SqT K H1 l (xs.map V.str) ∧ xs.length < 64 ∧ ∀ p, H1 p = none → Q (.ref p) (upd H1 p (.lst ((srtT xs).map V.str)))
theorem pe_srtS {X : Cx} {a : Expr} {ta : TE} {p p2 q pos : Pos} (hc : X.calm = true) (hg : Gl X "sorted") (hm : X.mg "sorted" = none) (hg2 : Gl X "set") (hm2 : X.mg "set" = none) (ha : PE X a ta)
    (na : starEach [a] X.env = (false, eval a X.env) :: starEach [] X.env := by rfl) : PE X (.Call (.Name "sorted" p) [.Call (.Name "set" p2) [a] [] q] [] pos) (tSrtS X.K ta) := by
  refine ⟨fun pins s σ H Q I h => ?_⟩
  refine wpAny_Call_Name_kw (ld_blt I hg hm PyProof.Rows.boot_sorted (PyProof.Rows.callWith_builtin1 (PyProof.Rows.args_cons ?_ rfl) rfl rfl))
  refine wpAny_Call_Name_kw (ld_blt I hg2 hm2 PyProof.Rows.boot_set (PyProof.Rows.callWith_type1 (PyProof.Rows.args_cons (thn (ha.run pins s σ H _ I h) fun v s1 ⟨x, H1, I1, r1, q1⟩ => PyProof.Rows.args_nil ?_) na) na rfl))
  obtain ⟨l, xs, rfl, hq, h1, q1⟩ := q1
  cases r1
  obtain ⟨its, r, pl, hz⟩ := I1.tuple hq
  have hxs : its.length = xs.length := by rw [← r.length, List.length_map]
  refine call_txt xs (I1.ok.hd hc) pl (by simpa using strsAre_of r) (by unfold scanBound; omega) fun h' tk hS hk => PyProof.Rows.args_nil ?_
  have I2 : Inv X pins σ H1 { s1 with heap := h', toks := tk } := I1.kept fun b o e => hk b o e
  refine sorted_txt hS (I2.ok.hd hc) (Nat.lt_of_le_of_lt (onceT_le xs) h1) fun s' p out c ys k g o hp hg' hi pm hs => ?_
  have ey := srtT_of pm hs
  have hlen : (ys.map V.str).length ≤ sizeLine := by
    rw [List.length_map, pm.length_eq]
    exact Nat.le_trans (Nat.le_of_lt (Nat.lt_of_le_of_lt (onceT_le xs) h1)) (by decide)
  have hn : H1 p = none := I2.hok.fresh hp
  have J : Inv X pins σ (upd H1 p (.lst (ys.map V.str))) { s1 with heap := s'.heap, gens := s'.gens, drawn := s'.drawn, toks := s'.toks } :=
    Inv.call (s := { s1 with heap := h', toks := tk }) (ch := []) I2 (Un.laid k hp hn) (I2.hok.laid k hp ⟨hlen, out.toList, c, vals_of_strs hi, by rw [Array.toArray_toList]; exact hg'⟩) (by rw [g]; exact I2.bare) (fun _ z => nomatch z)
  have e : s' = { s1 with heap := s'.heap, gens := s'.gens, drawn := s'.drawn, toks := s'.toks } := by
    cases s'; cases s1; cases o
    rfl
  rw [e]
  refine ⟨.ref p, _, J, rfl, ?_⟩
  rw [ey]
  exact q1 p hn
end Fw

set_option Elab.async false
set_option linter.all false
set_option maxRecDepth 100000
set_option maxHeartbeats 4000000
namespace Fw
open PySem PySem.Spec PyProof.Rows L2
/-! ### enumerate(t), t a tuple -/
abbrev obTI (l : Addr) : Obj := { cls := .type "tuple_iterator", data := .fields #[.ref l, .int 0 0] }
abbrev obEn (i : Addr) : Obj := { cls := .type "enumerate", data := .fields #[.none, .bool false, .ref i, rawInt 0, .none, .none] }
open PySem.AutoSeq1 (wpAny_loadPart') in
theorem meets_enT (l : Addr) (its : Array Value) (n : Nat) (dct : Option Addr) (sl : Array (Option Value)) : Meets (Builtin.«enumerate.__new__» ⟨[.type "enumerate", .ref l], []⟩) (fun _ R s =>
    s.heap.get? l = some { cls := .type "tuple", dict := dct, data := .seq its n, slots := sl } ∧ R (.ok (.ret (.ref (s.heap.push (obTI l)).objs.size))) { s with heap := (s.heap.push (obTI l)).push (obEn s.heap.objs.size) }) :=
  .of_wp fun prog w A R s h => by
    obtain ⟨hp, g, d, tk, os⟩ := s
    obtain ⟨hl, h⟩ := h
    have hsub := sub_enumerate
    have hL : Heap.IsTuple (Shared.heap ⟨hp, g, d, tk, os⟩) l its := ⟨_, hl, rfl, n, rfl⟩
    wp_walk using wpAny_loadPart' hl
    refine wpAny_stack_any fun st => wpAny_pure ?_
    split
    · rename_i c _ _ _ _ _
      cases (c == Value.type "enumerate") <;> (wp_walk using wpAny_loadPart' hl, wpAny_pyIter_tuple hL; exact ⟨_, rfl, h⟩)
    · wp_walk using wpAny_loadPart' hl, wpAny_pyIter_tuple hL; exact ⟨_, rfl, h⟩
section
variable {P : Program} {w : World} {A : Around} {E : Value → Shared → Prop} {s : Shared}
theorem call_enT {l : Addr} {its : Array Value} {Q : Value → Shared → Prop} (hL : s.heap.IsTuple l its)
    (h : ∀ h', IsEnum h' (s.heap.objs.size + 1) s.heap.objs.size 0 .none → h'.IsTupleIter s.heap.objs.size l 0 → (∀ b o, s.heap.get? b = some o → h'.get? b = some o) → Q (.ref (s.heap.objs.size + 1)) { s with heap := h' }) :
    wpAny (model P w) A (call (.type "enumerate") [.ref l]) Q E s := by
  obtain ⟨⟨c, dct, dt, sl⟩, hl, hc, n, hd⟩ := hL
  simp only at hc hd
  subst hc hd
  have hz : (s.heap.push (obTI l)).objs.size = s.heap.objs.size + 1 := Heap.size_push ..
  refine callType_new F.called_enumerate (by decide) (F.typeCall_enumerate_1 _) (F.newCall_enumerate_1 _) (fun obj => F.args_object_init_2 obj _) F.entry_enumerate_new (meets_enT l its n dct sl) ⟨hl, ?_⟩
  show _ ∧ _; rw [hz]
  have he : IsEnum ((s.heap.push (obTI l)).push (obEn s.heap.objs.size)) (s.heap.objs.size + 1) s.heap.objs.size 0 .none := by
    have q := Heap.get?_push_size (s.heap.push (obTI l)) (o := obEn s.heap.objs.size) rfl
    rw [hz] at q; exact q
  exact ⟨⟨_, he, rfl⟩, h _ he ⟨_, Heap.get?_push_of_some _ (Heap.get?_push_size _ rfl), rfl, rfl⟩ fun b o x => Heap.get?_push_of_some _ (Heap.get?_push_of_some _ x)⟩
end
section
variable {P : Program} {w : World} {A : Around} {E : Value → Shared → Prop} {s : Shared}
theorem enT_end {e it l : Addr} {i : Nat} {c : Int} {its : Array Value} {old : Value} {Q : Option Value → Shared → Prop} (hh : A.handled = none) (he : IsEnum s.heap e it c old) (hit : s.heap.IsTupleIter it l i) (hl : s.heap.IsTuple l its) (hx : its[i]? = none)
    (hQ : ∀ h', Heap.ExtBut it s.heap h' → Q none { s with heap := h' }) : wpAny (model P w) A (pyNext (.ref e)) Q E s := by
  have hT : s.TypeIs (.ref e) "enumerate" := ⟨_, he, rfl⟩
  unfold pyNext
  refine wpAny_bind (wpAny_attempt (wpAny_callSpecial?_slot (name := Str.ofString "__next__") hT F.slot_enumerate_next (wpAny_call_entry F.slot_enumerate_next hT F.entry_enumerate_next ?_ (F.args_enumerate_next_1 _))))
  refine wpAny_bind (m := field (.ref e) 2) (wpAny_field he rfl (x := .ref it) rfl (wpAny_bind (wpAny_nextOf_tuple_end (A := A.in1) hh hit hl hx fun h' x k hx => ?_)))
  obtain ⟨o, ho, hc⟩ := hx
  exact wpAny_bind (wpAny_isInstance (T := "StopIteration") (b := true) ⟨o, ho, hc⟩ isSubtype_stop (wpAny_pure (hQ _ k)))
end
/-- the tuple at a, each item in a new pair with its number -/
def ItET (K : PySem.W.Frag) (a : Addr) : It :=
  ⟨fun i H => ∃ (xs : List V) (x : V), SqT K H a xs ∧ xs[i]? = some x, fun i H v H' => ∃ T o x, v = .ref T ∧ H T = none ∧ o.dict = none ∧ H' = upd H T (.frz o (.tup [.int (i : Nat), x])) ∧ ∀ xs, SqT K H a xs → xs[i]? = some x, fun i H => ∃ xs : List V, SqT K H a xs ∧ xs.length ≤ i⟩
theorem turn_enT {P : Program} {w : World} {K : PySem.W.Frag} {elts : List Expr} {kk : Nat} {tpos : Pos} (a e it : Addr) : Turn P w K (.Tuple elts kk tpos) (ItET K a) [e, it] e (fun i h => (∃ old, IsEnum h e it ((i : Nat) : Int) old) ∧ h.IsTupleIter it a i ∧ e ≠ it ∧ a ≠ it ∧ a ≠ e) where
  mem := by simp
  obj := fun i h st b hb => by
    obtain ⟨⟨old, he⟩, ⟨o, ho, hc, hd⟩, _⟩ := st
    rcases (show b = e ∨ b = it by simpa using hb) with rfl | rfl
    · exact ⟨_, he, fun v q => nomatch q⟩
    · exact ⟨o, ho, fun v q => by rw [hd] at q; cases q⟩
  keep := fun i h h' st k => let ⟨⟨old, he⟩, hi, hne⟩ := st; ⟨⟨old, k e (by simp) _ he⟩, hi.at fun o q => k it (by simp) o q, hne⟩
  item := by
    intro X hP hw hK hc i pins s σ H E I hf st hg
    subst hP hw hK
    obtain ⟨⟨old, he⟩, hit, hne, hai, hae⟩ := st
    obtain ⟨xs, x, hq, hx⟩ := hg
    obtain ⟨its, rv, p, hz⟩ := I.tuple hq
    obtain ⟨u, hu, ru⟩ := rv.get hx
    have lt_e : e < s.heap.objs.size := Heap.lt_size he
    have lt_i : it < s.heap.objs.size := let ⟨_, q, _⟩ := hit; Heap.lt_size q
    have hlt : i < its.toArray.size := by simpa using (List.getElem?_eq_some_iff.mp hu).1
    refine wpAny_pyNext_enum_itemD (Draws.tuple (A := X.A.in1) (I.ok.hd hc) it a hai its.toArray) he ⟨hit, p⟩ hlt hne (by simp only [List.mem_cons, List.not_mem_nil, or_false, not_or]; exact ⟨hne, fun q => hae q.symm⟩) fun x' h' tk hx' ho hst hT hsz hk => ?_
    obtain rfl : x' = u := by
      have q : its[i]? = some x' := by simpa using hx'
      rw [hu] at q; exact (Option.some.inj q).symm
    refine ⟨_, rfl, wpAny_letOwnedTupleGo_enum (s := { s with heap := h', toks := tk + 1 }) ho fun h2 he2 sb => ?_⟩
    have hT2 : h2.get? s.heap.objs.size = some { cls := .type "tuple", data := .seq #[.int i tk, x'] } := (sb.2 _ (Nat.ne_of_gt lt_e)).trans hT
    have new : ObjOk X.prog X.w (upd H s.heap.objs.size (.frz { cls := .type "tuple", data := .seq #[.int i tk, x'] } (.tup [.int (i : Nat), x]))) h2 s.heap.objs.size (.frz { cls := .type "tuple", data := .seq #[.int i tk, x'] } (.tup [.int (i : Nat), x])) := ⟨hT2, by show 2 ≤ sizeLine; decide, [.int i tk, x'], .cons ⟨_, rfl⟩ (.cons ru .nil), ⟨_, hT2, rfl, _, rfl⟩⟩
    have I1 : Inv X pins σ (upd H s.heap.objs.size (.frz { cls := .type "tuple", data := .seq #[.int i tk, x'] } (.tup [.int (i : Nat), x]))) { s with heap := h2, toks := tk + 1 } :=
      I.turnedNew (ch := [e, it]) (fun b ob hb q => (sb.2 b (fun z => hb (by simp [z]))).trans (hk b ob (fun z => hb (by simp [z])) (fun z => hb (by simp [z])) q)) hf (Nat.le_refl _) new
    refine ⟨.ref s.heap.objs.size, _, I1, rfl, ⟨_, _, x, rfl, I.hok.fresh (Nat.le_refl _), rfl, rfl, fun ys hy => by rw [I.tuple_inj hy hq]; exact hx⟩, ⟨⟨x', ?_⟩, hst.1.at fun o q => (sb.2 it (Ne.symm hne)).trans q, hne, hai, hae⟩, fun b hb => ?_⟩
    · rw [show ((i + 1 : Nat) : Int) = (i : Int) + 1 by omega]; exact he2
    · have hb2 : b < s.heap.objs.size := by
        rcases (show b = e ∨ b = it by simpa using hb) with rfl | rfl
        · exact lt_e
        · exact lt_i
      rw [upd_ne (Nat.ne_of_lt hb2)]
      exact (hf b hb).1
  done := by
    intro X hP hw hK hc i pins s σ H E I hf st hg
    subst hP hw hK
    obtain ⟨⟨old, he⟩, hit, hne, hai, hae⟩ := st
    obtain ⟨xs, hq, hx⟩ := hg
    obtain ⟨its, rv, p, hz⟩ := I.tuple hq
    obtain ⟨f0, f1, f2, f3, f4, f5⟩ := hf it (by simp)
    have hl := rv.length
    refine enT_end (I.ok.hd hc) he hit p (by simp; omega) fun h' eb => ⟨rfl, I.turned (t' := s.toks) (fun b o hb q => eb b o hb q) f0 f1 f3 f4 f5⟩
  self := fun A i s Q E st h => let ⟨⟨_, he⟩, _⟩ := st; wpAny_pyIter_enum he h
/-! ### by data -/
def iEnT (K : PySem.W.Frag) (ta : TA) : TI := fun σ H R => ta σ H fun vs H1 => ∃ a xs, vs = [.ref a] ∧ SqT K H1 a xs ∧ R (ItET K a) H1
theorem pi_enT {X : Cx} {e : Expr} {ta : TA} {p pos tpos : Pos} {elts : List Expr} {kk : Nat} (hg : Gl X "enumerate") (hm : X.mg "enumerate" = none) (ha : PA X [e] ta) (hs : starEach [e] X.env = [(false, eval e X.env)] := by rfl) :
    PI X (.Tuple elts kk tpos) (.Call (.Name "enumerate" p) [e] [] pos) (iEnT X.K ta) := by
  refine ⟨fun pins s σ H R I h => ?_⟩
  refine wpAny_Call_Name_kw (ld_blt I hg hm boot_enumerate (PyProof.Rows.callWith_type1 (thn (ha.run pos pins s σ H _ I h) fun us s1 ⟨vs, H1, I1, r1, q1⟩ => ?_) hs rfl))
  obtain ⟨a, xs, rfl, hq, q⟩ := q1
  cases r1 with
  | cons r rr =>
    cases rr
    cases r
    obtain ⟨its, rv, p', hz⟩ := I1.tuple hq
    have lt_a : a < s1.heap.objs.size := by obtain ⟨o, ho, _⟩ := p'; exact Heap.lt_size ho
    refine call_enT p' fun h' he hit hk => wpAny_pyIter_enum he ?_
    have I2 : Inv X pins σ H1 { s1 with heap := h' } := I1.kept (t' := s1.toks) hk
    refine ⟨s1.heap.objs.size + 1, [s1.heap.objs.size + 1, s1.heap.objs.size], _, _, H1, rfl, I2, turn_enT a (s1.heap.objs.size + 1) s1.heap.objs.size, ⟨⟨.none, he⟩, hit, Nat.succ_ne_self _, Nat.ne_of_lt lt_a, Nat.ne_of_lt (Nat.lt_succ_of_lt lt_a)⟩, fun b hb => ?_, q⟩
    have hle : s1.heap.objs.size ≤ b := by
      rcases (show b = s1.heap.objs.size + 1 ∨ b = s1.heap.objs.size by simpa using hb) with rfl | rfl
      · exact Nat.le_add_right _ _
      · exact Nat.le_refl _
    exact I1.fpOk hle (I1.hok.fresh hle)
/-- (i, x), (i + 1, y), .. -/
def enumD : Nat → List D → List D
  | _, [] => []
  | i, x :: xs => .tup [.int (i : Nat), x] :: enumD (i + 1) xs
theorem enumD_length : ∀ (xs : List D) (i : Nat), (enumD i xs).length = xs.length
  | [], _ => rfl
  | x :: xs, i => by unfold enumD; rw [List.length_cons, List.length_cons, enumD_length xs]
theorem enumD_get : ∀ {xs : List D} {k i : Nat} {d : D}, (enumD k xs)[i]? = some d → ∃ x, xs[i]? = some x ∧ d = .tup [.int ((k + i : Nat) : Int), x]
  | x :: xs, k, 0, d, e => ⟨x, rfl, (Option.some.inj (show some (D.tup [.int (k : Nat), x]) = some d from e)).symm⟩
  | x :: xs, k, i + 1, d, e => by
    obtain ⟨y, a, b⟩ := enumD_get (xs := xs) (k := k + 1) (i := i) (d := d) e
    exact ⟨y, a, by rw [b, show k + 1 + i = k + (i + 1) by omega]⟩
  | [], k, i, d, e => by simp [enumD] at e
theorem iter_enT {K : PySem.W.Frag} {h : Addr → Bool} {s : S} {H : Hp} {p : Addr} {xs : List V} {ds : List D} (si : SI K h s H) (qa : SqT K (hide h H) p xs) (ra : Reps K (hide h H) xs ds) : IterD K h (ItET K p) s H (enumD 0 ds) := by
  intro h' s2 H2 x i
  have q1 : SqT K H2 p xs := sqt_un (ext_t (x.ext si) qa)
  refine ⟨fun d e => ?_, fun hl => ⟨xs, q1, by rw [enumD_length] at hl; rw [ra.length]; exact hl⟩⟩
  obtain ⟨dx, ex, rfl⟩ := enumD_get e
  obtain ⟨vx, ex', rx⟩ := ra.get ex
  refine ⟨⟨xs, vx, q1, ex'⟩, fun z H3 hy => ?_⟩
  obtain ⟨T, o, u1, rfl, hT, hd, rfl, h1⟩ := hy
  have a1 := h1 xs q1
  rw [ex'] at a1; cases a1
  rw [Nat.zero_add]
  exact pair_new x.si hT hd (.int _) (Rep.mono (x.ext si) _ _ rx)
def fEnum (fs : FA) : FI := fun δ s => (fs δ s).bind fun p => match p.1 with
  | [.tup xs] => some (enumD 0 xs, p.2)
  | _ => none
theorem di_enum {X : Cx} {a : Expr} {fs : FA} {q pos tpos : Pos} {elts : List Expr} {kk : Nat} (hg : Gl X "enumerate") (hm : X.mg "enumerate" = none) (ha : PA X [a] (tDA X.K fs)) (hs : starEach [a] X.env = [(false, eval a X.env)] := by rfl) :
    PI X (.Tuple elts kk tpos) (.Call (.Name "enumerate" q) [a] [] pos) (tDI X.K (fEnum fs)) := imp_i (pi_enT hg hm ha hs) fun σ H R ⟨h, s, δ, ds, s', er, si, q, w⟩ => by
  obtain ⟨⟨xs, s1⟩, q1, q⟩ := bind_some q
  dsimp only at q
  split at q
  · cases q
    refine ⟨h, s, δ, _, _, er, si, q1, fun vs H1 st1 r1 => ?_⟩
    obtain ⟨v, rfl, r⟩ := reps1 r1
    obtain ⟨p1, ys, rfl, qa, ra⟩ := rep_tup r
    exact ⟨p1, ys, rfl, sqt_un qa, w _ H1 st1 (iter_enT st1.si qa ra)⟩
  · cases q
/-- the texts of a tuple -/
def txtsD : List D → Option (List Str)
  | [] => some []
  | .str x :: ds => (txtsD ds).map (x :: ·)
  | _ :: _ => none
theorem txtsD_ok {K : PySem.W.Frag} {H : Hp} : ∀ {ds : List D} {vs : List V} {xs : List Str}, Reps K H vs ds → txtsD ds = some xs → vs = xs.map V.str
  | [], _, _, .nil, e => by cases e; rfl
  | d :: ds, _, xs, .cons r rs, e => by
    cases d with
    | str x =>
      obtain ⟨ys, e1, rfl⟩ := map_some (show (txtsD ds).map _ = some xs from e)
      rw [List.map_cons, ← txtsD_ok rs e1, rep_str r]
    | _ => cases (show (none : Option (List Str)) = some xs from e)
def fSrtS (fe : FE) : FE := fun δ s => (fe δ s).bind fun p => match p.1 with
  | .tup ds => (txtsD ds).bind fun xs => if xs.length < 64 then some (.lst ((srtT xs).map .str), p.2) else none
  | _ => none
theorem reps_str {K : PySem.W.Frag} {H : Hp} : ∀ (xs : List Str), Reps K H (xs.map V.str) (xs.map D.str)
  | [] => .nil
  | x :: xs => .cons (.str x) (reps_str xs)
theorem d_srtS {X : Cx} {a : Expr} {fe : FE} {p p2 q pos : Pos} (hc : X.calm = true) (hg : Gl X "sorted") (hm : X.mg "sorted" = none) (hg2 : Gl X "set") (hm2 : X.mg "set" = none) (ha : PE X a (tD X.K fe))
    (na : starEach [a] X.env = (false, eval a X.env) :: starEach [] X.env := by rfl) : PE X (.Call (.Name "sorted" p) [.Call (.Name "set" p2) [a] [] q] [] pos) (tD X.K (fSrtS fe)) := imp_e (pe_srtS hc hg hm hg2 hm2 ha na) fun σ H Q ⟨h, s, δ, d, s', er, si, q, w⟩ => by
  obtain ⟨⟨x, s1⟩, q1, q⟩ := bind_some q
  dsimp only at q
  split at q
  · obtain ⟨xs, q2, q⟩ := bind_some q
    split at q
    · rename_i hl
      cases q
      refine ⟨h, s, δ, _, _, er, si, q1, fun v H1 st1 r1 => ?_⟩
      obtain ⟨p1, ys, rfl, qa, ra⟩ := rep_tup r1
      have e := txtsD_ok ra q2
      subst e
      exact ⟨p1, xs, rfl, sqt_un qa, hl, fun t ht => w _ _ (st1.trans (Step.new st1.si ht _)) (.lst (new_free st1.si ht) (reps_str _))⟩
    · cases q
  · cases q
section
variable {fe : FE} {fs : FA} {δ : Fr} {s : S} {ds : List D} {xs : List Str}
def kEnum : Option (List D × S) → Option (List D × S) | some ([.tup xs], s) => some (enumD 0 xs, s) | _ => none
@[simp] theorem kEnum_s : kEnum (some ([.tup ds], s)) = some (enumD 0 ds, s) := rfl
@[simp] theorem fEnum_e : fEnum fs δ s = kEnum (fs δ s) := by
  unfold fEnum kEnum
  cases fs δ s with
  | none => rfl
  | some p =>
    obtain ⟨l, s'⟩ := p
    dsimp only [Option.bind_some]
    split <;> first | rfl | (split <;> simp_all)
def kSrtS : Option (D × S) → Option (D × S) | some (.tup ds, s) => (txtsD ds).bind fun xs => if xs.length < 64 then some (.lst ((srtT xs).map .str), s) else none | _ => none
theorem kSrtS_s (h : txtsD ds = some xs) (hl : xs.length < 64) : kSrtS (some (.tup ds, s)) = some (.lst ((srtT xs).map .str), s) := by
  show (txtsD ds).bind _ = _
  rw [h, Option.bind_some, if_pos hl]
@[simp] theorem fSrtS_e : fSrtS fe δ s = kSrtS (fe δ s) := by
  unfold fSrtS kSrtS
  cases fe δ s with
  | none => rfl
  | some p =>
    obtain ⟨l, s'⟩ := p
    cases l <;> rfl
end
end Fw

set_option Elab.async false
set_option linter.all false
set_option maxRecDepth 100000
set_option maxHeartbeats 4000000
namespace Fw
open PySem PySem.Spec PyProof.Rows L2
section
variable {P : Program} {w : World} {A : Around} {E : Value → Shared → Prop} {s : Shared}
/-- set(t), t a list of texts -/
theorem call_txtL {l : Addr} {its : Array Value} (xs : List Str) {Q : Value → Shared → Prop} (hh : A.handled = none) (hl : s.heap.IsList l its) (hx : StrsAre its.toList xs) (hb : xs.length + 1 < scanBound)
    (hq : ∀ (h' : Heap) (tk : Nat), SetS w h' s.heap.objs.size (onceT xs) → (∀ b o, s.heap.get? b = some o → h'.get? b = some o) → Q (.ref s.heap.objs.size) { s with heap := h', toks := tk }) :
    wpAny (model P w) A (call (.type "set") [.ref l]) Q E s := by
  have hz : xs.length = its.size := by rw [← StrsAre.len_eq hx, Array.length_toList]
  obtain ⟨c, tl, hmro⟩ := F.called_set.mro
  have hmade := F.called_set.made; have hsub := F.called_set.sub; have h1 := F.called_set.notType; have h2 := F.called_set.canCreate; have hct := F.typeCall_set_1 (.ref l)
  refine wpAny_call (codeAny_of_tree ?_); show wpAny _ _ (callAny (.type "set") _) _ _ _; refine wpAny_pure ⟨Code.quiet_builtin _ (by decide +kernel), codeAny_builtin F.entry_type_call ?_⟩
  rw [Around.under_plain (weight_type_call_type "set" [.ref l] []) rfl]; repeat (any_goals (first | assumption | wp_step))
  refine codeAny_mono (code_set_led1 (.ref l) (E := E) (Q₁ := fun u s1 => u = .ref s.heap.objs.size ∧ s1 = { s with heap := s.heap.push (obS w) }) ⟨rfl, rfl⟩) fun r s1 hr => ?_
  cases r with
  | error e => exact hr
  | ok fl =>
    cases fl with
    | next => exact hr.elim
    | brk => exact hr.elim
    | cont => exact hr.elim
    | ret u =>
      obtain ⟨rfl, rfl⟩ := hr
      have hS : (s.heap.push (obS w)).get? s.heap.objs.size = some (obS w) := Heap.get?_push_size _ rfl
      have hT : Shared.TypeIs { s with heap := s.heap.push (obS w) } (.ref s.heap.objs.size) "set" := ⟨_, hS, rfl⟩
      have hli := F.called_set.init.lookup; have hbi := F.called_set.init.bind (.ref s.heap.objs.size)
      repeat (any_goals (first | assumption | wp_step))
      refine codeAny_mono (codeAny_call_builtin (R := wants (fun r s2 => r = .none ∧ ∃ h' tk, s2 = { s with heap := h', toks := tk } ∧ SetS w h' s.heap.objs.size (onceT xs) ∧ ∀ b o, s.heap.get? b = some o → h'.get? b = some o) E)
        F.called_set.init.plain F.entry_set_init (check_set_init_1 hT ?_)) fun r2 s2 hr2 => ?_
      · obtain ⟨⟨oc, od, odt, osl⟩, hol, hcl, nl, hdl⟩ := hl
        simp only at hcl hdl
        subst hcl hdl
        have hol2 : (s.heap.push (obS w)).get? l = some { cls := .type "list", dict := od, data := .seq its nl, slots := osl } := Heap.get?_push_of_some _ hol
        have hsls := F.sub_list_set; have hslf := F.sub_list_frozenset; have hne : (Value.type "list" == Value.type "dict") = false := by decide
        have hl1 : (s.heap.push (obS w)).IsList l its := ⟨_, hol2, rfl, nl, rfl⟩
        unfold Builtin.«set.__init__» noKeywords Builtin.Frozenset.updateFrom
        generalize hPI : pyIter = PI; wp_walk; subst hPI
        refine wpAny_pyIter_list hl1 (wpAny_bind (wpAny_runValue ?_))
        have lt : l < s.heap.objs.size := Heap.lt_size hol
        have hh3 : A.in1.in1.in1.handled = none := by simp [hh]
        have sz1 : (s.heap.push (obS w)).objs.size = s.heap.objs.size + 1 := Heap.size_push ..
        have ni : l ≠ (s.heap.push (obS w)).objs.size := by rw [sz1]; exact Nat.ne_of_lt (Nat.lt_succ_of_lt lt)
        have nf : s.heap.objs.size ∉ [(s.heap.push (obS w)).objs.size, l] := by
          rw [sz1]; simp only [List.mem_cons, List.not_mem_nil, or_false, not_or]; exact ⟨Nat.ne_of_lt (Nat.lt_succ_self _), Nat.ne_of_gt lt⟩
        have hv : ∀ (i : Nat) (v : Value), its[i]? = some v → ∃ t, v = .str (xs.getD i Str.empty) t := fun i v q => SS.strs_at hx i v (by rw [Array.getElem?_toList]; exact q)
        refine fill_txt ((Walks.list hh3 _ l ni its).toS) s.heap.objs.size nf xs hz (by rw [← hz]; exact hb) hv its.size 0 _ (by omega) ⟨⟨_, Heap.get?_push_size _ rfl, rfl, rfl⟩, hl1.push _⟩ (setS_fresh (Heap.get?_push_of_some _ hS)) ?_
        intro s' hm hs'
        obtain ⟨h', g2, d', tk', os'⟩ := s'
        obtain rfl : g2 = s.gens := hm.gens
        obtain rfl : d' = s.drawn := hm.drawn
        obtain rfl : os' = s.os := hm.os
        refine wpAny_pure ?_; show wpAny _ _ (ret Value.none) _ _ _; refine wpAny_pure ⟨rfl, h', tk', rfl, hs', fun b o e => ?_⟩
        have hb0 : b < s.heap.objs.size := Heap.lt_size e
        refine hm.heap b o ?_ (Heap.get?_push_of_some _ (Heap.get?_push_of_some _ e))
        rw [sz1]; simp only [List.mem_cons, List.not_mem_nil, or_false, not_or]; exact ⟨Nat.ne_of_lt hb0, Nat.ne_of_lt (Nat.lt_succ_of_lt hb0)⟩
      · cases r2 with
        | error e => exact hr2
        | ok fl2 =>
          cases fl2 with
          | next => exact hr2.elim
          | brk => exact hr2.elim
          | cont => exact hr2.elim
          | ret u =>
            obtain ⟨rfl, h', tk, rfl, q1, q2⟩ := hr2
            repeat (any_goals (first | assumption | wp_step))
            exact hq _ _ q1 q2
end
/-- sorted(set(e)), e a list -/
def tSrtL (K : PySem.W.Frag) (ta : TE) : TE := fun σ H Q => ta σ H fun x H1 => ∃ (l : Addr) (xs : List Str), x = .ref l ∧ SqL K H1 l (xs.map V.str) ∧ xs.length < 64 ∧ ∀ p, H1 p = none → Q (.ref p) (upd H1 p (.lst ((srtT xs).map V.str)))
theorem pe_srtL {X : Cx} {a : Expr} {ta : TE} {p p2 q pos : Pos} (hc : X.calm = true) (hg : Gl X "sorted") (hm : X.mg "sorted" = none) (hg2 : Gl X "set") (hm2 : X.mg "set" = none) (ha : PE X a ta)
    (na : starEach [a] X.env = (false, eval a X.env) :: starEach [] X.env := by rfl) : PE X (.Call (.Name "sorted" p) [.Call (.Name "set" p2) [a] [] q] [] pos) (tSrtL X.K ta) := by
  refine ⟨fun pins s σ H Q I h => ?_⟩
  refine wpAny_Call_Name_kw (ld_blt I hg hm PyProof.Rows.boot_sorted (PyProof.Rows.callWith_builtin1 (PyProof.Rows.args_cons ?_ rfl) rfl rfl))
  refine wpAny_Call_Name_kw (ld_blt I hg2 hm2 PyProof.Rows.boot_set (PyProof.Rows.callWith_type1 (PyProof.Rows.args_cons (thn (ha.run pins s σ H _ I h) fun v s1 ⟨x, H1, I1, r1, q1⟩ => PyProof.Rows.args_nil ?_) na) na rfl))
  obtain ⟨l, xs, rfl, hq, h1, q1⟩ := q1
  cases r1
  obtain ⟨its, r, pl, hz⟩ := I1.list hq
  have hxs : its.length = xs.length := by rw [← r.length, List.length_map]
  refine call_txtL xs (I1.ok.hd hc) pl.isList (by simpa using strsAre_of r) (by unfold scanBound; omega) fun h' tk hS hk => PyProof.Rows.args_nil ?_
  have I2 : Inv X pins σ H1 { s1 with heap := h', toks := tk } := I1.kept fun b o e => hk b o e
  refine sorted_txt hS (I2.ok.hd hc) (Nat.lt_of_le_of_lt (onceT_le xs) h1) fun s' p out c ys k g o hp hg' hi pm hs => ?_
  have ey := srtT_of pm hs
  have hlen : (ys.map V.str).length ≤ sizeLine := by
    rw [List.length_map, pm.length_eq]
    exact Nat.le_trans (Nat.le_of_lt (Nat.lt_of_le_of_lt (onceT_le xs) h1)) (by decide)
  have hn : H1 p = none := I2.hok.fresh hp
  have J : Inv X pins σ (upd H1 p (.lst (ys.map V.str))) { s1 with heap := s'.heap, gens := s'.gens, drawn := s'.drawn, toks := s'.toks } :=
    Inv.call (s := { s1 with heap := h', toks := tk }) (ch := []) I2 (Un.laid k hp hn) (I2.hok.laid k hp ⟨hlen, out.toList, c, vals_of_strs hi, by rw [Array.toArray_toList]; exact hg'⟩) (by rw [g]; exact I2.bare) (fun _ z => nomatch z)
  have e : s' = { s1 with heap := s'.heap, gens := s'.gens, drawn := s'.drawn, toks := s'.toks } := by
    cases s'; cases s1; cases o
    rfl
  rw [e]
  refine ⟨.ref p, _, J, rfl, ?_⟩
  rw [ey]
  exact q1 p hn
/-- sorted(set(e)) by data, e a list -/
def kSrtL : Option (D × S) → Option (D × S) | some (.lst ds, s) => (txtsD ds).bind fun xs => if xs.length < 64 then some (.lst ((srtT xs).map .str), s) else none | _ => none
theorem kSrtL_s {ds : List D} {s : S} {xs : List Str} (h : txtsD ds = some xs) (hl : xs.length < 64) : kSrtL (some (.lst ds, s)) = some (.lst ((srtT xs).map .str), s) := by
  show (txtsD ds).bind _ = _
  rw [h, Option.bind_some, if_pos hl]
def fSrtL (fe : FE) : FE := fun δ s => kSrtL (fe δ s)
@[simp] theorem fSrtL_e {fe : FE} {δ : Fr} {s : S} : fSrtL fe δ s = kSrtL (fe δ s) := rfl
theorem d_srtL {X : Cx} {a : Expr} {fe : FE} {p p2 q pos : Pos} (hc : X.calm = true) (hg : Gl X "sorted") (hm : X.mg "sorted" = none) (hg2 : Gl X "set") (hm2 : X.mg "set" = none) (ha : PE X a (tD X.K fe))
    (na : starEach [a] X.env = (false, eval a X.env) :: starEach [] X.env := by rfl) : PE X (.Call (.Name "sorted" p) [.Call (.Name "set" p2) [a] [] q] [] pos) (tD X.K (fSrtL fe)) := imp_e (pe_srtL hc hg hm hg2 hm2 ha na) fun σ H Q ⟨h, s, δ, d, s', er, si, q, w⟩ => by
  have q' : kSrtL (fe δ s) = some (d, s') := q
  unfold kSrtL at q'
  split at q'
  · rename_i ds s1 e1
    obtain ⟨xs, q2, q3⟩ := bind_some q'
    split at q3
    · rename_i hl
      cases q3
      refine ⟨h, s, δ, _, _, er, si, e1, fun v H1 st1 r1 => ?_⟩
      obtain ⟨p1, ys, rfl, qa, ra⟩ := rep_lst r1
      have e := txtsD_ok ra q2
      subst e
      exact ⟨p1, xs, rfl, SqL.of (hide_ext _ _ _ _ qa), hl, fun t ht => w _ _ (st1.trans (Step.new st1.si ht _)) (.lst (new_free st1.si ht) (reps_str _))⟩
    · cases q3
  · cases q'
/-! ### slices of texts -/
def kSlT (fl fh : FO) (δ : Fr) : Option (D × S) → Option (D × S) | some (.str z, s) => (fl δ s).bind fun l => (fh δ l.2).bind fun u => if okLen z.length = true then some (.str (cutS z l.1 u.1), u.2) else none | _ => none
def fSlT (fe : FE) (fl fh : FO) : FE := fun δ s => kSlT fl fh δ (fe δ s)
@[simp] theorem fSlT_e {fe : FE} {fl fh : FO} {δ : Fr} {s : S} : fSlT fe fl fh δ s = kSlT fl fh δ (fe δ s) := rfl
theorem d_sliceT {X : Cx} {e : Expr} {fe : FE} {lo hi : Option Expr} {fl fh : FO} {p2 pos : Pos} (he : PE X e (tD X.K fe)) (hl : PO X lo (tDO X.K fl)) (hu : PO X hi (tDO X.K fh)) : PE X (.Subscript e (.Slice lo hi none p2) pos) (tD X.K (fSlT fe fl fh)) :=
  imp_e (pe_slice sl_str he hl hu) fun σ H Q ⟨h, s, δ, d, s', er, si, q, w⟩ => by
  have q' : kSlT fl fh δ (fe δ s) = some (d, s') := q
  unfold kSlT at q'
  split at q'
  · rename_i z s1 e1
    obtain ⟨⟨l, s2⟩, q2, q3⟩ := bind_some q'
    obtain ⟨⟨u, s3⟩, q4, q5⟩ := bind_some q3
    split at q5
    · rename_i hz
      cases q5
      refine ⟨h, s, δ, _, s1, er, si, e1, fun v H1 st1 r1 => ⟨h, s1, δ, l, s2, er.mono (st1.ext si), st1.si, q2, fun H2 st2 => ⟨h, s2, δ, u, _, (er.mono (st1.ext si)).mono (st2.ext st1.si), st2.si, q4, fun H3 st3 => ?_⟩⟩⟩
      have st := st1.trans (st2.trans st3)
      exact ⟨z, rep_str r1, okLen_le hz, w _ H3 st (.str _)⟩
    · cases q5
  · cases q'
/-! ### in an owned dict -/
def kInD3 (s : S) (k : Str) : Option OO → Option (Bool × S) | some (.dct kvs) => some ((kvs.lookup k).isSome, s) | _ => none
@[simp] theorem kInD3_s {s : S} {k : Str} {kvs : List (Str × D)} : kInD3 s k (some (.dct kvs)) = some ((kvs.lookup k).isSome, s) := rfl
def kInD2 (k : Str) : Option (D × S) → Option (Bool × S) | some (.ref a, s) => kInD3 s k (s a) | _ => none
@[simp] theorem kInD2_s {s : S} {k : Str} {a : Addr} : kInD2 k (some (.ref a, s)) = kInD3 s k (s a) := rfl
def kInD (fo : FE) (δ : Fr) : Option (D × S) → Option (Bool × S) | some (.str k, s) => kInD2 k (fo δ s) | _ => none
@[simp] theorem kInD_s {fo : FE} {δ : Fr} {s : S} {k : Str} : kInD fo δ (some (.str k, s)) = kInD2 k (fo δ s) := rfl
def fInD (fi fo : FE) : FT := fun δ s => kInD fo δ (fi δ s)
@[simp] theorem fInD_e {fi fo : FE} {δ : Fr} {s : S} : fInD fi fo δ s = kInD fo δ (fi δ s) := rfl
theorem repkv_is {K : PySem.W.Frag} {H : Hp} {k : Str} : ∀ {kvs : List (Key × V)} {ds : List (Str × D)}, RepKV K H kvs ds → (valV kvs (Sum.inr k)).isSome = (ds.lookup k).isSome
  | [], [], _ => rfl
  | [], _ :: _, r => by cases r.1
  | _ :: _, [], r => by cases r.1
  | (k1, v1) :: kvs, (k2, d2) :: ds, r => by
    obtain ⟨e1, t1⟩ := List.cons.inj (show k1 :: kvs.map (·.1) = Sum.inr k2 :: ds.map (fun p => Sum.inr p.1) from r.1)
    have t : RepKV K H kvs ds := ⟨t1, by
      have q := r.2
      rw [List.map_cons, List.map_cons] at q
      cases q with | cons a b => exact b⟩
    by_cases hk : k = k2
    · subst hk
      rw [List.lookup_cons, beq_self_eq_true]
      subst e1
      unfold valV
      simp
    · have h2 : (k == k2) = false := beq_eq_false_iff_ne.mpr hk
      rw [List.lookup_cons, h2, valV_neg (p := (k1, v1)) (by rw [e1]; exact fun z => hk (Sum.inr.inj z).symm)]
      exact repkv_is t
theorem dt_inD {X : Cx} {i o : Expr} {fi fo : FE} {pos : Pos} (hu : X.A.units + 1 < cLine) (hi : PE X i (tD X.K fi)) (ho : PE X o (tD X.K fo)) (h1 : behindInMarks .In o = false := by rfl) : PT X (.Compare i [.In] [o] pos) (tDT X.K (fInD fi fo)) := imp_t (pt_cmp (pc_din hu hi ho) h1) fun σ H Q ⟨h, s, δ, d, s', er, si, q, w⟩ => by
  have q' : kInD fo δ (fi δ s) = some (d, s') := q
  cases e1 : fi δ s with
  | none => rw [e1] at q'; cases q'
  | some p1 =>
    obtain ⟨x, s1⟩ := p1
    rw [e1] at q'
    cases x with
    | str k =>
      have q2 : kInD2 k (fo δ s1) = some (d, s') := q'
      cases e2 : fo δ s1 with
      | none => rw [e2] at q2; cases q2
      | some p2 =>
        obtain ⟨y, s2⟩ := p2
        rw [e2] at q2
        cases y with
        | ref a =>
          have q3 : kInD3 s2 k (s2 a) = some (d, s') := q2
          unfold kInD3 at q3
          split at q3
          · rename_i kvs e
            cases q3
            refine ⟨h, s, δ, _, s1, er, si, e1, fun v H1 st1 r1 => ⟨h, s1, δ, _, _, er.mono (st1.ext si), st1.si, e2, fun u H2 st2 r2 => ?_⟩⟩
            obtain ⟨es, e3, rk⟩ := st2.si.ob _ _ e
            refine ⟨a, valV es (Sum.inr k), rep_ref r2, ?_, ?_⟩
            · rw [rep_str (st2.rep st1.si r1)]
              exact .inl ⟨es, Sum.inr k, .inl e3, rfl, rfl⟩
            · rw [repkv_is rk]
              exact ⟨_, rfl, w H2 (st1.trans st2)⟩
          · cases q3
        | _ => cases q2
    | _ => cases q'
end Fw

set_option Elab.async false
set_option linter.all false
set_option maxRecDepth 100000
set_option maxHeartbeats 4000000
/-! Lw13: strengths, by data. -/
namespace Fw
open PySem PySem.Spec PyProof.Rows L2
def lookerL : List String := ["ends seen", "prints seen", "steps seen"]
def underL : List String := ["prints", "stops", "under"]
def branchL : List String := ["ifs", "whiles"]
def isStr (ws : List String) (x : String) : Bool := !decide (x ∈ lookerL) && (!decide (x ∈ underL) || (decide ("ifs" ∈ ws) || decide ("whiles" ∈ ws)))
def strengthsM (ws : List String) : List String := ws.filter (isStr ws)
def lackM (one other : List String) : List String := (strengthsM other).filter fun x => !decide (x ∈ strengthsM one)
def stmM (w : String) : Sm := if w = "prints" then .print 0 else if w = "stops" then .stop else .sum 0 [] 1
def partM (other : List String) (w : String) : List Sm :=
  if w = "ifs" then [.ite 1 [] []] else if w = "marks" then [.keep false 1 0] else if w = "splits" then [.split 1 1] else if w = "straight" then [.sum 0 [1] 0] else if w = "tells" then [.print 1] else if w = "whiles" then [.whl 1 []]
  else if "ifs" ∈ other then [.ite 1 [stmM w] []] else [.whl 1 [stmM w]]
def BrM (ws : List String) : Prop := "ifs" ∈ ws ∨ "whiles" ∈ ws
/-- one has each strength of other -/
structure Cov (one other : List String) : Prop where
  a : ∀ x ∈ ["straight", "ifs", "whiles", "tells", "splits", "marks"], x ∈ other → x ∈ one
  b : BrM other → ∀ x ∈ underL, x ∈ other → x ∈ one
theorem cov_of {one other : List String} (h : lackM one other = []) : Cov one other := by
  have key : ∀ x, x ∈ other → isStr other x = true → x ∈ one := fun x hx hs => by
    by_cases hi : x ∈ strengthsM one
    · exact (List.mem_filter.mp hi).1
    · have : x ∈ lackM one other := List.mem_filter.mpr ⟨List.mem_filter.mpr ⟨hx, hs⟩, by simp [hi]⟩
      rw [h] at this; cases this
  refine ⟨fun x hx ho => key x ho ?_, fun hb x hx ho => key x ho ?_⟩
  · simp only [List.mem_cons, List.mem_nil_iff, or_false] at hx
    rcases hx with rfl | rfl | rfl | rfl | rfl | rfl <;> simp [isStr, lookerL, underL]
  · have hb' : (decide ("ifs" ∈ other) || decide ("whiles" ∈ other)) = true := by simpa [BrM] using hb
    simp only [underL, List.mem_cons, List.mem_nil_iff, or_false] at hx
    unfold isStr
    rw [hb', Bool.or_true, Bool.and_true]
    rcases hx with rfl | rfl | rfl <;> simp [lookerL]
theorem stands_mono {one other : List String} (C : Cov one other) {so : List Bool} {und : Bool} (hu : und = true → BrM other) (a : Sm) (h : standsM other so und a = true) : standsM one so und a = true := by
  have h1 := C.a "straight" (by simp); have h2 := C.a "ifs" (by simp); have h3 := C.a "whiles" (by simp); have h4 := C.a "tells" (by simp); have h5 := C.a "splits" (by simp); have h6 := C.a "marks" (by simp)
  have g1 : und = true → "under" ∈ other → "under" ∈ one := fun z => C.b (hu z) "under" (by simp [underL])
  have g2 : und = true → "prints" ∈ other → "prints" ∈ one := fun z => C.b (hu z) "prints" (by simp [underL])
  have g3 : und = true → "stops" ∈ other → "stops" ∈ one := fun z => C.b (hu z) "stops" (by simp [underL])
  cases und <;> cases a <;> simp [standsM, intoM] at h g1 g2 g3 ⊢ <;> grind
theorem leaf_mono {one other : List String} (C : Cov one other) {so : List Bool} {und : Bool} (hu : und = true → BrM other) (a : Sm) (e : (if standsM other so und a = true then none else some ([] : List Nat)) = none) : (if standsM one so und a = true then none else some ([] : List Nat)) = none := by
  split at e
  · rename_i hs
    rw [if_pos (stands_mono C hu _ hs)]
  · cases e
mutual
theorem fault_mono {one other : List String} (C : Cov one other) {so : List Bool} : ∀ (a : Sm) (und : Bool), (und = true → BrM other) → faultM other so und a = none → faultM one so und a = none
  | .ite x p q, und, hu, e => by
    rw [faultM] at e ⊢
    split at e
    · rename_i hs
      rw [if_pos (stands_mono C hu _ hs)]
      have hu2 : (und || hid so x) = true → BrM other := fun z => by
        cases hh : hid so x with
        | true => simp [standsM, hh] at hs; exact .inl hs
        | false => rw [hh, Bool.or_false] at z; exact hu z
      cases e1 : faultsM other so (und || hid so x) 0 p with
      | some y => rw [e1] at e; cases e
      | none =>
        rw [e1] at e
        rw [faults_mono C p _ 0 hu2 e1]
        cases e2 : faultsM other so (und || hid so x) 0 q with
        | some y => rw [e2] at e; cases e
        | none => rw [faults_mono C q _ 0 hu2 e2]; rfl
    · cases e
  | .times n b, und, hu, e => by
    rw [faultM] at e ⊢
    split at e
    · rename_i hs
      rw [if_pos (stands_mono C hu _ hs)]
      exact faults_mono C b und 0 hu e
    · cases e
  | .whl x b, und, hu, e => by
    rw [faultM] at e ⊢
    split at e
    · rename_i hs
      rw [if_pos (stands_mono C hu _ hs)]
      refine faults_mono C b _ 0 (fun z => ?_) e
      cases hh : hid so x with
      | true => simp [standsM, hh] at hs; exact .inr hs
      | false => rw [hh, Bool.or_false] at z; exact hu z
    · cases e
  | .sum x ts n, und, hu, e => by rw [faultM] at e ⊢; exact leaf_mono C hu _ e
  | .print x, und, hu, e => by rw [faultM] at e ⊢; exact leaf_mono C hu _ e
  | .stop, und, hu, e => by rw [faultM] at e ⊢; exact leaf_mono C hu _ e
  | .split x y, und, hu, e => by rw [faultM] at e ⊢; exact leaf_mono C hu _ e
  | .keep t x y, und, hu, e => by rw [faultM] at e ⊢; exact leaf_mono C hu _ e
  | .fetch t x y, und, hu, e => by rw [faultM] at e ⊢; exact leaf_mono C hu _ e
theorem faults_mono {one other : List String} (C : Cov one other) {so : List Bool} : ∀ (b : List Sm) (und : Bool) (k : Nat), (und = true → BrM other) → faultsM other so und k b = none → faultsM one so und k b = none
  | [], und, k, hu, e => by rw [faultsM]
  | a :: b, und, k, hu, e => by
    rw [faultsM] at e ⊢
    cases e1 : faultM other so und a with
    | some y => rw [e1] at e; cases e
    | none =>
      rw [e1] at e
      rw [fault_mono C a und hu e1]
      exact faults_mono C b und (k + 1) hu e
end
/-- the parting program: other lets it by, one does not -/
theorem part_lets {one other : List String} {w : String} {r : List String} (ho : other.Sublist wordsL) (h : lackM one other = w :: r) : faultsM other [false, true] false 0 (partM other w) = none ∧ (faultsM one [false, true] false 0 (partM other w)).isNone = false := by
  have hm : w ∈ lackM one other := by rw [h]; exact List.mem_cons_self
  obtain ⟨h1, h2⟩ := List.mem_filter.mp hm
  obtain ⟨h3, h4⟩ := List.mem_filter.mp h1
  have h5 : w ∈ one → isStr one w = false := fun z => by
    cases q : isStr one w with
    | false => rfl
    | true => simp [strengthsM, List.mem_filter, z, q] at h2
  have hw := ho.subset h3
  clear hm h1 h2 h
  simp only [wordsL, List.mem_cons, List.mem_nil_iff, or_false] at hw
  rcases hw with rfl | rfl | rfl | rfl | rfl | rfl | rfl | rfl | rfl | rfl | rfl | rfl <;> simp [isStr, lookerL, underL] at h4 h5 <;> (try (by_cases hi : "ifs" ∈ other)) <;> simp_all [partM, stmM, faultsM, faultM, standsM, intoM, hid] <;> grind
theorem part_ok {one other : List String} {w : String} {r : List String} (ho : other.Sublist wordsL) (h : lackM one other = w :: r) : smsOk 2 2 (partM other w) ∧ (partM other w).length ≤ 1 ∧ w ∈ wordsL ∧ w ∉ lookerL := by
  have hm : w ∈ lackM one other := by rw [h]; exact List.mem_cons_self
  obtain ⟨h1, h2⟩ := List.mem_filter.mp hm
  obtain ⟨h3, h4⟩ := List.mem_filter.mp h1
  have hl : w ∉ lookerL := by
    unfold isStr at h4
    intro z
    simp [z] at h4
  refine ⟨?_, ?_, ho.subset h3, hl⟩
  · unfold partM stmM
    repeat' split
    all_goals simp [smsOk, smOk]
  · unfold partM
    repeat' split
    all_goals simp
end Fw

set_option Elab.async false
set_option linter.all false
set_option maxRecDepth 100000
set_option maxHeartbeats 4000000
/-! Lw14: lists of words, by data. -/
namespace Fw
open PySem PySem.Spec PyProof.Rows L2
theorem compL_strs {tt : FT} {i : Nat} {δ : Fr} {s : S} (p : String → Bool) (hi : i < δ.length) : ∀ (ws : List String), (∀ x ∈ ws, tt (δ.set i (some (strD x))) s = some (p x, s)) → compL (gtName i) tt (fVar i) (ws.map strD) δ s = some ((ws.filter p).map strD, s)
  | [], _ => rfl
  | x :: ws, h => by
    have ih := compL_strs p hi ws fun y hy => h y (List.mem_cons_of_mem _ hy)
    show (some (δ.set i (some (strD x)))).bind _ = _
    rw [Option.bind_some, h x List.mem_cons_self, Option.bind_some]
    cases hp : p x with
    | false =>
      rw [if_neg Bool.false_ne_true, List.filter_cons_of_neg (by rw [hp]; exact Bool.false_ne_true)]
      exact ih
    | true =>
      have hv : fVar i (δ.set i (some (strD x))) s = some (strD x, s) := by simp [hi]
      rw [if_pos rfl, hv, Option.bind_some, ih, List.filter_cons_of_pos hp]
      rfl
@[simp high] theorem dNotIn_lstrs (y : String) (ws : List String) (s : S) : dNotIn (.str (Str.ofString y)) (.lst (ws.map strD)) s = some (.bl (!decide (y ∈ ws))) := by
  show (if (flatD (strD y) && (ws.map strD).all flatD) = true then some (D.bl (!(ws.map strD).any fun z => eqF z (strD y))) else none) = _
  rw [strs_flat, strs_any]
  rfl
theorem dNotIn_under (y : String) (s : S) : dNotIn (.str (Str.ofString y)) (.lst [.str (Str.ofString "prints"), .str (Str.ofString "stops"), .str (Str.ofString "under")]) s = some (.bl (!decide (y ∈ underL))) := dNotIn_lstrs y underL s
theorem seen_cut : ∀ x ∈ wordsL, decide (cutS (Str.ofString x) (some (-4)) none = Str.ofString "seen") = decide (x ∈ lookerL) := by decide +kernel
theorem word_len : ∀ x ∈ wordsL, okLen (Str.ofString x).length = true := by decide +kernel
theorem py_strs : ∀ ws : List String, (∀ x ∈ ws, PyData.canLay0 (.str (Str.ofString x)) = true) → ∃ ps, toPys (ws.map strD) = some ps ∧ PyData.canLayAll0 ps = true ∧ PyData.depthAll ps = 0 ∧ ps.length = ws.length
  | [], _ => ⟨[], rfl, rfl, rfl, rfl⟩
  | x :: ws, h => by
    obtain ⟨ps, h1, h2, h3, h4⟩ := py_strs ws fun y hy => h y (List.mem_cons_of_mem _ hy)
    refine ⟨.str (Str.ofString x) :: ps, ?_, ?_, ?_, by rw [List.length_cons, List.length_cons, h4]⟩
    · rw [List.map_cons]; show (toPy (strD x)).bind _ = _
      show (some (PyData.str (Str.ofString x))).bind _ = _
      rw [Option.bind_some, h1]; rfl
    · show (PyData.canLay0 (.str (Str.ofString x)) && PyData.canLayAll0 ps) = true
      rw [h x List.mem_cons_self, h2]; rfl
    · show max (PyData.depth (.str (Str.ofString x))) (PyData.depthAll ps) = 0
      rw [h3]; rfl
theorem words_lay : ∀ x ∈ wordsL, PyData.canLay0 (.str (Str.ofString x)) = true := by decide +kernel
theorem shaped_strs {ws : List String} {ps : List PyData} (h2 : PyData.canLayAll0 ps = true) (h3 : PyData.depthAll ps = 0) : SeqAt.shaped (.list ps) = true := by
  have hc : PyData.canLay0 (.list ps) = true := h2
  have hd : PyData.depth (.list ps) = 1 := by show PyData.depthAll ps + 1 = 1; rw [h3]
  unfold SeqAt.shaped
  rw [hc, hd]; rfl
theorem deep_strs {ws : List String} (h : ∀ x ∈ ws, x ∈ wordsL) : deepD (.lst (ws.map strD)) (.lst (ws.map strD)) = some true := by
  obtain ⟨ps, h1, h2, h3, _⟩ := py_strs ws fun x hx => words_lay x (h x hx)
  have e : toPy (.lst (ws.map strD)) = some (.list ps) := by show (toPys (ws.map strD)).map _ = _; rw [h1]; rfl
  have hc : PyData.canLay0 (.list ps) = true := h2
  unfold deepD
  rw [e]
  dsimp only
  rw [shaped_strs (ws := ws) h2 h3, if_pos (show (true && true) = true from rfl), SeqAt.eqv_refl _ hc]
theorem deep_nil {ws : List String} (h : ∀ x ∈ ws, x ∈ wordsL) : deepD (.lst (ws.map strD)) (.lst []) = some ws.isEmpty := by
  obtain ⟨ps, h1, h2, h3, h4⟩ := py_strs ws fun x hx => words_lay x (h x hx)
  have e : toPy (.lst (ws.map strD)) = some (.list ps) := by show (toPys (ws.map strD)).map _ = _; rw [h1]; rfl
  have e2 : toPy (.lst []) = some (.list []) := rfl
  unfold deepD
  rw [e, e2]
  dsimp only
  rw [shaped_strs (ws := ws) h2 h3, if_pos (by rfl)]
  cases ws with
  | nil => cases ps with
    | nil => rfl
    | cons _ _ => cases h4
  | cons x ws => cases ps with
    | nil => cases h4
    | cons p ps => rfl
theorem lack_sub {one other : List String} (h : other.Sublist wordsL) : ∀ x ∈ lackM one other, x ∈ wordsL := fun x hx => h.subset (List.mem_filter.mp (List.mem_filter.mp hx).1).1
/-- ascending words are a part of the words -/
theorem sub_of : ∀ (L l : List Str), L.Pairwise (fun a b => leT a b = true) → L.Nodup → l.Pairwise (fun a b => leT a b = true) → l.Nodup → (∀ x ∈ l, x ∈ L) → l.Sublist L
  | [], l, _, _, _, _, h => by
    cases l with
    | nil => exact .slnil
    | cons x l => exact absurd (h x List.mem_cons_self) List.not_mem_nil
  | y :: L, [], _, _, _, _, _ => List.nil_sublist _
  | y :: L, x :: l, p1, n1, p2, n2, h => by
    obtain ⟨p1a, p1b⟩ := List.pairwise_cons.mp p1
    obtain ⟨n1a, n1b⟩ := List.nodup_cons.mp n1
    obtain ⟨p2a, p2b⟩ := List.pairwise_cons.mp p2
    obtain ⟨n2a, n2b⟩ := List.nodup_cons.mp n2
    by_cases hx : x = y
    · subst hx
      refine .cons₂ x (sub_of L l p1b n1b p2b n2b fun z hz => ?_)
      rcases List.mem_cons.mp (h z (List.mem_cons_of_mem _ hz)) with rfl | q
      · exact absurd hz n2a
      · exact q
    · have hxL : x ∈ L := (List.mem_cons.mp (h x List.mem_cons_self)).resolve_left hx
      refine .cons y (sub_of L (x :: l) p1b n1b p2 n2 fun z hz => ?_)
      rcases List.mem_cons.mp (h z hz) with rfl | q
      · rcases List.mem_cons.mp hz with rfl | hz
        · exact absurd rfl hx
        · exact absurd (leT_anti (p2a _ hz) (p1a _ hxL)) hx
      · exact q
end Fw

set_option Elab.async false
set_option linter.all false
set_option maxRecDepth 100000
set_option maxHeartbeats 4000000
/-! Ss7: two items of owned dicts are stored at once. -/
namespace Fw
open PySem PySem.Spec PyProof.Rows L2
section
variable {X : Cx} {e o i o' i' : Expr} {fe fo fi fo' fi' : FE} {pos pos' pos2 tpos : Pos} {k : Nat}
/-- o[i] = y -/
def kItP (s : S) (a : Addr) (z : Str) (y : D) : Option OO → Option S | some (.dct kvs) => if okLen kvs.length = true then some (supd s a (.dct (putD kvs z y))) else none | _ => none
@[simp] theorem kItP_s {s : S} {a : Addr} {z : Str} {y : D} {kvs : List (Str × D)} : kItP s a z y (some (.dct kvs)) = if okLen kvs.length = true then some (supd s a (.dct (putD kvs z y))) else none := rfl
def kItQ (y o : D) : Option (D × S) → Option S | some (.str z, s) => (match o with | .ref a => kItP s a z y (s a) | _ => none) | _ => none
@[simp] theorem kItQ_s {y : D} {a : Addr} {z : Str} {s : S} : kItQ y (.ref a) (some (.str z, s)) = kItP s a z y (s a) := rfl
def kIt (fi : FE) (δ : Fr) (y : D) : Option (D × S) → Option S | some (o, s) => kItQ y o (fi δ s) | none => none
@[simp] theorem kIt_s {fi : FE} {δ : Fr} {y o : D} {s : S} : kIt fi δ y (some (o, s)) = kItQ y o (fi δ s) := rfl
def kDD2 (fo' fi' : FE) (δ : Fr) (y : D) : Option S → Option (Out × S) | some s => (kIt fi' δ y (fo' δ s)).map fun s => (.nx δ, s) | none => none
@[simp] theorem kDD2_s {fo' fi' : FE} {δ : Fr} {y : D} {s : S} : kDD2 fo' fi' δ y (some s) = (kIt fi' δ y (fo' δ s)).map fun s => (.nx δ, s) := rfl
def kDD (fo fi fo' fi' : FE) (δ : Fr) : Option (D × S) → Option (Out × S) | some (.tup [x, y], s) => kDD2 fo' fi' δ y (kIt fi δ x (fo δ s)) | _ => none
@[simp] theorem kDD_s {x y : D} {δ : Fr} {s : S} : kDD fo fi fo' fi' δ (some (.tup [x, y], s)) = kDD2 fo' fi' δ y (kIt fi δ x (fo δ s)) := rfl
def fAsgDD (fe fo fi fo' fi' : FE) : FS := fun δ s => kDD fo fi fo' fi' δ (fe δ s)
@[simp] theorem fAsgDD_e {δ : Fr} {s : S} : fAsgDD fe fo fi fo' fi' δ s = kDD fo fi fo' fi' δ (fe δ s) := rfl
/-- one such store as a target -/
theorem sub_put {K : PySem.W.Frag} {σ : L2.St} {H : Hp} {h : Addr → Bool} {δ : Fr} {s s' : S} {v : V} {y : D} {Q : L2.St → Hp → Prop} (er : EnvR K (hide h H) σ δ) (si : SI K h s H) (rv : Rep K (hide h H) v y) (q : kIt fi δ y (fo δ s) = some s')
    (w : ∀ H', Step K h s H s' H' → Q σ H') : tD K fo σ H fun x H1 => tD K fi σ H1 fun z H2 => ∃ (a : Addr) (H3 : Hp), x = .ref a ∧ DPut H2 a z v H3 ∧ Q σ H3 := by
  cases e1 : fo δ s with
  | none => rw [e1] at q; cases q
  | some p1 =>
    obtain ⟨d1, s1⟩ := p1
    rw [e1] at q
    have q2 : kItQ y d1 (fi δ s1) = some s' := q
    refine ⟨h, s, δ, d1, s1, er, si, e1, fun vo H1 st1 r1 => ?_⟩
    cases e2 : fi δ s1 with
    | none => rw [e2] at q2; cases q2
    | some p2 =>
      obtain ⟨d2, s2⟩ := p2
      rw [e2] at q2
      refine ⟨h, s1, δ, d2, s2, er.mono (st1.ext si), st1.si, e2, fun vi H2 st2 r2 => ?_⟩
      cases d2 with
      | str z =>
        cases d1 with
        | ref a =>
          have q3 : kItP s2 a z y (s2 a) = some s' := q2
          unfold kItP at q3
          split at q3
          · rename_i kvs e
            split at q3
            · rename_i hl
              cases q3
              obtain ⟨es, e3, rk⟩ := st2.si.ob _ _ e
              have st := st1.trans st2
              have hln : es.length = kvs.length := by have := congrArg List.length rk.1; simpa using this
              have st4 := st2.si.putL (o := .dK (putK es (Sum.inr z) v)) (w := .dct (putD kvs z y)) e ⟨_, rfl, repkv_put (st2.rep st1.si (st1.rep si rv)) rk⟩
              exact ⟨a, _, rep_ref (st2.rep st1.si r1), by rw [rep_str r2]; exact DPut.k (k := Sum.inr z) e3 (by rw [hln]; exact okLen_lt hl), w _ (st.trans st4)⟩
            · cases q3
          · cases q3
        | _ => cases q2
      | _ => cases d1 <;> cases q2
theorem ds_asgDD (hu : X.A.units + 1 < cLine) (he : PE X e (tD X.K fe)) (ho : PE X o (tD X.K fo)) (hi : PE X i (tD X.K fi)) (ho' : PE X o' (tD X.K fo')) (hi' : PE X i' (tD X.K fi')) (hc : X.calm = true := by rfl)
    (ha : ∀ v, assign (.Subscript o i pos) X.env v = (holding [v] (eval o X.env) >>= fun x => holding [v, x] (eval i X.env) >>= fun y => standAt pos >>= fun _ => holding [v, x, y] (setItem x y v) >>= fun _ => release [v, x, y] []) := by intro _; rfl)
    (ha' : ∀ v, assign (.Subscript o' i' pos2) X.env v = (holding [v] (eval o' X.env) >>= fun x => holding [v, x] (eval i' X.env) >>= fun y => standAt pos2 >>= fun _ => holding [v, x, y] (setItem x y v) >>= fun _ => release [v, x, y] []) := by intro _; rfl)
    (hn : (assignEach [.Subscript o i pos, .Subscript o' i' pos2] X.env).length = 2 := by rfl) (hst : (assignEach [.Subscript o i pos, .Subscript o' i' pos2] X.env).findIdx? (·.1) = none := by rfl)
    (h2 : (assignEach [.Subscript o i pos, .Subscript o' i' pos2] X.env).map (·.2) = assign (.Subscript o i pos) X.env :: (assignEach [.Subscript o' i' pos2] X.env).map (·.2) := by rfl) (h3 : (assignEach [.Subscript o' i' pos2] X.env).map (·.2) = assign (.Subscript o' i' pos2) X.env :: (assignEach [] X.env).map (·.2) := by rfl)
    (hs : swapsWithSole [.Tuple [.Subscript o i pos, .Subscript o' i' pos2] k tpos] e pos'.line X.env = pure false := by rfl) (hw : swappedStores [.Tuple [.Subscript o i pos, .Subscript o' i' pos2] k tpos] e X.env = pure none := by rfl)
    (h1 : (assignEach [.Tuple [.Subscript o i pos, .Subscript o' i' pos2] k tpos] X.env).map (·.2) = [assign (.Tuple [.Subscript o i pos, .Subscript o' i' pos2] k tpos) X.env] := by rfl) :
    PS X (.Assign [.Tuple [.Subscript o i pos, .Subscript o' i' pos2] k tpos] e pos') (tDS X.K (fAsgDD fe fo fi fo' fi')) :=
  imp_s (ps_asg he (pg_tup hc (pgs_cons (pg_sub ho hi (set_dict hu) ha) (pgs_cons (pg_sub ho' hi' (set_dict hu) ha') pgs_nil h3) h2) hn hst) hs hw h1) fun D σ H ⟨h, s, δ, out, s', er, si, q, w⟩ => by
  have q' : kDD fo fi fo' fi' δ (fe δ s) = some (out, s') := q
  unfold kDD at q'
  split at q'
  rotate_left
  · cases q'
  rename_i dx dy s1 e1
  refine ⟨h, s, δ, _, s1, er, si, e1, fun vv H1 st1 r1 => ?_⟩
  cases r1 with
  | tup hq rs =>
    rename_i t xs
    obtain ⟨v1, v2, rfl, r1, r2⟩ := reps2 rs
    refine ⟨t, [v1, v2], rfl, sqt_un hq.sq, rfl, v1, [v2], rfl, ?_⟩
    cases e2 : kIt fi δ dx (fo δ s1) with
    | none => rw [e2] at q'; cases q'
    | some s2 =>
      rw [e2] at q'
      obtain ⟨s3, e3, e4⟩ := map_some (show (kIt fi' δ dy (fo' δ s2)).map _ = some (out, s') from q')
      cases e4
      have er1 := er.mono (st1.ext si)
      refine sub_put (Q := fun σ' H' => gCons (gSub (tD X.K fo') (tD X.K fi') rSetD) gNil [v2] σ' H' D.nx) er1 st1.si r1 e2 fun H2 st2 => ⟨v2, [], rfl, ?_⟩
      exact sub_put (Q := fun σ' H' => gNil [] σ' H' D.nx) (er1.mono (st2.ext st1.si)) st2.si (st2.rep st1.si r2) e3 fun H3 st3 => ⟨rfl, w H3 (st1.trans (st2.trans st3)) σ (((er1.mono (st2.ext st1.si))).mono (st3.ext st2.si))⟩
end
end Fw

set_option Elab.async false
set_option linter.all false
set_option maxRecDepth 100000
set_option maxHeartbeats 4000000
/-! Lw15: ascending words out of others. -/
namespace Fw
open PySem PySem.Spec PyProof.Rows L2
theorem fold_mem : ∀ (xs l : List Str) (y : Str), y ∈ xs.foldl addT l ↔ y ∈ l ∨ y ∈ xs
  | [], l, y => by simp
  | x :: xs, l, y => by
    rw [List.foldl_cons, fold_mem xs (addT l x) y]
    unfold addT
    split
    · rename_i h
      constructor
      · rintro (q | q)
        · exact .inl q
        · exact .inr (List.mem_cons_of_mem _ q)
      · rintro (q | q)
        · exact .inl q
        · rcases List.mem_cons.mp q with rfl | q
          · exact .inl h
          · exact .inr q
    · simp only [List.mem_cons]
      constructor
      · rintro ((q | q) | q)
        · exact .inr (.inl q)
        · exact .inl q
        · exact .inr (.inr q)
      · rintro (q | q | q)
        · exact .inl (.inr q)
        · exact .inl (.inl q)
        · exact .inr q
theorem fold_nd : ∀ (xs l : List Str), l.Nodup → (xs.foldl addT l).Nodup
  | [], l, h => h
  | x :: xs, l, h => by
    rw [List.foldl_cons]
    refine fold_nd xs (addT l x) ?_
    unfold addT
    split
    · exact h
    · rename_i hx
      exact List.nodup_cons.mpr ⟨hx, h⟩
theorem words_nodup' : (wordsL.map Str.ofString).Nodup := by decide +kernel
theorem words_up' : (wordsL.map Str.ofString).Pairwise fun a b => leT a b = true := sortedS_pw (by decide +kernel)
theorem srt_sub {xs : List String} (h : ∀ x ∈ xs, x ∈ wordsL) : ∃ vs : List String, vs.Sublist wordsL ∧ srtT (xs.map Str.ofString) = vs.map Str.ofString := by
  have hp := List.mergeSort_perm (onceT (xs.map Str.ofString)) leT
  have hs : (srtT (xs.map Str.ofString)).Sublist (wordsL.map Str.ofString) := by
    refine sub_of _ _ words_up' words_nodup' (List.pairwise_mergeSort leT_trans leT_total _) (hp.nodup_iff.mpr (fold_nd _ [] List.nodup_nil)) fun x hx => ?_
    have hx1 : x ∈ onceT (xs.map Str.ofString) := hp.mem_iff.mp hx
    have hx2 := (fold_mem (xs.map Str.ofString) [] x).mp hx1
    rcases hx2 with q | q
    · cases q
    · obtain ⟨y, hy, rfl⟩ := List.mem_map.mp q
      exact List.mem_map.mpr ⟨y, h y hy, rfl⟩
  obtain ⟨vs, h1, h2⟩ := List.sublist_map_iff.mp hs
  exact ⟨vs, h1, h2⟩
theorem txts_strsL : ∀ ws : List String, txtsD (ws.map strD) = some (ws.map Str.ofString)
  | [] => rfl
  | w :: ws => by rw [List.map_cons, List.map_cons]; show (txtsD (ws.map strD)).map _ = _; rw [txts_strsL ws]; rfl
theorem plain_strs (n : Nat) {ws : List String} (h : ws.length ≤ 10000000) : plainN (n + 1) (.tup (ws.map strD)) := by
  refine ⟨by rw [List.length_map]; exact h, fun d hd => ?_⟩
  obtain ⟨x, _, rfl⟩ := List.mem_map.mp hd
  cases n <;> exact True.intro
theorem plain_part (other : List String) (w : String) : plainN 8 (.tup [sortsD [false, true], bodyD (partM other w)]) := by
  unfold partM stmM
  repeat' split
  all_goals simp [bodyD, smD, smsD, plainN, natD, natsD, sortsD, sortD]
theorem lack_self (one : List String) : lackM one one = [] := by
  unfold lackM
  rw [List.filter_eq_nil_iff]
  intro x hx
  simp [hx]
end Fw

set_option Elab.async false
set_option linter.all false
set_option maxRecDepth 100000
set_option maxHeartbeats 4000000
/-! Lk1: looks, by data. -/
namespace Fw
open PySem PySem.Spec PyProof.Rows L2
@[simp] def dMin2 : GL := fun ds _ => match ds with
  | [.int i, .int j] => some (.int (if j < i then j else i))
  | _ => none
theorem g_min2 {K : PySem.W.Frag} : GCall K (fun xs H Q => ∃ i j, xs = [.int i, .int j] ∧ Q (.int (if j < i then j else i)) H) dMin2 := by
  intro h s H vs ds d Q si rs q w
  unfold dMin2 at q
  split at q
  · cases q
    cases rs with
    | cons r rs => cases rs with
      | cons r2 rs => cases rs with
        | nil => exact ⟨_, _, by rw [rep_int r, rep_int r2], w _ H (Step.refl si) (.int _)⟩
  · cases q
/-- what a run ends with -/
structure Ou where
  h : String
  n : List Nat
  o : List Nat
  e : List Nat
  p : List Nat
  t : Nat
def ouD (x : Ou) : D := .tup [strD x.h, natsD x.n, .tup [natsD x.o, natsD x.e], natsD x.p, natD x.t]
def runO (b : List Sm) (ns : List Nat) : Ou :=
  let r := exsM b (w0 ns)
  ⟨howS r.2, r.1.nums, r.1.op, r.1.sec, r.1.prints, r.1.steps⟩
theorem runD_ou (b : List Sm) (ns : List Nat) : runD b ns = ouD (runO b ns) := rfl
def opensM (so : List Bool) (ns : List Nat) : List Nat := ((so.zip ns).filter fun x => !x.1).map (·.2)
def endS (x : Ou) : Bool := decide (x.h = "ends") || decide (x.h = "stops")
def sameM (ws : List String) (so : List Bool) (x y : Ou) : Bool :=
  if opensM so x.n ≠ opensM so y.n then false else if x.o ≠ y.o then false else if "steps seen" ∈ ws ∧ x.t ≠ y.t then false else !decide ("prints seen" ∈ ws) || decide (x.p = y.p)
def beginM (x y : List Nat) : Bool := decide (x.take (min x.length y.length) = y.take (min x.length y.length))
def lookM (ws : List String) (so : List Bool) (x y : Ou) : Bool :=
  if "ends seen" ∈ ws ∧ x.h ≠ y.h then false else if endS x && endS y then sameM ws so x y else !decide ("prints seen" ∈ ws) || beginM x.p y.p
theorem toPys_nats : ∀ ns : List Nat, toPys (ns.map natD) = some (ns.map fun (n : Nat) => PyData.int (n : Int))
  | [] => rfl
  | n :: ns => by
    rw [List.map_cons]
    show (toPy (natD n)).bind _ = _
    rw [show toPy (natD n) = some (PyData.int (n : Int)) from rfl, Option.bind_some, toPys_nats ns]
    rfl
theorem lay_nats : ∀ ns : List Nat, PyData.canLayAll0 (ns.map fun (n : Nat) => PyData.int (n : Int)) = true
  | [] => rfl
  | n :: ns => by
    show (PyData.canLay0 (.int (n : Int)) && PyData.canLayAll0 (ns.map fun (n : Nat) => PyData.int (n : Int))) = true
    rw [lay_nats ns]; rfl
theorem depth_nats : ∀ ns : List Nat, PyData.depthAll (ns.map fun (n : Nat) => PyData.int (n : Int)) = 0
  | [] => rfl
  | n :: ns => by
    show max (PyData.depth (.int (n : Int))) (PyData.depthAll (ns.map fun (n : Nat) => PyData.int (n : Int))) = 0
    rw [depth_nats ns]; rfl
theorem eqv_nats : ∀ ns ms : List Nat, PyData.eqvAll (ns.map fun (n : Nat) => PyData.int (n : Int)) (ms.map fun (n : Nat) => PyData.int (n : Int)) = decide (ns = ms)
  | [], [] => rfl
  | [], _ :: _ => rfl
  | _ :: _, [] => rfl
  | n :: ns, m :: ms => by
    show (((n : Int) == (m : Int)) && PyData.eqvAll (ns.map fun (n : Nat) => PyData.int (n : Int)) (ms.map fun (n : Nat) => PyData.int (n : Int))) = _
    rw [eqv_nats ns ms]
    by_cases h1 : n = m
    · subst h1
      by_cases h2 : ns = ms
      · subst h2; simp
      · simp [h2]
    · have h3 : ¬ ((n : Int) = (m : Int)) := by omega
      simp [h1, h3]
theorem deep_natsL (ns ms : List Nat) : deepD (.lst (ns.map natD)) (.lst (ms.map natD)) = some (decide (ns = ms)) := by
  have e : ∀ ks : List Nat, toPy (.lst (ks.map natD)) = some (.list (ks.map fun (n : Nat) => PyData.int (n : Int))) := fun ks => by show (toPys _).map _ = _; rw [toPys_nats]; rfl
  have sh : ∀ ks : List Nat, SeqAt.shaped (.list (ks.map fun (n : Nat) => PyData.int (n : Int))) = true := fun ks => by
    have hc : PyData.canLay0 (.list (ks.map fun (n : Nat) => PyData.int (n : Int))) = true := lay_nats ks
    have hd : PyData.depth (.list (ks.map fun (n : Nat) => PyData.int (n : Int))) = 1 := by show PyData.depthAll _ + 1 = 1; rw [depth_nats]
    unfold SeqAt.shaped
    rw [hc, hd]; rfl
  unfold deepD
  rw [e, e]
  dsimp only
  rw [sh, sh, if_pos (by rfl)]
  exact congrArg some (eqv_nats ns ms)
theorem deep_natsT (ns ms : List Nat) : deepD (.tup (ns.map natD)) (.tup (ms.map natD)) = some (decide (ns = ms)) := by
  have e : ∀ ks : List Nat, toPy (.tup (ks.map natD)) = some (.tuple (ks.map fun (n : Nat) => PyData.int (n : Int))) := fun ks => by show (toPys _).map _ = _; rw [toPys_nats]; rfl
  have sh : ∀ ks : List Nat, SeqAt.shaped (.tuple (ks.map fun (n : Nat) => PyData.int (n : Int))) = true := fun ks => by
    have hc : PyData.canLay0 (.tuple (ks.map fun (n : Nat) => PyData.int (n : Int))) = true := lay_nats ks
    have hd : PyData.depth (.tuple (ks.map fun (n : Nat) => PyData.int (n : Int))) = 1 := by show PyData.depthAll _ + 1 = 1; rw [depth_nats]
    unfold SeqAt.shaped
    rw [hc, hd]; rfl
  unfold deepD
  rw [e, e]
  dsimp only
  rw [sh, sh, if_pos (by rfl)]
  exact congrArg some (eqv_nats ns ms)
theorem compL_opens {i j : Nat} {δ : Fr} {s : S} (hi : i < δ.length) (hj : j < δ.length) (hij : i ≠ j) : ∀ (so : List Bool) (ns : List Nat),
    compL (gtPair i j) (fT (f2 dEq (fVar i) (fC (.str (Str.ofString "open"))))) (fVar j) (zipD (so.map sortD) (ns.map natD)) δ s = some ((opensM so ns).map natD, s)
  | [], ns => by cases ns <;> rfl
  | b :: so, [] => rfl
  | b :: so, n :: ns => by
    have ih := compL_opens (s := s) hi hj hij so ns
    rw [List.map_cons, List.map_cons, zipD, compL]
    have hv : fVar i ((δ.set i (some (sortD b))).set j (some (natD n))) s = some (sortD b, s) := by
      have q : ((δ.set i (some (sortD b))).set j (some (natD n)))[i]? = some (some (sortD b)) := by rw [List.getElem?_set_ne (Ne.symm hij), List.getElem?_set_self hi]
      rw [fVar_e, q]; rfl
    have hw : fVar j ((δ.set i (some (sortD b))).set j (some (natD n))) s = some (natD n, s) := by
      have q : ((δ.set i (some (sortD b))).set j (some (natD n)))[j]? = some (some (natD n)) := List.getElem?_set_self (by rw [List.length_set]; exact hj)
      rw [fVar_e, q]; rfl
    have ht : fT (f2 dEq (fVar i) (fC (.str (Str.ofString "open")))) ((δ.set i (some (sortD b))).set j (some (natD n))) s = some (!b, s) := by
      show ((f2 dEq (fVar i) (fC (.str (Str.ofString "open")))) ((δ.set i (some (sortD b))).set j (some (natD n))) s).bind _ = _
      rw [f2_e, hv]
      cases b <;> simp [sortD, strD]
    rw [show gtPair i j (.tup [sortD b, natD n]) δ = some ((δ.set i (some (sortD b))).set j (some (natD n))) from rfl, Option.bind_some, ht, Option.bind_some]
    cases b with
    | true =>
      rw [if_neg (by simp)]
      exact ih
    | false =>
      rw [if_pos (by rfl), hw, Option.bind_some, ih]
      rfl
/-! ### sights -/
def sightsM (one other : List String) : List String := other.filter fun x => decide (x ∈ lookerL) && !decide (x ∈ one)
theorem sights_sub {one other : List String} (h : other.Sublist wordsL) : ∀ x ∈ sightsM one other, x ∈ wordsL := fun x hx => h.subset (List.mem_filter.mp hx).1
theorem sights_looker {one other : List String} : ∀ x ∈ sightsM one other, x ∈ lookerL ∧ x ∈ other ∧ x ∉ one := fun x hx => by
  obtain ⟨a, b⟩ := List.mem_filter.mp hx
  rw [Bool.and_eq_true] at b
  exact ⟨of_decide_eq_true b.1, a, by simpa using b.2⟩
theorem sights_self (one : List String) : sightsM one one = [] := List.filter_eq_nil_iff.mpr fun x hx => by simp [hx]
def blindM (w : String) : List Sm := if w = "ends seen" then [.whl 1 []] else if w = "prints seen" then [.print 1] else [.ite 1 [.sum 1 [] 0] []]
def unseenD (one other : List String) : D := match sightsM one other with
  | [] => .non
  | w :: _ => .tup [.tup [sortsD [false, true], bodyD (blindM w)], natsD [0, 0], natsD [0, 1]]
/-- the fresh numbers in secret names, the old ones in open names -/
def mixM : List Bool → List Nat → List Nat → List Nat
  | b :: so, n :: ns, f :: fs => (if b then f else n) :: mixM so ns fs
  | _, _, _ => []
theorem mix_len : ∀ (so : List Bool) (ns fs : List Nat), ns.length = so.length → fs.length = so.length → (mixM so ns fs).length = so.length
  | [], _, _, _, _ => rfl
  | b :: so, n :: ns, f :: fs, h1, h2 => congrArg (· + 1) (mix_len so ns fs (Nat.succ.inj h1) (Nat.succ.inj h2))
  | b :: so, [], _, h1, _ => by cases h1
  | b :: so, n :: ns, [], _, h2 => by cases h2
theorem mix_opens : ∀ (so : List Bool) (ns fs : List Nat), ns.length = so.length → fs.length = so.length → opensM so (mixM so ns fs) = opensM so ns
  | [], _, _, _, _ => rfl
  | b :: so, n :: ns, f :: fs, h1, h2 => by
    have ih := mix_opens so ns fs (Nat.succ.inj h1) (Nat.succ.inj h2)
    unfold opensM at ih ⊢
    cases b with
    | true => exact ih
    | false => exact congrArg (n :: ·) ih
  | b :: so, [], _, h1, _ => by cases h1
  | b :: so, n :: ns, [], _, h2 => by cases h2
theorem mix_lt : ∀ (so : List Bool) (ns fs : List Nat), (∀ n ∈ ns, n < 10) → (∀ n ∈ fs, n < 10) → ∀ n ∈ mixM so ns fs, n < 10
  | [], _, _, _, _, n, h => by cases h
  | b :: so, m :: ns, f :: fs, h1, h2, n, h => by
    rcases List.mem_cons.mp h with rfl | h
    · cases b with
      | true => exact h2 _ List.mem_cons_self
      | false => exact h1 _ List.mem_cons_self
    · exact mix_lt so ns fs (fun n q => h1 n (List.mem_cons_of_mem _ q)) (fun n q => h2 n (List.mem_cons_of_mem _ q)) n h
  | b :: so, [], _, _, _, n, h => by cases h
  | b :: so, m :: ns, [], _, _, n, h => by cases h
theorem mix_get : ∀ (so : List Bool) (ns fs : List Nat) (i : Nat), ns.length = so.length → fs.length = so.length → i < so.length → (mixM so ns fs)[i]? = some (if so.getD i false then fs.getD i 0 else ns.getD i 0)
  | b :: so, n :: ns, f :: fs, 0, _, _, _ => by cases b <;> rfl
  | b :: so, n :: ns, f :: fs, i + 1, h1, h2, h3 => mix_get so ns fs i (Nat.succ.inj h1) (Nat.succ.inj h2) (Nat.lt_of_succ_lt_succ h3)
  | [], _, _, i, _, _, h => by cases h
  | b :: so, [], _, _, h1, _, _ => by cases h1
  | b :: so, n :: ns, [], _, _, h2, _ => by cases h2
def mixF (so : List Bool) (ns fs : List Nat) : D → D
  | .int i => natD (if so.getD i.toNat false then fs.getD i.toNat 0 else ns.getD i.toNat 0)
  | _ => .non
theorem mix_eq (so : List Bool) (ns fs : List Nat) (h1 : ns.length = so.length) (h2 : fs.length = so.length) : (rangeD 0 so.length).map (mixF so ns fs) = (mixM so ns fs).map natD := by
  apply List.ext_getElem?
  intro i
  rw [List.getElem?_map, List.getElem?_map, rangeD_get]
  by_cases h : i < so.length
  · rw [if_pos h, mix_get so ns fs i h1 h2 h]
    simp [mixF]
  · rw [if_neg h, List.getElem?_eq_none (by rw [mix_len so ns fs h1 h2]; omega)]
    rfl
end Fw

set_option Elab.async false
set_option linter.all false
set_option maxRecDepth 100000
set_option maxHeartbeats 4000000
/-! Ss8: a block that ends with a return, whatever the state is then; things of one's own inside. -/
namespace Fw
open PySem PySem.Spec PyProof.Rows L2
section
variable {X : Cx} {e a b c o i v : Expr} {es : List Expr} {fe fa fb : FE} {fs : FA} {pos p pos' : Pos}
def tDW (K : PySem.W.Frag) (d : D) (R : Fr → S → Prop) : TS := fun D σ H => ∃ (h : Addr → Bool) (s : S) (δ : Fr), EnvR K (hide h H) σ δ ∧ SI K h s H ∧ R δ s ∧
  ∀ s' H', Step K h s H s' H' → endR K h D H' (.rt d)
theorem dw_of {sts : List Stmt} {f : FS} {d : D} (h2 : PSs X sts (tDS X.K f)) : PSs X sts (tDW X.K d fun δ s => ∃ s', f δ s = some (.rt d, s')) := imp_ss h2 fun D σ H ⟨h, s, δ, er, si, ⟨s', q⟩, w⟩ =>
  ⟨h, s, δ, .rt d, s', er, si, q, fun H' st => w s' H' st⟩
def SeqW (f1 : FS) (d : D) (R : Fr → S → Prop) (δ : Fr) (s : S) : Prop := ∃ o1 s1, f1 δ s = some (o1, s1) ∧ (o1 = .rt d ∨ ∃ δ1, o1 = .nx δ1 ∧ R δ1 s1)
theorem dw_cons {st : Stmt} {sts : List Stmt} {f1 : FS} {d : D} {R : Fr → S → Prop} (h1 : PS X st (tDS X.K f1)) (h2 : PSs X sts (tDW X.K d R)) : PSs X (st :: sts) (tDW X.K d (SeqW f1 d R)) := imp_ss (pss_cons h1 h2) fun D σ H ⟨h, s, δ, er, si, ⟨o1, s1, q1, q⟩, w⟩ => by
  refine ⟨h, s, δ, o1, s1, er, si, q1, fun H1 st1 => ?_⟩
  rcases q with rfl | ⟨δ1, rfl, q⟩
  · exact w _ H1 st1
  · exact fun σ1 er1 => ⟨h, s1, δ1, er1, st1.si, q, fun s' => endR_step st1 (w s')⟩
def GoodLw (i : Nat) (fo : FOw) (R : Fr → S → Prop) (δ : Fr) (s : S) : Prop :=
  (∃ a, s a = none) ∧ (∀ s2, keepS s s2 = s) ∧ ∃ u, fo δ s = some (u, s) ∧ ∀ a, s a = none → R (δ.set i (some (.ref a))) (supd s a u)
open Classical in
noncomputable def fOwnLw (d : D) (i : Nat) (fo : FOw) (R : Fr → S → Prop) : FS := fun δ s => if GoodLw i fo R δ s then some (.rt d, s) else none
theorem fOwnLw_eq {i : Nat} {fo : FOw} {R : Fr → S → Prop} {δ : Fr} {s : S} {d : D} (g : GoodLw i fo R δ s) : fOwnLw d i fo R δ s = some (.rt d, s) := by
  unfold fOwnLw
  rw [if_pos g]
theorem dss_ownLw {st : Stmt} {sts : List Stmt} {i : Nat} {fo : FOw} {d : D} {R : Fr → S → Prop} (h1 : PS X st (tAsg (tO X.K fo) (gName i))) (h2 : PSs X sts (tDW X.K d R)) : PSs X (st :: sts) (tDS X.K (fOwnLw d i fo R)) := imp_ss (pss_cons h1 h2) fun D σ H ⟨h, s, δ, o, s', er, si, q, w⟩ => by
  unfold fOwnLw at q
  split at q
  · rename_i hg
    cases q
    obtain ⟨_, hk, u, e1, q⟩ := hg
    refine ⟨h, s, δ, u, s, er, si, e1, fun p h' H' hp g => ?_⟩
    refine ⟨h', _, _, (er.mono (g.ext si)).set (.ref p) i, g.si, q p (none_of si hp), fun s2 H2 st2 v r => ?_⟩
    obtain ⟨a1, a2⟩ := g.done si st2
    rw [hk] at a1
    exact w H2 a1 v (Rep.mono a2 _ _ r)
  · cases q
def GoodW (i n : Nat) (ks : List Str) (P : Fr → S → Prop) (f : FP) (R : Fr → S → Prop) (δ : Fr) (s : S) : Prop :=
  (∃ a as, as.length = n ∧ Free s (a :: as)) ∧ (∀ a, s a = none → P δ (supd s a (.dct []))) ∧ ∀ a as, as.length = n → Free s (a :: as) → ∃ ds s', f as δ (supd s a (.dct [])) = some (ds, s') ∧ s' a = some (.dct []) ∧
    R (δ.set i (some (.ref a))) (supd s' a (.dct (ks.zip ds)))
theorem dw_ownD {sts : List Stmt} {i n : Nat} {x : Str} {p2 : Pos} {keys : List (Option Expr)} {values : List Expr} {ks : List Str} {P : Fr → S → Prop} {f : FP} {d : D} {R : Fr → S → Prop} (hN : X.N.Nodup) (hi : X.N[i]? = some x) (hx : Loc X.env.scope x)
    (hd : DO X p2 keys values ks n P f) (h2 : PSs X sts (tDW X.K d R)) (hall : keys.all (·.isSome) = true := by rfl) (hl : keys.length = values.length := by rfl) (h0 : keys ≠ [] := by exact fun z => nomatch z) (h15 : keys.length ≤ 15 := by decide) (nd : ks.Nodup := by decide +kernel)
    (hs : swapsWith (.Dict keys values p2) (some (.Name x pos')) pos.line X.env = pure false := by rfl) (hf : X.fn x = true ∨ X.env.scope.names.lookup x = some .local := by first | exact .inl rfl | exact .inr rfl | assumption) :
    PSs X (.Assign [.Name x pos'] (.Dict keys values p2) pos :: sts) (tDW X.K d (GoodW i n ks P f R)) := by
  obtain ⟨trs, t1, t2, t3⟩ := hd.ex
  refine imp_ss (pss_cons (ps_set hN hi hx (pe_disp t1 hall hl h0 h15) hs hf) h2) fun D σ H ⟨h, s, δ, er, si, q, w⟩ => ?_
  obtain ⟨_, ok, q⟩ := q
  intro p hp
  have g0 := Grow.alloc si hp (.dK []) (.dct []) ⟨[], rfl, rfl, .nil⟩
  have sp := none_of si hp
  refine t3 σ _ _ ⟨_, _, δ, er.mono (g0.ext si), g0.si, ok p sp, fun as ds s1 vs h' H' hln fr hn e g r hvl => ?_⟩
  have gg := g0.trans si g
  have fr' : Free s (p :: as) := fr.cons sp
  obtain ⟨ds', s1', e1, e2, e3⟩ := q p as hln fr'
  rw [e] at e1
  cases e1
  obtain ⟨kv0, k1, k2, k3⟩ := gg.si.ob p _ e2
  have hk0 : kv0 = [] := by
    cases kv0 with
    | nil => rfl
    | cons _ _ => cases k2
  subst hk0
  refine ⟨k1, (ks.zip vs).map (fun p => ((Sum.inr p.1 : Key), p.2)), ?_, ?_, ?_⟩
  · rw [List.map_map, List.zip_map_left]
    rfl
  · rw [List.length_map, List.length_zip, hvl]
    omega
  have hm : mergeK [] ((ks.zip vs).map fun p => ((Sum.inr p.1 : Key), p.2)) = (ks.zip vs).map fun p => ((Sum.inr p.1 : Key), p.2) := by
    refine merge_new _ [] ?_
    rw [List.nil_append, List.map_map]
    have e1 : (ks.zip vs).map ((fun x => x.1) ∘ fun p => ((Sum.inr p.1 : Key), p.2)) = ks.map fun k => (Sum.inr k : Key) := by
      have : ((fun x => x.1) ∘ fun (p : Str × V) => ((Sum.inr p.1 : Key), p.2)) = (fun k => (Sum.inr k : Key)) ∘ Prod.fst := rfl
      rw [this, ← List.map_map, List.map_fst_zip (by omega)]
    rw [e1]
    exact List.Pairwise.map _ (fun a b h e => h (Sum.inr.inj e)) nd
  rw [hm]
  have hdl : ds.length = ks.length := by rw [← r.length]; exact hvl
  have hkv : RepKV X.K (hide h' H') ((ks.zip vs).map fun p => ((Sum.inr p.1 : Key), p.2)) (ks.zip ds) := by
    refine ⟨?_, ?_⟩
    · rw [List.map_map]
      have a1 : (ks.zip vs).map ((fun x => x.1) ∘ fun p => ((Sum.inr p.1 : Key), p.2)) = ks.map fun k => (Sum.inr k : Key) := by
        have : ((fun x => x.1) ∘ fun (p : Str × V) => ((Sum.inr p.1 : Key), p.2)) = (fun k => (Sum.inr k : Key)) ∘ Prod.fst := rfl
        rw [this, ← List.map_map, List.map_fst_zip (by omega)]
      have a2 : (ks.zip ds).map (fun p => (Sum.inr p.1 : Key)) = ks.map fun k => (Sum.inr k : Key) := by
        have : (fun (p : Str × Fw.D) => (Sum.inr p.1 : Key)) = (fun k => (Sum.inr k : Key)) ∘ Prod.fst := rfl
        rw [this, ← List.map_map, List.map_fst_zip (by omega)]
      rw [a1, a2]
    · rw [List.map_map]
      have a1 : (ks.zip vs).map ((fun x => x.2) ∘ fun p => ((Sum.inr p.1 : Key), p.2)) = vs := by
        have : ((fun x => x.2) ∘ fun (p : Str × V) => ((Sum.inr p.1 : Key), p.2)) = Prod.snd := rfl
        rw [this, List.map_snd_zip (by omega)]
      rw [a1, List.map_snd_zip (by omega)]
      exact r
  have st4 := gg.si.putL (o := .dK ((ks.zip vs).map fun p => ((Sum.inr p.1 : Key), p.2))) (w := .dct (ks.zip ds)) e2 ⟨_, rfl, hkv⟩
  have g4 := gg.trans si (Grow.of st4)
  refine ⟨h', _, _, (er.mono (g4.ext si)).set (.ref p) i, g4.si, e3, fun s2 H2 st2 v r => ?_⟩
  obtain ⟨a1, a2⟩ := g4.done si st2
  exact w _ H2 a1 v (Rep.mono a2 _ _ r)

end
end Fw

set_option Elab.async false
set_option linter.all false
set_option maxRecDepth 100000
set_option maxHeartbeats 4000000
/-! Lk2: what a looker with more words tells apart. -/
namespace Fw
open PySem PySem.Spec PyProof.Rows L2
theorem fin_supd {s : S} (h : Fin s) (a : Addr) (o : OO) : Fin (supd s a o) := by
  obtain ⟨N, h⟩ := h
  refine ⟨N + a + 1, fun b hb => ?_⟩
  have hb : N + a + 1 ≤ (b : Nat) := hb
  have h1 : b ≠ a := fun z => by subst z; exact absurd hb (by omega)
  rw [supd_ne h1]
  exact h b (Nat.le_trans (by omega) hb)
theorem sights_cov {one other : List String} (h : sightsM one other = []) : ∀ x ∈ lookerL, x ∈ other → x ∈ one := fun x hx ho => by
  have := List.filter_eq_nil_iff.mp h x ho
  simpa [hx] using this
theorem look_mono {one other : List String} (h : sightsM one other = []) {so : List Bool} {x y : Ou} (hl : lookM one so x y = true) : lookM other so x y = true := by
  have c1 := sights_cov h "ends seen" (by decide)
  have c2 := sights_cov h "prints seen" (by decide)
  have c3 := sights_cov h "steps seen" (by decide)
  unfold lookM at hl ⊢
  by_cases h0 : "ends seen" ∈ one ∧ x.h ≠ y.h
  · rw [if_pos h0] at hl; cases hl
  · rw [if_neg h0] at hl
    rw [if_neg (fun z => h0 ⟨c1 z.1, z.2⟩)]
    cases he : endS x && endS y with
    | true =>
      rw [he, if_pos rfl] at hl
      rw [if_pos rfl]
      unfold sameM at hl ⊢
      split at hl
      · cases hl
      · rename_i h1
        rw [if_neg h1]
        split at hl
        · cases hl
        · rename_i h2
          rw [if_neg h2]
          split at hl
          · cases hl
          · rename_i h3
            rw [if_neg (fun z => h3 ⟨c3 z.1, z.2⟩)]
            rw [Bool.or_eq_true] at hl ⊢
            rcases hl with hl | hl
            · left
              have : "prints seen" ∉ one := by simpa using hl
              simpa using fun z => this (c2 z)
            · exact .inr hl
    | false =>
      rw [he, if_neg Bool.false_ne_true] at hl
      rw [if_neg Bool.false_ne_true]
      rw [Bool.or_eq_true] at hl ⊢
      rcases hl with hl | hl
      · left
        have : "prints seen" ∉ one := by simpa using hl
        simpa using fun z => this (c2 z)
      · exact .inr hl
theorem run_e0 : runO [.whl 1 []] [0, 0] = ⟨"ends", [0, 0], List.replicate 10 0, List.replicate 10 0, [], 1⟩ := by rfl
theorem run_e1 : runO [.whl 1 []] [0, 1] = ⟨"goes on", [0, 1], List.replicate 10 0, List.replicate 10 0, [], 1⟩ := by rfl
theorem run_p0 : runO [.print 1] [0, 0] = ⟨"ends", [0, 0], List.replicate 10 0, List.replicate 10 0, [0], 1⟩ := by rfl
theorem run_p1 : runO [.print 1] [0, 1] = ⟨"ends", [0, 1], List.replicate 10 0, List.replicate 10 0, [1], 1⟩ := by rfl
theorem run_s0 : runO [.ite 1 [.sum 1 [] 0] []] [0, 0] = ⟨"ends", [0, 0], List.replicate 10 0, List.replicate 10 0, [], 1⟩ := by rfl
theorem run_s1 : runO [.ite 1 [.sum 1 [] 0] []] [0, 1] = ⟨"ends", [0, 0], List.replicate 10 0, List.replicate 10 0, [], 2⟩ := by rfl
/-- who lacks the sight does not tell the runs apart, who has it does -/
theorem look_blind {ws : List String} {w : String} (hw : w ∈ lookerL) (hn : w ∉ ws) : lookM ws [false, true] (runO (blindM w) [0, 0]) (runO (blindM w) [0, 1]) = true := by
  simp only [lookerL, List.mem_cons, List.mem_nil_iff, or_false] at hw
  rcases hw with rfl | rfl | rfl
  · simp [blindM, run_e0, run_e1, lookM, endS, hn, beginM]
  · simp [blindM, run_p0, run_p1, lookM, endS, hn, sameM, opensM]
  · simp [blindM, run_s0, run_s1, lookM, endS, hn, sameM, opensM]
theorem look_sharp {ws : List String} {w : String} (hw : w ∈ lookerL) (hn : w ∈ ws) : lookM ws [false, true] (runO (blindM w) [0, 0]) (runO (blindM w) [0, 1]) = false := by
  simp only [lookerL, List.mem_cons, List.mem_nil_iff, or_false] at hw
  rcases hw with rfl | rfl | rfl
  · simp [blindM, run_e0, run_e1, lookM, endS, hn, beginM]
  · simp [blindM, run_p0, run_p1, lookM, endS, hn, sameM, opensM]
  · simp [blindM, run_s0, run_s1, lookM, endS, hn, sameM, opensM]
theorem blind_ok {w : String} : smsOk 2 2 (blindM w) ∧ (blindM w).length ≤ 7 := by
  unfold blindM
  repeat' split
  all_goals exact ⟨by simp [smsOk, smOk], by decide⟩
theorem plain_told (w : String) : plainN 8 (.tup [.tup [sortsD [false, true], bodyD (blindM w)], natsD [0, 0], natsD [0, 1]]) := by
  unfold blindM
  repeat' split
  all_goals simp [bodyD, smD, smsD, plainN, natD, natsD, sortsD, sortD]
end Fw

set_option Elab.async false
set_option linter.all false
set_option maxRecDepth 100000
set_option maxHeartbeats 4000000
/-! Cc1: a comprehension with two for, by data. -/
namespace Fw
open PySem PySem.Spec PyProof.Rows L2
section
variable {X : Cx} {tg iter elt tg1 iter1 e : Expr} {fi fi1 : FI} {ft ft1 : FG} {fb : FS} {fe : FE} {tt tt1 : FT} {pos : Pos} {vs vs1 : List Nat} {g g1 : TG}
/-- J yields the data ds, whatever is made of what is hidden -/
def IterY (K : PySem.W.Frag) (h : Addr → Bool) (J : It) (H : Hp) (ds : List D) : Prop := ∀ h' s2 H2, Ext (hide h H) (hide h' H2) → SI K h' s2 H2 → ∀ i : Nat,
  (∀ d, ds[i]? = some d → J.go i H2 ∧ ∀ x H3, J.yld i H2 x H3 → Step K h' s2 H2 s2 H3 ∧ Rep K (hide h' H3) x d) ∧ (ds.length ≤ i → J.stop i H2)
def tDY (K : PySem.W.Frag) (f : FI) : TI := fun σ H R => ∃ (h : Addr → Bool) (s : S) (δ : Fr) (ds : List D) (s' : S), EnvR K (hide h H) σ δ ∧ SI K h s H ∧ f δ s = some (ds, s') ∧
  ∀ J H', Step K h s H s' H' → IterY K h J H' ds → R J H'
theorem itery_tup {K : PySem.W.Frag} {h : Addr → Bool} {H : Hp} {p : Addr} {xs : List V} {ds : List D} (q : SqT K (hide h H) p xs) (r : Reps K (hide h H) xs ds) : IterY K h (Itt K p) H ds := by
  intro h' s2 H2 x si i
  have q2 : SqT K H2 p xs := sqt_un (ext_t x q)
  refine ⟨fun d e => ?_, fun hl => ⟨xs, q2, by rw [r.length]; exact hl⟩⟩
  obtain ⟨v, e1, r1⟩ := r.get e
  refine ⟨⟨xs, v, q2, e1⟩, fun y H3 hy => ?_⟩
  obtain ⟨rfl, hy⟩ := hy
  have := hy xs q2
  rw [e1] at this
  cases this
  exact ⟨Step.refl si, Rep.mono x _ _ r1⟩
theorem itery_lst {K : PySem.W.Frag} {h : Addr → Bool} {H : Hp} {p : Addr} {xs : List V} {ds : List D} (q : hide h H p = some (.lst xs)) (r : Reps K (hide h H) xs ds) : IterY K h (Itl K p) H ds := by
  intro h' s2 H2 x si i
  have q2 : SqL K H2 p xs := SqL.of (hide_ext _ _ _ _ (x _ _ q))
  refine ⟨fun d e => ?_, fun hl => ⟨xs, q2, by rw [r.length]; exact hl⟩⟩
  obtain ⟨v, e1, r1⟩ := r.get e
  refine ⟨⟨xs, v, q2, e1⟩, fun y H3 hy => ?_⟩
  obtain ⟨rfl, hy⟩ := hy
  have := hy xs q2
  rw [e1] at this
  cases this
  exact ⟨Step.refl si, Rep.mono x _ _ r1⟩
theorem dy_items (he : PE X e (tD X.K fe)) : PI X tg e (tDY X.K (fItems fe)) := ⟨fun pins s0 σ H R I hq => by
  obtain ⟨h, s, δ, ds, s', er, si, q, w⟩ := hq
  obtain ⟨⟨x, s1⟩, q1, q⟩ := bind_some q
  obtain ⟨es, q2, q⟩ := map_some q
  cases q
  cases x with
  | tup es' =>
    cases (show some es' = some _ from q2)
    refine (pi_tup (tg := tg) he).run pins s0 σ H R I ⟨h, s, δ, _, _, er, si, q1, fun v H1 st1 r1 => ?_⟩
    obtain ⟨a, xs, rfl, qa, ra⟩ := rep_tup r1
    exact ⟨a, rfl, ⟨xs, sqt_un qa⟩, w _ H1 st1 (itery_tup qa ra)⟩
  | lst es' =>
    cases (show some es' = some _ from q2)
    refine (pi_list (tg := tg) he).run pins s0 σ H R I ⟨h, s, δ, _, _, er, si, q1, fun v H1 st1 r1 => ?_⟩
    obtain ⟨a, xs, rfl, qa, ra⟩ := rep_lst r1
    exact ⟨a, rfl, ⟨xs, SqL.of (hide_ext _ _ _ _ qa)⟩, w _ H1 st1 (itery_lst qa ra)⟩
  | _ => cases (show none = some _ from q2)⟩
theorem wipe_idem (σ : L2.St) (vs : List Nat) : wipe (wipe σ vs) vs = wipe σ vs := by
  have ww : ∀ (us : List Nat) (σ : L2.St) (v : Nat), v ∈ us → (wipe σ us).set v none = wipe σ us := by
    intro us
    induction us with
    | nil => intro σ v hv; cases hv
    | cons u us ih =>
      intro σ v hv
      unfold wipe
      by_cases e : v = u
      · subst e; rw [List.set_set]
      · rw [List.set_comm _ _ (Ne.symm e), ih σ v ((List.mem_cons.mp hv).resolve_left e)]
  have : ∀ (us : List Nat), (∀ v ∈ us, v ∈ vs) → wipe (wipe σ vs) us = wipe σ vs := by
    intro us
    induction us with
    | nil => intro _; rfl
    | cons u us ih =>
      intro hu
      show (wipe (wipe σ vs) us).set u none = wipe σ vs
      rw [ih fun v hv => hu v (List.mem_cons_of_mem _ hv)]
      exact ww vs σ u (hu u List.mem_cons_self)
  exact this vs fun v hv => hv
def compL2 (ft : FG) (tt : FT) (fi1 : FI) (ft1 : FG) (tt1 : FT) (fe : FE) (vs1 : List Nat) : List D → Fr → S → Option (List D × S)
  | [], _, s => some ([], s)
  | d :: ds, δ, s => (ft d δ).bind fun δ1 => (tt δ1 s).bind fun p => if p.1 = true then (fi1 δ1 p.2).bind fun c => (compL ft1 tt1 fe c.1 (wipeD δ1 vs1) c.2).bind fun q => (compL2 ft tt fi1 ft1 tt1 fe vs1 ds δ q.2).map fun r => (q.1 ++ r.1, r.2) else compL2 ft tt fi1 ft1 tt1 fe vs1 ds δ p.2
def fComp2 (vs vs1 : List Nat) (fi : FI) (ft : FG) (tt : FT) (fi1 : FI) (ft1 : FG) (tt1 : FT) (fe : FE) : FE := fun δ s => (fi δ s).bind fun p => (compL2 ft tt fi1 ft1 tt1 fe vs1 p.1 (wipeD δ vs) p.2).bind fun q => if okLen q.1.length = true then some (.lst q.1, q.2) else none
theorem lc2_of {K : PySem.W.Frag} (gt : GT K g ft vs) (gt1 : GT K g1 ft1 vs1) {σ : L2.St} {H : Hp} {Q : VK} (hq : tD K (fComp2 vs vs1 fi ft tt fi1 ft1 tt1 fe) σ H Q) : tLc2 (tDI K fi) g (tDT K tt) (tDY K fi1) g1 (tDT K tt1) (tD K fe) vs vs1 σ H Q := by
  obtain ⟨h, s, δ, d, s', er, si, q, w⟩ := hq
  obtain ⟨⟨ds, s1⟩, q1, q⟩ := bind_some q
  obtain ⟨⟨out, sf⟩, qc, q⟩ := bind_some q
  split at q
  rotate_left
  · cases q
  rename_i hl
  cases q
  refine ⟨h, s, δ, ds, s1, er, si, q1, fun J H1 st1 it D hD => ?_⟩
  have i1 := st1.si
  let h' : Addr → Bool := fun a => h a || decide (a = D)
  have hh' : h' D = true := by simp [h']
  have x0 : StepX K h s1 H1 h' s1 (upd H1 D (.lst [])) := by
    refine ⟨fun a z => by simp [h', z], fun a z => ?_, fun _ z => z, fun a o _ z => by rw [upd_ne (ne_of_none z hD)]; exact z, fun a o z => ?_, fun a o z => ?_, fun a z => ?_⟩
    · by_cases e : a = D
      · exact .inr (by rw [e]; exact hD)
      · exact .inl (by simpa [h', e] using z)
    · have := i1.own a o z
      simp [h', this]
    · have ob := i1.ob a o z
      have ne : a ≠ D := fun e => ob.there (by rw [e]; exact hD)
      rw [upd_ne ne]
      refine ob.mono fun b u q => ?_
      unfold hide at q ⊢
      split at q
      · cases q
      · rename_i hb
        have nb : b ≠ D := ne_of_none q hD
        rw [if_neg (by simp [h', hb, nb]), upd_ne nb]
        exact q
    · by_cases e : a = D
      · rw [e, upd_same]; exact fun z => nomatch z
      · rw [upd_ne e]
        exact i1.hid a (by simpa [h', e] using z)
  have hsD : ∀ {s : S} {H : Hp}, StepX K h s1 H1 h' s H → s D = none := fun x => x.dom D (by
    cases e : s1 D with
    | none => rfl
    | some u => exact absurd hD ((i1.ob D u e).there))
  have hid : ∀ (H : Hp) (o : HO), hide h' (upd H D o) = hide h' H := fun H o => by
    funext b
    unfold hide
    by_cases e : b = D
    · rw [e, hh', if_pos rfl, if_pos rfl]
    · rw [upd_ne e]
  refine ⟨fun i m H2 => ∃ s2 acc accD rest, m = ds.length - i ∧ i ≤ ds.length ∧ StepX K h s1 H1 h' s2 H2 ∧ H2 D = some (.lst acc) ∧ Reps K (hide h' H2) acc accD ∧ compL2 ft tt fi1 ft1 tt1 fe vs1 (ds.drop i) (wipeD δ vs) s2 = some (rest, sf) ∧ accD ++ rest = out,
    ⟨_, s1, [], [], out, rfl, Nat.zero_le _, x0, upd_same, .nil, qc, rfl⟩, ?_⟩
  rintro i m H2 ⟨s2, acc, accD, rest, rfl, hi', x2, hD2, ra, q2, eo⟩
  by_cases hlt : i < ds.length
  · have e1 : ds[i]? = some ds[i] := List.getElem?_eq_getElem hlt
    rw [List.drop_eq_getElem_cons hlt] at q2
    obtain ⟨δ3, q3, q2⟩ := bind_some (show (ft ds[i] (wipeD δ vs)).bind _ = some (rest, sf) from q2)
    obtain ⟨⟨k, s4⟩, q4, q2⟩ := bind_some q2
    obtain ⟨go, yl⟩ := (it h' s2 H2 x2 i).1 _ e1
    refine .inr ⟨go, fun H' => (∃ m', m' < ds.length - i ∧ ∃ s2 acc accD rest, m' = ds.length - (i + 1) ∧ i + 1 ≤ ds.length ∧ StepX K h s1 H1 h' s2 H' ∧ H' D = some (.lst acc) ∧ Reps K (hide h' H') acc accD ∧ compL2 ft tt fi1 ft1 tt1 fe vs1 (ds.drop (i + 1)) (wipeD δ vs) s2 = some (rest, sf) ∧ accD ++ rest = out), fun H' z => z, fun x H3 y => ?_⟩
    obtain ⟨st3, r3⟩ := yl x H3 y
    have er3 : EnvR K (hide h' H3) (wipe σ vs) (wipeD δ vs) := ((er.wipe vs).mono (st1.ext si)).mono ((x2.trans st3).ext i1)
    refine gt (hide h' H3) x (wipe σ vs) H3 _ _ δ3 _ (hide_ext h' H3) er3 r3 q3 fun σ3 er4 hw => ⟨hw.trans (wipe_idem σ vs), ?_⟩
    refine ⟨h', s2, δ3, k, s4, er4, st3.si, q4, fun H4 st4 => ?_⟩
    have x4 : StepX K h s1 H1 h' s4 H4 := (x2.trans st3).trans st4
    have hD4 : H4 D = some (.lst acc) := st4.fr D _ (hsD (x2.trans st3)) (st3.fr D _ (hsD x2) hD2)
    have ra4 : Reps K (hide h' H4) acc accD := st4.reps st3.si (st3.reps x2.si ra)
    cases k with
    | false =>
      rw [if_neg Bool.false_ne_true] at q2
      refine iteF ?_
      exact ⟨_, by omega, s4, acc, accD, rest, rfl, hlt, x4, hD4, ra4, q2, eo⟩
    | true =>
      rw [if_pos rfl] at q2
      refine iteT ?_
      obtain ⟨⟨es, s5⟩, q5, q2⟩ := bind_some q2
      obtain ⟨⟨o1, s6⟩, q6, q2⟩ := bind_some q2
      obtain ⟨⟨rest', sf'⟩, q7, q2⟩ := map_some q2
      cases q2
      have er4' : EnvR K (hide h' H4) σ3 δ3 := er4.mono (st4.ext st3.si)
      refine ⟨h', s4, δ3, es, s5, er4', st4.si, q5, fun J1 H5 st5 it1 => ?_⟩
      have x5 : StepX K h s1 H1 h' s5 H5 := x4.trans st5
      have hD5 : H5 D = some (.lst acc) := st5.fr D _ (hsD x4) hD4
      have ra5 : Reps K (hide h' H5) acc accD := st5.reps st4.si ra4
      have er5 : EnvR K (hide h' H5) σ3 δ3 := er4'.mono (st5.ext st4.si)
      refine ⟨fun j k H6 => ∃ s6' acc6 accD6 rest6, k = es.length - j ∧ j ≤ es.length ∧ StepX K h s1 H1 h' s6' H6 ∧ Ext (hide h' H5) (hide h' H6) ∧ H6 D = some (.lst acc6) ∧ Reps K (hide h' H6) acc6 accD6 ∧ compL ft1 tt1 fe (es.drop j) (wipeD δ3 vs1) s6' = some (rest6, s6) ∧ accD6 ++ (rest6 ++ rest') = out,
        ⟨_, s5, acc, accD, o1, rfl, Nat.zero_le _, x5, Ext.refl _, hD5, ra5, q6, eo⟩, ?_⟩
      rintro j k H6 ⟨s6', acc6, accD6, rest6, rfl, hj', x6, ex6, hD6, ra6, q8, eo6⟩
      by_cases hjt : j < es.length
      · have e2 : es[j]? = some es[j] := List.getElem?_eq_getElem hjt
        rw [List.drop_eq_getElem_cons hjt] at q8
        obtain ⟨δ7, q9, q8⟩ := bind_some (show (ft1 es[j] (wipeD δ3 vs1)).bind _ = some (rest6, s6) from q8)
        obtain ⟨⟨k7, s7⟩, q10, q8⟩ := bind_some q8
        obtain ⟨go1, yl1⟩ := (it1 h' s6' H6 ex6 x6.si j).1 _ e2
        refine .inr ⟨go1, fun H' => (∃ k', k' < es.length - j ∧ ∃ s6' acc6 accD6 rest6, k' = es.length - (j + 1) ∧ j + 1 ≤ es.length ∧ StepX K h s1 H1 h' s6' H' ∧ Ext (hide h' H5) (hide h' H') ∧ H' D = some (.lst acc6) ∧ Reps K (hide h' H') acc6 accD6 ∧ compL ft1 tt1 fe (es.drop (j + 1)) (wipeD δ3 vs1) s6' = some (rest6, s6) ∧ accD6 ++ (rest6 ++ rest') = out), fun H' z => z, fun x7 H7 y7 => ?_⟩
        obtain ⟨st7, r7⟩ := yl1 x7 H7 y7
        have ex7 : Ext (hide h' H5) (hide h' H7) := ex6.trans (st7.ext x6.si)
        have er7 : EnvR K (hide h' H7) (wipe σ3 vs1) (wipeD δ3 vs1) := (er5.wipe vs1).mono ex7
        refine gt1 (hide h' H7) x7 (wipe σ3 vs1) H7 _ _ δ7 _ (hide_ext h' H7) er7 r7 q9 fun σ8 er8 hw8 => ⟨hw8.trans (wipe_idem σ3 vs1), ?_⟩
        refine ⟨h', s6', δ7, k7, s7, er8, st7.si, q10, fun H8 st8 => ?_⟩
        have x8 : StepX K h s1 H1 h' s7 H8 := (x6.trans st7).trans st8
        have ex8 : Ext (hide h' H5) (hide h' H8) := ex7.trans (st8.ext st7.si)
        have hD8 : H8 D = some (.lst acc6) := st8.fr D _ (hsD (x6.trans st7)) (st7.fr D _ (hsD x6) hD6)
        have ra8 : Reps K (hide h' H8) acc6 accD6 := st8.reps st7.si (st7.reps x6.si ra6)
        cases k7 with
        | false =>
          rw [if_neg Bool.false_ne_true] at q8
          refine iteF ?_
          exact ⟨_, by omega, s7, acc6, accD6, rest6, rfl, hjt, x8, ex8, hD8, ra8, q8, eo6⟩
        | true =>
          rw [if_pos rfl] at q8
          refine iteT ?_
          obtain ⟨⟨z, s9⟩, q11, q8⟩ := bind_some q8
          obtain ⟨⟨rest9, sf9⟩, q12, q8⟩ := map_some q8
          cases q8
          refine ⟨h', s7, δ7, z, s9, er8.mono (st8.ext st7.si), st8.si, q11, fun v H9 st9 r9 => ?_⟩
          have x9 : StepX K h s1 H1 h' s9 H9 := x8.trans st9
          have hD9 : H9 D = some (.lst acc6) := st9.fr D _ (hsD x8) hD8
          have ra9 : Reps K (hide h' H9) acc6 accD6 := st9.reps st8.si ra8
          have hlen : acc6.length ≤ out.length := by rw [ra6.length, ← eo6, List.length_append]; omega
          refine ⟨acc6, hD9, Nat.lt_of_le_of_lt hlen (okLen_lt hl), ?_⟩
          refine ⟨_, by omega, s9, acc6 ++ [v], accD6 ++ [z], rest9, rfl, hjt, ?_, ?_, upd_same, ?_, q12, by rw [← eo6, List.append_assoc]; rfl⟩
          · refine ⟨x9.le, x9.new, x9.dom, fun a o z e => ?_, x9.si.own, fun a o z => ?_, fun a z => ?_⟩
            · rw [upd_ne (ne_of_none e hD)]; exact x9.fr a o z e
            · have ob := x9.si.ob a o z
              have ne : a ≠ D := fun e => by rw [e, hsD x9] at z; cases z
              rw [upd_ne ne, hid]
              exact ob
            · by_cases e : a = D
              · rw [e, upd_same]; exact fun z => nomatch z
              · rw [upd_ne e]; exact x9.si.hid a z
          · rw [hid]
            exact ex8.trans (st9.ext st8.si)
          · rw [hid]
            exact ra9.append (.cons r9 .nil)
      · have e : j = es.length := by omega
        subst e
        rw [List.drop_length] at q8
        cases q8
        exact .inl ⟨(it1 h' _ H6 ex6 x6.si es.length).2 (Nat.le_refl _), _, by omega, s6, acc6, accD6, rest', rfl, hlt, x6, hD6, ra6, q7, eo6⟩
  · have e : i = ds.length := by omega
    subst e
    rw [List.drop_length] at q2
    cases q2
    rw [List.append_nil] at eo
    subst eo
    have stb := x2.back i1
    refine .inl ⟨(it h' _ H2 x2 ds.length).2 (Nat.le_refl _), w _ H2 (st1.trans stb) (.lst ?_ (Reps.mono ?_ _ _ ra))⟩
    · have hn : h D = false := by
        cases e : h D with
        | false => rfl
        | true => exact absurd hD (i1.hid D e)
      unfold hide
      rw [hn, if_neg Bool.false_ne_true]
      exact hD2
    · intro b u z
      unfold hide at z ⊢
      split at z
      · cases z
      · rename_i hb
        rw [if_neg fun y => hb (x2.le b y)]
        exact z
end
end Fw

set_option Elab.async false
set_option linter.all false
set_option maxRecDepth 100000
set_option maxHeartbeats 4000000
/-! Cc2: two for, as an expression and given to a name; list(range(n)). -/
namespace Fw
open PySem PySem.Spec PyProof.Rows L2
section
variable {X : Cx} {tg iter elt tg1 iter1 a : Expr} {fi fi1 : FI} {ft ft1 : FG} {fe : FE} {tt tt1 : FT} {pos p : Pos} {vs vs1 : List Nat} {g g1 : TG}
theorem d_lc2 {ifs ifs1 : List Expr} {scope : Scope} {own : List (Str × Nat)} (hc : X.calm = true) (hN : X.N.Nodup) (hi : PI X tg iter (tDI X.K fi)) (ok : BlkOk X.N X.env.scope scope own) (hv : ∀ i ∈ vs1, i ∈ own.map (·.2)) (gt : GT X.K g ft (own.map (·.2))) (gt1 : GT X.K g1 ft1 vs1)
    (hg : ∀ (s : Shared) (H : Hp) (C : Addr) (cl : List (Str × Addr)) (fp : List Addr), PG (X.blk s H scope (compEnvC scope cl C X.env) fp) tg g) (ht : ∀ (s : Shared) (H : Hp) (C : Addr) (cl : List (Str × Addr)) (fp : List Addr), PTs (X.blk s H scope (compEnvC scope cl C X.env) fp) ifs (tDT X.K tt))
    (hi1 : ∀ (s : Shared) (H : Hp) (C : Addr) (cl : List (Str × Addr)) (fp : List Addr), PI (X.blk s H scope (compEnvC scope cl C X.env) fp) tg1 iter1 (tDY X.K fi1))
    (hg1 : ∀ (s : Shared) (H : Hp) (C : Addr) (cl : List (Str × Addr)) (fp : List Addr), PG (X.blk s H scope (compEnvC scope cl C X.env) fp) tg1 g1) (ht1 : ∀ (s : Shared) (H : Hp) (C : Addr) (cl : List (Str × Addr)) (fp : List Addr), PTs (X.blk s H scope (compEnvC scope cl C X.env) fp) ifs1 (tDT X.K tt1))
    (he : ∀ (s : Shared) (H : Hp) (C : Addr) (cl : List (Str × Addr)) (fp : List Addr), PE (X.blk s H scope (compEnvC scope cl C X.env) fp) elt (tD X.K fe)) (hs : ∀ x, foldedSetIterable iter X.env x = pure x := by intro _; rfl) (hs1 : ∀ env x, foldedSetIterable iter1 env x = pure x := by intro _ _; rfl) :
    PE X (.ListComp elt [⟨tg, iter, ifs, 0⟩, ⟨tg1, iter1, ifs1, 0⟩] scope pos) (tD X.K (fComp2 (own.map (·.2)) vs1 fi ft tt fi1 ft1 tt1 fe)) :=
  imp_e (pe_lc2 hc hN hi ok hv hg ht hi1 hg1 ht1 he hs hs1) fun σ H Q hq => lc2_of gt gt1 hq
theorem ds_setLc2 {i : Nat} {y : Str} {py spos : Pos} {ifs ifs1 : List Expr} {scope : Scope} {own : List (Str × Nat)} (hc : X.calm = true) (hN : X.N.Nodup) (hy : X.N[i]? = some y) (hyl : X.env.scope.names.lookup y = some .local)
    (hsw : swapsWith (.ListComp elt [⟨tg, iter, ifs, 0⟩, ⟨tg1, iter1, ifs1, 0⟩] scope pos) (some (.Name y py)) spos.line X.env = pure true) (hi : PI X tg iter (tDI X.K fi)) (ok : BlkOk X.N X.env.scope scope own) (hv : ∀ i ∈ vs1, i ∈ own.map (·.2)) (gt : GT X.K g ft (own.map (·.2))) (gt1 : GT X.K g1 ft1 vs1)
    (hg : ∀ (s : Shared) (H : Hp) (C : Addr) (cl : List (Str × Addr)) (fp : List Addr), PG (X.blk s H scope (compEnvC scope cl C X.env) fp) tg g) (ht : ∀ (s : Shared) (H : Hp) (C : Addr) (cl : List (Str × Addr)) (fp : List Addr), PTs (X.blk s H scope (compEnvC scope cl C X.env) fp) ifs (tDT X.K tt))
    (hi1 : ∀ (s : Shared) (H : Hp) (C : Addr) (cl : List (Str × Addr)) (fp : List Addr), PI (X.blk s H scope (compEnvC scope cl C X.env) fp) tg1 iter1 (tDY X.K fi1))
    (hg1 : ∀ (s : Shared) (H : Hp) (C : Addr) (cl : List (Str × Addr)) (fp : List Addr), PG (X.blk s H scope (compEnvC scope cl C X.env) fp) tg1 g1) (ht1 : ∀ (s : Shared) (H : Hp) (C : Addr) (cl : List (Str × Addr)) (fp : List Addr), PTs (X.blk s H scope (compEnvC scope cl C X.env) fp) ifs1 (tDT X.K tt1))
    (he : ∀ (s : Shared) (H : Hp) (C : Addr) (cl : List (Str × Addr)) (fp : List Addr), PE (X.blk s H scope (compEnvC scope cl C X.env) fp) elt (tD X.K fe)) (hs : ∀ x, foldedSetIterable iter X.env x = pure x := by intro _; rfl) (hs1 : ∀ env x, foldedSetIterable iter1 env x = pure x := by intro _ _; rfl) :
    PS X (.Assign [.Name y py] (.ListComp elt [⟨tg, iter, ifs, 0⟩, ⟨tg1, iter1, ifs1, 0⟩] scope pos) spos) (tDS X.K (fSet i (fComp2 (own.map (·.2)) vs1 fi ft tt fi1 ft1 tt1 fe))) :=
  ds_setT (ps_setLc2 hc hN hy hyl hsw hi ok hv hg ht hi1 hg1 ht1 he hs hs1) fun σ H Q hq => lc2_of gt gt1 hq
/-- list(range(n)) -/
def fListRg (fe : FE) : FE := fun δ s => (fe δ s).bind fun p => match p.1 with
  | .int n => if 0 ≤ n ∧ n ≤ 10000000 then some (.lst (rangeD 0 n.toNat), p.2) else none
  | _ => none
theorem reps_rg {K : PySem.W.Frag} {H : Hp} {n : Int} : Reps K H (rgV 0 n) (rangeD 0 n.toNat) := by
  have q : ∀ l : List Nat, Reps K H (l.map fun i => V.int (0 + (i : Nat))) (l.map fun i => D.int (0 + (i : Nat))) := by
    intro l
    induction l with
    | nil => exact .nil
    | cons a l ih => exact .cons (.int _) ih
  unfold rgV rangeD
  rw [Int.sub_zero]
  exact q _
theorem d_listRg {q2 pos2 : Pos} (hc : X.calm = true) (hg : Gl X "list") (hm : X.mg "list" = none) (hg2 : Gl X "range") (hm2 : X.mg "range" = none) (ha : PE X a (tD X.K fe))
    (na : starEach [.Call (.Name "range" q2) [a] [] pos2] X.env = (false, eval (.Call (.Name "range" q2) [a] [] pos2) X.env) :: starEach [] X.env := by rfl) (na2 : starEach [a] X.env = (false, eval a X.env) :: starEach [] X.env := by rfl) :
    PE X (.Call (.Name "list" p) [.Call (.Name "range" q2) [a] [] pos2] [] pos) (tD X.K (fListRg fe)) := imp_e (pe_listRg hc hg hm (prg_1 hg2 hm2 ha na2) na) fun σ H Q ⟨h, s, δ, d, s', er, si, q, w⟩ => by
  obtain ⟨⟨x, s1⟩, q1, q⟩ := bind_some q
  refine ⟨h, s, δ, x, s1, er, si, q1, fun v H1 st1 r1 => ?_⟩
  dsimp only at q
  split at q
  · rename_i n
    split at q
    · rename_i hn
      cases q
      refine ⟨n, rep_int r1, RgOk.of_le (by omega) (by omega) (by omega) hn.1, fun p hp => ?_⟩
      exact w _ _ (st1.trans (Step.new st1.si hp _)) (new_lst st1.si hp reps_rg)
    · cases q
  · cases q
end
end Fw

set_option Elab.async false
set_option linter.all false
set_option maxRecDepth 100000
set_option maxHeartbeats 4000000
/-! Ct: t.count(x) of texts; a comprehension over the pictures of things; two for, as readings. -/
namespace Fw
open PySem PySem.Spec PyProof.Rows L2
section
variable {X : Cx} {e : Expr} {fo fa : FE} {δ : Fr} {s : S}
def kCnt2 (ds : List D) : Option (D × S) → Option (D × S) | some (.str z, s) => (txtsD ds).map fun ys => (.int (ys.count z : Nat), s) | _ => none
def kCnt (fa : FE) (δ : Fr) : Option (D × S) → Option (D × S) | some (.tup ds, s) => kCnt2 ds (fa δ s) | _ => none
@[simp] theorem kCnt_s {ds : List D} : kCnt fa δ (some (.tup ds, s)) = kCnt2 ds (fa δ s) := rfl
theorem kCnt2_s {ds : List D} {ys : List Str} {z : Str} (h : txtsD ds = some ys) : kCnt2 ds (some (.str z, s)) = some (.int (ys.count z : Nat), s) := by
  show (txtsD ds).map _ = _
  rw [h]; rfl
/-- t.count(x), t a tuple of texts -/
def fCnt (fo fa : FE) : FE := fun δ s => kCnt fa δ (fo δ s)
@[simp] theorem fCnt_e : fCnt fo fa δ s = kCnt fa δ (fo δ s) := rfl
theorem d_count (p : PE X e (tBMZ X.K (fun x xs H Q => ∃ (p : Addr) (ys : List Str) (z : Str), x = .ref p ∧ xs = [.str z] ∧ SqT X.K H p (ys.map V.str) ∧ Q (.int (ys.count z : Nat)) H) (tD X.K fo) (tDA X.K (fCons fa fNil)))) : PE X e (tD X.K (fCnt fo fa)) :=
  imp_e p fun σ H Q ⟨h, s, δ, d, s', er, si, q, w⟩ => by
  have q' : kCnt fa δ (fo δ s) = some (d, s') := q
  unfold kCnt at q'
  split at q'
  · rename_i ds s1 e1
    unfold kCnt2 at q'
    split at q'
    · rename_i z s2 e2
      obtain ⟨ys, q3, q4⟩ := map_some q'
      cases q4
      refine ⟨h, s, δ, _, s1, er, si, e1, fun v H1 st1 r1 => ?_⟩
      obtain ⟨p1, xs, rfl, qa, ra⟩ := rep_tupZ r1
      refine ⟨⟨p1, xs, rfl, sqz_un qa⟩, h, s1, δ, [.str z], _, er.mono (st1.ext si), st1.si, by rw [fCons_e, e2]; rfl, fun vs H2 st2 r2 => ?_⟩
      obtain ⟨v2, rfl, rv⟩ := reps1 r2
      have r3 := st2.rep st1.si r1
      obtain ⟨p2, xs2, e5, qb, rb⟩ := rep_tupZ r3
      cases e5
      have e6 := txtsD_ok rb q3
      subst e6
      exact ⟨p1, ys, z, rfl, by rw [rep_str rv], (sqz_un qb).sq, w _ H2 (st1.trans st2) (.int _)⟩
    · cases q'
  · cases q'
end
theorem compL_by {α : Type} {ft : FG} {tt : FT} {fe : FE} {δ : Fr} {s : S} (F : α → D) (p : α → Bool) (f : α → D) : ∀ (as : List α), (∀ a ∈ as, ∃ δ1, ft (F a) δ = some δ1 ∧ tt δ1 s = some (p a, s) ∧ (p a = true → fe δ1 s = some (f a, s))) → compL ft tt fe (as.map F) δ s = some ((as.filter p).map f, s)
  | [], _ => rfl
  | a :: as, h => by
    have ih := compL_by F p f as fun b hb => h b (List.mem_cons_of_mem _ hb)
    obtain ⟨δ1, e1, e2, e3⟩ := h a List.mem_cons_self
    rw [List.map_cons, compL, e1, Option.bind_some, e2, Option.bind_some]
    cases hp : p a with
    | false =>
      rw [if_neg Bool.false_ne_true, List.filter_cons_of_neg (by rw [hp]; exact Bool.false_ne_true)]
      exact ih
    | true =>
      rw [if_pos rfl, e3 hp, Option.bind_some, ih, List.filter_cons_of_pos hp]
      rfl
theorem compL2_by {α : Type} {ft ft1 : FG} {tt tt1 : FT} {fi1 : FI} {fe : FE} {vs1 : List Nat} {δ : Fr} {s : S} (F : α → D) (g : α → List D) : ∀ (as : List α), (∀ a ∈ as, ∃ δ1 ds, ft (F a) δ = some δ1 ∧ tt δ1 s = some (true, s) ∧ fi1 δ1 s = some (ds, s) ∧ compL ft1 tt1 fe ds (wipeD δ1 vs1) s = some (g a, s)) →
    compL2 ft tt fi1 ft1 tt1 fe vs1 (as.map F) δ s = some ((as.map g).flatten, s)
  | [], _ => rfl
  | a :: as, h => by
    have ih := compL2_by (fe := fe) F g as fun b hb => h b (List.mem_cons_of_mem _ hb)
    obtain ⟨δ1, ds, e1, e2, e3, e4⟩ := h a List.mem_cons_self
    rw [List.map_cons, compL2, e1, Option.bind_some, e2, Option.bind_some, if_pos rfl, e3, Option.bind_some, e4, Option.bind_some, ih]
    rfl
section
variable {ft ft1 : FG} {tt tt1 : FT} {fi fi1 : FI} {fe : FE} {vs vs1 : List Nat} {δ : Fr} {s : S}
def kComp2' : Option (List D × S) → Option (D × S) | some (q, s) => if okLen q.length = true then some (.lst q, s) else none | none => none
@[simp] theorem kComp2'_s {q : List D} : kComp2' (some (q, s)) = if okLen q.length = true then some (.lst q, s) else none := rfl
def kComp2 (vs vs1 : List Nat) (ft : FG) (tt : FT) (fi1 : FI) (ft1 : FG) (tt1 : FT) (fe : FE) (δ : Fr) : Option (List D × S) → Option (D × S) | some (ds, s) => kComp2' (compL2 ft tt fi1 ft1 tt1 fe vs1 ds (wipeD δ vs) s) | none => none
@[simp] theorem kComp2_s {ds : List D} : kComp2 vs vs1 ft tt fi1 ft1 tt1 fe δ (some (ds, s)) = kComp2' (compL2 ft tt fi1 ft1 tt1 fe vs1 ds (wipeD δ vs) s) := rfl
@[simp] theorem fComp2_e : fComp2 vs vs1 fi ft tt fi1 ft1 tt1 fe δ s = kComp2 vs vs1 ft tt fi1 ft1 tt1 fe δ (fi δ s) := by
  unfold fComp2
  rcases fi δ s with _ | ⟨ds, s1⟩
  · rfl
  · show (compL2 ft tt fi1 ft1 tt1 fe vs1 ds (wipeD δ vs) s1).bind _ = kComp2' (compL2 ft tt fi1 ft1 tt1 fe vs1 ds (wipeD δ vs) s1)
    cases compL2 ft tt fi1 ft1 tt1 fe vs1 ds (wipeD δ vs) s1 <;> rfl
def kListRg : Option (D × S) → Option (D × S) | some (.int n, s) => if 0 ≤ n ∧ n ≤ 10000000 then some (.lst (rangeD 0 n.toNat), s) else none | _ => none
@[simp] theorem kListRg_s {n : Int} : kListRg (some (.int n, s)) = if 0 ≤ n ∧ n ≤ 10000000 then some (.lst (rangeD 0 n.toNat), s) else none := rfl
@[simp] theorem fListRg_e : fListRg fe δ s = kListRg (fe δ s) := by
  unfold fListRg
  rcases fe δ s with _ | ⟨x, s1⟩
  · rfl
  · cases x <;> rfl
end
end Fw

set_option Elab.async false
set_option linter.all false
set_option maxRecDepth 100000
set_option maxHeartbeats 4000000
/-! Br: lots that a design holds, their bodies' runs; the starts that begin alike, a leak: by data. -/
namespace Fw
open PySem PySem.Spec PyProof.Rows L2
def holdsM (ws l : List String) : Bool := l.all fun x => decide (x ∈ ws)
def lotsAt (ws : List String) : List (List String) := lotsL.filter fun l => holdsM ws l
theorem lotsAt_mem {ws l : List String} (h : l ∈ lotsAt ws) : l ∈ lotsL ∧ ∀ x ∈ l, x ∈ ws := by
  obtain ⟨a, b⟩ := List.mem_filter.mp h
  exact ⟨a, fun x hx => by simpa using List.all_eq_true.mp b x hx⟩
def breakM (ws : List String) : D := match lotsAt ws with
  | [] => .non
  | l :: _ => .tup [.tup [sortsD [false, true], bodyD (toldM l)], natsD [0, 0], natsD [0, 1]]
def lotT (l : List String) : D := .tup [lotD l, bodyD (toldM l)]
def choiceM (b : Bool) (n : Nat) : List Nat := if b then List.range 10 else [n]
def startsF : List (List Nat) → List Bool → List Nat → List (List Nat)
  | acc, b :: so, n :: ns => startsF (acc.map fun st => (choiceM b n).map fun c => st ++ [c]).flatten so ns
  | acc, _, _ => acc
def startsM (so : List Bool) (ns : List Nat) : List (List Nat) := startsF [[]] so ns
def leakM (ws : List String) (so : List Bool) (b : List Sm) (ns : List Nat) : Option (List Nat) := (startsM so ns).find? fun o => !lookM ws so (runO b ns) (runO b o)
theorem choice_lt {b : Bool} {n c : Nat} (hn : n < 10) (h : c ∈ choiceM b n) : c < 10 := by
  unfold choiceM at h
  cases b with
  | true => exact List.mem_range.mp h
  | false => rw [List.mem_singleton.mp h]; exact hn
theorem startsF_mem : ∀ (so : List Bool) (ns : List Nat) (acc : List (List Nat)) (k : Nat), ns.length = so.length → (∀ n ∈ ns, n < 10) → (∀ st ∈ acc, st.length = k ∧ ∀ n ∈ st, n < 10) → ∀ st ∈ startsF acc so ns, st.length = k + so.length ∧ ∀ n ∈ st, n < 10
  | [], ns, acc, k, _, _, h, st, hs => h st hs
  | b :: so, [], acc, k, hl, _, _, _, _ => by cases hl
  | b :: so, n :: ns, acc, k, hl, hv, h, st, hs => by
    have := startsF_mem so ns (acc.map fun st => (choiceM b n).map fun c => st ++ [c]).flatten (k + 1) (Nat.succ.inj hl) (fun n q => hv n (List.mem_cons_of_mem _ q)) (fun st q => by
      obtain ⟨l, h1, h2⟩ := List.mem_flatten.mp q
      obtain ⟨st0, h3, rfl⟩ := List.mem_map.mp h1
      obtain ⟨c, h4, rfl⟩ := List.mem_map.mp h2
      obtain ⟨a1, a2⟩ := h st0 h3
      refine ⟨by rw [List.length_append, a1]; rfl, fun n q => ?_⟩
      rcases List.mem_append.mp q with q | q
      · exact a2 n q
      · rw [List.mem_singleton.mp q]; exact choice_lt (hv _ List.mem_cons_self) h4) st hs
    refine ⟨by rw [this.1, List.length_cons]; omega, this.2⟩
theorem starts_mem {so : List Bool} {ns : List Nat} (hl : ns.length = so.length) (hv : ∀ n ∈ ns, n < 10) : ∀ st ∈ startsM so ns, st.length = so.length ∧ ∀ n ∈ st, n < 10 := fun st h => by
  have := startsF_mem so ns [[]] 0 hl hv (fun st h => by rw [List.mem_singleton.mp h]; exact ⟨rfl, fun _ z => nomatch z⟩) st h
  rwa [Nat.zero_add] at this
theorem flat_len {α β : Type} {f : α → List β} {k : Nat} (h : ∀ a, (f a).length = k) : ∀ as : List α, (as.map f).flatten.length = as.length * k
  | [] => by simp
  | a :: as => by rw [List.map_cons, List.flatten_cons, List.length_append, h, flat_len h as, List.length_cons, Nat.succ_mul, Nat.add_comm]
/-- how many starts there are while they are made -/
def manyM : List Bool → Nat → Nat
  | [], m => m
  | b :: so, m => manyM so (m * (if b then 10 else 1))
theorem many_le : ∀ (so : List Bool) (m : Nat), m ≤ manyM so m
  | [], m => Nat.le_refl m
  | b :: so, m => Nat.le_trans (by cases b <;> simp <;> omega) (many_le so _)
theorem many_pow : ∀ (so : List Bool) (m : Nat), manyM so m = m * 10 ^ so.count true
  | [], m => by simp [manyM]
  | b :: so, m => by
    rw [manyM, many_pow so]
    cases b
    · simp
    · rw [if_pos rfl, List.count_cons_self, Nat.pow_succ, Nat.mul_assoc, Nat.mul_comm 10]
theorem step_len (acc : List (List Nat)) (b : Bool) (n : Nat) : (acc.map fun st => (choiceM b n).map fun c => st ++ [c]).flatten.length = acc.length * (if b then 10 else 1) := by
  apply flat_len
  intro st
  rw [List.length_map]
  unfold choiceM
  cases b <;> simp
theorem count_secret (so : List Bool) : ∃ ys, txtsD (so.map sortD) = some ys ∧ ys.count (Str.ofString "secret") = so.count true := by
  induction so with
  | nil => exact ⟨[], rfl, rfl⟩
  | cons b so ih =>
    obtain ⟨ys, h1, h2⟩ := ih
    cases b with
    | true =>
      refine ⟨Str.ofString "secret" :: ys, ?_, ?_⟩
      · show (txtsD (so.map sortD)).map _ = _
        rw [h1]; rfl
      · rw [List.count_cons_self, List.count_cons_self, h2]
    | false =>
      refine ⟨Str.ofString "open" :: ys, ?_, ?_⟩
      · show (txtsD (so.map sortD)).map _ = _
        rw [h1]; rfl
      · rw [List.count_cons_of_ne, List.count_cons_of_ne, h2] <;> simp
/-! ### lots compared -/
theorem lot_words : ∀ l ∈ lotsL, ∀ x ∈ l, x ∈ wordsL := by decide
theorem py_lots : ∀ ls : List (List String), (∀ l ∈ ls, l ∈ lotsL) → ∃ ps, toPys (ls.map lotD) = some ps ∧ PyData.canLayAll0 ps = true ∧ PyData.depthAll ps ≤ 1 ∧ ps.length = ls.length
  | [], _ => ⟨[], rfl, rfl, Nat.zero_le _, rfl⟩
  | l :: ls, h => by
    obtain ⟨ps, h1, h2, h3, h4⟩ := py_lots ls fun y hy => h y (List.mem_cons_of_mem _ hy)
    obtain ⟨qs, g1, g2, g3, g4⟩ := py_strs l fun x hx => words_lay x (lot_words l (h l List.mem_cons_self) x hx)
    refine ⟨.tuple qs :: ps, ?_, ?_, ?_, by rw [List.length_cons, List.length_cons, h4]⟩
    · rw [List.map_cons]
      have e : toPy (lotD l) = some (.tuple qs) := by show (toPys (l.map strD)).map _ = _; rw [g1]; rfl
      show (toPy (lotD l)).bind _ = _
      rw [e, Option.bind_some, h1]; rfl
    · show (PyData.canLayAll0 qs && PyData.canLayAll0 ps) = true
      rw [g2, h2]; rfl
    · show max (PyData.depthAll qs + 1) (PyData.depthAll ps) ≤ 1
      rw [g3]; omega
theorem shaped_lotsT {ps : List PyData} (h2 : PyData.canLayAll0 ps = true) (h3 : PyData.depthAll ps ≤ 1) : SeqAt.shaped (.tuple ps) = true ∧ SeqAt.shaped (.list ps) = true := by
  have hd : ∀ n, n ≤ 1 → decide (n + 1 ≤ 8) = true := fun n h => by simp; omega
  constructor
  · have hc : PyData.canLay0 (.tuple ps) = true := h2
    have hd : PyData.depth (.tuple ps) ≤ 2 := by show PyData.depthAll ps + 1 ≤ 2; omega
    unfold SeqAt.shaped
    rw [hc, Bool.true_and]
    exact decide_eq_true (Nat.le_trans hd (by decide))
  · have hc : PyData.canLay0 (.list ps) = true := h2
    have hd : PyData.depth (.list ps) ≤ 2 := by show PyData.depthAll ps + 1 ≤ 2; omega
    unfold SeqAt.shaped
    rw [hc, Bool.true_and]
    exact decide_eq_true (Nat.le_trans hd (by decide))
theorem deep_lotsT {ls : List (List String)} (h : ∀ l ∈ ls, l ∈ lotsL) : deepD (.tup (ls.map lotD)) (.tup (ls.map lotD)) = some true := by
  obtain ⟨ps, h1, h2, h3, _⟩ := py_lots ls h
  have e : toPy (.tup (ls.map lotD)) = some (.tuple ps) := by show (toPys (ls.map lotD)).map _ = _; rw [h1]; rfl
  have hc : PyData.canLay0 (.tuple ps) = true := h2
  unfold deepD
  rw [e]
  dsimp only
  rw [(shaped_lotsT h2 h3).1, if_pos (show (true && true) = true from rfl), SeqAt.eqv_refl _ hc]
theorem deep_lots0 {ls : List (List String)} (h : ∀ l ∈ ls, l ∈ lotsL) : deepD (.tup (ls.map lotD)) (.tup []) = some ls.isEmpty ∧ deepD (.lst (ls.map lotD)) (.lst []) = some ls.isEmpty := by
  obtain ⟨ps, h1, h2, h3, h4⟩ := py_lots ls h
  have e : toPy (.tup (ls.map lotD)) = some (.tuple ps) := by show (toPys (ls.map lotD)).map _ = _; rw [h1]; rfl
  have e' : toPy (.lst (ls.map lotD)) = some (.list ps) := by show (toPys (ls.map lotD)).map _ = _; rw [h1]; rfl
  have e2 : toPy (.tup []) = some (.tuple []) := rfl
  have e3 : toPy (.lst []) = some (.list []) := rfl
  obtain ⟨s1, s2⟩ := shaped_lotsT h2 h3
  unfold deepD
  rw [e, e', e2, e3]
  dsimp only
  rw [s1, s2, if_pos (by rfl), if_pos (by rfl)]
  cases ls with
  | nil => cases ps with
    | nil => exact ⟨rfl, rfl⟩
    | cons _ _ => cases h4
  | cons x ws => cases ps with
    | nil => cases h4
    | cons p ps => exact ⟨rfl, rfl⟩
/-! ### the bodies of the lots -/
theorem told_okB : ∀ l ∈ lotsL, smsOk 2 2 (toldM l) ∧ (toldM l).length ≤ 7 := by
  intro l hl
  simp only [lotsL, List.mem_cons, List.mem_nil_iff, or_false] at hl
  rcases hl with rfl | rfl | rfl | rfl | rfl | rfl | rfl | rfl | rfl | rfl | rfl | rfl | rfl <;> exact ⟨by simp [toldM, smsOk, smOk], by decide⟩
theorem told_lets {ws : List String} : ∀ l ∈ lotsL, (∀ x ∈ l, x ∈ ws) → faultsM ws [false, true] false 0 (toldM l) = none := by
  intro l hl h
  simp only [lotsL, List.mem_cons, List.mem_nil_iff, or_false] at hl
  rcases hl with rfl | rfl | rfl | rfl | rfl | rfl | rfl | rfl | rfl | rfl | rfl | rfl | rfl <;> simp at h <;> simp [toldM, faultsM, faultM, standsM, intoM, hid, h]
def nil10 : List Nat := [0, 0, 0, 0, 0, 0, 0, 0, 0, 0]
/-- how the bodies of the lots run from (0, 0) and from (0, 1) -/
def endsM (l : List String) : Ou × Ou :=
  if l = ["marks"] then (⟨"ends", [1, 0], [1, 0, 0, 0, 0, 0, 0, 0, 0, 0], nil10, [], 2⟩, ⟨"ends", [1, 1], [0, 1, 0, 0, 0, 0, 0, 0, 0, 0], nil10, [], 2⟩)
  else if l = ["straight"] then (⟨"ends", [0, 0], nil10, nil10, [], 1⟩, ⟨"ends", [1, 1], nil10, nil10, [], 1⟩)
  else if l = ["ends seen", "splits"] then (⟨"breaks", [0, 0], nil10, nil10, [], 1⟩, ⟨"ends", [0, 9], nil10, nil10, [], 1⟩)
  else if l = ["prints seen", "tells"] then (⟨"ends", [0, 0], nil10, nil10, [0], 1⟩, ⟨"ends", [0, 1], nil10, nil10, [1], 1⟩)
  else if l = ["ifs", "prints", "prints seen"] then (⟨"ends", [0, 0], nil10, nil10, [], 1⟩, ⟨"ends", [0, 1], nil10, nil10, [0], 2⟩)
  else if l = ["ifs", "steps seen"] then (⟨"ends", [0, 0], nil10, nil10, [], 1⟩, ⟨"ends", [0, 0], nil10, nil10, [], 2⟩)
  else if l = ["ifs", "stops"] then (⟨"ends", [1, 0], nil10, nil10, [], 2⟩, ⟨"stops", [0, 1], nil10, nil10, [], 2⟩)
  else if l = ["ifs", "under"] then (⟨"ends", [0, 0], nil10, nil10, [], 1⟩, ⟨"ends", [1, 1], nil10, nil10, [], 2⟩)
  else if l = ["ends seen", "whiles"] then (⟨"ends", [0, 0], nil10, nil10, [], 1⟩, ⟨"goes on", [0, 1], nil10, nil10, [], 1⟩)
  else if l = ["prints", "prints seen", "whiles"] then (⟨"ends", [0, 0], nil10, nil10, [], 1⟩, ⟨"ends", [0, 0], nil10, nil10, [0], 3⟩)
  else if l = ["steps seen", "whiles"] then (⟨"ends", [0, 0], nil10, nil10, [], 1⟩, ⟨"ends", [0, 0], nil10, nil10, [], 2⟩)
  else if l = ["stops", "whiles"] then (⟨"ends", [1, 0], nil10, nil10, [], 2⟩, ⟨"stops", [0, 1], nil10, nil10, [], 2⟩)
  else (⟨"ends", [0, 0], nil10, nil10, [], 1⟩, ⟨"ends", [1, 0], nil10, nil10, [], 3⟩)
theorem told_runs : ∀ l ∈ lotsL, runO (toldM l) [0, 0] = (endsM l).1 ∧ runO (toldM l) [0, 1] = (endsM l).2 := by
  intro l hl
  simp only [lotsL, List.mem_cons, List.mem_nil_iff, or_false] at hl
  rcases hl with rfl | rfl | rfl | rfl | rfl | rfl | rfl | rfl | rfl | rfl | rfl | rfl | rfl <;> exact ⟨by rfl, by rfl⟩
theorem told_look {ws : List String} : ∀ l ∈ lotsL, (∀ x ∈ l, x ∈ ws) → lookM ws [false, true] (runO (toldM l) [0, 0]) (runO (toldM l) [0, 1]) = false := by
  intro l hl h
  obtain ⟨e1, e2⟩ := told_runs l hl
  rw [e1, e2]
  simp only [lotsL, List.mem_cons, List.mem_nil_iff, or_false] at hl
  rcases hl with rfl | rfl | rfl | rfl | rfl | rfl | rfl | rfl | rfl | rfl | rfl | rfl | rfl <;> simp at h <;> simp [endsM, lookM, endS, sameM, opensM, beginM, nil10, h]
theorem look_self (ws : List String) (so : List Bool) (x : Ou) : lookM ws so x x = true := by
  unfold lookM sameM beginM
  simp
theorem leak_told {ws : List String} {l : List String} (hl : l ∈ lotsL) (h : ∀ x ∈ l, x ∈ ws) : leakM ws [false, true] (toldM l) [0, 0] = some [0, 1] := by
  have e : startsM [false, true] [0, 0] = [0, 0] :: [0, 1] :: (startsM [false, true] [0, 0]).drop 2 := by rfl
  unfold leakM
  rw [e, List.find?_cons_of_neg (by rw [look_self]; simp), List.find?_cons_of_pos (by rw [told_look l hl h]; rfl)]
end Fw

set_option Elab.async false
set_option linter.all false
set_option maxRecDepth 100000
set_option maxHeartbeats 4000000
/-! St1: tuples of texts in order: the order, its ranks, list.sort and sorted of such. -/
namespace Fw
open PySem PySem.Spec PyProof.Rows L2
def ltT (a b : Str) : Bool := decide (a.cps.toList < b.cps.toList)
theorem ltT_irr (a : Str) : ltT a a = false := decide_eq_false (List.lt_irrefl _)
theorem ltT_trans {a b c : Str} (h1 : ltT a b = true) (h2 : ltT b c = true) : ltT a c = true := decide_eq_true (List.lt_trans (of_decide_eq_true h1) (of_decide_eq_true h2))
theorem ltT_tot {a b : Str} (h : a ≠ b) : ltT a b = true ∨ ltT b a = true := by
  by_cases h1 : a.cps.toList < b.cps.toList
  · exact .inl (decide_eq_true h1)
  · by_cases h2 : b.cps.toList < a.cps.toList
    · exact .inr (decide_eq_true h2)
    · refine absurd ?_ h
      have := List.le_antisymm (List.not_lt.mp h2) (List.not_lt.mp h1)
      obtain ⟨x⟩ := a
      obtain ⟨y⟩ := b
      exact congrArg Str.mk (Array.toList_inj.mp this)
/-- the order of tuples of texts -/
def lexT : List Str → List Str → Bool
  | [], [] => false
  | [], _ :: _ => true
  | _ :: _, [] => false
  | a :: as, b :: bs => if a = b then lexT as bs else ltT a b
theorem lexT_irr : ∀ a : List Str, lexT a a = false
  | [] => rfl
  | a :: as => by rw [lexT, if_pos rfl]; exact lexT_irr as
theorem lexT_trans : ∀ {a b c : List Str}, lexT a b = true → lexT b c = true → lexT a c = true
  | [], [], _, h, _ => by cases h
  | [], _ :: _, [], _, h => by cases h
  | [], _ :: _, _ :: _, _, _ => rfl
  | _ :: _, [], _, h, _ => by cases h
  | _ :: _, _ :: _, [], _, h => by cases h
  | a :: as, b :: bs, c :: cs, h1, h2 => by
    rw [lexT] at h1 h2 ⊢
    by_cases e1 : a = b
    · subst e1
      rw [if_pos rfl] at h1
      by_cases e2 : a = c
      · rw [if_pos e2] at h2 ⊢; exact lexT_trans h1 h2
      · rw [if_neg e2] at h2 ⊢; exact h2
    · rw [if_neg e1] at h1
      by_cases e2 : b = c
      · subst e2
        rw [if_neg e1]; exact h1
      · rw [if_neg e2] at h2
        have h3 := ltT_trans h1 h2
        rw [if_neg (fun e => by rw [e, ltT_irr] at h3; cases h3)]
        exact h3
theorem lexT_tot : ∀ {a b : List Str}, a ≠ b → lexT a b = true ∨ lexT b a = true
  | [], [], h => absurd rfl h
  | [], _ :: _, _ => .inl rfl
  | _ :: _, [], _ => .inr rfl
  | a :: as, b :: bs, h => by
    rw [lexT, lexT]
    by_cases e : a = b
    · subst e
      rw [if_pos rfl, if_pos rfl]
      exact lexT_tot fun e => h (by rw [e])
    · rw [if_neg e, if_neg (Ne.symm e)]
      exact ltT_tot e
/-- not behind -/
def leX (a b : List Str) : Bool := !lexT b a
theorem leX_trans (a b c : List Str) (h1 : leX a b = true) (h2 : leX b c = true) : leX a c = true := by
  unfold leX at *
  rw [Bool.not_eq_true'] at *
  cases h : lexT c a with
  | false => rfl
  | true =>
    by_cases e : c = b
    · rw [e] at h; rw [h] at h1; cases h1
    · rcases lexT_tot e with h3 | h3
      · rw [h3] at h2; cases h2
      · rw [lexT_trans h3 h] at h1; cases h1
theorem leX_total (a b : List Str) : (leX a b || leX b a) = true := by
  unfold leX
  cases h : lexT b a with
  | false => rfl
  | true =>
    cases h2 : lexT a b with
    | false => rfl
    | true => have := lexT_trans h h2; rw [lexT_irr] at this; cases this
theorem leX_anti {a b : List Str} (h1 : leX a b = true) (h2 : leX b a = true) : a = b := by
  unfold leX at *
  rw [Bool.not_eq_true'] at *
  by_cases e : a = b
  · exact e
  · rcases lexT_tot e with h | h
    · rw [h] at h2; cases h2
    · rw [h] at h1; cases h1
/-- tuples of texts, ascending -/
def srtX (xs : List (List Str)) : List (List Str) := xs.mergeSort leX
theorem srtX_of {xs ys : List (List Str)} (p : ys.Perm xs) (h : ys.Pairwise fun a b => leX a b = true) : ys = srtX xs :=
  List.Perm.eq_of_pairwise (fun a b _ _ h1 h2 => leX_anti h1 h2) h (List.pairwise_mergeSort leX_trans leX_total _) (p.trans (List.mergeSort_perm _ _).symm)
/-! ### on the heap -/
def TupStrs (h : Heap) (v : Value) (ys : List Str) : Prop := ∃ a xs, v = .ref a ∧ IsTup h a xs ∧ StrsAre xs.toList ys
theorem TupStrs.keeps {h h' : Heap} {v : Value} {ys : List Str} (x : TupStrs h v ys) (k : ∀ b o, h.get? b = some o → o.cls = .type "tuple" → h'.get? b = some o) : TupStrs h' v ys := by
  obtain ⟨a, xs, e, ⟨o, ho, hc, hd⟩, i⟩ := x
  exact ⟨a, xs, e, ⟨o, k _ _ ho hc, hc, hd⟩, i⟩
def strsOf (h : Heap) (v : Value) : List Str := match v with
  | .ref a => match h.get? a with
    | some o => match o.data with
      | .seq xs _ => xs.toList.map vTxt
      | _ => []
    | none => []
  | _ => []
theorem strs_txt : ∀ {vs : List Value} {ys : List Str}, StrsAre vs ys → vs.map vTxt = ys
  | _, _, .nil => rfl
  | _, _, .cons y t h => by rw [List.map_cons, strs_txt h]; rfl
theorem TupStrs.strs {h : Heap} {v : Value} {ys : List Str} (x : TupStrs h v ys) : strsOf h v = ys := by
  obtain ⟨a, xs, rfl, ⟨o, ho, hc, n, hd⟩, i⟩ := x
  simp only [strsOf, ho, hd]
  exact strs_txt i
def lexS (sh : Bool) : List Str → List Str → Bool
  | a :: as, b :: bs => if a = b then lexS sh as bs else ltT a b
  | _, _ => sh
theorem lexS_eq : ∀ (as bs : List Str), lexS (decide (as.length < bs.length)) as bs = lexT as bs
  | [], [] => rfl
  | [], _ :: _ => rfl
  | _ :: _, [] => rfl
  | a :: as, b :: bs => by
    rw [lexS, lexT, ← lexS_eq as bs]
    simp
section
variable {prog : Program} {w : World} {A : Around} {E : Value → Shared → Prop} {s : Shared}
theorem oneLt_strs {Q : Bool → Shared → Prop} (c : Bool) {p q : Str} {t u : Tok} (h : Q (ltT p q) s) : wpAny (model prog w) A (oneLt' c (.str p t) (.str q u)) Q E s := by
  cases c with
  | true => exact oneLt_str h
  | false => exact PySem.W.kat_one _ _ (PyProof.Rows.lt_str (Q := PySem.W.BoolBack Q) h)
theorem lex_strs {Q : Bool → Shared → Prop} {b sh : Bool} {xs ys : List Value} {as bs : List Str} (i : Nat) (hx : StrsAre xs as) (hy : StrsAre ys bs)
    (h : Q (lexS sh as bs) s) : PySem.W.KatLex prog w A b sh Q (xs.zip ys) i s := by
  induction hx generalizing ys bs i with
  | nil => exact PySem.W.kat_nil h
  | @cons p t xs as hx ih =>
    cases hy with
    | nil => exact PySem.W.kat_nil h
    | @cons q u ys bs hy =>
      show PySem.W.KatLex prog w A b sh Q ((Value.str p t, Value.str q u) :: xs.zip ys) i s
      refine PySem.W.kat_cons (wpAny_eqBool_str ?_)
      rw [lexS] at h
      by_cases e : p = q
      · rw [decide_eq_true e]
        rw [if_pos e] at h
        exact PySem.W.kat_yes (ih (i + 1) hy h)
      · rw [decide_eq_false e]
        rw [if_neg e] at h
        exact PySem.W.kat_no (oneLt_strs _ h)
def TupsT (h : Heap) (vs : List Value) : Prop := ∀ v, v ∈ vs → ∃ ys, TupStrs h v ys ∧ ys ≠ []
theorem TupsT.keeps {h h' : Heap} {vs : List Value} (x : TupsT h vs) (k : ∀ b o, h.get? b = some o → o.cls = .type "tuple" → h'.get? b = some o) : TupsT h' vs := fun v hv =>
  let ⟨ns, t, r⟩ := x v hv; ⟨ns, t.keeps k, r⟩
theorem firsts_txt {h : Heap} : ∀ vs : List Value, TupsT h vs → ∃ fs, PySem.W.KatTups h vs fs ∧ fs.length = vs.length ∧ ∀ f, f ∈ fs → ∃ n t, f = Value.str n t
  | [], _ => ⟨[], PySem.W.KatTups.nil, rfl, fun f hf => by simp at hf⟩
  | v :: vs, x => by
    obtain ⟨fs, k, hl, hi⟩ := firsts_txt vs fun u hu => x u (List.mem_cons_of_mem _ hu)
    obtain ⟨ys, ⟨a, xs, rfl, ⟨o, ho, hc, n, hdt⟩, i⟩, hn⟩ := x v (List.mem_cons_self ..)
    obtain ⟨y, t, r, e⟩ : ∃ y t r, xs.toList = Value.str y t :: r := by
      cases q : xs.toList with
      | nil =>
        rw [q] at i
        cases i
        exact absurd rfl hn
      | cons y r =>
        rw [q] at i
        cases i
        exact ⟨_, _, _, rfl⟩
    refine ⟨.str y t :: fs, PySem.W.KatTups.cons ho hc hdt ?_ k, by simp [hl], ?_⟩
    · have z := congrArg (fun l : List Value => l[0]?) e
      simpa using z
    · intro f hf
      rcases List.mem_cons.mp hf with rfl | hf
      · exact ⟨_, _, rfl⟩
      · exact hi f hf
theorem kind_txts {vs : List Value} (h2 : 2 ≤ vs.length) (x : TupsT s.heap vs) (Q : SortKind → Shared → Prop) (h : Q (tuples' true) s) : wpAny (model prog w) A (keyKind' vs.toArray) Q E s := by
  obtain ⟨fs, k, hl, hi⟩ := firsts_txt vs x
  refine PySem.W.kat_kind (T := Value.type "str") k (by omega) (fun f hf => ?_) rfl ?_
  · obtain ⟨n, t, rfl⟩ := hi f hf
    exact PySem.W.Looks.of_pure rfl
  · have e : (Value.type "str" != Value.type "tuple") = true := by first | decide +kernel | rfl | decide
    rw [e]; exact h
theorem cmp_txts {vs : List Value} (x : TupsT s.heap vs) (f : Value → List Str) (hf : ∀ v ∈ vs, ∀ ys, TupStrs s.heap v ys → f v = ys) : SrtO.Cmp prog w A s (tuples' true) (fun p => p.1 ∈ vs) (SrtO.lt2 fun v u => lexT (f v) (f u)) := by
  intro p q hp hq
  obtain ⟨ys, tp, _⟩ := x _ hp
  obtain ⟨zs, tq, _⟩ := x _ hq
  show wpAny (model prog w) A (keyLt' (tuples' true) p.1 q.1) (fun r s' => s' = s ∧ r = lexT (f p.1) (f q.1)) (fun _ _ => False) s
  rw [hf _ hp ys tp, hf _ hq zs tq]
  obtain ⟨a, xs, e1, ⟨o, ho, hc, n, hdt⟩, i⟩ := tp
  obtain ⟨a', us, e2, ⟨o', ho', hc', n', hdt'⟩, i'⟩ := tq
  rw [e1, e2]
  refine PySem.W.kat_lt ho hdt ho' hdt' ?_
  have l1 : xs.size = ys.length := by have := congrArg List.length (strs_txt i); simpa using this
  have l2 : us.size = zs.length := by have := congrArg List.length (strs_txt i'); simpa using this
  rw [l1, l2]
  exact lex_strs (Q := fun r s' => s' = s ∧ r = lexT ys zs) 0 i i' ⟨rfl, by rw [lexS_eq]⟩
theorem lexT_swo (f : Value → List Str) : SrtO.Swo fun v u => lexT (f v) (f u) := by
  refine ⟨fun x y h => ?_, fun x y z h1 h2 => ?_⟩
  · cases q : lexT (f y) (f x) with
    | false => rfl
    | true => have := lexT_trans h q; rw [lexT_irr] at this; cases this
  · have := leX_trans (f x) (f y) (f z) (by unfold leX; rw [h1]; rfl) (by unfold leX; rw [h2]; rfl)
    unfold leX at this
    simpa using this
/-- sorted of a list of tuples of texts, any number of them -/
theorem sorted_txts {l : Addr} {vs : List Value} {Q : Value → Shared → Prop} (hl : s.heap.IsList l vs.toArray) (hz : vs.length ≤ sizeLine) (x : TupsT s.heap vs)
    (h : ∀ out : List Value, out.Perm vs → out.Pairwise (fun u v => leX (strsOf s.heap u) (strsOf s.heap v) = true) → Q (.ref (s.heap.objs.size + 1)) { s with heap := sortedAll s.heap vs out.toArray }) :
    wpAny (model prog w) A (call (.builtin "sorted") [.ref l]) Q E s := by
  refine SrtO.sorted_ord (lexT_swo (strsOf s.heap)) hl hz (fun h2 h₁ a ha kk => fun h' keep => ?_) fun out hs hb => h out hb.perm (hs.imp fun {u v} q => by unfold leX; rw [show lexT (strsOf s.heap v) (strsOf s.heap u) = false from q]; rfl)
  have hk : ∀ b o, s.heap.get? b = some o → o.cls = .type "tuple" → h'.get? b = some o := fun b o e _ => keep b o (kk b o e).1 (kk b o e).2
  refine ⟨tuples' true, fun Q E hq => kind_txts (s := { s with heap := h' }) h2 (x.keeps hk) Q hq, cmp_txts (s := { s with heap := h' }) (x.keeps hk) _ fun v hv ys t => ?_⟩
  obtain ⟨ys0, t0, _⟩ := x v hv
  exact t0.strs.trans ((t0.keeps hk).strs.symm.trans t.strs)
/-- what a tuple's items are collected to -/
theorem collect_tuple {l : Addr} {vs : List Value} {Q : List Value → Shared → Prop} (hl : s.heap.IsTuple l vs.toArray)
    (h : Q vs { s with heap := (s.heap.push (seqObj "list" #[] 0)).update s.heap.objs.size (Obj.mapSeq (· ++ vs.toArray)) }) (hsz : vs.length ≤ sizeLine := by size_fits) :
    wpAny (model prog w) A (collect (.ref l)) Q E s := by
  obtain ⟨o, ho, hc, n, hd⟩ := id hl
  unfold collect
  refine wpAny_bind (wpAny_runValue (codeAny_builtin entry_proto_collect' ?_))
  show wpAny _ _ (do again (.builtin "list.__iadd__" ⟨[← newList [], .ref l], []⟩)) _ _ s
  refine wpAny_bind (wpAny_newList (wpAny_pure ⟨Code.quiet_builtin _ (by decide +kernel), codeAny_builtin entry_list_iadd' ?_⟩))
  show wpAny _ _ (Builtin.List.listExtendWith (.ref s.heap.objs.size) (.ref l) (.ref s.heap.objs.size)) _ _ { s with heap := s.heap.push (seqObj "list" #[] 0) }
  unfold Builtin.List.listExtendWith
  have ho' : (s.heap.push (seqObj "list" #[] 0)).get? l = some o := Heap.get?_push_of_some _ ho
  refine wpAny_bind (wpAny_typeOf (T := "tuple") ⟨o, ho', hc⟩ ?_)
  have ht : (Value.type "tuple" == Value.type "tuple") = true := by rfl
  rw [if_pos (by rw [ht]; simp)]
  refine wpAny_bind (listItems_at ho' hd ?_)
  refine wpAny_bind (listItems_at (xs := #[]) (n := 0) (Heap.get?_push_size _ rfl) rfl ?_)
  rw [if_neg (by simp)]
  refine wpAny_bind (listUpdate_at (xs := #[]) (n := 0) (Heap.get?_push_size _ rfl) rfl ?_ (Nat.zero_le _) (by show (#[] ++ vs.toArray).size ≤ sizeLine + 1; simp only [Array.size_append, List.size_toArray, List.length_nil]; omega))
  refine wpAny_pure ?_
  show wpAny (model prog w) A (do
      let o ← load s.heap.objs.size
      match o.data with
      | .seq xs _ => pure xs.toList
      | _ => unsupported "internal:collect") Q E { s with heap := (s.heap.push (seqObj "list" #[] 0)).update s.heap.objs.size (Obj.mapSeq (· ++ vs.toArray)) }
  refine wpAny_bind (wpAny_load (get?_update_seq (Heap.get?_push_size _ rfl) _) ?_)
  show wpAny _ _ (pure ((#[] : Array Value) ++ vs.toArray).toList) Q E _
  rw [show ((#[] : Array Value) ++ vs.toArray).toList = vs by simp]
  exact wpAny_pure h
/-- sorted(t), t a tuple of texts -/
theorem sorted_strsT {l : Addr} {vs : List Value} {ss : List Str} {Q : Value → Shared → Prop} (hl : s.heap.IsTuple l vs.toArray) (hS : StrsAre vs ss) (h64 : vs.length < 64)
    (h : ∀ (out : Array Value) (ss' : List Str), StrsAre out.toList ss' → ss'.Perm ss → sortedS ss' = true → Q (.ref (s.heap.objs.size + 1)) { s with heap := sortedAll s.heap vs out }) :
    wpAny (model prog w) A (call (.builtin "sorted") [.ref l]) Q E s := by
  refine Calls.call_function_entry kind_sorted plain_sorted entry_sorted (args_sorted1 _) ?_
  unfold Builtin.«sorted»
  refine wpAny_bind (m := checkCount "sorted" 1 1 _) (wpAny_pure ?_)
  refine wpAny_bind (collect_tuple hl ?_ (by rw [sizeLine_eq]; omega))
  refine wpAny_bind (wpAny_newList ?_ (by rw [sizeLine_eq]; omega))
  have hsz : ((s.heap.push (seqObj "list" #[] 0)).update s.heap.objs.size (Obj.mapSeq (· ++ vs.toArray))).objs.size = s.heap.objs.size + 1 := by
    rw [Heap.size_update, size_push']
  have hoL : (((s.heap.push (seqObj "list" #[] 0)).update s.heap.objs.size (Obj.mapSeq (· ++ vs.toArray))).push (seqObj "list" vs.toArray 0)).get? (s.heap.objs.size + 1) = some (seqObj "list" vs.toArray 0) := by
    rw [← hsz]; exact Heap.get?_push_size _ rfl
  show wpAny _ _ _ _ _ { s with heap := ((s.heap.push (seqObj "list" #[] 0)).update s.heap.objs.size (Obj.mapSeq (· ++ vs.toArray))).push (seqObj "list" vs.toArray 0) }
  rw [hsz]
  refine wpAny_bind (wpAny_holding (wpAny_call_entry slot_list_sort ⟨_, hoL, rfl⟩ entry_list_sort (list_sort_treeK strKind_oneLt hoL hS.keysOf (fun v1 v2 rest e => keyKind_strs (by rw [← e]; exact hS)) h64 fun st hp hs => ⟨_, rfl, ?_⟩) (args_list_sort _)))
  obtain ⟨ss', h1, h2, h3⟩ := sorted_out_str hS hp hs
  exact wpAny_pure ⟨_, rfl, h _ ss' h1 h2 h3⟩
end
end Fw

set_option Elab.async false
set_option linter.all false
set_option maxRecDepth 100000
set_option maxHeartbeats 4000000
/-! St2: sorted of a tuple of texts, of a list of tuples of texts: over the layer, by data. -/
namespace Fw
open PySem PySem.Spec PyProof.Rows L2
def srtM (xs : List Str) : List Str := xs.mergeSort leT
theorem srtM_of {xs ys : List Str} (p : ys.Perm xs) (h : sortedS ys = true) : ys = srtM xs :=
  List.Perm.eq_of_pairwise (fun a b _ _ h1 h2 => leT_anti h1 h2) (sortedS_pw h) (List.pairwise_mergeSort leT_trans leT_total _) (p.trans (List.mergeSort_perm _ _).symm)
theorem srtM_self {xs : List Str} (h : xs.Pairwise fun a b => leT a b = true) : srtM xs = xs :=
  (List.Perm.eq_of_pairwise (fun a b _ _ h1 h2 => leT_anti h1 h2) h (List.pairwise_mergeSort leT_trans leT_total _) (List.mergeSort_perm _ _).symm).symm
def tupT (ys : List Str) : D := .tup (ys.map .str)
def tupsD : List D → Option (List (List Str))
  | [] => some []
  | .tup xs :: ds => (txtsD xs).bind fun x => (tupsD ds).map (x :: ·)
  | _ :: _ => none
theorem txtsD_eq : ∀ {ds : List D} {xs : List Str}, txtsD ds = some xs → ds = xs.map .str
  | [], _, e => by cases e; rfl
  | d :: ds, xs, e => by
    cases d with
    | str x =>
      obtain ⟨ys, e1, rfl⟩ := map_some (show (txtsD ds).map _ = some xs from e)
      rw [List.map_cons, ← txtsD_eq e1]
    | _ => cases e
theorem tups_ok {K : PySem.W.Frag} {H : Hp} : ∀ {ds : List D} {vs : List V} {yss : List (List Str)}, Reps K H vs ds → tupsD ds = some yss → ∃ ps : List (V × List Str), ps.map (·.1) = vs ∧ ps.map (·.2) = yss ∧ ∀ q ∈ ps, (∃ t, q.1 = .ref t ∧ SqT K H t (q.2.map V.str)) ∧ Rep K H q.1 (tupT q.2)
  | [], _, _, .nil, e => by cases e; exact ⟨[], rfl, rfl, fun _ z => nomatch z⟩
  | d :: ds, _, yss, .cons r rs, e => by
    cases d with
    | tup xs =>
      obtain ⟨x, e1, e2⟩ := bind_some (show (txtsD xs).bind _ = some yss from e)
      obtain ⟨zs, e3, rfl⟩ := map_some e2
      obtain ⟨ps, h1, h2, h3⟩ := tups_ok rs e3
      have ex := txtsD_eq e1
      obtain ⟨a, ws, rfl, qa, ra⟩ := rep_tup r
      have ew := txtsD_ok ra e1
      subst ew
      refine ⟨(.ref a, x) :: ps, by rw [List.map_cons, h1], by rw [List.map_cons, h2], fun q hq => ?_⟩
      rcases List.mem_cons.mp hq with rfl | hq
      · exact ⟨⟨a, rfl, qa⟩, by rw [ex] at r; exact r⟩
      · exact h3 q hq
    | _ => cases e
theorem reps_pairs {K : PySem.W.Frag} {H : Hp} : ∀ {qs : List (V × List Str)}, (∀ q ∈ qs, Rep K H q.1 (tupT q.2)) → Reps K H (qs.map (·.1)) ((qs.map (·.2)).map tupT)
  | [], _ => .nil
  | q :: qs, h => .cons (h q List.mem_cons_self) (reps_pairs fun r hr => h r (List.mem_cons_of_mem _ hr))
def rSortedTx (K : PySem.W.Frag) : List V → Hp → VK → Prop := fun vs H Q =>
  (∃ (a : Addr) (xs : List Str), vs = [.ref a] ∧ SqT K H a (xs.map V.str) ∧ xs.length < 64 ∧ ∀ p, H p = none → Q (.ref p) (upd H p (.lst ((srtM xs).map V.str)))) ∨
  ∃ (a : Addr) (ps : List (V × List Str)), vs = [.ref a] ∧ SqL K H a (ps.map (·.1)) ∧ (∀ q ∈ ps, ∃ t, q.1 = .ref t ∧ SqT K H t (q.2.map V.str) ∧ q.2 ≠ []) ∧
    ∀ (qs : List (V × List Str)) (p : Addr), qs.Perm ps → qs.map (·.2) = srtX (ps.map (·.2)) → H p = none → Q (.ref p) (upd H p (.lst (qs.map (·.1))))
theorem pairs_back {h : Heap} : ∀ {ps : List (V × List Str)} {its : List Value}, Vals (ps.map (·.1)) its → (∀ q ∈ ps, ∃ t, q.1 = .ref t ∧ TupStrs h (.ref t) q.2) → ps = its.map fun v => (backV v, strsOf h v)
  | [], its, r, _ => by cases r; rfl
  | q :: ps, its, r, k => by
    cases r with
    | cons a b =>
      rename_i u us
      obtain ⟨t, e1, e2⟩ := k q List.mem_cons_self
      have ih := pairs_back b fun r hr => k r (List.mem_cons_of_mem _ hr)
      obtain ⟨q1, q2⟩ := q
      cases e1
      obtain rfl : u = Value.ref t := a
      rw [List.map_cons, ← ih, e2.strs]
      rfl
section
variable {X : Cx}
theorem cr_sortedTx : CallR X (.builtin "sorted") (rSortedTx X.K) := by
  intro pins s σ H vs us Q I r h
  rcases h with ⟨a, xs, rfl, hs, h64, q⟩ | ⟨a, ps, rfl, hs, hx, q⟩
  · obtain ⟨its, rv, hl, _⟩ := I.tuple hs
    rw [Vals.ref1 r]
    have hlen0 := rv.length
    rw [List.length_map] at hlen0
    refine sorted_strsT (show s.heap.IsTuple a its.toArray from hl) rv.strs (by rw [← hlen0]; exact h64) fun out ys h1 h2 h3 => ?_
    obtain ⟨ep, he'⟩ := PyProof.Rows.sortedAll_at s.heap its out
    have hlen : (ys.map V.str).length ≤ sizeLine := by rw [List.length_map, h2.length_eq]; exact small64 h64
    refine ⟨.ref _, upd H (s.heap.objs.size + 1) (.lst (ys.map V.str)), I.laid (t' := s.toks) (fun _ _ => PyProof.Rows.sortedAll_old) (Nat.le_succ _) ⟨hlen, out.toList, ep, vals_of_strs h1, he'⟩, rfl, ?_⟩
    rw [srtM_of h2 h3]
    exact q _ (I.hok.fresh (Nat.le_succ _))
  · obtain ⟨its, rv, hl, hz⟩ := I.list hs
    rw [Vals.ref1 r]
    have hkey : ∀ q ∈ ps, ∃ t, q.1 = .ref t ∧ TupStrs s.heap (.ref t) q.2 := fun q hq => by
      obtain ⟨t, e, ht, _⟩ := hx q hq
      obtain ⟨i2, r2, p2, _⟩ := I.tuple ht
      obtain ⟨o, ho, hc, n, hd⟩ := id p2
      exact ⟨t, e, t, i2.toArray, rfl, ⟨o, ho, hc, n, hd⟩, r2.strs⟩
    have ep := pairs_back rv hkey
    have hl0 := rv.length
    rw [List.length_map] at hl0
    obtain ⟨_, e2⟩ := refs_back rv fun x hx' => by
      obtain ⟨q, hq, rfl⟩ := List.mem_map.mp hx'
      obtain ⟨t, e, _⟩ := hkey q hq
      exact ⟨t, e⟩
    have ht : TupsT s.heap its := fun v hv => by
      have hm : (backV v, strsOf s.heap v) ∈ ps := by rw [ep]; exact List.mem_map.mpr ⟨v, hv, rfl⟩
      obtain ⟨t, e, k⟩ := hkey _ hm
      obtain ⟨t', e', _, hne⟩ := hx _ hm
      obtain ⟨u, rfl⟩ := e2 v hv
      cases e
      exact ⟨_, k, hne⟩
    have hz2 : its.length ≤ sizeLine := by rw [List.length_map] at hz; rw [← hl0]; exact hz
    refine sorted_txts hl.isList hz2 ht fun out h1 h2 => ?_
    obtain ⟨ep', he'⟩ := PyProof.Rows.sortedAll_at s.heap its out.toArray
    have hr : ∀ u ∈ out, ∃ a, u = Value.ref a := fun u hu => e2 u (h1.mem_iff.mp hu)
    have hlen : (out.map backV).length ≤ sizeLine := by rw [List.length_map, h1.length_eq]; exact hz2
    refine ⟨.ref _, upd H (s.heap.objs.size + 1) (.lst (out.map backV)), I.laid (t' := s.toks) (fun _ _ => PyProof.Rows.sortedAll_old) (Nat.le_succ _) ⟨hlen, out, ep', vals_back hr, he'⟩, rfl, ?_⟩
    have := q (out.map fun v => (backV v, strsOf s.heap v)) (s.heap.objs.size + 1) (by rw [ep]; exact h1.map _) (srtX_of (by rw [ep]; exact (h1.map _).map _) (by rw [List.map_map, List.pairwise_map]; exact h2)) (I.hok.fresh (Nat.le_succ _))
    rw [List.map_map] at this
    exact this
end
/-- sorted(x) by data -/
@[simp] def dSorted : GL := fun ds _ => match ds with
  | [.tup xs] => (txtsD xs).bind fun ys => if ys.length < 64 then some (.lst ((srtM ys).map .str)) else none
  | [.lst xs] => (tupsD xs).bind fun yss => if ∀ y ∈ yss, y ≠ [] then some (.lst ((srtX yss).map tupT)) else none
  | _ => none
theorem g_sorted {K : PySem.W.Frag} : GCall K (rSortedTx K) dSorted := by
  intro h s H vs ds d Q si rs q w
  unfold dSorted at q
  split at q
  · obtain ⟨ys, e1, e2⟩ := bind_some q
    split at e2
    · rename_i hl
      cases e2
      obtain ⟨v, rfl, r⟩ := reps1 rs
      obtain ⟨p, xs, rfl, q1, q2⟩ := rep_tup r
      have ex := txtsD_ok q2 e1
      subst ex
      exact .inl ⟨p, ys, rfl, sqt_un q1, hl, fun t ht => w _ _ (Step.new si ht _) (.lst (new_free si ht) (reps_str _))⟩
    · cases e2
  · obtain ⟨yss, e1, e2⟩ := bind_some q
    split at e2
    · rename_i hl
      cases e2
      obtain ⟨v, rfl, r⟩ := reps1 rs
      obtain ⟨p, xs, rfl, q1, q2⟩ := rep_lst r
      obtain ⟨ps, h1, h2, h3⟩ := tups_ok q2 e1
      subst h1 h2
      refine .inr ⟨p, ps, rfl, SqL.of (hide_ext _ _ _ _ q1), fun q hq => ?_, fun qs t pm es ht => ?_⟩
      · obtain ⟨⟨t, e, ht⟩, _⟩ := h3 q hq
        exact ⟨t, e, sqt_un ht, hl _ (List.mem_map.mpr ⟨q, hq, rfl⟩)⟩
      · refine w _ _ (Step.new si ht _) (.lst (new_free si ht) ?_)
        rw [← es]
        exact (Step.new si ht _).reps si (reps_pairs fun q hq => (h3 q (pm.mem_iff.mp hq)).2)
    · cases e2
  · cases q
/-! ### l.count(x) of texts -/
section
variable {X : Cx}
theorem mt_lcount : MtR X "list.count" (fun x xs H Q => ∃ (p : Addr) (ys : List Str) (z : Str), x = .ref p ∧ xs = [.str z] ∧ SqL X.K H p (ys.map V.str) ∧ Q (.int (ys.count z : Nat)) H) := by
  intro pins s σ H x xs v us Q I rx rxs h
  obtain ⟨p, ys, z, rfl, rfl, hs, q⟩ := h
  cases rx
  obtain ⟨u, rfl, ru⟩ := rxs.one
  obtain ⟨t, rfl⟩ := ru
  obtain ⟨its, rv, hl, hlen⟩ := I.list hs
  obtain ⟨⟨cls, dd, data, sl⟩, ho, hc, n, hd⟩ := hl.isList
  simp only at hc hd
  subst hc hd
  have hi : StrsAre its ys := strsAre_of rv
  refine call_meets PySem.F.slot_list_count ⟨_, ho, rfl⟩ PySem.F.entry_list_count (PySem.F.args_list_count_2 _ _)
    (SeqAt.list_countAt p its.toArray n dd sl (.str z t) (isStrOf z)) ⟨ho, fun y hy => (eq_isStrOf z t hi y (by simpa using hy)).at _ _, ?_⟩
  have ec : its.toArray.toList.countP (isStrOf z) = ys.count z := count_strs z hi
  refine ⟨.int (ys.count z : Nat), H, I.tok _, ⟨s.toks, ?_⟩, q⟩
  show Value.int ((its.toArray.toList.countP (isStrOf z) : Nat) : Int) s.toks = Value.int ((ys.count z : Nat) : Int) s.toks
  rw [ec]
variable {e : Expr} {fo fa : FE} {δ : Fr} {s : S}
def kCntL (fa : FE) (δ : Fr) : Option (D × S) → Option (D × S) | some (.lst ds, s) => kCnt2 ds (fa δ s) | _ => none
@[simp] theorem kCntL_s {ds : List D} : kCntL fa δ (some (.lst ds, s)) = kCnt2 ds (fa δ s) := rfl
/-- l.count(x), l a list of texts -/
def fCntL (fo fa : FE) : FE := fun δ s => kCntL fa δ (fo δ s)
@[simp] theorem fCntL_e : fCntL fo fa δ s = kCntL fa δ (fo δ s) := rfl
theorem d_countL (p : PE X e (tBM X.K "list" (fun x xs H Q => ∃ (p : Addr) (ys : List Str) (z : Str), x = .ref p ∧ xs = [.str z] ∧ SqL X.K H p (ys.map V.str) ∧ Q (.int (ys.count z : Nat)) H) (tD X.K fo) (tDA X.K (fCons fa fNil)))) : PE X e (tD X.K (fCntL fo fa)) :=
  imp_e p fun σ H Q ⟨h, s, δ, d, s', er, si, q, w⟩ => by
  have q' : kCntL fa δ (fo δ s) = some (d, s') := q
  unfold kCntL at q'
  split at q'
  · rename_i ds s1 e1
    unfold kCnt2 at q'
    split at q'
    · rename_i z s2 e2
      obtain ⟨ys, q3, q4⟩ := map_some q'
      cases q4
      refine ⟨h, s, δ, _, s1, er, si, e1, fun v H1 st1 r1 => ?_⟩
      obtain ⟨p1, xs, rfl, qa, ra⟩ := rep_lst r1
      refine ⟨.inl ⟨rfl, _, SqL.of (hide_ext _ _ _ _ qa)⟩, h, s1, δ, [.str z], _, er.mono (st1.ext si), st1.si, by rw [fCons_e, e2]; rfl, fun vs H2 st2 r2 => ?_⟩
      obtain ⟨v2, rfl, rv⟩ := reps1 r2
      have r3 := st2.rep st1.si r1
      obtain ⟨p2, xs2, e5, qb, rb⟩ := rep_lst r3
      cases e5
      have e6 := txtsD_ok rb q3
      subst e6
      exact ⟨p1, ys, z, rfl, by rw [rep_str rv], SqL.of (hide_ext _ _ _ _ qb), w _ H2 (st1.trans st2) (.int _)⟩
    · cases q'
  · cases q'
end
end Fw

set_option Elab.async false
set_option linter.all false
set_option maxRecDepth 100000
set_option maxHeartbeats 4000000
/-! St3: all(..) of a list of tuples. -/
namespace Fw
open PySem PySem.Spec PyProof.Rows L2
section
variable {prog : Program} {w : World} {A : Around} {R : Result → Shared → Prop} {I : Addr} {fp wr : List Addr} {n : Nat} {P : Nat → Value → Prop} {St : Nat → Heap → Prop}
theorem all_loopG (W : Walks prog w A.in1 I fp wr n P St) (tr : Nat → Bool) (Good : Heap → Prop) (hk0 : ∀ h h' : Heap, Good h → (∀ b o, b ∉ wr → h.get? b = some o → h'.get? b = some o) → Good h')
    (htr : ∀ i v (s : Shared) (Q : Bool → Shared → Prop) (E : Value → Shared → Prop), P i v → Good s.heap → (∀ tk, Q (tr i) { s with toks := tk }) → wpAny (model prog w) A.in1 (truthy v) Q E s) :
    ∀ (k i : Nat) (s : Shared), n - i = k → i ≤ n → St i s.heap → Good s.heap →
    (∀ h' tk, (∀ b o, b ∉ wr → s.heap.get? b = some o → h'.get? b = some o) → R (.ok (.ret (.bool (((List.range n).drop i).all tr)))) { s with heap := h', toks := tk }) →
    codeAny (model prog w) A (.builtin "all.loop" ⟨[.ref I], []⟩) R s := by
  intro k
  induction k with
  | zero =>
    intro i s hk hi hst hg hR
    have hin : i = n := by omega
    subst hin
    refine codeAny_builtin PySem.F.entry_all_loop ?_
    rw [Around.under_plainId PySem.F.plain_all_loop _]
    show wpAny _ A.in1 (pyNext (.ref I) >>= _) _ _ s
    refine wpAny_bind (W.done s _ _ hst fun h' tk hk' => ?_)
    refine wpAny_bind (wpAny_rule (wpAny_pure ?_))
    have := hR h' tk hk'
    rw [List.drop_of_length_le (by simp)] at this
    exact this
  | succ k ih =>
    intro i s hk hi hst hg hR
    have hlt : i < n := by omega
    have hd : (List.range n).drop i = i :: (List.range n).drop (i + 1) := by
      rw [List.drop_eq_getElem_cons (by simpa using hlt)]; simp
    refine codeAny_builtin PySem.F.entry_all_loop ?_
    rw [Around.under_plainId PySem.F.plain_all_loop _]
    show wpAny _ A.in1 (pyNext (.ref I) >>= _) _ _ s
    refine wpAny_bind (W.item i s _ _ hlt hst fun v h' tk hP hst' hk' => ?_)
    refine wpAny_bind (wpAny_holding (htr i v { s with heap := h', toks := tk } _ _ hP (hk0 _ _ hg hk') fun tk2 => ?_))
    refine wpAny_bind (wpAny_letGo ?_)
    cases hb : tr i with
    | true =>
      simp only [if_true]
      refine wpAny_pure ⟨plainId_quiet PySem.F.plain_all_loop _, ih (i + 1) { s with heap := h', toks := tk2 } (by omega) hlt hst' (hk0 _ _ hg hk') fun h'' tk'' hk'' => ?_⟩
      have := hR h'' tk'' fun b o hbw e => hk'' b o hbw (hk' b o hbw e)
      rw [hd, List.all_cons, hb, Bool.true_and] at this
      exact this
    | false =>
      simp only [Bool.false_eq_true, if_false]
      refine wpAny_bind (wpAny_rule (wpAny_pure ?_))
      have := hR h' tk2 hk'
      rw [hd, List.all_cons, hb, Bool.false_and] at this
      exact this
end
section
variable {prog : Program} {w : World} {A : Around} {E : Value → Shared → Prop} {s : Shared}
theorem call_all_tups {l : Addr} {its : List Value} {ks : List Bool} {Q : Value → Shared → Prop} (hh : A.in1.handled = none) (hl : s.heap.IsList l its.toArray) (hlen : its.length = ks.length)
    (ht : ∀ (i : Nat) v k, its[i]? = some v → ks[i]? = some k → ∃ t xs, v = .ref t ∧ IsTup s.heap t xs ∧ xs.size ≤ sizeLine ∧ k = !xs.isEmpty)
    (hQ : ∀ h' tk, (∀ b o, s.heap.get? b = some o → h'.get? b = some o) → Q (.bool (ks.all id)) { s with heap := h', toks := tk }) : wpAny (model prog w) A (call (.builtin "all") [.ref l]) Q E s := by
  refine call_function_tree PySem.F.kind_all PySem.F.plain_all PySem.F.entry_all (PySem.F.args_all1 _) ?_
  unfold Builtin.«all»
  refine wpAny_bind (m := oneArg "all" _) (wpAny_pure ?_)
  refine wpAny_bind (iter_any hl fun s₂ e2 st hne => ?_)
  subst e2
  refine wpAny_pure ⟨plainId_quiet PySem.F.plain_all_loop _, ?_⟩
  have up : ∀ b o, s.heap.get? b = some o → (s.heap.push { cls := .type "list_iterator", data := .fields #[.ref l, .int 0 0] }).get? b = some o := fun b o e => Heap.get?_push_of_some _ e
  refine all_loopG (Walks.list (A := A.in1) hh _ l hne its.toArray) (fun i => ks.getD i false)
    (fun h => ∀ (i : Nat) v k, its[i]? = some v → ks[i]? = some k → ∃ t xs, v = .ref t ∧ t ≠ s.heap.objs.size ∧ IsTup h t xs ∧ xs.size ≤ sizeLine ∧ k = !xs.isEmpty)
    (fun h h' g k i v b e1 e2 => ?_) (fun i v s2 Q2 E2 hv g q => ?_) its.toArray.size 0 _ (by simp) (Nat.zero_le _) st (fun i v k e1 e2 => ?_) fun h' tk hk => ?_
  · obtain ⟨t, xs, a1, a2, ⟨o, ho, hc, hd⟩, a4, a5⟩ := g i v b e1 e2
    exact ⟨t, xs, a1, a2, ⟨o, k t o (by simp [a2]) ho, hc, hd⟩, a4, a5⟩
  · have hv' : its[i]? = some v := by simpa using hv
    have hi : i < its.length := (List.getElem?_eq_some_iff.mp hv').1
    have hk' : ks[i]? = some ks[i] := List.getElem?_eq_getElem (by omega)
    obtain ⟨t, xs, rfl, _, a3, a4, a5⟩ := g i v _ hv' hk'
    have hl2 := line63
    refine truthy_tuple a3 (by omega) ?_
    have e : ks.getD i false = !xs.isEmpty := by rw [List.getD_eq_getElem?_getD, hk', ← a5]; rfl
    rw [← e]
    exact q _
  · obtain ⟨t, xs, a1, ⟨o, ho, hc, hd⟩, a4, a5⟩ := ht i v k e1 e2
    exact ⟨t, xs, a1, Nat.ne_of_lt (Heap.lt_size ho), ⟨o, up _ _ ho, hc, hd⟩, a4, a5⟩
  · have e : ((List.range its.toArray.size).drop 0).all (fun i => ks.getD i false) = ks.all id := by
      rw [List.drop_zero, List.size_toArray, hlen]; exact L2.all_range ks
    rw [e]
    refine hQ h' tk fun b o eo => hk b o (fun hm => ?_) (up b o eo)
    have := List.mem_singleton.mp hm
    exact absurd (this ▸ Heap.lt_size eo) (Nat.lt_irrefl _)
end
def rAllTu (K : PySem.W.Frag) : List V → Hp → VK → Prop := fun vs H Q => ∃ (a : Addr) (ps : List (V × List V)), vs = [V.ref a] ∧ SqL K H a (ps.map (·.1)) ∧ (∀ q ∈ ps, ∃ t, q.1 = .ref t ∧ SqT K H t q.2) ∧ Q (.bl (ps.all fun q => !q.2.isEmpty)) H
section
variable {X : Cx}
theorem cr_allTu (hc : X.calm = true) : CallR X (.builtin "all") (rAllTu X.K) := by
  intro pins s σ H vs us Q I r h
  obtain ⟨a, ps, rfl, hs, hx, q⟩ := h
  obtain ⟨its, rv, hl, _⟩ := I.list hs
  rw [Vals.ref1 r]
  have hlen := rv.length
  rw [List.length_map] at hlen
  refine call_all_tups (ks := ps.map fun q => !q.2.isEmpty) (I.ok.hd hc) hl.isList (by rw [List.length_map, hlen]) (fun i v k e1 e2 => ?_) fun h' tk hk => ?_
  · rw [List.getElem?_map] at e2
    obtain ⟨q, hq, rfl⟩ := Option.map_eq_some_iff.mp e2
    obtain ⟨t, et, ht⟩ := hx q (List.mem_of_getElem? hq)
    have e3 : (ps.map (·.1))[i]? = some (V.ref t) := by rw [List.getElem?_map, hq, ← et]; rfl
    obtain ⟨u, hu, ru⟩ := rv.get e3
    rw [e1] at hu
    cases hu
    obtain rfl : v = Value.ref t := ru
    obtain ⟨i2, r2, p2, hz⟩ := I.tuple ht
    obtain ⟨o, ho, hc', n, hd⟩ := id p2
    exact ⟨t, i2.toArray, rfl, ⟨o, ho, hc', n, hd⟩, by rw [List.size_toArray, ← r2.length]; exact hz, (isEmpty_of r2).symm⟩
  · refine ⟨.bl _, H, I.kept hk, ?_, q⟩
    show Value.bool _ = Value.bool _
    rw [List.all_map]
    rfl
end
def tusD : List D → Option (List (List D))
  | [] => some []
  | .tup xs :: ds => (tusD ds).map (xs :: ·)
  | _ :: _ => none
@[simp] def dAllTu : GL := fun ds _ => match ds with
  | [.lst xs] => (tusD xs).map fun is => .bl (is.all fun x => !x.isEmpty)
  | _ => none
theorem tus_ok {K : PySem.W.Frag} {H : Hp} : ∀ {ds : List D} {vs : List V} {xss : List (List D)}, Reps K H vs ds → tusD ds = some xss → ∃ ps : List (V × List V), ps.map (·.1) = vs ∧ (∀ q ∈ ps, ∃ t, q.1 = .ref t ∧ SqT K H t q.2) ∧ (ps.all fun q => !q.2.isEmpty) = xss.all fun x => !x.isEmpty
  | [], _, _, .nil, e => by cases e; exact ⟨[], rfl, fun _ z => (nomatch z), rfl⟩
  | d :: ds, _, xss, .cons r rs, e => by
    cases d with
    | tup xs =>
      obtain ⟨zs, e3, rfl⟩ := map_some (show (tusD ds).map _ = some xss from e)
      obtain ⟨ps, h1, h2, h3⟩ := tus_ok rs e3
      obtain ⟨a, ws, rfl, qa, ra⟩ := rep_tup r
      refine ⟨(.ref a, ws) :: ps, by rw [List.map_cons, h1], fun q hq => ?_, ?_⟩
      · rcases List.mem_cons.mp hq with rfl | hq
        · exact ⟨a, rfl, qa⟩
        · exact h2 q hq
      · rw [List.all_cons, List.all_cons, h3]
        congr 1
        cases ra <;> rfl
    | _ => cases e
theorem g_allTu {K : PySem.W.Frag} : GCall K (rAllTu K) dAllTu := by
  intro h s H vs ds d Q si rs q w
  unfold dAllTu at q
  split at q
  · obtain ⟨xss, e1, e2⟩ := map_some q
    cases e2
    obtain ⟨v, rfl, r⟩ := reps1 rs
    obtain ⟨p, xs, rfl, q1, q2⟩ := rep_lst r
    obtain ⟨ps, h1, h2, h3⟩ := tus_ok q2 e1
    subst h1
    refine ⟨p, ps, rfl, SqL.of (hide_ext _ _ _ _ q1), fun q hq => ?_, ?_⟩
    · obtain ⟨t, e, ht⟩ := h2 q hq
      exact ⟨t, e, sqt_un ht⟩
    · rw [h3]
      exact w _ H (Step.refl si) (.bl _)
  · cases q
end Fw

set_option Elab.async false
set_option linter.all false
set_option maxRecDepth 100000
set_option maxHeartbeats 4000000
/-! Ni: what a sound design lets by tells nothing of the secrets. -/
namespace Fw
open PySem PySem.Spec PyProof.Rows L2
structure Snd (ws : List String) : Prop where
  d : "straight" ∉ ws
  m : "marks" ∉ ws
  ex : "splits" ∈ ws → "ends seen" ∉ ws
  ew : "whiles" ∈ ws → "ends seen" ∉ ws
  br : ("ifs" ∈ ws ∨ "whiles" ∈ ws) → "stops" ∉ ws ∧ "under" ∉ ws ∧ "steps seen" ∉ ws ∧ ("prints" ∈ ws → "prints seen" ∉ ws)
  tp : "tells" ∈ ws → "prints seen" ∉ ws
theorem snd_of {ws : List String} (h : lotsAt ws = []) : Snd ws := by
  have k : ∀ l ∈ lotsL, ¬ ∀ x ∈ l, x ∈ ws := fun l hl q => by
    have := List.filter_eq_nil_iff.mp h l hl
    exact this (List.all_eq_true.mpr fun x hx => decide_eq_true (q x hx))
  have k2 : ∀ {a b : String}, [a, b] ∈ lotsL → a ∈ ws → b ∉ ws := fun {a b} hm ha hb => k _ hm fun x hx => by
    simp only [List.mem_cons, List.mem_nil_iff, or_false] at hx
    rcases hx with rfl | rfl
    · exact ha
    · exact hb
  have k3 : ∀ {a b c : String}, [a, b, c] ∈ lotsL → a ∈ ws → b ∈ ws → c ∉ ws := fun {a b c} hm ha hb hc => k _ hm fun x hx => by
    simp only [List.mem_cons, List.mem_nil_iff, or_false] at hx
    rcases hx with rfl | rfl | rfl
    · exact ha
    · exact hb
    · exact hc
  have k1 : ∀ {a : String}, [a] ∈ lotsL → a ∉ ws := fun {a} hm ha => k _ hm fun x hx => by rw [List.mem_singleton.mp hx]; exact ha
  refine ⟨k1 (by decide), k1 (by decide), fun h1 h2 => k2 (by decide) h2 h1, fun h1 h2 => k2 (by decide) h2 h1, ?_, fun h1 h2 => k2 (by decide) h2 h1⟩
  rintro (hb | hb)
  · exact ⟨k2 (by decide) hb, k2 (by decide) hb, k2 (by decide) hb, fun hp => k3 (by decide) hb hp⟩
  · exact ⟨fun z => k2 (by decide) z hb, fun z => k2 (by decide) z hb, fun z => k2 (by decide) z hb, fun hp z => k3 (by decide) hp z hb⟩
def abn (h : Option How) : Prop := h = some .breaks ∨ h = some .goes
section
variable {ws : List String} {so : List Bool}
structure Rel (ws : List String) (so : List Bool) (v u : Wd) : Prop where
  l1 : v.nums.length = so.length
  l2 : u.nums.length = so.length
  nums : ∀ i, hid so i = false → num v i = num u i
  op : v.op = u.op
  pr : "prints seen" ∈ ws → v.prints = u.prints
  st : "steps seen" ∈ ws → v.steps = u.steps
  rd : "whiles" ∉ ws → v.rounds = u.rounds
structure Hi (ws : List String) (so : List Bool) (v u : Wd) : Prop where
  len : v.nums.length = u.nums.length
  nums : ∀ i, hid so i = false → num v i = num u i
  op : v.op = u.op
  pr : "prints seen" ∈ ws → v.prints = u.prints
  rd : "whiles" ∉ ws → v.rounds = u.rounds
theorem Hi.refl (v : Wd) : Hi ws so v v := ⟨rfl, fun _ _ => rfl, rfl, fun _ => rfl, fun _ => rfl⟩
theorem Hi.trans {a b c : Wd} (x : Hi ws so a b) (y : Hi ws so b c) : Hi ws so a c := ⟨x.len.trans y.len, fun i h => (x.nums i h).trans (y.nums i h), x.op.trans y.op, fun h => (x.pr h).trans (y.pr h), fun h => (x.rd h).trans (y.rd h)⟩
theorem Hi.bump (v : Wd) : Hi ws so v (Fw.bump v) := ⟨rfl, fun _ _ => rfl, rfl, fun _ => rfl, fun _ => rfl⟩
theorem num_set_ne {v : Wd} {x i n : Nat} (h : i ≠ x) : num (setN v x n) i = num v i := by
  unfold num setN
  rw [List.getD_eq_getElem?_getD, List.getD_eq_getElem?_getD, List.getElem?_set_ne (Ne.symm h)]
theorem num_set {v : Wd} {x n : Nat} : num (setN v x n) x = if x < v.nums.length then n else num v x := by
  unfold num setN
  rw [List.getD_eq_getElem?_getD, List.getD_eq_getElem?_getD, List.getElem?_set]
  simp only [if_true]
  split
  · rfl
  · rename_i h
    rw [List.getElem?_eq_none (by omega)]
theorem Hi.setN {v : Wd} {x n : Nat} (h : hid so x = true) : Hi ws so v (setN v x n) :=
  ⟨by simp [Fw.setN], fun i hi => (num_set_ne (fun e => by rw [e, h] at hi; cases hi)).symm, rfl, fun _ => rfl, fun _ => rfl⟩
theorem Rel.hi {v u v' u' : Wd} (r : Rel ws so v u) (hv : Hi ws so v v') (hu : Hi ws so u u') (hs : "steps seen" ∉ ws) : Rel ws so v' u' :=
  ⟨hv.len ▸ r.l1, hu.len ▸ r.l2, fun i h => (hv.nums i h).symm.trans ((r.nums i h).trans (hu.nums i h)), hv.op.symm.trans (r.op.trans hu.op), fun h => (hv.pr h).symm.trans ((r.pr h).trans (hu.pr h)), fun h => absurd h hs, fun h => (hv.rd h).symm.trans ((r.rd h).trans (hu.rd h))⟩
theorem Rel.bump {v u : Wd} (r : Rel ws so v u) : Rel ws so (Fw.bump v) (Fw.bump u) := ⟨r.l1, r.l2, r.nums, r.op, r.pr, fun h => congrArg (· + 1) (r.st h), r.rd⟩
/-- the same, if it halted there, else on with g -/
def bindM (r : Wd × Option How) (g : Wd → Wd × Option How) : Wd × Option How := match r with
  | (w, none) => g w
  | (w, some h) => (w, some h)
theorem exs_bind (a : Sm) (b : List Sm) (v : Wd) : exsM (a :: b) v = bindM (exM a (bump v)) (exsM b) := by
  rw [exsM]; unfold bindM
  rcases exM a (bump v) with ⟨w, _ | h⟩ <;> rfl
theorem times_bind (f : Wd → Wd × Option How) (k : Nat) (v : Wd) : timesM f (k + 1) v = bindM (f v) (timesM f k) := by
  rw [timesM]; unfold bindM
  rcases f v with ⟨w, _ | h⟩ <;> rfl
theorem while_bind (x : Nat) (f : Wd → Wd × Option How) (k : Nat) (v : Wd) : whileM x f (k + 1) v = if num v x = 0 then (v, none) else if v.rounds = 60 then (v, some .goes) else bindM (f { v with rounds := v.rounds + 1 }) (whileM x f k) := by
  rw [whileM]; unfold bindM
  split
  · rfl
  · split
    · rfl
    · rcases f { v with rounds := v.rounds + 1 } with ⟨w, _ | h⟩ <;> rfl
/-! ### prints grow -/
def Mo (f : Wd → Wd × Option How) : Prop := ∀ v, v.prints <+: (f v).1.prints
theorem mo_bind {r : Wd × Option How} {g : Wd → Wd × Option How} (hg : Mo g) : r.1.prints <+: (bindM r g).1.prints := by
  rcases r with ⟨w, _ | h⟩
  · exact hg w
  · exact List.prefix_refl _
theorem mo_times {f : Wd → Wd × Option How} (hf : Mo f) : ∀ k, Mo (timesM f k)
  | 0 => fun v => List.prefix_refl _
  | k + 1 => fun v => by rw [times_bind]; exact (hf v).trans (mo_bind (mo_times hf k))
theorem mo_while {x : Nat} {f : Wd → Wd × Option How} (hf : Mo f) : ∀ k, Mo (whileM x f k)
  | 0 => fun v => List.prefix_refl _
  | k + 1 => fun v => by
    rw [while_bind]
    split
    · exact List.prefix_refl _
    · split
      · exact List.prefix_refl _
      · exact (hf { v with rounds := v.rounds + 1 }).trans (mo_bind (mo_while hf k))
mutual
theorem mo_ex : ∀ a : Sm, Mo (exM a)
  | .sum x ts n => fun v => by rw [exM]; exact List.prefix_refl _
  | .ite x p q => fun v => by
    rw [exM]
    split
    · exact mo_exs q v
    · exact mo_exs p v
  | .times n b => fun v => by rw [exM]; exact mo_times (mo_exs b) n v
  | .whl x b => fun v => by rw [exM]; exact mo_while (mo_exs b) 99 v
  | .print x => fun v => by rw [exM]; exact List.prefix_append _ _
  | .stop => fun v => by rw [exM]; exact List.prefix_refl _
  | .split x y => fun v => by rw [exM]; split <;> exact List.prefix_refl _
  | .keep t x y => fun v => by rw [exM]; cases t <;> exact List.prefix_refl _
  | .fetch t x y => fun v => by rw [exM]; exact List.prefix_refl _
theorem mo_exs : ∀ b : List Sm, Mo (exsM b)
  | [] => fun v => by rw [exsM]; exact List.prefix_refl _
  | a :: b => fun v => by rw [exs_bind]; exact (mo_ex a (bump v)).trans (mo_bind (mo_exs b))
end
/-! ### under a secret -/
def HiO (ws : List String) (so : List Bool) (v : Wd) (r : Wd × Option How) : Prop := Hi ws so v r.1 ∧ (r.2 = none ∨ (abn r.2 ∧ "ends seen" ∉ ws))
theorem HiO.of {v u : Wd} {r : Wd × Option How} (h : Hi ws so v u) (k : HiO ws so u r) : HiO ws so v r := ⟨h.trans k.1, k.2⟩
theorem hi_bind {v : Wd} {r : Wd × Option How} {g : Wd → Wd × Option How} (hr : HiO ws so v r) (hg : ∀ u, HiO ws so u (g u)) : HiO ws so v (bindM r g) := by
  rcases r with ⟨w, _ | h⟩
  · exact .of hr.1 (hg w)
  · exact hr
theorem hi_times {f : Wd → Wd × Option How} (hf : ∀ u, HiO ws so u (f u)) : ∀ (k : Nat) (v : Wd), HiO ws so v (timesM f k v)
  | 0, v => ⟨Hi.refl v, .inl rfl⟩
  | k + 1, v => by rw [times_bind]; exact hi_bind (hf v) (hi_times hf k)
theorem hi_while {x : Nat} {f : Wd → Wd × Option How} (hw : "whiles" ∈ ws) (S : Snd ws) (hf : ∀ u, HiO ws so u (f u)) : ∀ (k : Nat) (v : Wd), HiO ws so v (whileM x f k v)
  | 0, v => ⟨Hi.refl v, .inl rfl⟩
  | k + 1, v => by
    rw [while_bind]
    split
    · exact ⟨Hi.refl v, .inl rfl⟩
    · split
      · exact ⟨Hi.refl v, .inr ⟨.inr rfl, S.ew hw⟩⟩
      · have h0 : Hi ws so v { v with rounds := v.rounds + 1 } := ⟨rfl, fun _ _ => rfl, rfl, fun _ => rfl, fun h => absurd hw h⟩
        exact hi_bind (.of h0 (hf _)) (hi_while hw S hf k)
theorem leaf_none {und : Bool} {a : Sm} (h : (if standsM ws so und a = true then none else some ([] : List Nat)) = none) : standsM ws so und a = true := by
  split at h
  · assumption
  · cases h
theorem into_hi (S : Snd ws) (hb : "ifs" ∈ ws ∨ "whiles" ∈ ws) {sec src : Bool} (h : intoM ws sec src true = true) : sec = true := by
  unfold intoM at h
  have := (S.br hb).2.1
  cases sec with
  | true => rfl
  | false => simp [this] at h
mutual
theorem hi_ex (S : Snd ws) (hb : "ifs" ∈ ws ∨ "whiles" ∈ ws) : ∀ (a : Sm) (v : Wd), faultM ws so true a = none → HiO ws so v (exM a v)
  | .sum x ts n, v, h => by
    rw [faultM] at h
    rw [exM]
    exact ⟨Hi.setN (into_hi S hb (leaf_none h)), .inl rfl⟩
  | .ite x p q, v, h => by
    rw [faultM] at h
    split at h
    rotate_left
    · cases h
    rw [Bool.true_or] at h
    split at h
    · cases h
    rename_i hp
    have hq : faultsM ws so true 0 q = none := by
      cases e : faultsM ws so true 0 q with
      | none => rfl
      | some z => rw [e] at h; cases h
    rw [exM]
    split
    · exact hi_exs S hb q 0 v hq
    · exact hi_exs S hb p 0 v hp
  | .times n b, v, h => by
    rw [faultM] at h
    split at h
    rotate_left
    · cases h
    rw [exM]
    exact hi_times (fun u => hi_exs S hb b 0 u h) n v
  | .whl x b, v, h => by
    rw [faultM] at h
    split at h
    rotate_left
    · cases h
    rename_i hs
    rw [Bool.true_or] at h
    have hw : "whiles" ∈ ws := by simpa [standsM] using hs
    rw [exM]
    exact hi_while hw S (fun u => hi_exs S hb b 0 u h) 99 v
  | .print x, v, h => by
    rw [faultM] at h
    have hs := leaf_none h
    have hp : "prints" ∈ ws := by
      unfold standsM at hs
      simp at hs
      exact hs.2
    have := (S.br hb).2.2.2 hp
    rw [exM]
    exact ⟨⟨rfl, fun _ _ => rfl, rfl, fun z => absurd z this, fun _ => rfl⟩, .inl rfl⟩
  | .stop, v, h => by
    rw [faultM] at h
    have hs := leaf_none h
    unfold standsM at hs
    have := (S.br hb).1
    simp [this] at hs
  | .split x y, v, h => by
    rw [faultM] at h
    have hs := leaf_none h
    unfold standsM at hs
    rw [Bool.and_eq_true] at hs
    have hx : "splits" ∈ ws := by simpa using hs.1
    rw [exM]
    split
    · exact ⟨Hi.refl v, .inr ⟨.inl rfl, S.ex hx⟩⟩
    · exact ⟨Hi.setN (into_hi S hb hs.2), .inl rfl⟩
  | .keep t x y, v, h => by
    rw [faultM] at h
    have hs := leaf_none h
    unfold standsM at hs
    rw [Bool.and_eq_true] at hs
    have ht := into_hi S hb hs.2
    subst ht
    rw [exM]
    exact ⟨⟨rfl, fun _ _ => rfl, rfl, fun _ => rfl, fun _ => rfl⟩, .inl rfl⟩
  | .fetch t x y, v, h => by
    rw [faultM] at h
    rw [exM]
    exact ⟨Hi.setN (into_hi S hb (leaf_none h)), .inl rfl⟩
theorem hi_exs (S : Snd ws) (hb : "ifs" ∈ ws ∨ "whiles" ∈ ws) : ∀ (b : List Sm) (k : Nat) (v : Wd), faultsM ws so true k b = none → HiO ws so v (exsM b v)
  | [], k, v, h => by rw [exsM]; exact ⟨Hi.refl v, .inl rfl⟩
  | a :: b, k, v, h => by
    rw [faultsM] at h
    split at h
    · cases h
    rename_i ha
    rw [exs_bind]
    exact hi_bind (.of (Hi.bump v) (hi_ex S hb a (bump v) ha)) fun u => hi_exs S hb b (k + 1) u h
end
/-! ### two runs -/
def Qr (ws : List String) (so : List Bool) (r u : Wd × Option How) : Prop := (r.2 = u.2 ∧ Rel ws so r.1 u.1) ∨ ("ends seen" ∉ ws ∧ abn r.2 ∧ ("prints seen" ∈ ws → r.1.prints <+: u.1.prints)) ∨ ("ends seen" ∉ ws ∧ abn u.2 ∧ ("prints seen" ∈ ws → u.1.prints <+: r.1.prints))
theorem q_seq {r u : Wd × Option How} {g : Wd → Wd × Option How} (h : Qr ws so r u) (hm : Mo g) (hg : ∀ v w, Rel ws so v w → Qr ws so (g v) (g w)) : Qr ws so (bindM r g) (bindM u g) := by
  have fix : ∀ {r : Wd × Option How}, abn r.2 → bindM r g = r := fun {r} h => by
    rcases r with ⟨w, _ | k⟩
    · rcases h with h | h <;> cases h
    · rfl
  rcases h with ⟨e, h⟩ | ⟨e, h1, h2⟩ | ⟨e, h1, h2⟩
  · rcases r with ⟨w, _ | k⟩
    · rcases u with ⟨w2, _ | k2⟩
      · exact hg w w2 h
      · cases e
    · rcases u with ⟨w2, _ | k2⟩
      · cases e
      · cases e; exact .inl ⟨rfl, h⟩
  · rw [fix h1]
    exact .inr (.inl ⟨e, h1, fun p => (h2 p).trans (mo_bind hm)⟩)
  · rw [fix h1]
    exact .inr (.inr ⟨e, h1, fun p => (h2 p).trans (mo_bind hm)⟩)
theorem q_hi {v w : Wd} {r u : Wd × Option How} (h : Rel ws so v w) (h1 : HiO ws so v r) (h2 : HiO ws so w u) (hs : "steps seen" ∉ ws) : Qr ws so r u := by
  obtain ⟨a1, b1⟩ := h1
  obtain ⟨a2, b2⟩ := h2
  rcases b1 with b1 | ⟨b1, e⟩
  · rcases b2 with b2 | ⟨b2, e⟩
    · exact .inl ⟨b1.trans b2.symm, h.hi a1 a2 hs⟩
    · exact .inr (.inr ⟨e, b2, fun p => by rw [← a2.pr p, ← h.pr p, a1.pr p]; exact List.prefix_refl _⟩)
  · exact .inr (.inl ⟨e, b1, fun p => by rw [← a1.pr p, h.pr p, a2.pr p]; exact List.prefix_refl _⟩)
theorem q_times {f : Wd → Wd × Option How} (hm : Mo f) (hf : ∀ v w, Rel ws so v w → Qr ws so (f v) (f w)) : ∀ (k : Nat) (v w : Wd), Rel ws so v w → Qr ws so (timesM f k v) (timesM f k w)
  | 0, v, w, h => .inl ⟨rfl, h⟩
  | k + 1, v, w, h => by rw [times_bind, times_bind]; exact q_seq (hf v w h) (mo_times hm k) (q_times hm hf k)
theorem q_while {x : Nat} {f : Wd → Wd × Option How} (S : Snd ws) (hx : hid so x = false) (hm : Mo f) (hf : ∀ v w, Rel ws so v w → Qr ws so (f v) (f w)) : ∀ (k : Nat) (v w : Wd), Rel ws so v w → Qr ws so (whileM x f k v) (whileM x f k w)
  | 0, v, w, h => .inl ⟨rfl, h⟩
  | k + 1, v, w, h => by
    have mw : ∀ u : Wd, u.prints <+: (bindM (f { u with rounds := u.rounds + 1 }) (whileM x f k)).1.prints := fun u => (hm { u with rounds := u.rounds + 1 }).trans (mo_bind (mo_while hm k))
    rw [while_bind, while_bind, h.nums x hx]
    split
    · exact .inl ⟨rfl, h⟩
    · by_cases hr1 : v.rounds = 60 <;> by_cases hr2 : w.rounds = 60
      · rw [if_pos hr1, if_pos hr2]; exact .inl ⟨rfl, h⟩
      · rw [if_pos hr1, if_neg hr2]
        have hw : "whiles" ∈ ws := Decidable.byContradiction fun z => hr2 ((h.rd z) ▸ hr1)
        exact .inr (.inl ⟨S.ew hw, .inr rfl, fun p => by show v.prints <+: _; rw [h.pr p]; exact mw w⟩)
      · rw [if_neg hr1, if_pos hr2]
        have hw : "whiles" ∈ ws := Decidable.byContradiction fun z => hr1 ((h.rd z).symm ▸ hr2)
        exact .inr (.inr ⟨S.ew hw, .inr rfl, fun p => by show w.prints <+: _; rw [← h.pr p]; exact mw v⟩)
      · rw [if_neg hr1, if_neg hr2]
        exact q_seq (hf _ _ ⟨h.l1, h.l2, h.nums, h.op, h.pr, h.st, fun z => congrArg (· + 1) (h.rd z)⟩) (mo_while hm k) (q_while S hx hm hf k)
theorem rel_set {v w : Wd} (h : Rel ws so v w) {x n m : Nat} (hn : hid so x = false → n = m) : Rel ws so (setN v x n) (setN w x m) := by
  refine ⟨by simp [setN, h.l1], by simp [setN, h.l2], fun i hi => ?_, h.op, h.pr, h.st, h.rd⟩
  by_cases e : i = x
  · subst e
    rw [num_set, num_set, h.l1, h.l2, hn hi, h.nums i hi]
  · rw [num_set_ne e, num_set_ne e]; exact h.nums i hi
theorem into_lo (S : Snd ws) {sec src : Bool} (h : intoM ws sec src false = true) : sec = true ∨ src = false := by
  unfold intoM at h
  have := S.d
  cases sec <;> cases src <;> simp [this] at h ⊢
theorem sum_open {v w : Wd} (h : Rel ws so v w) : ∀ ts : List Nat, ts.any (hid so) = false → sumN v ts = sumN w ts
  | [], _ => rfl
  | t :: ts, e => by
    rw [List.any_cons, Bool.or_eq_false_iff] at e
    rw [sumN, sumN, h.nums t e.1, sum_open h ts e.2]
mutual
theorem lo_ex (S : Snd ws) : ∀ (a : Sm) (v w : Wd), faultM ws so false a = none → Rel ws so v w → Qr ws so (exM a v) (exM a w)
  | .sum x ts n, v, w, h, r => by
    rw [faultM] at h
    rw [exM, exM]
    refine .inl ⟨rfl, rel_set r fun hx => ?_⟩
    rcases into_lo S (leaf_none h) with q | q
    · rw [q] at hx; cases hx
    · rw [sum_open r ts q]
  | .ite x p q, v, w, h, r => by
    rw [faultM] at h
    split at h
    rotate_left
    · cases h
    rename_i hs
    rw [Bool.false_or] at h
    split at h
    · cases h
    rename_i hp
    have hq : faultsM ws so (hid so x) 0 q = none := by
      cases e : faultsM ws so (hid so x) 0 q with
      | none => rfl
      | some z => rw [e] at h; cases h
    cases hx : hid so x with
    | false =>
      rw [hx] at hp hq
      rw [exM, exM, r.nums x hx]
      split
      · exact lo_exs S q 0 v w hq r
      · exact lo_exs S p 0 v w hp r
    | true =>
      rw [hx] at hp hq
      have hi : "ifs" ∈ ws := by simpa [standsM, hx] using hs
      have hb : "ifs" ∈ ws ∨ "whiles" ∈ ws := .inl hi
      have k : ∀ u : Wd, HiO ws so u (exM (.ite x p q) u) := fun u => by
        rw [exM]
        split
        · exact hi_exs S hb q 0 u hq
        · exact hi_exs S hb p 0 u hp
      exact q_hi r (k v) (k w) (S.br hb).2.2.1
  | .times n b, v, w, h, r => by
    rw [faultM] at h
    split at h
    rotate_left
    · cases h
    rw [exM, exM]
    exact q_times (mo_exs b) (fun v w r => lo_exs S b 0 v w h r) n v w r
  | .whl x b, v, w, h, r => by
    rw [faultM] at h
    split at h
    rotate_left
    · cases h
    rename_i hs
    rw [Bool.false_or] at h
    cases hx : hid so x with
    | false =>
      rw [hx] at h
      rw [exM, exM]
      exact q_while S hx (mo_exs b) (fun v w r => lo_exs S b 0 v w h r) 99 v w r
    | true =>
      rw [hx] at h
      have hw : "whiles" ∈ ws := by simpa [standsM, hx] using hs
      have hb : "ifs" ∈ ws ∨ "whiles" ∈ ws := .inr hw
      rw [exM, exM]
      exact q_hi r (hi_while hw S (fun u => hi_exs S hb b 0 u h) 99 v) (hi_while hw S (fun u => hi_exs S hb b 0 u h) 99 w) (S.br hb).2.2.1
  | .print x, v, w, h, r => by
    rw [faultM] at h
    have hs := leaf_none h
    rw [exM, exM]
    refine .inl ⟨rfl, ⟨r.l1, r.l2, r.nums, r.op, fun p => ?_, r.st, r.rd⟩⟩
    have hx : hid so x = false := by
      cases hx : hid so x with
      | false => rfl
      | true =>
        have : "tells" ∈ ws := by simpa [standsM, hx] using hs
        exact absurd p (S.tp this)
    show v.prints ++ [num v x] = w.prints ++ [num w x]
    rw [r.pr p, r.nums x hx]
  | .stop, v, w, h, r => by
    rw [exM, exM]
    exact .inl ⟨rfl, r⟩
  | .split x y, v, w, h, r => by
    rw [faultM] at h
    have hs := leaf_none h
    unfold standsM at hs
    rw [Bool.and_eq_true] at hs
    obtain ⟨hs1, hs2⟩ := hs
    cases hy : hid so y with
    | false =>
      rw [exM, exM, r.nums y hy]
      split
      · exact .inl ⟨rfl, r⟩
      · exact .inl ⟨rfl, rel_set r fun _ => rfl⟩
    | true =>
      have hX : "splits" ∈ ws := by simpa [hy] using hs1
      have hE := S.ex hX
      rw [hy] at hs2
      have hx : hid so x = true := by
        rcases into_lo S hs2 with q | q
        · exact q
        · cases q
      rw [exM, exM]
      by_cases z1 : num v y = 0
      · rw [if_pos z1]
        refine .inr (.inl ⟨hE, .inl rfl, fun p => ?_⟩)
        rw [show ((v, some How.breaks) : Wd × Option How).1.prints = w.prints from r.pr p]
        split <;> exact List.prefix_refl _
      · rw [if_neg z1]
        by_cases z2 : num w y = 0
        · rw [if_pos z2]
          refine .inr (.inr ⟨hE, .inl rfl, fun p => ?_⟩)
          show w.prints <+: v.prints
          rw [r.pr p]; exact List.prefix_refl _
        · rw [if_neg z2]
          exact .inl ⟨rfl, rel_set r fun z => by rw [hx] at z; cases z⟩
  | .keep t x y, v, w, h, r => by
    rw [faultM] at h
    have hs := leaf_none h
    unfold standsM at hs
    rw [Bool.and_eq_true] at hs
    obtain ⟨hs1, hs2⟩ := hs
    rw [exM, exM]
    cases t with
    | true => exact .inl ⟨rfl, ⟨r.l1, r.l2, r.nums, r.op, r.pr, r.st, r.rd⟩⟩
    | false =>
      have hx : hid so x = false := by
        have := S.m
        cases hx : hid so x with
        | false => rfl
        | true => simp [hx, this] at hs1
      have hy : hid so y = false := by
        rcases into_lo S hs2 with q | q
        · cases q
        · exact q
      refine .inl ⟨rfl, ⟨r.l1, r.l2, r.nums, ?_, r.pr, r.st, r.rd⟩⟩
      show v.op.set (num v x) (num v y) = w.op.set (num w x) (num w y)
      rw [r.op, r.nums x hx, r.nums y hy]
  | .fetch t x y, v, w, h, r => by
    rw [faultM] at h
    have hs := leaf_none h
    unfold standsM at hs
    rw [exM, exM]
    refine .inl ⟨rfl, rel_set r fun hx => ?_⟩
    rcases into_lo S hs with q | q
    · rw [q] at hx; cases hx
    · rw [Bool.or_eq_false_iff] at q
      obtain ⟨q1, q2⟩ := q
      subst q1
      show v.op.getD (num v y) 0 = w.op.getD (num w y) 0
      rw [r.op, r.nums y q2]
theorem lo_exs (S : Snd ws) : ∀ (b : List Sm) (k : Nat) (v w : Wd), faultsM ws so false k b = none → Rel ws so v w → Qr ws so (exsM b v) (exsM b w)
  | [], k, v, w, h, r => by rw [exsM, exsM]; exact .inl ⟨rfl, r⟩
  | a :: b, k, v, w, h, r => by
    rw [faultsM] at h
    split at h
    · cases h
    rename_i ha
    rw [exs_bind, exs_bind]
    exact q_seq (lo_ex S a (bump v) (bump w) ha r.bump) (mo_exs b) fun v w r => lo_exs S b (k + 1) v w h r
end
theorem opens_iff : ∀ (so : List Bool) (xs ys : List Nat), xs.length = so.length → ys.length = so.length → ((∀ i, i < so.length → so.getD i false = false → xs.getD i 0 = ys.getD i 0) ↔ opensM so xs = opensM so ys) := by
  intro so
  induction so with
  | nil => intro xs ys _ _; simp [opensM]
  | cons b so ih =>
    intro xs ys h1 h2
    cases xs with
    | nil => cases h1
    | cons x xs =>
    cases ys with
    | nil => cases h2
    | cons y ys =>
    have ih := ih xs ys (Nat.succ.inj h1) (Nat.succ.inj h2)
    unfold opensM at ih ⊢
    cases b with
    | true =>
      simp only [List.zip_cons_cons, List.filter_cons, Bool.not_true, Bool.false_eq_true, if_false]
      rw [← ih]
      constructor
      · intro h i hi hs; exact h (i + 1) (Nat.succ_lt_succ hi) hs
      · intro h i hi hs
        cases i with
        | zero => cases hs
        | succ i => exact h i (Nat.lt_of_succ_lt_succ hi) hs
    | false =>
      simp only [List.zip_cons_cons, List.filter_cons, Bool.not_false, if_true, List.map_cons, List.cons.injEq]
      rw [← ih]
      constructor
      · intro h; exact ⟨h 0 (Nat.succ_pos _) rfl, fun i hi hs => h (i + 1) (Nat.succ_lt_succ hi) hs⟩
      · rintro ⟨h0, h⟩ i hi hs
        cases i with
        | zero => exact h0
        | succ i => exact h i (Nat.lt_of_succ_lt_succ hi) hs
theorem begin_pre {p q : List Nat} (h : p <+: q) : beginM p q = true ∧ beginM q p = true := by
  obtain ⟨t, rfl⟩ := h
  unfold beginM
  simp
theorem ends_abn {h : Option How} (a : abn h) : (decide (howS h = "ends") || decide (howS h = "stops")) = false := by
  rcases a with rfl | rfl <;> decide
def ouR (r : Wd × Option How) : Ou := ⟨howS r.2, r.1.nums, r.1.op, r.1.sec, r.1.prints, r.1.steps⟩
/-- what a sound design lets by looks alike from starts that begin alike -/
theorem ni {ws : List String} {so : List Bool} {b : List Sm} {n1 n2 : List Nat} (hs : lotsAt ws = []) (hf : faultsM ws so false 0 b = none) (h1 : n1.length = so.length) (h2 : n2.length = so.length) (ho : opensM so n1 = opensM so n2) : lookM ws so (runO b n1) (runO b n2) = true := by
  have S := snd_of hs
  have h0 := (opens_iff so n1 n2 h1 h2).mpr ho
  have r : Rel ws so (w0 n1) (w0 n2) := ⟨h1, h2, fun i hi => by
    show n1.getD i 0 = n2.getD i 0
    by_cases hl : i < so.length
    · exact h0 i hl hi
    · rw [List.getD_eq_getElem?_getD, List.getD_eq_getElem?_getD, List.getElem?_eq_none (by omega), List.getElem?_eq_none (by omega)], rfl, fun _ => rfl, fun _ => rfl, fun _ => rfl⟩
  have q := lo_exs S b 0 _ _ hf r
  show lookM ws so (ouR (exsM b (w0 n1))) (ouR (exsM b (w0 n2))) = true
  generalize exsM b (w0 n1) = r1 at q ⊢
  generalize exsM b (w0 n2) = r2 at q ⊢
  obtain ⟨v, hv⟩ := r1
  obtain ⟨u, hu⟩ := r2
  unfold lookM ouR
  dsimp only at q ⊢
  rcases q with ⟨e, q⟩ | ⟨e, q1, q2⟩ | ⟨e, q1, q2⟩
  · cases (show hv = hu from e)
    have q : Rel ws so v u := q
    have eo : opensM so v.nums = opensM so u.nums := (opens_iff so v.nums u.nums q.l1 q.l2).mp fun i _ hi => q.nums i hi
    simp only [ne_eq, not_true_eq_false, and_false, if_false]
    split
    · unfold sameM
      simp only [eo, q.op, ne_eq, not_true_eq_false, if_false]
      by_cases hst : "steps seen" ∈ ws
      · by_cases hp : "prints seen" ∈ ws
        · simp [q.st hst, q.pr hp]
        · simp [q.st hst, hp]
      · by_cases hp : "prints seen" ∈ ws
        · simp [hst, q.pr hp]
        · simp [hst, hp]
    · by_cases hp : "prints seen" ∈ ws
      · have := (begin_pre (List.prefix_refl u.prints)).1
        simp [q.pr hp, this]
      · simp [hp]
  · rw [if_neg fun z => e z.1]
    unfold endS
    rw [ends_abn q1, Bool.false_and, if_neg Bool.false_ne_true]
    by_cases hp : "prints seen" ∈ ws
    · simp [(begin_pre (q2 hp)).1]
    · simp [hp]
  · rw [if_neg fun z => e z.1]
    unfold endS
    rw [ends_abn q1, Bool.and_false, if_neg Bool.false_ne_true]
    by_cases hp : "prints seen" ∈ ws
    · simp [(begin_pre (q2 hp)).2]
    · simp [hp]
end
end Fw

set_option Elab.async false
set_option linter.all false
set_option maxRecDepth 100000
set_option maxHeartbeats 4000000
/-! Gs: the sound designs above a sound one, and the greatest of them. -/
namespace Fw
open PySem PySem.Spec PyProof.Rows L2
def soundM (ws : List String) : Bool := (lotsAt ws).isEmpty
def withM (ws : List String) (w : String) : List String := wordsL.filter fun x => decide (x ∈ ws) || decide (x = w)
def aboveF (ws : List String) : List String → List (List String) → List (List String)
  | [], found => found
  | w :: W, found => aboveF ws W (if w ∈ ws then found else found ++ (found.map fun d => withM d w).filter soundM)
def aboveM (ws : List String) : List (List String) := aboveF ws wordsL [ws]
def greatB (ds : List String) : Bool := (wordsL.filter fun w => !decide (w ∈ ds)).all fun w => !soundM (withM ds w)
def greatL (ws : List String) : List (List Str) := srtX (((aboveM ws).filter greatB).map fun d => d.map Str.ofString)
theorem words_nd : wordsL.Nodup := by decide
theorem filter_sub {L : List String} (nd : L.Nodup) {a : List String} (h : a.Sublist L) : L.filter (fun x => decide (x ∈ a)) = a := by
  induction h with
  | slnil => rfl
  | @cons a L x h ih =>
    obtain ⟨n1, n2⟩ := List.nodup_cons.mp nd
    rw [List.filter_cons_of_neg (by simpa using fun z => n1 (h.subset z))]
    exact ih n2
  | @cons_cons a L x h ih =>
    obtain ⟨n1, n2⟩ := List.nodup_cons.mp nd
    rw [List.filter_cons_of_pos (by simp)]
    congr 1
    have e : L.filter (fun y => decide (y ∈ x :: a)) = L.filter (fun y => decide (y ∈ a)) := List.filter_congr fun y hy => by
      have : y ≠ x := fun e => n1 (e ▸ hy)
      simp [this]
    rw [e]
    exact ih n2
theorem sub_eq {a b : List String} (ha : a.Sublist wordsL) (hb : b.Sublist wordsL) (h : ∀ x, x ∈ a ↔ x ∈ b) : a = b := by
  rw [← filter_sub words_nd ha, ← filter_sub words_nd hb]
  exact List.filter_congr fun x _ => decide_eq_decide.mpr (h x)
theorem with_sub (ws : List String) (w : String) : (withM ws w).Sublist wordsL := List.filter_sublist
theorem mem_with {ws : List String} {w x : String} (hs : ws.Sublist wordsL) (hw : w ∈ wordsL) : x ∈ withM ws w ↔ x ∈ ws ∨ x = w := by
  unfold withM
  rw [List.mem_filter]
  constructor
  · rintro ⟨_, h⟩
    simpa using h
  · intro h
    refine ⟨?_, by simpa using h⟩
    rcases h with h | rfl
    · exact hs.subset h
    · exact hw
theorem with_perm {ws : List String} {w : String} (hs : ws.Sublist wordsL) (hw : w ∈ wordsL) (hn : w ∉ ws) : (withM ws w).Perm (ws ++ [w]) := by
  refine (List.perm_ext_iff_of_nodup (words_nd.sublist (with_sub ws w)) ?_).mpr fun x => ?_
  · rw [List.nodup_append]
    exact ⟨words_nd.sublist hs, by simp, fun a ha b hb e => hn (by rw [List.mem_singleton.mp hb] at e; rw [← e]; exact ha)⟩
  · rw [mem_with hs hw, List.mem_append, List.mem_singleton]
theorem with_len {ws : List String} {w : String} (hs : ws.Sublist wordsL) (hw : w ∈ wordsL) (hn : w ∉ ws) : (withM ws w).length = ws.length + 1 := by
  rw [(with_perm hs hw hn).length_eq, List.length_append]; rfl
theorem words_upS : (wordsL.map Str.ofString).Pairwise fun a b => leT a b = true := words_up'
theorem srt_with {ws : List String} {w : String} (hs : ws.Sublist wordsL) (hw : w ∈ wordsL) (hn : w ∉ ws) : srtM ((ws ++ [w]).map Str.ofString) = (withM ws w).map Str.ofString := by
  unfold srtM
  refine List.Perm.eq_of_pairwise (fun a b _ _ h1 h2 => leT_anti h1 h2) (List.pairwise_mergeSort leT_trans leT_total _) (List.Pairwise.sublist ((with_sub ws w).map _) words_upS) ?_
  exact (List.mergeSort_perm _ _).trans ((with_perm hs hw hn).map _).symm
theorem lots_mono {a b : List String} (h : lotsAt b = []) (hs : ∀ x ∈ a, x ∈ b) : lotsAt a = [] := by
  refine List.filter_eq_nil_iff.mpr fun l hl z => ?_
  refine List.filter_eq_nil_iff.mp h l hl ?_
  exact List.all_eq_true.mpr fun x hx => decide_eq_true (hs x (of_decide_eq_true (List.all_eq_true.mp z x hx)))
theorem sound_iff {ws : List String} : soundM ws = true ↔ lotsAt ws = [] := List.isEmpty_iff
structure Good (ds : List String) : Prop where
  sub : ds.Sublist wordsL
  snd : lotsAt ds = []
theorem above_good {ws : List String} : ∀ (W : List String) (found : List (List String)), (∀ d ∈ found, Good d) → ∀ d ∈ aboveF ws W found, Good d
  | [], found, h, d, hd => h d hd
  | w :: W, found, h, d, hd => by
    rw [aboveF] at hd
    refine above_good W _ (fun e he => ?_) d hd
    split at he
    · exact h e he
    · rcases List.mem_append.mp he with he | he
      · exact h e he
      · obtain ⟨h1, h2⟩ := List.mem_filter.mp he
        obtain ⟨f, _, rfl⟩ := List.mem_map.mp h1
        exact ⟨with_sub _ _, sound_iff.mp h2⟩
theorem above_all {ws : List String} : ∀ (W : List String) (found : List (List String)) (P : String → Prop), (∀ w ∈ W, w ∈ wordsL) → (∀ vs, Good vs → (∀ x ∈ ws, x ∈ vs) → (∀ x ∈ vs, x ∈ ws ∨ P x) → vs ∈ found) →
    ∀ vs, Good vs → (∀ x ∈ ws, x ∈ vs) → (∀ x ∈ vs, x ∈ ws ∨ P x ∨ x ∈ W) → vs ∈ aboveF ws W found
  | [], found, P, _, h, vs, g, h1, h2 => h vs g h1 fun x hx => (h2 x hx).imp id fun z => z.resolve_right List.not_mem_nil
  | w :: W, found, P, hW, h, vs, g, h1, h2 => by
    rw [aboveF]
    refine above_all W _ (fun x => P x ∨ x = w) (fun x hx => hW x (List.mem_cons_of_mem _ hx)) (fun us gu k1 k2 => ?_) vs g h1 fun x hx => ?_
    · split
      · rename_i hw
        refine h us gu k1 fun x hx => ?_
        rcases k2 x hx with q | q | q
        · exact .inl q
        · exact .inr q
        · exact .inl (q ▸ hw)
      · rename_i hw
        rw [List.mem_append]
        by_cases hu : w ∈ us
        · right
          have gv : Good (us.filter fun x => decide (x ≠ w)) := ⟨List.filter_sublist.trans gu.sub, lots_mono gu.snd fun x hx => (List.mem_filter.mp hx).1⟩
          have e : withM (us.filter fun x => decide (x ≠ w)) w = us := by
            refine sub_eq (with_sub _ _) gu.sub fun x => ?_
            rw [mem_with gv.sub (hW w List.mem_cons_self), List.mem_filter]
            by_cases ex : x = w
            · simp [ex, hu]
            · simp [ex]
          rw [List.mem_filter]
          refine ⟨List.mem_map.mpr ⟨_, h _ gv (fun x hx => ?_) fun x hx => ?_, e⟩, sound_iff.mpr gu.snd⟩
          · exact List.mem_filter.mpr ⟨k1 x hx, by simpa using fun (z : x = w) => hw (z ▸ hx)⟩
          · obtain ⟨m1, m2⟩ := List.mem_filter.mp hx
            rcases k2 x m1 with q | q | q
            · exact .inl q
            · exact .inr q
            · exact absurd q (by simpa using m2)
        · left
          refine h us gu k1 fun x hx => ?_
          rcases k2 x hx with q | q | q
          · exact .inl q
          · exact .inr q
          · exact absurd (q ▸ hx) hu
    · rcases h2 x hx with q | q | q
      · exact .inl q
      · exact .inr (.inl (.inl q))
      · rcases List.mem_cons.mp q with q | q
        · exact .inr (.inl (.inr q))
        · exact .inr (.inr q)
theorem above_mem {ws vs : List String} (hw : ws.Sublist wordsL) (g : Good vs) (h : ∀ x ∈ ws, x ∈ vs) : vs ∈ aboveM ws := by
  refine above_all wordsL [ws] (fun _ => False) (fun _ z => z) (fun us gu k1 k2 => ?_) vs g h fun x hx => .inr (.inr (g.sub.subset hx))
  rw [List.mem_singleton]
  exact sub_eq gu.sub hw fun x => ⟨fun z => (k2 x z).resolve_right id, k1 x⟩
theorem above_is {ws : List String} (g : Good ws) : ∀ d ∈ aboveM ws, Good d := above_good wordsL [ws] fun d hd => by rw [List.mem_singleton.mp hd]; exact g
theorem above_up {ws : List String} : ∀ (W : List String) (found : List (List String)), (∀ w ∈ W, w ∈ wordsL) → (∀ d ∈ found, d.Sublist wordsL ∧ ∀ x ∈ ws, x ∈ d) → ∀ d ∈ aboveF ws W found, ∀ x ∈ ws, x ∈ d
  | [], found, _, h, d, hd => (h d hd).2
  | w :: W, found, hW, h, d, hd => by
    rw [aboveF] at hd
    refine above_up W _ (fun x hx => hW x (List.mem_cons_of_mem _ hx)) (fun e he => ?_) d hd
    split at he
    · exact h e he
    · rcases List.mem_append.mp he with he | he
      · exact h e he
      · obtain ⟨f, hf, rfl⟩ := List.mem_map.mp (List.mem_filter.mp he).1
        exact ⟨with_sub _ _, fun x hx => (mem_with (h f hf).1 (hW w List.mem_cons_self)).mpr (.inl ((h f hf).2 x hx))⟩
theorem longest : ∀ (l : List (List String)), l ≠ [] → ∃ d ∈ l, ∀ e ∈ l, e.length ≤ d.length
  | [], h => absurd rfl h
  | [a], _ => ⟨a, List.mem_cons_self, fun e he => by rw [List.mem_singleton.mp he]; exact Nat.le_refl _⟩
  | a :: b :: l, _ => by
    obtain ⟨d, h1, h2⟩ := longest (b :: l) (by simp)
    by_cases h : a.length ≤ d.length
    · refine ⟨d, List.mem_cons_of_mem _ h1, fun e he => ?_⟩
      rcases List.mem_cons.mp he with rfl | he
      · exact h
      · exact h2 e he
    · refine ⟨a, List.mem_cons_self, fun e he => ?_⟩
      rcases List.mem_cons.mp he with rfl | he
      · exact Nat.le_refl _
      · have := h2 e he; omega
theorem great_ex {ws : List String} (g : Good ws) : ∃ d ∈ aboveM ws, greatB d = true := by
  obtain ⟨d, h1, h2⟩ := longest (aboveM ws) (List.ne_nil_of_mem (above_mem g.sub g fun _ z => z))
  refine ⟨d, h1, List.all_eq_true.mpr fun w hw => ?_⟩
  obtain ⟨m1, m2⟩ := List.mem_filter.mp hw
  have m2 : w ∉ d := by simpa using m2
  have gd := above_is g d h1
  have up := above_up wordsL [ws] (fun _ z => z) (fun e he => by rw [List.mem_singleton.mp he]; exact ⟨g.sub, fun _ z => z⟩) d h1
  cases hs : soundM (withM d w) with
  | false => rfl
  | true =>
    have := h2 _ (above_mem g.sub ⟨with_sub d w, sound_iff.mp hs⟩ fun x hx => (mem_with gd.sub m1).mpr (.inl (up x hx)))
    rw [with_len gd.sub m1 m2] at this
    omega
theorem great_ne {ws : List String} (g : Good ws) : greatL ws ≠ [] := by
  obtain ⟨d, h1, h2⟩ := great_ex g
  intro e
  have hp := List.mergeSort_perm (((aboveM ws).filter greatB).map fun d => d.map Str.ofString) leX
  have hm : d.map Str.ofString ∈ greatL ws := hp.mem_iff.mpr (List.mem_map.mpr ⟨d, List.mem_filter.mpr ⟨h1, h2⟩, rfl⟩)
  rw [e] at hm
  cases hm
theorem great_is {ws : List String} (g : Good ws) : ∀ e ∈ greatL ws, ∃ d, e = d.map Str.ofString ∧ Good d ∧ greatB d = true := fun e he => by
  have hp := List.mergeSort_perm (((aboveM ws).filter greatB).map fun d => d.map Str.ofString) leX
  obtain ⟨d, hd, rfl⟩ := List.mem_map.mp (hp.mem_iff.mp he)
  obtain ⟨h1, h2⟩ := List.mem_filter.mp hd
  exact ⟨d, rfl, above_is g d h1, h2⟩
theorem great_nil : greatB [] = false := by decide +kernel
theorem above_len {ws : List String} : ∀ (W : List String) (found : List (List String)), (aboveF ws W found).length ≤ found.length * 2 ^ W.length
  | [], found => by simp [aboveF]
  | w :: W, found => by
    rw [aboveF]
    refine Nat.le_trans (above_len W _) ?_
    rw [List.length_cons, Nat.pow_succ]
    have h : (if w ∈ ws then found else found ++ (found.map fun d => withM d w).filter soundM).length ≤ found.length * 2 := by
      split
      · omega
      · rw [List.length_append]
        have := List.length_filter_le soundM (found.map fun d => withM d w)
        rw [List.length_map] at this
        omega
    calc _ ≤ (found.length * 2) * 2 ^ W.length := Nat.mul_le_mul_right _ h
      _ = _ := by rw [Nat.mul_assoc, Nat.mul_comm 2]
theorem tupT_of (d : List String) : tupT (d.map Str.ofString) = .tup (d.map strD) := by
  unfold tupT
  rw [List.map_map]; rfl
end Fw
namespace Fw
theorem startsF_opens : ∀ (so : List Bool) (ns : List Nat) (acc : List (List Nat)), ns.length = so.length → ∀ st ∈ startsF acc so ns, ∃ p ∈ acc, ∃ t, st = p ++ t ∧ t.length = so.length ∧ opensM so t = opensM so ns
  | [], ns, acc, hl, st, hs => by
    have : ns = [] := List.eq_nil_of_length_eq_zero hl
    subst this
    rw [startsF] at hs
    · exact ⟨st, hs, [], by simp, rfl, rfl⟩
    · intro _ _ _ _ z; cases z
  | b :: so, [], acc, hl, st, hs => by cases hl
  | b :: so, n :: ns, acc, hl, st, hs => by
    rw [startsF] at hs
    obtain ⟨p, hp, t, rfl, h1, h2⟩ := startsF_opens so ns _ (Nat.succ.inj hl) st hs
    obtain ⟨l, g1, g2⟩ := List.mem_flatten.mp hp
    obtain ⟨st0, g3, rfl⟩ := List.mem_map.mp g1
    obtain ⟨c, g4, rfl⟩ := List.mem_map.mp g2
    refine ⟨st0, g3, c :: t, by simp, by simp [h1], ?_⟩
    unfold opensM at h2 ⊢
    cases b with
    | true => simpa using h2
    | false =>
      have : c = n := by simpa [choiceM] using g4
      subst this
      simpa using h2
theorem starts_opens {so : List Bool} {ns : List Nat} (hl : ns.length = so.length) : ∀ st ∈ startsM so ns, opensM so st = opensM so ns := fun st h => by
  obtain ⟨p, hp, t, rfl, _, h2⟩ := startsF_opens so ns [[]] hl st h
  rw [List.mem_singleton.mp hp]
  exact h2
theorem leak_none {ws : List String} {so : List Bool} {b : List Sm} {ns : List Nat} (hs : lotsAt ws = []) (hf : faultsM ws so false 0 b = none) (hl : ns.length = so.length) (hv : ∀ n ∈ ns, n < 10) : leakM ws so b ns = none := by
  unfold leakM
  rw [List.find?_eq_none]
  intro o ho
  rw [ni hs hf hl (starts_mem hl hv o ho).1 (starts_opens hl o ho).symm]
  simp
theorem cov_sub {one other : List String} (h : ∀ x ∈ other, x ∈ one) : Cov one other := ⟨fun x _ => h x, fun _ x _ => h x⟩
end Fw
namespace Fw
open PySem PySem.Spec PyProof.Rows L2
theorem compL_wordsX {tt : FT} {i : Nat} {δ : Fr} {a : Addr} (hi : i < δ.length) : ∀ (us : List String) (s : S), IsRow s a → (∀ x ∈ us, ∀ s, IsRow s a → ∃ b s', tt (δ.set i (some (strD x))) s = some (b, s') ∧ RowTo s a s') →
    ∃ (ws : List String) (s' : S), compL (gtName i) tt (fVar i) (us.map strD) δ s = some (ws.map strD, s') ∧ RowTo s a s' ∧ ws.Sublist us
  | [], s, hr, _ => ⟨[], s, rfl, RowTo.refl hr, List.Sublist.refl _⟩
  | x :: us, s, hr, h => by
    obtain ⟨b, s1, e1, r1⟩ := h x List.mem_cons_self s hr
    obtain ⟨ws, s2, e2, r2, sb⟩ := compL_wordsX hi us s1 r1.is fun y hy => h y (List.mem_cons_of_mem _ hy)
    cases b with
    | false =>
      refine ⟨ws, s2, ?_, r1.trans r2, .cons x sb⟩
      show (some (δ.set i (some (strD x)))).bind _ = _
      rw [Option.bind_some, e1, Option.bind_some, if_neg Bool.false_ne_true]
      exact e2
    | true =>
      refine ⟨x :: ws, s2, ?_, r1.trans r2, .cons₂ x sb⟩
      show (some (δ.set i (some (strD x)))).bind _ = _
      have hv : fVar i (δ.set i (some (strD x))) s1 = some (strD x, s1) := by simp [hi]
      rw [Option.bind_some, e1, Option.bind_some, if_pos rfl, hv, Option.bind_some, e2]
      rfl
end Fw

set_option Elab.async false
set_option linter.all false
set_option maxRecDepth 100000
namespace Fw
open PySem PySem.Spec PyProof.Rows L2
def top (i : Nat) : Stmt := PySem.Challenge.pw_flowborder_k00_whole_sound_designs.main.body.getD i (.Pass ⟨0, 0, 0, 0⟩)
abbrev s_is_design : Stmt := top 8
theorem sc_is_design : FnScope ["value", "word"] ["value"] (defScope s_is_design) := ⟨rfl, rfl, rfl, by decide +kernel, rfl, by decide +kernel, by decide +kernel⟩
abbrev s_is_word : Stmt := top 9
theorem sc_is_word : FnScope ["value"] ["value"] (defScope s_is_word) := ⟨rfl, rfl, rfl, by decide +kernel, rfl, by decide +kernel, by decide +kernel⟩
abbrev s_check_design : Stmt := top 10
theorem sc_check_design : FnScope ["value"] ["value"] (defScope s_check_design) := ⟨rfl, rfl, rfl, by decide +kernel, rfl, by decide +kernel, by decide +kernel⟩
abbrev s_with_word : Stmt := top 11
theorem sc_with_word : FnScope ["design", "word"] ["design", "word"] (defScope s_with_word) := ⟨rfl, rfl, rfl, by decide +kernel, rfl, by decide +kernel, by decide +kernel⟩
abbrev s_lots_in : Stmt := top 14
theorem sc_lots_in : FnScope ["design"] ["design"] (defScope s_lots_in) := ⟨rfl, rfl, rfl, by decide +kernel, rfl, by decide +kernel, by decide +kernel⟩
abbrev s_is_sound : Stmt := top 15
theorem sc_is_sound : FnScope ["design"] ["design"] (defScope s_is_sound) := ⟨rfl, rfl, rfl, by decide +kernel, rfl, by decide +kernel, by decide +kernel⟩
abbrev s_greatest_sound : Stmt := top 16
theorem sc_greatest_sound : FnScope ["design", "held"] ["design"] (defScope s_greatest_sound) := ⟨rfl, rfl, rfl, by decide +kernel, rfl, by decide +kernel, by decide +kernel⟩
abbrev s_held_lots : Stmt := top 17
theorem sc_held_lots : FnScope ["design", "lot", "body"] ["design"] (defScope s_held_lots) := ⟨rfl, rfl, rfl, by decide +kernel, rfl, by decide +kernel, by decide +kernel⟩
abbrev s_holds : Stmt := top 18
theorem sc_holds : FnScope ["design", "lot", "word"] ["design", "lot"] (defScope s_holds) := ⟨rfl, rfl, rfl, by decide +kernel, rfl, by decide +kernel, by decide +kernel⟩
abbrev s_sound_above : Stmt := top 19
theorem sc_sound_above : FnScope ["design", "found", "word", "longer", "held"] ["design"] (defScope s_sound_above) := ⟨rfl, rfl, rfl, by decide +kernel, rfl, by decide +kernel, by decide +kernel⟩
abbrev s_is_greatest : Stmt := top 20
theorem sc_is_greatest : FnScope ["design", "further", "word", "held"] ["design"] (defScope s_is_greatest) := ⟨rfl, rfl, rfl, by decide +kernel, rfl, by decide +kernel, by decide +kernel⟩
abbrev s_check_program : Stmt := top 31
theorem sc_check_program : FnScope ["value"] ["value"] (defScope s_check_program) := ⟨rfl, rfl, rfl, by decide +kernel, rfl, by decide +kernel, by decide +kernel⟩
abbrev s_is_pair : Stmt := top 32
theorem sc_is_pair : FnScope ["value"] ["value"] (defScope s_is_pair) := ⟨rfl, rfl, rfl, by decide +kernel, rfl, by decide +kernel, by decide +kernel⟩
abbrev s_is_sorts : Stmt := top 33
theorem sc_is_sorts : FnScope ["value", "word"] ["value"] (defScope s_is_sorts) := ⟨rfl, rfl, rfl, by decide +kernel, rfl, by decide +kernel, by decide +kernel⟩
abbrev s_is_sort : Stmt := top 34
theorem sc_is_sort : FnScope ["value"] ["value"] (defScope s_is_sort) := ⟨rfl, rfl, rfl, by decide +kernel, rfl, by decide +kernel, by decide +kernel⟩
abbrev s_is_number : Stmt := top 35
theorem sc_is_number : FnScope ["value", "most"] ["value", "most"] (defScope s_is_number) := ⟨rfl, rfl, rfl, by decide +kernel, rfl, by decide +kernel, by decide +kernel⟩
abbrev s_is_whole_body : Stmt := top 36
theorem sc_is_whole_body : FnScope ["value", "names"] ["value", "names"] (defScope s_is_whole_body) := ⟨rfl, rfl, rfl, by decide +kernel, rfl, by decide +kernel, by decide +kernel⟩
abbrev s_is_body : Stmt := top 37
theorem sc_is_body : FnScope ["value", "names", "most", "depth", "statement"] ["value", "names", "most", "depth"] (defScope s_is_body) := ⟨rfl, rfl, rfl, by decide +kernel, rfl, by decide +kernel, by decide +kernel⟩
abbrev s_is_statement : Stmt := top 38
theorem sc_is_statement : FnScope ["value", "names", "depth", "kinds", "items", "kind", "item"] ["value", "names", "depth"] (defScope s_is_statement) := ⟨rfl, rfl, rfl, by decide +kernel, rfl, by decide +kernel, by decide +kernel⟩
abbrev s_is_item : Stmt := top 39
theorem sc_is_item : FnScope ["kind", "value", "names", "depth"] ["kind", "value", "names", "depth"] (defScope s_is_item) := ⟨rfl, rfl, rfl, by decide +kernel, rfl, by decide +kernel, by decide +kernel⟩
abbrev s_is_terms : Stmt := top 40
theorem sc_is_terms : FnScope ["value", "names", "name"] ["value", "names"] (defScope s_is_terms) := ⟨rfl, rfl, rfl, by decide +kernel, rfl, by decide +kernel, by decide +kernel⟩
abbrev s_fault : Stmt := top 42
theorem sc_fault : FnScope ["design", "program", "sorts", "body"] ["design", "program"] (defScope s_fault) := ⟨rfl, rfl, rfl, by decide +kernel, rfl, by decide +kernel, by decide +kernel⟩
abbrev s_lets_by : Stmt := top 43
theorem sc_lets_by : FnScope ["design", "program"] ["design", "program"] (defScope s_lets_by) := ⟨rfl, rfl, rfl, by decide +kernel, rfl, by decide +kernel, by decide +kernel⟩
abbrev s_first_fault : Stmt := top 44
theorem sc_first_fault : FnScope ["design", "sorts", "body", "under", "at", "statement", "within"] ["design", "sorts", "body", "under"] (defScope s_first_fault) := ⟨rfl, rfl, rfl, by decide +kernel, rfl, by decide +kernel, by decide +kernel⟩
abbrev s_fault_within : Stmt := top 45
theorem sc_fault_within : FnScope ["design", "sorts", "statement", "under", "word"] ["design", "sorts", "statement", "under"] (defScope s_fault_within) := ⟨rfl, rfl, rfl, by decide +kernel, rfl, by decide +kernel, by decide +kernel⟩
abbrev s_fault_in_branches : Stmt := top 46
theorem sc_fault_in_branches : FnScope ["design", "sorts", "statement", "under", "side", "branch", "within"] ["design", "sorts", "statement", "under"] (defScope s_fault_in_branches) := ⟨rfl, rfl, rfl, by decide +kernel, rfl, by decide +kernel, by decide +kernel⟩
abbrev s_may_stand : Stmt := top 47
theorem sc_may_stand : FnScope ["design", "sorts", "statement", "under", "rule"] ["design", "sorts", "statement", "under"] (defScope s_may_stand) := ⟨rfl, rfl, rfl, by decide +kernel, rfl, by decide +kernel, by decide +kernel⟩
abbrev s_is_secret : Stmt := top 48
theorem sc_is_secret : FnScope ["sorts", "name"] ["sorts", "name"] (defScope s_is_secret) := ⟨rfl, rfl, rfl, by decide +kernel, rfl, by decide +kernel, by decide +kernel⟩
abbrev s_may_change : Stmt := top 49
theorem sc_may_change : FnScope ["design", "sort", "from_secret", "under"] ["design", "sort", "from_secret", "under"] (defScope s_may_change) := ⟨rfl, rfl, rfl, by decide +kernel, rfl, by decide +kernel, by decide +kernel⟩
abbrev s_sum_may_stand : Stmt := top 50
theorem sc_sum_may_stand : FnScope ["design", "sorts", "statement", "under", "name", "terms", "from_secret", "term"] ["design", "sorts", "statement", "under"] (defScope s_sum_may_stand) := ⟨rfl, rfl, rfl, by decide +kernel, rfl, by decide +kernel, by decide +kernel⟩
abbrev s_if_may_stand : Stmt := top 51
theorem sc_if_may_stand : FnScope ["design", "sorts", "statement", "under"] ["design", "sorts", "statement", "under"] (defScope s_if_may_stand) := ⟨rfl, rfl, rfl, by decide +kernel, rfl, by decide +kernel, by decide +kernel⟩
abbrev s_times_may_stand : Stmt := top 52
theorem sc_times_may_stand : FnScope ["design", "sorts", "statement", "under"] ["design", "sorts", "statement", "under"] (defScope s_times_may_stand) := ⟨rfl, rfl, rfl, by decide +kernel, rfl, by decide +kernel, by decide +kernel⟩
abbrev s_while_may_stand : Stmt := top 53
theorem sc_while_may_stand : FnScope ["design", "sorts", "statement", "under"] ["design", "sorts", "statement", "under"] (defScope s_while_may_stand) := ⟨rfl, rfl, rfl, by decide +kernel, rfl, by decide +kernel, by decide +kernel⟩
abbrev s_print_may_stand : Stmt := top 54
theorem sc_print_may_stand : FnScope ["design", "sorts", "statement", "under"] ["design", "sorts", "statement", "under"] (defScope s_print_may_stand) := ⟨rfl, rfl, rfl, by decide +kernel, rfl, by decide +kernel, by decide +kernel⟩
abbrev s_stop_may_stand : Stmt := top 55
theorem sc_stop_may_stand : FnScope ["design", "sorts", "statement", "under"] ["design", "sorts", "statement", "under"] (defScope s_stop_may_stand) := ⟨rfl, rfl, rfl, by decide +kernel, rfl, by decide +kernel, by decide +kernel⟩
abbrev s_split_may_stand : Stmt := top 56
theorem sc_split_may_stand : FnScope ["design", "sorts", "statement", "under", "name", "by"] ["design", "sorts", "statement", "under"] (defScope s_split_may_stand) := ⟨rfl, rfl, rfl, by decide +kernel, rfl, by decide +kernel, by decide +kernel⟩
abbrev s_keep_may_stand : Stmt := top 57
theorem sc_keep_may_stand : FnScope ["design", "sorts", "statement", "under", "table", "place", "name"] ["design", "sorts", "statement", "under"] (defScope s_keep_may_stand) := ⟨rfl, rfl, rfl, by decide +kernel, rfl, by decide +kernel, by decide +kernel⟩
abbrev s_fetch_may_stand : Stmt := top 58
theorem sc_fetch_may_stand : FnScope ["design", "sorts", "statement", "under", "table", "name", "place", "from_secret"] ["design", "sorts", "statement", "under"] (defScope s_fetch_may_stand) := ⟨rfl, rfl, rfl, by decide +kernel, rfl, by decide +kernel, by decide +kernel⟩
abbrev s_is_start : Stmt := top 63
theorem sc_is_start : FnScope ["program", "value", "number"] ["program", "value"] (defScope s_is_start) := ⟨rfl, rfl, rfl, by decide +kernel, rfl, by decide +kernel, by decide +kernel⟩
abbrev s_check_start : Stmt := top 64
theorem sc_check_start : FnScope ["program", "value"] ["program", "value"] (defScope s_check_start) := ⟨rfl, rfl, rfl, by decide +kernel, rfl, by decide +kernel, by decide +kernel⟩
abbrev s_outcome : Stmt := top 65
theorem sc_outcome : FnScope ["program", "start", "state", "halt", "how", "tables", "sort"] ["program", "start"] (defScope s_outcome) := ⟨rfl, rfl, rfl, by decide +kernel, rfl, by decide +kernel, by decide +kernel⟩
abbrev s_State_init : Stmt := inClass (top 66) 0
theorem sc_State_init : FnScope ["self", "start", "sort"] ["self", "start"] (defScope s_State_init) := ⟨rfl, rfl, rfl, by decide +kernel, rfl, by decide +kernel, by decide +kernel⟩
abbrev s_do_body : Stmt := top 67
theorem sc_do_body : FnScope ["state", "body", "statement", "action", "halt"] ["state", "body"] (defScope s_do_body) := ⟨rfl, rfl, rfl, by decide +kernel, rfl, by decide +kernel, by decide +kernel⟩
abbrev s_do_sum : Stmt := top 68
theorem sc_do_sum : FnScope ["state", "statement", "name", "terms", "number", "term"] ["state", "statement"] (defScope s_do_sum) := ⟨rfl, rfl, rfl, by decide +kernel, rfl, by decide +kernel, by decide +kernel⟩
abbrev s_do_if : Stmt := top 69
theorem sc_do_if : FnScope ["state", "statement", "name", "first", "second", "branch"] ["state", "statement"] (defScope s_do_if) := ⟨rfl, rfl, rfl, by decide +kernel, rfl, by decide +kernel, by decide +kernel⟩
abbrev s_do_times : Stmt := top 70
theorem sc_do_times : FnScope ["state", "statement", "turns", "body", "_", "halt"] ["state", "statement"] (defScope s_do_times) := ⟨rfl, rfl, rfl, by decide +kernel, rfl, by decide +kernel, by decide +kernel⟩
abbrev s_do_while : Stmt := top 71
theorem sc_do_while : FnScope ["state", "statement", "name", "body", "halt"] ["state", "statement"] (defScope s_do_while) := ⟨rfl, rfl, rfl, by decide +kernel, rfl, by decide +kernel, by decide +kernel⟩
abbrev s_do_print : Stmt := top 72
theorem sc_do_print : FnScope ["state", "statement"] ["state", "statement"] (defScope s_do_print) := ⟨rfl, rfl, rfl, by decide +kernel, rfl, by decide +kernel, by decide +kernel⟩
abbrev s_do_stop : Stmt := top 73
theorem sc_do_stop : FnScope ["state", "statement"] ["state", "statement"] (defScope s_do_stop) := ⟨rfl, rfl, rfl, by decide +kernel, rfl, by decide +kernel, by decide +kernel⟩
abbrev s_do_split : Stmt := top 74
theorem sc_do_split : FnScope ["state", "statement", "name", "by"] ["state", "statement"] (defScope s_do_split) := ⟨rfl, rfl, rfl, by decide +kernel, rfl, by decide +kernel, by decide +kernel⟩
abbrev s_do_keep : Stmt := top 75
theorem sc_do_keep : FnScope ["state", "statement", "table", "place", "name"] ["state", "statement"] (defScope s_do_keep) := ⟨rfl, rfl, rfl, by decide +kernel, rfl, by decide +kernel, by decide +kernel⟩
abbrev s_do_fetch : Stmt := top 76
theorem sc_do_fetch : FnScope ["state", "statement", "table", "name", "place"] ["state", "statement"] (defScope s_do_fetch) := ⟨rfl, rfl, rfl, by decide +kernel, rfl, by decide +kernel, by decide +kernel⟩
abbrev s_alike : Stmt := top 80
theorem sc_alike : FnScope ["design", "program", "one", "other", "sorts"] ["design", "program", "one", "other"] (defScope s_alike) := ⟨rfl, rfl, rfl, by decide +kernel, rfl, by decide +kernel, by decide +kernel⟩
abbrev s_leak : Stmt := top 81
theorem sc_leak : FnScope ["design", "program", "start", "sorts", "seen", "other"] ["design", "program", "start"] (defScope s_leak) := ⟨rfl, rfl, rfl, by decide +kernel, rfl, by decide +kernel, by decide +kernel⟩
abbrev s_starts_like : Stmt := top 82
theorem sc_starts_like : FnScope ["sorts", "start", "starts", "sort", "number", "choices", "begun", "choice"] ["sorts", "start"] (defScope s_starts_like) := ⟨rfl, rfl, rfl, by decide +kernel, rfl, by decide +kernel, by decide +kernel⟩
abbrev s_open_numbers : Stmt := top 83
theorem sc_open_numbers : FnScope ["sorts", "numbers", "sort", "number"] ["sorts", "numbers"] (defScope s_open_numbers) := ⟨rfl, rfl, rfl, by decide +kernel, rfl, by decide +kernel, by decide +kernel⟩
abbrev s_look_alike : Stmt := top 84
theorem sc_look_alike : FnScope ["design", "sorts", "one", "other"] ["design", "sorts", "one", "other"] (defScope s_look_alike) := ⟨rfl, rfl, rfl, by decide +kernel, rfl, by decide +kernel, by decide +kernel⟩
abbrev s_is_finished : Stmt := top 85
theorem sc_is_finished : FnScope ["seen"] ["seen"] (defScope s_is_finished) := ⟨rfl, rfl, rfl, by decide +kernel, rfl, by decide +kernel, by decide +kernel⟩
abbrev s_same_at_end : Stmt := top 86
theorem sc_same_at_end : FnScope ["design", "sorts", "one", "other"] ["design", "sorts", "one", "other"] (defScope s_same_at_end) := ⟨rfl, rfl, rfl, by decide +kernel, rfl, by decide +kernel, by decide +kernel⟩
abbrev s_one_begins_other : Stmt := top 87
theorem sc_one_begins_other : FnScope ["one", "other", "shared"] ["one", "other"] (defScope s_one_begins_other) := ⟨rfl, rfl, rfl, by decide +kernel, rfl, by decide +kernel, by decide +kernel⟩
abbrev s_l_taken : Stmt := top 89
theorem sc_l_taken : FnScope ["row", "many", "found", "cell"] ["row", "many"] (defScope s_l_taken) := ⟨rfl, rfl, rfl, by decide +kernel, rfl, by decide +kernel, by decide +kernel⟩
abbrev s_l_pick : Stmt := top 90
theorem sc_l_pick : FnScope ["row", "kinds"] ["row", "kinds"] (defScope s_l_pick) := ⟨rfl, rfl, rfl, by decide +kernel, rfl, by decide +kernel, by decide +kernel⟩
abbrev s_l_words : Stmt := top 91
theorem sc_l_words : FnScope ["some"] [] (defScope s_l_words) := ⟨rfl, rfl, rfl, by decide +kernel, rfl, by decide +kernel, by decide +kernel⟩
abbrev s_l_lots : Stmt := top 92
theorem sc_l_lots : FnScope ["found"] [] (defScope s_l_lots) := ⟨rfl, rfl, rfl, by decide +kernel, rfl, by decide +kernel, by decide +kernel⟩
abbrev s_l_lots_in : Stmt := top 93
theorem sc_l_lots_in : FnScope ["design", "lot", "word"] ["design"] (defScope s_l_lots_in) := ⟨rfl, rfl, rfl, by decide +kernel, rfl, by decide +kernel, by decide +kernel⟩
abbrev s_l_told : Stmt := top 94
theorem sc_l_told : FnScope ["lot", "up", "down", "shown", "inner"] ["lot"] (defScope s_l_told) := ⟨rfl, rfl, rfl, by decide +kernel, rfl, by decide +kernel, by decide +kernel⟩
abbrev s_l_into : Stmt := top 95
theorem sc_l_into : FnScope ["words", "secret", "source", "under"] ["words", "secret", "source", "under"] (defScope s_l_into) := ⟨rfl, rfl, rfl, by decide +kernel, rfl, by decide +kernel, by decide +kernel⟩
abbrev s_l_stands : Stmt := top 96
theorem sc_l_stands : FnScope ["words", "sorts", "one", "under", "hidden", "sort", "word", "x", "bad", "source", "table"] ["words", "sorts", "one", "under"] (defScope s_l_stands) := ⟨rfl, rfl, rfl, by decide +kernel, rfl, by decide +kernel, by decide +kernel⟩
abbrev s_l_check : Stmt := top 97
theorem sc_l_check : FnScope ["words", "sorts", "body", "under", "k", "one", "below", "side", "place"] ["words", "sorts", "body", "under"] (defScope s_l_check) := ⟨rfl, rfl, rfl, by decide +kernel, rfl, by decide +kernel, by decide +kernel⟩
abbrev s_l_statement : Stmt := top 98
theorem sc_l_statement : FnScope ["row", "many", "deep", "x", "y", "z", "plain", "word", "turn", "first"] ["row", "many", "deep"] (defScope s_l_statement) := ⟨rfl, rfl, rfl, by decide +kernel, rfl, by decide +kernel, by decide +kernel⟩
abbrev s_l_sorts : Stmt := top 99
theorem sc_l_sorts : FnScope ["row", "found", "turn"] ["row"] (defScope s_l_sorts) := ⟨rfl, rfl, rfl, by decide +kernel, rfl, by decide +kernel, by decide +kernel⟩
abbrev s_l_program : Stmt := top 100
theorem sc_l_program : FnScope ["row", "words", "sorts", "body", "told", "turn", "one"] ["row", "words"] (defScope s_l_program) := ⟨rfl, rfl, rfl, by decide +kernel, rfl, by decide +kernel, by decide +kernel⟩
abbrev s_l_start : Stmt := top 101
theorem sc_l_start : FnScope ["row", "sorts", "sort"] ["row", "sorts"] (defScope s_l_start) := ⟨rfl, rfl, rfl, by decide +kernel, rfl, by decide +kernel, by decide +kernel⟩
abbrev s_l_other : Stmt := top 102
theorem sc_l_other : FnScope ["row", "sorts", "start", "fresh", "x"] ["row", "sorts", "start"] (defScope s_l_other) := ⟨rfl, rfl, rfl, by decide +kernel, rfl, by decide +kernel, by decide +kernel⟩
abbrev s_law : Stmt := top 103
theorem sc_law : FnScope ["script", "row", "kept", "word", "top", "design", "turn", "program", "start", "other"] ["script"] (defScope s_law) := ⟨rfl, rfl, rfl, by decide +kernel, rfl, by decide +kernel, by decide +kernel⟩
end Fw

set_option Elab.async false
set_option linter.all false
set_option maxRecDepth 100000
set_option maxHeartbeats 4000000
namespace Fw
open PySem PySem.Spec PyProof.Rows L2
section
variable {P : Program} {w : World} {K : PySem.W.Frag} {mg : Str → Option Value} {base : Heap}
/-! ### designs -/
def desD (ws : List String) : D := .tup (ws.map strD)
def P_is_word (g : FD) : Prop := ∀ (x : String) (s : S), x ∈ wordsL → g [strD x] s = some (.bl true, s)
def P_is_design (g : FD) : Prop := ∀ (ws : List String) (s : S), ws.Sublist wordsL → g [desD ws] s = some (.bl true, s)
def P_check_design (g : FD) : Prop := ∀ (ws : List String) (s : S), ws.Sublist wordsL → g [desD ws] s = some (.non, s)
theorem words_len {ws : List String} (h : ws.Sublist wordsL) : ws.length ≤ 12 := h.length_le
theorem words_nodup : (wordsL.map Str.ofString).Nodup := by decide +kernel
theorem words_up : (wordsL.map Str.ofString).Pairwise fun a b => leT a b = true := by
  have h : ((wordsL.map Str.ofString).zip ((wordsL.map Str.ofString).drop 1)).all (fun p => leT p.1 p.2) = true := by decide +kernel
  exact sortedS_pw (by decide +kernel)
theorem txts_strs : ∀ ws : List String, txtsD (ws.map strD) = some (ws.map Str.ofString)
  | [] => rfl
  | w :: ws => by rw [List.map_cons, List.map_cons]; show (txtsD (ws.map strD)).map _ = _; rw [txts_strs ws]; rfl
theorem srt_words {ws : List String} (h : ws.Sublist wordsL) : srtT (ws.map Str.ofString) = ws.map Str.ofString :=
  srtT_self (List.Pairwise.sublist (h.map Str.ofString) words_up) (List.Pairwise.sublist (h.map Str.ofString) words_nodup)
theorem ok_is_word {f : Addr} {fd : FuncData} (F : Fun K "is_word" "is_word" s_is_word f fd) (hm : mg "is_word" = some (.ref f)) (B : Bi mg) (g_WORDS : Gc K mg "WORDS" (.tup (wordsL.map strD))) :
    ∃ g, Kn P w K mg base "is_word" 1 1 g ∧ P_is_word g := by
  refine ⟨_, (kn_of (k := 0) F hm sc_is_word (F.binds (ps := ["value"]) fun _ _ _ _ _ _ us hl => match us, hl with | [_], _ => rfl) fun cdv A outer s H E hr => (dss_one (ds_ret (d_and (d_isI (t := .str) rfl (B.get "isinstance") (d_var 0 (pv 0)) rfl (B.get "str") (by decide +kernel)) (d_one (d_cmp op_in_seq g_in (d_var 0 (pv 0)) (d_gc g_WORDS rfl) (by with_unfolding_all rfl))))))), ?_⟩
  intro x s hx
  have e0 : startD 1 [strD x] = [some (strD x)] := rfl
  rw [fBody_e]
  simp only [List.length_cons, List.length_nil, Nat.zero_add, Nat.reduceAdd, e0]
  simp [strD, hx]
theorem ok_is_design {f : Addr} {fd : FuncData} (F : Fun K "is_design" "is_design" s_is_design f fd) (hm : mg "is_design" = some (.ref f)) (B : Bi mg) {gw : FD} (k_is_word : Kn P w K mg base "is_word" 1 1 gw) (pw : P_is_word gw) :
    ∃ g, Kn P w K mg base "is_design" 1 2 g ∧ P_is_design g := by
  refine ⟨_, (kn_of (k := 1) F hm sc_is_design (F.binds (ps := ["value"]) fun _ _ _ _ _ _ us hl => match us, hl with | [_], _ => rfl) fun cdv A outer s H E hr => (dss_cons (ds_if (dt_not (dt_tru (d_isI (t := .tuple) rfl (B.get "isinstance") (d_var 0 (pv 0)) rfl (B.get "tuple") (by decide +kernel)))) (dss_one (ds_ret d_bl)) dss_nil)
  (dss_cons (ds_if (dt_not (dt_tru (d_callB (cr_all rfl) g_all rfl (B.get "all") (by decide +kernel) (da_cons (d_lc (own := [("word", 1)]) rfl sc_is_design.nd (di_items (d_var 0 (pv 0))) (blkOk_by (N := ["value", "word"]) (sc := defScope s_is_design) (by decide +kernel)) (gt_name (i := 1) (vs := [1]) (by decide)) (fun _ _ _ _ _ => (pg_name (i := 1) sc_is_design.nd rfl (Or.inl rfl))) (fun _ _ _ _ _ => dts_nil) (fun _ _ _ _ _ => (d_kn k_is_word (hr.mono (by omega)) rfl (da_cons (d_var 1 (pv 1)) da_nil)))) da_nil)))) (dss_one (ds_ret d_bl)) dss_nil)
  (dss_one (ds_ret (d_cmp (op_eqA hr.units) g_eq (d_callTy call_list_of g_list rfl (B.get "list") (by decide +kernel) (da_cons (d_var 0 (pv 0)) da_nil)) (d_srtS rfl rfl (B.get "sorted") rfl (B.get "set") (d_var 0 (pv 0))) (nomark _))))))), ?_⟩
  intro ws s hw
  have hl := words_len hw
  have e0 : startD 2 [desD ws] = [some (.tup (ws.map strD)), none] := rfl
  rw [fBody_e]
  simp only [List.length_cons, List.length_nil, Nat.zero_add, Nat.reduceAdd, e0]
  have hc : ∀ (δ : Fr), 1 < δ.length → compL (gtName 1) tTrue (fCall 1 gw (fCons (fVar 1) fNil)) (ws.map strD) δ s = some (List.replicate (ws.map strD).length (.bl true), s) := fun δ hl => compL_true _ fun d hd => by
    obtain ⟨x, hx, rfl⟩ := List.mem_map.mp hd
    refine ⟨_, rfl, ?_⟩
    have : gw [.str (Str.ofString x)] s = some (.bl true, s) := pw x s (hw.subset hx)
    simp [hl, this]
  have h3 : ws.length ≤ 10000000 := by omega
  have h4 : ws.length < 64 := by omega
  have h5 := kSrtS_s (s := s) (txts_strs ws) (by simpa using h4)
  have h6 : ((ws.map Str.ofString).map D.str) = ws.map strD := by rw [List.map_map]; rfl
  rw [srt_words hw, h6] at h5
  have h7 := deep_strs (ws := ws) fun x hx => hw.subset hx
  simp [h3, hc, h5, h7]
theorem ok_check_design {f : Addr} {fd : FuncData} (F : Fun K "check_design" "check_design" s_check_design f fd) (hm : mg "check_design" = some (.ref f)) (B : Bi mg) {gw : FD} (k_is_design : Kn P w K mg base "is_design" 1 2 gw) (pw : P_is_design gw) :
    ∃ g, Kn P w K mg base "check_design" 1 3 g ∧ P_check_design g := by
  refine ⟨_, (kn_of (k := 2) F hm sc_check_design (F.binds (ps := ["value"]) fun _ _ _ _ _ _ us hl => match us, hl with | [_], _ => rfl) fun cdv A outer s H E hr => (dss_one (ds_if (dt_not (dt_tru (d_kn k_is_design (hr.mono (by omega)) rfl (da_cons (d_var 0 (pv 0)) da_nil)))) (dss_one ds_never) dss_nil))), ?_⟩
  intro ws s hw
  have h := pw ws s hw
  have e0 : startD 1 [desD ws] = [some (desD ws)] := rfl
  rw [fBody_e]
  simp only [List.length_cons, List.length_nil, Nat.zero_add, Nat.reduceAdd, e0]
  simp [h]

end
end Fw

set_option Elab.async false
set_option linter.all false
set_option maxRecDepth 100000
set_option maxHeartbeats 4000000
namespace Fw
open PySem PySem.Spec PyProof.Rows L2
section
variable {P : Program} {w : World} {K : PySem.W.Frag} {mg : Str → Option Value} {base : Heap}
def P_holds (g : FD) : Prop := ∀ (ws l : List String) (s : S), l.length ≤ 1000 → g [.tup (ws.map strD), lotD l] s = some (.bl (holdsM ws l), s)
def P_held (g : FD) : Prop := ∀ (ws : List String) (s : S), g [.tup (ws.map strD)] s = some (.tup ((lotsAt ws).map lotD), s)
def P_lots_in (g : FD) : Prop := ∀ (ws : List String) (s : S), ws.Sublist wordsL → g [.tup (ws.map strD)] s = some (.tup ((lotsAt ws).map lotD), s)
def P_sound (g : FD) : Prop := ∀ (ws : List String) (s : S), ws.Sublist wordsL → g [.tup (ws.map strD)] s = some (.bl (lotsAt ws).isEmpty, s)
theorem lots_len : ∀ l ∈ lotsL, l.length ≤ 3 := by decide
theorem ok_holds {f : Addr} {fd : FuncData} (F : Fun K "holds" "holds" s_holds f fd) (hm : mg "holds" = some (.ref f)) (B : Bi mg) : ∃ g, Kn P w K mg base "holds" 2 1 g ∧ P_holds g := by
  refine ⟨_, (kn_of (k := 0) F hm sc_holds (F.binds (ps := ["design", "lot"]) fun _ _ _ _ _ _ us hl => match us, hl with | [_, _], _ => rfl) fun cdv A outer s H E hr => (dss_one (ds_ret (d_callB (cr_all rfl) g_all rfl (B.get "all") (by decide +kernel) (da_cons (d_lc (own := [("word", 2)]) rfl sc_holds.nd (di_items (d_var 1 (pv 1))) (blkOk_by (N := ["design", "lot", "word"]) (sc := defScope s_holds) (by decide +kernel)) (gt_name (i := 2) (vs := [2]) (by decide)) (fun _ _ _ _ _ => (pg_name (i := 2) sc_holds.nd rfl (Or.inl rfl))) (fun _ _ _ _ _ => dts_nil) (fun _ _ _ _ _ => (d_cmp op_in_seq g_in (d_var 2 (pv 2)) (d_var 0 (pv 0)) (by with_unfolding_all rfl)))) da_nil))))), ?_⟩
  intro ws l s hl
  have c := compL_by (ft := gtName 2) (tt := tTrue) (fe := f2 dIn (fVar 2) (fVar 0)) (δ := [some (.tup (ws.map strD)), some (lotD l), none]) (s := s) strD (fun _ => true) (fun x => .bl (decide (x ∈ ws))) l fun x _ => ⟨_, rfl, rfl, fun _ => by
    have q := dIn_strs x ws s
    simp [q]⟩
  rw [List.filter_eq_self.mpr fun _ _ => rfl] at c
  have h2 : l.length ≤ 10000000 := by omega
  simp only [lotD] at c ⊢
  have hb : blsD (l.map fun x => D.bl (decide (x ∈ ws))) = some (l.map fun x => decide (x ∈ ws)) := by
    clear c h2 hl
    induction l with
    | nil => rfl
    | cons x l ih => rw [List.map_cons, List.map_cons, blsD, ih]; rfl
  simp [c, h2, holdsM, hb]
theorem ok_held {f : Addr} {fd : FuncData} (F : Fun K "held_lots" "held_lots" s_held_lots f fd) (hm : mg "held_lots" = some (.ref f)) (B : Bi mg) (g_LOTS : Gc K mg "LOTS" (.tup (lotsL.map lotT))) {gh : FD} (k_holds : Kn P w K mg base "holds" 2 1 gh) (ph : P_holds gh) : ∃ g, Kn P w K mg base "held_lots" 1 2 g ∧ P_held g := by
  refine ⟨_, (kn_of (k := 1) F hm sc_held_lots (F.binds (ps := ["design"]) fun _ _ _ _ _ _ us hl => match us, hl with | [_], _ => rfl) fun cdv A outer s H E hr => (dss_one (ds_ret (d_callTy call_tuple_ofZ g_tuple rfl (B.get "tuple") (by decide +kernel) (da_cons (d_lc (own := [("lot", 1), ("body", 2)]) rfl sc_held_lots.nd (di_items (d_gc g_LOTS rfl)) (blkOk_by (N := ["design", "lot", "body"]) (sc := defScope s_held_lots) (by decide +kernel)) (gt_pair (i := 1) (j := 2) (vs := [1, 2]) (by decide) (by decide)) (fun _ _ _ _ _ => (pg_tup rfl (pgs_cons (pg_name (i := 1) sc_held_lots.nd rfl (Or.inl rfl)) (pgs_cons (pg_name (i := 2) sc_held_lots.nd rfl (Or.inl rfl)) pgs_nil)))) (fun _ _ _ _ _ => (dts_one (dt_tru (d_kn k_holds (hr.mono (by omega)) rfl (da_cons (d_var 0 (pv 0)) (da_cons (d_var 1 (pv 1)) da_nil)))))) (fun _ _ _ _ _ => (d_var 1 (pv 1)))) da_nil))))), ?_⟩
  intro ws s
  have c := compL_by (ft := gtPair 1 2) (tt := fTru (fCall 2 gh (fCons (fVar 0) (fCons (fVar 1) fNil)))) (fe := fVar 1) (δ := [some (.tup (ws.map strD)), none, none]) (s := s) lotT (holdsM ws) lotD lotsL fun l hl => by
    refine ⟨_, rfl, ?_, fun _ => by simp⟩
    have q := ph ws l s (Nat.le_trans (lots_len l hl) (by decide))
    simp [q]
  have h2 : lotsL.length ≤ 10000000 := by decide
  simp [c, h2, lotsAt]
theorem ok_lots_in {f : Addr} {fd : FuncData} (F : Fun K "lots_in" "lots_in" s_lots_in f fd) (hm : mg "lots_in" = some (.ref f)) (B : Bi mg) {gd gh : FD} {lv : Nat} (hlv : 2 ≤ lv) (k_check_design : Kn P w K mg base "check_design" 1 lv gd) (pd : P_check_design gd) (k_held_lots : Kn P w K mg base "held_lots" 1 lv gh) (ph : P_held gh) :
    ∃ g, Kn P w K mg base "lots_in" 1 (lv + 1) g ∧ P_lots_in g := by
  refine ⟨_, (kn_of (k := lv) F hm sc_lots_in (F.binds (ps := ["design"]) fun _ _ _ _ _ _ us hl => match us, hl with | [_], _ => rfl) fun cdv A outer s H E hr => (dss_cons (ds_expr (d_kn k_check_design (hr.mono (by omega)) rfl (da_cons (d_var 0 (pv 0)) da_nil)))
  (dss_one (ds_ret (d_kn k_held_lots (hr.mono (by omega)) rfl (da_cons (d_var 0 (pv 0)) da_nil)))))), ?_⟩
  intro ws s hw
  have a1 := pd ws s hw
  have a2 := ph ws s
  simp only [desD] at a1
  simp [a1, a2]
theorem ok_sound {f : Addr} {fd : FuncData} (F : Fun K "is_sound" "is_sound" s_is_sound f fd) (hm : mg "is_sound" = some (.ref f)) (B : Bi mg) {gh : FD} {lv : Nat} (k_lots_in : Kn P w K mg base "lots_in" 1 lv gh) (ph : P_lots_in gh) :
    ∃ g, Kn P w K mg base "is_sound" 1 (lv + 1) g ∧ P_sound g := by
  refine ⟨_, (kn_of (k := lv) F hm sc_is_sound (F.binds (ps := ["design"]) fun _ _ _ _ _ _ us hl => match us, hl with | [_], _ => rfl) fun cdv A outer s H E hr => (dss_one (ds_ret (d_cmp (op_eqA hr.units) g_eq (d_kn k_lots_in (hr.mono (by omega)) rfl (da_cons (d_var 0 (pv 0)) da_nil)) (d_tup da_nil) (nomark _))))), ?_⟩
  intro ws s hw
  have a2 := ph ws s hw
  have d := (deep_lots0 (ls := lotsAt ws) fun l hl => (lotsAt_mem hl).1).1
  simp [a2, d]

end
end Fw

set_option Elab.async false
set_option linter.all false
set_option maxRecDepth 100000
set_option maxHeartbeats 4000000
namespace Fw
open PySem PySem.Spec PyProof.Rows L2
section
variable {P : Program} {w : World} {K : PySem.W.Frag} {mg : Str → Option Value} {base : Heap}
def P_with (g : FD) : Prop := ∀ (ws : List String) (w : String) (s : S), ws.Sublist wordsL → w ∈ wordsL → w ∉ ws → g [.tup (ws.map strD), strD w] s = some (.tup ((withM ws w).map strD), s)
def P_above (g : FD) : Prop := ∀ (ws : List String) (s : S), Good ws → g [.tup (ws.map strD)] s = some (.lst ((aboveM ws).map lotD), s)
def P_isgreat (g : FD) : Prop := ∀ (ws : List String) (s : S), ws.Sublist wordsL → g [.tup (ws.map strD)] s = some (.bl (greatB ws), s)
def P_great (g : FD) : Prop := ∀ (ws : List String) (s : S), Good ws → g [.tup (ws.map strD)] s = some (.tup ((greatL ws).map tupT), s)
theorem ok_with {f : Addr} {fd : FuncData} (F : Fun K "with_word" "with_word" s_with_word f fd) (hm : mg "with_word" = some (.ref f)) (B : Bi mg) : ∃ g, Kn P w K mg base "with_word" 2 1 g ∧ P_with g := by
  refine ⟨_, (kn_of (k := 0) F hm sc_with_word (F.binds (ps := ["design", "word"]) fun _ _ _ _ _ _ us hl => match us, hl with | [_, _], _ => rfl) fun cdv A outer s H E hr => (dss_one (ds_ret (d_callTy call_tuple_ofZ g_tuple rfl (B.get "tuple") (by decide +kernel) (da_cons (d_callB cr_sortedTx g_sorted rfl (B.get "sorted") (by decide +kernel) (da_cons (d_op op_addA g_add (d_var 0 (pv 0)) (d_tup (da_cons (d_var 1 (pv 1)) da_nil))) da_nil)) da_nil))))), ?_⟩
  intro ws w s hs hw hn
  have hl : ws.length ≤ 12 := hs.length_le
  have q1 := txts_strsL (ws ++ [w])
  have hS : dSorted [.tup (ws.map strD ++ [.str (Str.ofString w)])] s = some (.lst ((withM ws w).map strD)) := by
    have e : ws.map strD ++ [.str (Str.ofString w)] = (ws ++ [w]).map strD := by rw [List.map_append]; rfl
    rw [e]
    show (txtsD _).bind _ = _
    rw [q1, Option.bind_some, if_pos (by rw [List.length_map, List.length_append]; simp; omega), srt_with hs hw hn, List.map_map]
    rfl
  have h2 : ws.length + 1 ≤ 10000000 := by omega
  simp [h2, hS, -dSorted]
theorem ok_above {f : Addr} {fd : FuncData} (F : Fun K "sound_above" "sound_above" s_sound_above f fd) (hm : mg "sound_above" = some (.ref f)) (B : Bi mg) (g_WORDS : Gc K mg "WORDS" (.tup (wordsL.map strD))) {gw gh : FD} (k_with_word : Kn P w K mg base "with_word" 2 2 gw) (pw : P_with gw) (k_held_lots : Kn P w K mg base "held_lots" 1 2 gh) (ph : P_held gh) :
    ∃ g, Kn P w K mg base "sound_above" 1 3 g ∧ P_above g := by
  refine ⟨_, (kn_of (k := 2) F hm sc_sound_above (F.binds (ps := ["design"]) fun _ _ _ _ _ _ us hl => match us, hl with | [_], _ => rfl) fun cdv A outer s H E hr => (dss_cons (ds_set (i := 1) sc_sound_above.nd rfl (Or.inl rfl) (d_lst (da_cons (d_var 0 (pv 0)) da_nil)))
  (dss_cons (ds_for PassesOwn.never rfl (di_items (d_gc g_WORDS rfl)) (pg_name (i := 2) sc_sound_above.nd rfl (Or.inr rfl)) (gt_name (i := 2) (vs := [2]) (by decide)) (dss_one (ds_if (dt_cmp op_notIn_seq g_notIn (d_var 2 (pv 2)) (d_var 0 (pv 0)) (by with_unfolding_all rfl)) (dss_cons (ds_setLc (i := 3) (own := [("held", 4)]) rfl sc_sound_above.nd rfl rfl (sw_true rfl rfl rfl (by decide +kernel)) (di_items (d_var 1 (pv 1))) (blkOk_by (N := ["design", "found", "word", "longer", "held"]) (sc := defScope s_sound_above) (by decide +kernel)) (gt_name (i := 4) (vs := [4]) (by decide)) (fun _ _ _ _ _ => (pg_name (i := 4) sc_sound_above.nd rfl (Or.inl rfl))) (fun _ _ _ _ _ => dts_nil) (fun _ _ _ _ _ => (d_kn k_with_word (hr.mono (by omega)) rfl (da_cons (d_var 4 (pv 4)) (da_cons (d_var 2 (pv 2)) da_nil)))))
  (dss_one (ds_set (i := 1) sc_sound_above.nd rfl (Or.inl rfl) (d_op op_addA g_add (d_var 1 (pv 1)) (d_lc (own := [("held", 4)]) rfl sc_sound_above.nd (di_items (d_var 3 (pv 3))) (blkOk_by (N := ["design", "found", "word", "longer", "held"]) (sc := defScope s_sound_above) (by decide +kernel)) (gt_name (i := 4) (vs := [4]) (by decide)) (fun _ _ _ _ _ => (pg_name (i := 4) sc_sound_above.nd rfl (Or.inl rfl))) (fun _ _ _ _ _ => (dts_one (dt_not (dt_tru (d_kn k_held_lots (hr.mono (by omega)) rfl (da_cons (d_var 4 (pv 4)) da_nil)))))) (fun _ _ _ _ _ => (d_var 4 (pv 4)))))))) dss_nil)))
  (dss_one (ds_ret (d_var 1 (pv 1))))))), ?_⟩
  intro ws s gd
  simp
  refine kSeq_loop (fun i δ s' => s' = s ∧ ∃ (found : List (List String)) (x2 x3 x4 : Option D), δ = [some (.tup (ws.map strD)), some (.lst (found.map lotD)), x2, x3, x4] ∧ aboveM ws = aboveF ws (wordsL.drop i) found ∧ found.length ≤ 2 ^ i ∧ ∀ d ∈ found, d.Sublist wordsL ∧ ∀ x ∈ d, x ∈ ws ∨ x ∈ wordsL.take i)
    (fun r s' => False) ⟨rfl, [ws], none, none, none, rfl, rfl, by simp, fun d hd => by rw [List.mem_singleton.mp hd]; exact ⟨gd.sub, fun x hx => .inl hx⟩⟩ ?_ ?_ ?_
  · rintro i dd δ s' hi ⟨rfl, found, x2, x3, x4, rfl, ha, hlen, hd⟩
    rw [List.getElem?_map] at hi
    cases hw : wordsL[i]? with
    | none => rw [hw] at hi; cases hi
    | some w =>
    rw [hw] at hi
    cases hi
    have hi2 : i < wordsL.length := (List.getElem?_eq_some_iff.mp hw).1
    have hwm := List.mem_of_getElem? hw
    have hlen2 : found.length ≤ 4096 := Nat.le_trans hlen (Nat.pow_le_pow_right (by decide) (Nat.le_of_lt hi2))
    have htk : wordsL.take (i + 1) = wordsL.take i ++ [w] := by rw [List.take_add_one, hw]; rfl
    have hnot : w ∉ wordsL.take i := by
      have hn := words_nd
      rw [← List.take_append_drop (i + 1) wordsL, htk, List.append_assoc] at hn
      have := (List.nodup_append.mp hn).2.2
      intro z
      exact this w z w (by simp) rfl
    rw [drop_get hw, aboveF] at ha
    have q := dNotIn_strs w ws s'
    refine ⟨_, rfl, .inl ?_⟩
    by_cases hin : w ∈ ws
    · rw [if_pos hin] at ha
      exact ⟨_, s', (by simp [q, hin]; first | exact ⟨rfl, rfl, rfl⟩ | rfl), rfl, found, _, _, _, rfl, ha, Nat.le_trans hlen (Nat.pow_le_pow_right (by decide) (by omega)), fun d hd' => ⟨(hd d hd').1, fun x hx => by
        rw [htk, List.mem_append]
        exact ((hd d hd').2 x hx).imp id .inl⟩⟩
    · rw [if_neg hin] at ha
      have c1 := compL_by (ft := gtName 4) (tt := tTrue) (fe := fCall 2 gw (fCons (fVar 4) (fCons (fVar 2) fNil))) (δ := [some (.tup (ws.map strD)), some (.lst (found.map lotD)), some (.str (Str.ofString w)), x3, none]) (s := s') lotD (fun _ => true) (fun d => lotD (withM d w)) found fun d hd' => ⟨_, rfl, rfl, fun _ => by
        have hnd : w ∉ d := fun z => by
          rcases (hd d hd').2 w z with q | q
          · exact hin q
          · exact hnot q
        have := pw d w s' (hd d hd').1 hwm hnd
        simp only [strD] at this
        simp [lotD, this]⟩
      rw [List.filter_eq_self.mpr fun _ _ => rfl] at c1
      have c2 := compL_by (ft := gtName 4) (tt := tNotF (fTru (fCall 1 gh (fCons (fVar 4) fNil)))) (fe := fVar 4) (δ := [some (.tup (ws.map strD)), some (.lst (found.map lotD)), some (.str (Str.ofString w)), some (.lst (found.map fun d => lotD (withM d w))), none]) (s := s') lotD soundM lotD (found.map fun d => withM d w) fun d hd' => ⟨_, rfl, by
        have := ph d s'
        simp [lotD, this, soundM], fun _ => by simp⟩
      rw [List.map_map] at c2
      have hl3 : found.length ≤ 10000000 := by omega
      have hl4 : found.length + ((found.map fun d => withM d w).filter soundM).length ≤ 10000000 := by
        have := List.length_filter_le soundM (found.map fun d => withM d w)
        rw [List.length_map] at this
        omega
      have c2 : compL (gtName 4) (tNotF (fTru (fCall 1 gh (fCons (fVar 4) fNil)))) (fVar 4) (found.map fun d => lotD (withM d w)) [some (.tup (ws.map strD)), some (.lst (found.map lotD)), some (.str (Str.ofString w)), some (.lst (found.map fun d => lotD (withM d w))), none] s' = some (((found.map fun d => withM d w).filter soundM).map lotD, s') := c2
      generalize hG : (found.map fun d => withM d w).filter soundM = G at c2 ha hl4
      exact ⟨_, s', (by simp [q, hin, c1, c2, hl3, hl4, hlen2]; first | exact ⟨rfl, rfl, rfl⟩ | rfl), rfl, found ++ G, _, _, _, by rw [List.map_append], ha, by
        rw [List.length_append, Nat.pow_succ, ← hG]
        have := List.length_filter_le soundM (found.map fun d => withM d w)
        rw [List.length_map] at this
        omega, fun d hd' => by
        rw [htk]
        rcases List.mem_append.mp hd' with h | h
        · exact ⟨(hd d h).1, fun x hx => ((hd d h).2 x hx).imp id fun z => List.mem_append.mpr (.inl z)⟩
        · rw [← hG] at h
          obtain ⟨e, he, rfl⟩ := List.mem_map.mp (List.mem_filter.mp h).1
          refine ⟨with_sub _ _, fun x hx => ?_⟩
          rcases (mem_with (hd e he).1 hwm).mp hx with h | h
          · exact ((hd e he).2 x h).imp id fun z => List.mem_append.mpr (.inl z)
          · exact .inr (List.mem_append.mpr (.inr (by simp [h])))⟩
  · rintro δ s' ⟨rfl, found, x2, x3, x4, rfl, ha, _⟩
    rw [List.length_map, List.drop_length, aboveF] at ha
    simp [ha]
  · rintro r s' z
    exact z.elim
theorem ok_isgreat {f : Addr} {fd : FuncData} (F : Fun K "is_greatest" "is_greatest" s_is_greatest f fd) (hm : mg "is_greatest" = some (.ref f)) (B : Bi mg) (g_WORDS : Gc K mg "WORDS" (.tup (wordsL.map strD))) {gw gh : FD} (k_with_word : Kn P w K mg base "with_word" 2 2 gw) (pw : P_with gw) (k_held_lots : Kn P w K mg base "held_lots" 1 2 gh) (ph : P_held gh) :
    ∃ g, Kn P w K mg base "is_greatest" 1 3 g ∧ P_isgreat g := by
  refine ⟨_, (kn_of (k := 2) F hm sc_is_greatest (F.binds (ps := ["design"]) fun _ _ _ _ _ _ us hl => match us, hl with | [_], _ => rfl) fun cdv A outer s H E hr => (dss_cons (ds_setLc (i := 1) (own := [("word", 2)]) rfl sc_is_greatest.nd rfl rfl (sw_true rfl rfl rfl (by decide +kernel)) (di_items (d_gc g_WORDS rfl)) (blkOk_by (N := ["design", "further", "word", "held"]) (sc := defScope s_is_greatest) (by decide +kernel)) (gt_name (i := 2) (vs := [2]) (by decide)) (fun _ _ _ _ _ => (pg_name (i := 2) sc_is_greatest.nd rfl (Or.inl rfl))) (fun _ _ _ _ _ => (dts_one (dt_cmp op_notIn_seq g_notIn (d_var 2 (pv 2)) (d_var 0 (pv 0)) (by with_unfolding_all rfl)))) (fun _ _ _ _ _ => (d_kn k_with_word (hr.mono (by omega)) rfl (da_cons (d_var 0 (pv 0)) (da_cons (d_var 2 (pv 2)) da_nil)))))
  (dss_one (ds_ret (d_callB (cr_allTu rfl) g_allTu rfl (B.get "all") (by decide +kernel) (da_cons (d_lc (own := [("held", 3)]) rfl sc_is_greatest.nd (di_items (d_var 1 (pv 1))) (blkOk_by (N := ["design", "further", "word", "held"]) (sc := defScope s_is_greatest) (by decide +kernel)) (gt_name (i := 3) (vs := [3]) (by decide)) (fun _ _ _ _ _ => (pg_name (i := 3) sc_is_greatest.nd rfl (Or.inl rfl))) (fun _ _ _ _ _ => dts_nil) (fun _ _ _ _ _ => (d_kn k_held_lots (hr.mono (by omega)) rfl (da_cons (d_var 3 (pv 3)) da_nil)))) da_nil)))))), ?_⟩
  intro ws s hs
  have c1 := compL_by (ft := gtName 2) (tt := fT (f2 dNotIn (fVar 2) (fVar 0))) (fe := fCall 2 gw (fCons (fVar 0) (fCons (fVar 2) fNil))) (δ := [some (.tup (ws.map strD)), none, none, none]) (s := s) strD (fun w => !decide (w ∈ ws)) (fun w => lotD (withM ws w)) wordsL fun w hw => ⟨_, rfl, by
    have q := dNotIn_strs w ws s
    simp [q], fun hn => by
    have := pw ws w s hs hw (by simpa using hn)
    simp only [strD] at this
    simp [lotD, this]⟩
  have c2 := compL_by (ft := gtName 3) (tt := tTrue) (fe := fCall 1 gh (fCons (fVar 3) fNil)) (δ := [some (.tup (ws.map strD)), some (.lst ((wordsL.filter fun w => !decide (w ∈ ws)).map fun w => lotD (withM ws w))), none, none]) (s := s) (fun w => lotD (withM ws w)) (fun _ => true) (fun w => .tup ((lotsAt (withM ws w)).map lotD)) (wordsL.filter fun w => !decide (w ∈ ws)) fun w _ => ⟨_, rfl, rfl, fun _ => by
    have := ph (withM ws w) s
    simp [lotD, this]⟩
  rw [List.filter_eq_self.mpr fun _ _ => rfl] at c2
  have hl : wordsL.length ≤ 10000000 := by decide
  have hl2 : (wordsL.filter fun w => !decide (w ∈ ws)).length ≤ 10000000 := Nat.le_trans (List.length_filter_le _ _) hl
  have ht : ∀ L : List String, tusD (L.map fun w => .tup ((lotsAt (withM ws w)).map lotD)) = some (L.map fun w => (lotsAt (withM ws w)).map lotD) := by
    intro L
    induction L with
    | nil => rfl
    | cons x L ih => rw [List.map_cons, List.map_cons, tusD, ih]; rfl
  unfold greatB
  generalize wordsL.filter (fun w => !decide (w ∈ ws)) = L at c1 c2 hl2 ⊢
  have e : (L.all fun w => !soundM (withM ws w)) = (L.map fun w => (lotsAt (withM ws w)).map lotD).all fun x => !x.isEmpty := by
    rw [List.all_map]
    congr 1
    funext w
    unfold soundM
    show (!(lotsAt (withM ws w)).isEmpty) = !((lotsAt (withM ws w)).map lotD).isEmpty
    cases lotsAt (withM ws w) <;> rfl
  have hA : dAllTu [.lst (L.map fun w => .tup ((lotsAt (withM ws w)).map lotD))] s = some (.bl (L.all fun w => !soundM (withM ws w))) := by
    show (tusD _).map _ = _
    rw [ht, e]; rfl
  simp [c1, c2, hl, hl2, hA, -dAllTu, -List.all_eq_true]
theorem ok_great {f : Addr} {fd : FuncData} (F : Fun K "greatest_sound" "greatest_sound" s_greatest_sound f fd) (hm : mg "greatest_sound" = some (.ref f)) (B : Bi mg) {gs ga gi : FD} {lv : Nat} (k_is_sound : Kn P w K mg base "is_sound" 1 lv gs) (ps : P_sound gs) (k_sound_above : Kn P w K mg base "sound_above" 1 lv ga) (pa : P_above ga) (k_is_greatest : Kn P w K mg base "is_greatest" 1 lv gi) (pi : P_isgreat gi) :
    ∃ g, Kn P w K mg base "greatest_sound" 1 (lv + 1) g ∧ P_great g := by
  refine ⟨_, (kn_of (k := lv) F hm sc_greatest_sound (F.binds (ps := ["design"]) fun _ _ _ _ _ _ us hl => match us, hl with | [_], _ => rfl) fun cdv A outer s H E hr => (dss_cons (ds_if (dt_not (dt_tru (d_kn k_is_sound (hr.mono (by omega)) rfl (da_cons (d_var 0 (pv 0)) da_nil)))) (dss_one ds_never) dss_nil)
  (dss_one (ds_ret (d_callTy call_tuple_ofZ g_tuple rfl (B.get "tuple") (by decide +kernel) (da_cons (d_callB cr_sortedTx g_sorted rfl (B.get "sorted") (by decide +kernel) (da_cons (d_lc (own := [("held", 1)]) rfl sc_greatest_sound.nd (di_items (d_kn k_sound_above (hr.mono (by omega)) rfl (da_cons (d_var 0 (pv 0)) da_nil))) (blkOk_by (N := ["design", "held"]) (sc := defScope s_greatest_sound) (by decide +kernel)) (gt_name (i := 1) (vs := [1]) (by decide)) (fun _ _ _ _ _ => (pg_name (i := 1) sc_greatest_sound.nd rfl (Or.inl rfl))) (fun _ _ _ _ _ => (dts_one (dt_tru (d_kn k_is_greatest (hr.mono (by omega)) rfl (da_cons (d_var 1 (pv 1)) da_nil))))) (fun _ _ _ _ _ => (d_var 1 (pv 1)))) da_nil)) da_nil)))))), ?_⟩
  intro ws s gd
  have a1 := ps ws s gd.sub
  have a2 := pa ws s gd
  rw [gd.snd] at a1
  have c1 := compL_by (ft := gtName 1) (tt := fTru (fCall 1 gi (fCons (fVar 1) fNil))) (fe := fVar 1) (δ := [some (.tup (ws.map strD)), none]) (s := s) lotD greatB lotD (aboveM ws) fun d hd => ⟨_, rfl, by
    have := pi d s (above_is gd d hd).sub
    simp [lotD, this], fun _ => by simp⟩
  have hl : (aboveM ws).length ≤ 10000000 := Nat.le_trans (above_len wordsL [ws]) (by show 1 * 2 ^ 12 ≤ 10000000; decide)
  have ht : ∀ L : List (List String), tupsD (L.map lotD) = some (L.map fun d => d.map Str.ofString) := by
    intro L
    induction L with
    | nil => rfl
    | cons x L ih => rw [List.map_cons, List.map_cons]; show (txtsD (x.map strD)).bind _ = _; rw [txts_strsL, Option.bind_some, ih]; rfl
  have hS : dSorted [.lst (((aboveM ws).filter greatB).map lotD)] s = some (.lst ((greatL ws).map tupT)) := by
    show (tupsD _).bind _ = _
    rw [ht, Option.bind_some, if_pos]
    · rfl
    · intro y hy
      obtain ⟨d, hd, rfl⟩ := List.mem_map.mp hy
      intro e
      have : d = [] := List.map_eq_nil_iff.mp e
      have h2 := (List.mem_filter.mp hd).2
      rw [this, great_nil] at h2
      cases h2
  simp [a1, a2, c1, hl, hS, -dSorted]

end
end Fw

set_option Elab.async false
set_option linter.all false
set_option maxRecDepth 100000
set_option maxHeartbeats 4000000
namespace Fw
open PySem PySem.Spec PyProof.Rows L2
section
variable {P : Program} {w : World} {K : PySem.W.Frag} {mg : Str → Option Value} {base : Heap}
def SC_l_lots_in : Scope := { kind := .function, names := [(".0", .local), ("lot", .local), ("design", .cell)], isGenerator := false, isCoroutine := false }
def P_llots_in (g : FD) : Prop := ∀ (ws : List String) (s : S), g [.tup (ws.map strD)] s = some (.lst ((lotsAt ws).map lotD), s)
def P_lsame (g : FD) : Prop := ∀ (ws : List String) (so : List Bool) (x y : Ou) (s : S), so.length ≤ 1000 → x.n.length = so.length → y.n.length = so.length → g [.tup (ws.map strD), sortsD so, ouD x, ouD y] s = some (.bl (lookM ws so x y), s)
theorem filter_nil_iff {ws l : List String} : (l.filter fun x => !decide (x ∈ ws)).isEmpty = holdsM ws l := by
  induction l with
  | nil => rfl
  | cons x l ih =>
    unfold holdsM at ih ⊢
    by_cases h : x ∈ ws
    · rw [List.filter_cons_of_neg (by simp [h]), ih]; simp [h]
    · rw [List.filter_cons_of_pos (by simp [h])]; simp [h]
theorem ok_llots_in {f : Addr} {fd : FuncData} (F : Fun K "_law_lots_in" "_law_lots_in" s_l_lots_in f fd) (hm : mg "_law_lots_in" = some (.ref f)) (B : Bi mg) {gl : FD} (k_l_lots : Kn P w K mg base "_law_lots" 0 1 gl) (pl : ∀ s, gl [] s = some (.lst (lotsL.map lotD), s)) : ∃ g, Kn P w K mg base "_law_lots_in" 1 2 g ∧ P_llots_in g := by
  refine ⟨_, (kn_of (k := 1) F hm sc_l_lots_in (F.binds (ps := ["design"]) fun _ _ _ _ _ _ us hl => match us, hl with | [_], _ => rfl) fun cdv A outer s H E hr => (dss_one (ds_ret (d_lc (own := [("lot", 1)]) rfl sc_l_lots_in.nd (di_items (d_kn0 k_l_lots (hr.mono (by omega)) rfl)) (blkOk_by (N := ["design", "lot", "word"]) (sc := defScope s_l_lots_in) (by decide +kernel)) (gt_name (i := 1) (vs := [1]) (by decide)) (fun _ _ _ _ _ => (pg_name (i := 1) sc_l_lots_in.nd rfl (Or.inl rfl))) (fun _ _ _ _ _ => (dts_one (dt_cmp (op_eqA hr.units) g_eq (d_lc (own := [("word", 2)]) rfl sc_l_lots_in.nd (di_items (d_var 1 (pv 1))) (blkOk_by (N := ["design", "lot", "word"]) (sc := SC_l_lots_in) (by decide +kernel)) (gt_name (i := 2) (vs := [2]) (by decide)) (fun _ _ _ _ _ => (pg_name (i := 2) sc_l_lots_in.nd rfl (Or.inl rfl))) (fun _ _ _ _ _ => (dts_one (dt_cmp op_notIn_seq g_notIn (d_var 2 (pv 2)) (d_var 0 (pv 0)) (by with_unfolding_all rfl)))) (fun _ _ _ _ _ => (d_var 2 (pv 2)))) (d_lst da_nil) (nomark _)))) (fun _ _ _ _ _ => (d_var 1 (pv 1))))))), ?_⟩
  intro ws s
  have e := pl s
  have h2 : lotsL.length ≤ 10000000 := by decide
  have c := compL_by (ft := gtName 1) (tt := fT (f2 dEq (fComp [2] (fItems (fVar 1)) (gtName 2) (fT (f2 dNotIn (fVar 2) (fVar 0))) (fVar 2)) (fLst fNil))) (fe := fVar 1) (δ := [some (.tup (ws.map strD)), none, none]) (s := s) lotD (holdsM ws) lotD lotsL fun l hl => by
    refine ⟨_, rfl, ?_, fun _ => by simp⟩
    have c1 := compL_strs (i := 2) (δ := [some (.tup (ws.map strD)), some (lotD l), none]) (s := s) (tt := fT (f2 dNotIn (fVar 2) (fVar 0))) (fun x => !decide (x ∈ ws)) (by simp) l fun x _ => by
      have q := dNotIn_strs x ws s
      simp [q]
    have d := deep_nil (ws := l.filter fun x => !decide (x ∈ ws)) fun x hx => lot_words l hl x (List.mem_filter.mp hx).1
    rw [filter_nil_iff] at d
    have h3 : l.length ≤ 10000000 := Nat.le_trans (by have : ∀ l ∈ lotsL, l.length ≤ 3 := by decide
                                                      exact this l hl) (by decide)
    simp only [lotD] at c1 ⊢
    simp [c1, h3, d]
  simp [e, h2, c, lotsAt]

end
end Fw

set_option Elab.async false
set_option linter.all false
set_option maxRecDepth 100000
set_option maxHeartbeats 4000000
namespace Fw
open PySem PySem.Spec PyProof.Rows L2
section
variable {P : Program} {w : World} {K : PySem.W.Frag} {mg : Str → Option Value} {base : Heap}
def P_is_secret (g : FD) : Prop := ∀ (so : List Bool) (x : Nat) (s : S), x < so.length → g [sortsD so, natD x] s = some (.bl (hid so x), s)
def P_may_change (g : FD) : Prop := ∀ (ws : List String) (t a b : Bool) (s : S), g [.tup (ws.map strD), sortD t, .bl a, .bl b] s = some (.bl (intoM ws t a b), s)
def P_rule (d : Nat) (is : Sm → Bool) (g : FD) : Prop := ∀ (ws : List String) (so : List Bool) (a : Sm) (und : Bool) (s : S), so.length ≤ 1000 → is a = true → smOk so.length d a → g [.tup (ws.map strD), sortsD so, smD a, .bl und] s = some (.bl (standsM ws so und a), s)
theorem ok_is_secret {f : Addr} {fd : FuncData} (F : Fun K "is_secret" "is_secret" s_is_secret f fd) (hm : mg "is_secret" = some (.ref f)) (B : Bi mg) :
    ∃ g, Kn P w K mg base "is_secret" 2 1 g ∧ P_is_secret g := by
  refine ⟨_, (kn_of (k := 0) F hm sc_is_secret (F.binds (ps := ["sorts", "name"]) fun _ _ _ _ _ _ us hl => match us, hl with | [_, _], _ => rfl) fun cdv A outer s H E hr => (dss_one (ds_ret (d_cmp (op_eqA hr.units) g_eq (d_ix (d_var 0 (pv 0)) (d_var 1 (pv 1)) (fun _ _ => rfl)) d_str (nomark _))))), ?_⟩
  intro so x s hx
  have hg := so_get hx
  cases h : hid so x <;> rw [h] at hg <;> simp [sortsD, natD, hg, sortD]
theorem ok_may_change {f : Addr} {fd : FuncData} (F : Fun K "may_change" "may_change" s_may_change f fd) (hm : mg "may_change" = some (.ref f)) (B : Bi mg) :
    ∃ g, Kn P w K mg base "may_change" 4 1 g ∧ P_may_change g := by
  refine ⟨_, (kn_of (k := 0) F hm sc_may_change (F.binds (ps := ["design", "sort", "from_secret", "under"]) fun _ _ _ _ _ _ us hl => match us, hl with | [_, _, _, _], _ => rfl) fun cdv A outer s H E hr => (dss_cons (ds_if (dt_cmp (op_eqA hr.units) g_eq (d_var 1 (pv 1)) d_str (nomark _)) (dss_one (ds_ret d_bl)) dss_nil)
  (dss_cons (ds_if (PW.pt (dw_and (dt_tru (d_var 2 (pv 2))) (dw_and1 (dt_cmp op_notIn_seq g_notIn d_str (d_var 0 (pv 0)) (by with_unfolding_all rfl))))) (dss_one (ds_ret d_bl)) dss_nil)
  (dss_one (ds_ret (d_or (d_not (d_var 3 (pv 3))) (d_one (d_cmp op_in_seq g_in d_str (d_var 0 (pv 0)) (by with_unfolding_all rfl))))))))), ?_⟩
  intro ws t a b s
  cases t <;> cases a <;> cases b <;> by_cases h1 : "straight" ∈ ws <;> by_cases h2 : "under" ∈ ws <;> simp [sortD, intoM, h1, h2]
section
variable {gs gm : FD} (B : Bi mg) (k_is_secret : Kn P w K mg base "is_secret" 2 1 gs) (ps : P_is_secret gs) (k_may_change : Kn P w K mg base "may_change" 4 1 gm) (pm : P_may_change gm)
include B k_is_secret ps k_may_change pm
theorem ok_sum_rule {f : Addr} {fd : FuncData} (F : Fun K "sum_may_stand" "sum_may_stand" s_sum_may_stand f fd) (hm : mg "sum_may_stand" = some (.ref f)) :
    ∃ g, Kn P w K mg base "sum_may_stand" 4 2 g ∧ ∀ d, P_rule d isSum g := by
  refine ⟨_, (kn_of (k := 1) F hm sc_sum_may_stand (F.binds (ps := ["design", "sorts", "statement", "under"]) fun _ _ _ _ _ _ us hl => match us, hl with | [_, _, _, _], _ => rfl) fun cdv A outer s H E hr => (dss_cons (ds_asg (d_slice (d_var 2 (pv 2)) (do_yes d_int) (do_yes d_int)) (pg_tup rfl (pgs_cons (pg_name (i := 4) sc_sum_may_stand.nd rfl (Or.inl rfl)) (pgs_cons (pg_name (i := 5) sc_sum_may_stand.nd rfl (Or.inl rfl)) pgs_nil))) (gt_pair (i := 4) (j := 5) (vs := [4, 5]) (by decide) (by decide)))
  (dss_cons (ds_set (i := 6) sc_sum_may_stand.nd rfl (Or.inl rfl) (d_callB (cr_any rfl) g_any rfl (B.get "any") (by decide +kernel) (da_cons (d_lc (own := [("term", 7)]) rfl sc_sum_may_stand.nd (di_items (d_var 5 (pv 5))) (blkOk_by (N := ["design", "sorts", "statement", "under", "name", "terms", "from_secret", "term"]) (sc := defScope s_sum_may_stand) (by decide +kernel)) (gt_name (i := 7) (vs := [7]) (by decide)) (fun _ _ _ _ _ => (pg_name (i := 7) sc_sum_may_stand.nd rfl (Or.inl rfl))) (fun _ _ _ _ _ => dts_nil) (fun _ _ _ _ _ => (d_kn k_is_secret (hr.mono (by omega)) rfl (da_cons (d_var 1 (pv 1)) (da_cons (d_var 7 (pv 7)) da_nil))))) da_nil)))
  (dss_one (ds_ret (d_kn k_may_change (hr.mono (by omega)) rfl (da_cons (d_var 0 (pv 0)) (da_cons (d_ix (d_var 1 (pv 1)) (d_var 4 (pv 4)) (fun _ _ => rfl)) (da_cons (d_var 6 (pv 6)) (da_cons (d_var 3 (pv 3)) da_nil)))))))))), ?_⟩
  intro d ws so a und s hl ha ok
  cases a <;> first | (cases ha) | skip
  rename_i x ts n
  obtain ⟨hx, ht, ht2, hn⟩ := ok
  let fb : D → Bool := fun d => match d with | .int i => hid so i.toNat | _ => false
  have hc : ∀ (δ : Fr), δ[1]? = some (some (.tup (so.map sortD))) → 7 < δ.length → compL (gtName 7) tTrue (fCall 2 gs (fCons (fVar 1) (fCons (fVar 7) fNil))) (ts.map natD) δ s = some ((ts.map natD).map fun d => .bl (fb d), s) := fun δ q1 hl => compL_map (fun d => .bl (fb d)) _ fun d hd => by
    obtain ⟨t, h2, rfl⟩ := List.mem_map.mp hd
    refine ⟨_, rfl, ?_⟩
    have hp := ps so t s (ht2 t h2)
    simp only [sortsD, natD] at hp
    simp [hl, natD, q1, hp, fb]
  have he : ((ts.map natD).map fb).any id = ts.any (hid so) := by
    rw [List.map_map, List.any_map]; rfl
  have hl3 : ts.length ≤ 10000000 := by omega
  have hg := so_get hx
  have hp := pm ws (hid so x) (ts.any (hid so)) und s
  have hb := blsD_map fb (ts.map natD)
  have hcut : ∀ a b c d : D, cutD [a, b, c, d] (some 1) (some 3) = [b, c] := fun _ _ _ _ => rfl
  cases h : hid so x <;> rw [h] at hg hp <;> simp [sortD, -List.any_eq_true, -List.any_eq_false] at hg hp <;> simp [smD, natD, natsD, sortsD, standsM, hl3, hcut, hc, hb, he, hg, hp, h, -List.map_map]
theorem ok_if_rule {f : Addr} {fd : FuncData} (F : Fun K "if_may_stand" "if_may_stand" s_if_may_stand f fd) (hm : mg "if_may_stand" = some (.ref f)) :
    ∃ g, Kn P w K mg base "if_may_stand" 4 2 g ∧ ∀ d, P_rule d isIf g := by
  refine ⟨_, (kn_of (k := 1) F hm sc_if_may_stand (F.binds (ps := ["design", "sorts", "statement", "under"]) fun _ _ _ _ _ _ us hl => match us, hl with | [_, _, _, _], _ => rfl) fun cdv A outer s H E hr => (dss_one (ds_ret (d_or (d_not (d_kn k_is_secret (hr.mono (by omega)) rfl (da_cons (d_var 1 (pv 1)) (da_cons (d_ix (d_var 2 (pv 2)) d_int (fun _ _ => rfl)) da_nil)))) (d_one (d_cmp op_in_seq g_in d_str (d_var 0 (pv 0)) (by with_unfolding_all rfl))))))), ?_⟩
  intro d ws so a und s hl ha ok
  cases a <;> first | (cases ha) | skip
  rename_i x p q
  have hs := ps so x s ok.1
  by_cases h1 : "ifs" ∈ ws <;> cases h : hid so x <;> rw [h] at hs <;> simp [smD, standsM, hs, h1, h]
theorem ok_times_rule {f : Addr} {fd : FuncData} (F : Fun K "times_may_stand" "times_may_stand" s_times_may_stand f fd) (hm : mg "times_may_stand" = some (.ref f)) :
    ∃ g, Kn P w K mg base "times_may_stand" 4 2 g ∧ ∀ d, P_rule d isTimes g := by
  refine ⟨_, (kn_of (k := 1) F hm sc_times_may_stand (F.binds (ps := ["design", "sorts", "statement", "under"]) fun _ _ _ _ _ _ us hl => match us, hl with | [_, _, _, _], _ => rfl) fun cdv A outer s H E hr => (dss_one (ds_ret d_bl))), ?_⟩
  intro d ws so a und s hl ha ok
  cases a <;> first | (cases ha) | skip
  simp [standsM]
theorem ok_while_rule {f : Addr} {fd : FuncData} (F : Fun K "while_may_stand" "while_may_stand" s_while_may_stand f fd) (hm : mg "while_may_stand" = some (.ref f)) :
    ∃ g, Kn P w K mg base "while_may_stand" 4 2 g ∧ ∀ d, P_rule d isWhile g := by
  refine ⟨_, (kn_of (k := 1) F hm sc_while_may_stand (F.binds (ps := ["design", "sorts", "statement", "under"]) fun _ _ _ _ _ _ us hl => match us, hl with | [_, _, _, _], _ => rfl) fun cdv A outer s H E hr => (dss_one (ds_ret (d_or (d_not (d_or (d_kn k_is_secret (hr.mono (by omega)) rfl (da_cons (d_var 1 (pv 1)) (da_cons (d_ix (d_var 2 (pv 2)) d_int (fun _ _ => rfl)) da_nil))) (d_one (d_var 3 (pv 3))))) (d_one (d_cmp op_in_seq g_in d_str (d_var 0 (pv 0)) (by with_unfolding_all rfl))))))), ?_⟩
  intro d ws so a und s hl ha ok
  cases a <;> first | (cases ha) | skip
  rename_i x b
  have hs := ps so x s ok.1
  cases und <;> by_cases h1 : "whiles" ∈ ws <;> cases h : hid so x <;> rw [h] at hs <;> simp [smD, standsM, hs, h1, h]
theorem ok_print_rule {f : Addr} {fd : FuncData} (F : Fun K "print_may_stand" "print_may_stand" s_print_may_stand f fd) (hm : mg "print_may_stand" = some (.ref f)) :
    ∃ g, Kn P w K mg base "print_may_stand" 4 2 g ∧ ∀ d, P_rule d isPrint g := by
  refine ⟨_, (kn_of (k := 1) F hm sc_print_may_stand (F.binds (ps := ["design", "sorts", "statement", "under"]) fun _ _ _ _ _ _ us hl => match us, hl with | [_, _, _, _], _ => rfl) fun cdv A outer s H E hr => (dss_cons (ds_if (PW.pt (dw_and (dt_tru (d_kn k_is_secret (hr.mono (by omega)) rfl (da_cons (d_var 1 (pv 1)) (da_cons (d_ix (d_var 2 (pv 2)) d_int (fun _ _ => rfl)) da_nil)))) (dw_and1 (dt_cmp op_notIn_seq g_notIn d_str (d_var 0 (pv 0)) (by with_unfolding_all rfl))))) (dss_one (ds_ret d_bl)) dss_nil)
  (dss_one (ds_ret (d_or (d_not (d_var 3 (pv 3))) (d_one (d_cmp op_in_seq g_in d_str (d_var 0 (pv 0)) (by with_unfolding_all rfl)))))))), ?_⟩
  intro d ws so a und s hl ha ok
  cases a <;> first | (cases ha) | skip
  rename_i x
  have hs := ps so x s ok
  cases und <;> by_cases h1 : "tells" ∈ ws <;> by_cases h2 : "prints" ∈ ws <;> cases h : hid so x <;> rw [h] at hs <;> simp [smD, standsM, hs, h1, h2, h]
theorem ok_stop_rule {f : Addr} {fd : FuncData} (F : Fun K "stop_may_stand" "stop_may_stand" s_stop_may_stand f fd) (hm : mg "stop_may_stand" = some (.ref f)) :
    ∃ g, Kn P w K mg base "stop_may_stand" 4 2 g ∧ ∀ d, P_rule d isStop g := by
  refine ⟨_, (kn_of (k := 1) F hm sc_stop_may_stand (F.binds (ps := ["design", "sorts", "statement", "under"]) fun _ _ _ _ _ _ us hl => match us, hl with | [_, _, _, _], _ => rfl) fun cdv A outer s H E hr => (dss_one (ds_ret (d_or (d_not (d_var 3 (pv 3))) (d_one (d_cmp op_in_seq g_in d_str (d_var 0 (pv 0)) (by with_unfolding_all rfl))))))), ?_⟩
  intro d ws so a und s hl ha ok
  cases a <;> first | (cases ha) | skip
  cases und <;> by_cases h1 : "stops" ∈ ws <;> simp [standsM, h1]
theorem ok_split_rule {f : Addr} {fd : FuncData} (F : Fun K "split_may_stand" "split_may_stand" s_split_may_stand f fd) (hm : mg "split_may_stand" = some (.ref f)) :
    ∃ g, Kn P w K mg base "split_may_stand" 4 2 g ∧ ∀ d, P_rule d isSplit g := by
  refine ⟨_, (kn_of (k := 1) F hm sc_split_may_stand (F.binds (ps := ["design", "sorts", "statement", "under"]) fun _ _ _ _ _ _ us hl => match us, hl with | [_, _, _, _], _ => rfl) fun cdv A outer s H E hr => (dss_cons (ds_asg (d_slice (d_var 2 (pv 2)) (do_yes d_int) do_no) (pg_tup rfl (pgs_cons (pg_name (i := 4) sc_split_may_stand.nd rfl (Or.inl rfl)) (pgs_cons (pg_name (i := 5) sc_split_may_stand.nd rfl (Or.inl rfl)) pgs_nil))) (gt_pair (i := 4) (j := 5) (vs := [4, 5]) (by decide) (by decide)))
  (dss_cons (ds_if (PW.pt (dw_and (PW.pt (dw_or (dt_tru (d_kn k_is_secret (hr.mono (by omega)) rfl (da_cons (d_var 1 (pv 1)) (da_cons (d_var 5 (pv 5)) da_nil)))) (dw_or1 (dt_tru (d_var 3 (pv 3)))))) (dw_and1 (dt_cmp op_notIn_seq g_notIn d_str (d_var 0 (pv 0)) (by with_unfolding_all rfl))))) (dss_one (ds_ret d_bl)) dss_nil)
  (dss_one (ds_ret (d_kn k_may_change (hr.mono (by omega)) rfl (da_cons (d_var 0 (pv 0)) (da_cons (d_ix (d_var 1 (pv 1)) (d_var 4 (pv 4)) (fun _ _ => rfl)) (da_cons (d_kn k_is_secret (hr.mono (by omega)) rfl (da_cons (d_var 1 (pv 1)) (da_cons (d_var 5 (pv 5)) da_nil))) (da_cons (d_var 3 (pv 3)) da_nil)))))))))), ?_⟩
  intro d ws so a und s hl ha ok
  cases a <;> first | (cases ha) | skip
  rename_i x y
  have hs := ps so y s ok.2
  have hg := so_get ok.1
  have hp := pm ws (hid so x) (hid so y) und s
  simp only [natD, sortsD] at hs hp ⊢
  cases und <;> by_cases h1 : "splits" ∈ ws <;> cases h : hid so y <;> rw [h] at hs hp <;> simp [smD, natD, standsM, hs, hg, hp, h1, h]
theorem ok_keep_rule {f : Addr} {fd : FuncData} (F : Fun K "keep_may_stand" "keep_may_stand" s_keep_may_stand f fd) (hm : mg "keep_may_stand" = some (.ref f)) :
    ∃ g, Kn P w K mg base "keep_may_stand" 4 2 g ∧ ∀ d, P_rule d isKeep g := by
  refine ⟨_, (kn_of (k := 1) F hm sc_keep_may_stand (F.binds (ps := ["design", "sorts", "statement", "under"]) fun _ _ _ _ _ _ us hl => match us, hl with | [_, _, _, _], _ => rfl) fun cdv A outer s H E hr => (dss_cons (ds_asg (d_slice (d_var 2 (pv 2)) (do_yes d_int) do_no) (pg_tup rfl (pgs_cons (pg_name (i := 4) sc_keep_may_stand.nd rfl (Or.inl rfl)) (pgs_cons (pg_name (i := 5) sc_keep_may_stand.nd rfl (Or.inl rfl)) (pgs_cons (pg_name (i := 6) sc_keep_may_stand.nd rfl (Or.inl rfl)) pgs_nil)))) (gt_tri (i := 4) (j := 5) (k := 6) (vs := [4, 5, 6]) (by decide) (by decide) (by decide)))
  (dss_cons (ds_if (PW.pt (dw_and (dt_cmp (op_eqA hr.units) g_eq (d_var 4 (pv 4)) d_str (nomark _)) (dw_and (dt_tru (d_kn k_is_secret (hr.mono (by omega)) rfl (da_cons (d_var 1 (pv 1)) (da_cons (d_var 5 (pv 5)) da_nil)))) (dw_and1 (dt_cmp op_notIn_seq g_notIn d_str (d_var 0 (pv 0)) (by with_unfolding_all rfl)))))) (dss_one (ds_ret d_bl)) dss_nil)
  (dss_one (ds_ret (d_kn k_may_change (hr.mono (by omega)) rfl (da_cons (d_var 0 (pv 0)) (da_cons (d_var 4 (pv 4)) (da_cons (d_kn k_is_secret (hr.mono (by omega)) rfl (da_cons (d_var 1 (pv 1)) (da_cons (d_var 6 (pv 6)) da_nil))) (da_cons (d_var 3 (pv 3)) da_nil)))))))))), ?_⟩
  intro d ws so a und s hl ha ok
  cases a <;> first | (cases ha) | skip
  rename_i t x y
  have hs := ps so x s ok.1
  have hs2 := ps so y s ok.2
  have hp := pm ws t (hid so y) und s
  simp only [natD, sortsD] at hs hs2 hp ⊢
  cases t <;> by_cases h1 : "marks" ∈ ws <;> cases h : hid so x <;> rw [h] at hs <;> simp [sortD] at hp <;> simp [smD, natD, sortD, standsM, hs, hs2, hp, h1, h]
theorem ok_fetch_rule {f : Addr} {fd : FuncData} (F : Fun K "fetch_may_stand" "fetch_may_stand" s_fetch_may_stand f fd) (hm : mg "fetch_may_stand" = some (.ref f)) :
    ∃ g, Kn P w K mg base "fetch_may_stand" 4 2 g ∧ ∀ d, P_rule d isFetch g := by
  refine ⟨_, (kn_of (k := 1) F hm sc_fetch_may_stand (F.binds (ps := ["design", "sorts", "statement", "under"]) fun _ _ _ _ _ _ us hl => match us, hl with | [_, _, _, _], _ => rfl) fun cdv A outer s H E hr => (dss_cons (ds_asg (d_slice (d_var 2 (pv 2)) (do_yes d_int) do_no) (pg_tup rfl (pgs_cons (pg_name (i := 4) sc_fetch_may_stand.nd rfl (Or.inl rfl)) (pgs_cons (pg_name (i := 5) sc_fetch_may_stand.nd rfl (Or.inl rfl)) (pgs_cons (pg_name (i := 6) sc_fetch_may_stand.nd rfl (Or.inl rfl)) pgs_nil)))) (gt_tri (i := 4) (j := 5) (k := 6) (vs := [4, 5, 6]) (by decide) (by decide) (by decide)))
  (dss_cons (ds_set (i := 7) sc_fetch_may_stand.nd rfl (Or.inl rfl) (d_or (d_cmp (op_eqA hr.units) g_eq (d_var 4 (pv 4)) d_str (nomark _)) (d_one (d_kn k_is_secret (hr.mono (by omega)) rfl (da_cons (d_var 1 (pv 1)) (da_cons (d_var 6 (pv 6)) da_nil))))))
  (dss_one (ds_ret (d_kn k_may_change (hr.mono (by omega)) rfl (da_cons (d_var 0 (pv 0)) (da_cons (d_ix (d_var 1 (pv 1)) (d_var 5 (pv 5)) (fun _ _ => rfl)) (da_cons (d_var 7 (pv 7)) (da_cons (d_var 3 (pv 3)) da_nil)))))))))), ?_⟩
  intro d ws so a und s hl ha ok
  cases a <;> first | (cases ha) | skip
  rename_i t x y
  have hs := ps so y s ok.2
  have hg := so_get ok.1
  have hp := pm ws (hid so x) (t || hid so y) und s
  simp only [natD, sortsD] at hs hp ⊢
  cases t <;> cases h : hid so x <;> rw [h] at hg hp <;> simp [sortD] at hg hp <;> simp [smD, natD, sortD, standsM, hs, hg, hp, h]
end

end
end Fw

set_option Elab.async false
set_option linter.all false
set_option maxRecDepth 100000
set_option maxHeartbeats 4000000
namespace Fw
open PySem PySem.Spec PyProof.Rows L2
section
variable {P : Program} {w : World} {K : PySem.W.Frag} {mg : Str → Option Value} {base : Heap}
/-- what stands within a statement -/
def withinM (ws : List String) (so : List Bool) (und : Bool) : Sm → Option (List Nat)
  | .ite x p q => match faultsM ws so (und || hid so x) 0 p with
      | some z => some (0 :: z)
      | none => (faultsM ws so (und || hid so x) 0 q).map fun z => 1 :: z
  | .times _ b => faultsM ws so und 0 b
  | .whl x b => faultsM ws so (und || hid so x) 0 b
  | _ => none
theorem faultM_within {ws : List String} {so : List Bool} {und : Bool} {a : Sm} : faultM ws so und a = if standsM ws so und a = true then withinM ws so und a else some [] := by
  cases a <;> rw [faultM] <;> rfl
def P_within (d : Nat) (g : FD) : Prop := ∀ (ws : List String) (so : List Bool) (a : Sm) (und : Bool) (s : S), so.length ≤ 1000 → smOk so.length d a → g [.tup (ws.map strD), sortsD so, smD a, .bl und] s = some (placeD (withinM ws so und a), s)
def P_branches (d : Nat) (g : FD) : Prop := ∀ (ws : List String) (so : List Bool) (x : Nat) (p q : List Sm) (und : Bool) (s : S), so.length ≤ 1000 → smOk so.length d (.ite x p q) → g [.tup (ws.map strD), sortsD so, smD (.ite x p q), .bl und] s =
  some (placeD (match faultsM ws so und 0 p with | some z => some (0 :: z) | none => (faultsM ws so und 0 q).map fun z => 1 :: z), s)
theorem ok_fault_in_branches {f : Addr} {fd : FuncData} (F : Fun K "fault_in_branches" "fault_in_branches" s_fault_in_branches f fd) (hm : mg "fault_in_branches" = some (.ref f)) (B : Bi mg) {d lv : Nat} (hd : d ≤ 100) {gf : FD} (k_first_fault : Kn P w K mg base "first_fault" 4 lv gf) (pf : 0 < d → P_check (d - 1) gf) :
    ∃ g, Kn P w K mg base "fault_in_branches" 4 (lv + 1) g ∧ P_branches d g := by
  refine ⟨_, (kn_of (k := lv) F hm sc_fault_in_branches (F.binds (ps := ["design", "sorts", "statement", "under"]) fun _ _ _ _ _ _ us hl => match us, hl with | [_, _, _, _], _ => rfl) fun cdv A outer s H E hr => (dss_cons (ds_for PassesOwn.never rfl (di_enum rfl (B.get "enumerate") (da_cons (d_slice (d_var 2 (pv 2)) (do_yes d_int) do_no) da_nil)) (pg_tup rfl (pgs_cons (pg_name (i := 4) sc_fault_in_branches.nd rfl (Or.inl rfl)) (pgs_cons (pg_name (i := 5) sc_fault_in_branches.nd rfl (Or.inl rfl)) pgs_nil))) (gt_pair (i := 4) (j := 5) (vs := [4, 5]) (by decide) (by decide)) (dss_cons (ds_set (i := 6) sc_fault_in_branches.nd rfl (Or.inl rfl) (d_kn k_first_fault (hr.mono (by omega)) rfl (da_cons (d_var 0 (pv 0)) (da_cons (d_var 1 (pv 1)) (da_cons (d_var 5 (pv 5)) (da_cons (d_var 3 (pv 3)) da_nil))))))
  (dss_one (ds_if (dt_cmp op_isNotA g_isNot (d_var 6 (pv 6)) d_non (nomark _)) (dss_one (ds_ret (d_op op_addA g_add (d_tup (da_cons (d_var 4 (pv 4)) da_nil)) (d_var 6 (pv 6))))) dss_nil))))
  (dss_one (ds_ret d_non)))), ?_⟩
  intro ws so x p q und s hl ok
  obtain ⟨hx, hp, hq, hd0, okp, okq⟩ := ok
  have h1 := pf hd0 ws so p und s hl (by omega) okp
  have h2 := pf hd0 ws so q und s hl (by omega) okq
  simp only [bodyD, sortsD] at h1 h2
  cases hz : faultsM ws so und 0 p with
  | some z =>
    have hzl := faults_len (d - 1) p und 0 z okp hz
    have hzl' : 1 + z.length ≤ 10000000 := by omega
    rw [hz] at h1
    simp [smD, bodyD, sortsD, enumD, loopF_cons, h1, placeD, hzl']
    rfl
  | none =>
    rw [hz] at h1
    cases hy : faultsM ws so und 0 q with
    | some z =>
      have hzl := faults_len (d - 1) q und 0 z okq hy
      have hzl' : 1 + z.length ≤ 10000000 := by omega
      rw [hy] at h2
      simp [smD, bodyD, sortsD, enumD, loopF_cons, h1, h2, placeD, hzl']
      rfl
    | none =>
      rw [hy] at h2
      simp [smD, bodyD, sortsD, enumD, loopF_cons, h1, h2, placeD]
theorem ok_fault_within {f : Addr} {fd : FuncData} (F : Fun K "fault_within" "fault_within" s_fault_within f fd) (hm : mg "fault_within" = some (.ref f)) (B : Bi mg) {d lv : Nat} (hlv : 1 ≤ lv) {gs gf gb : FD} (k_is_secret : Kn P w K mg base "is_secret" 2 1 gs) (ps : P_is_secret gs) (k_first_fault : Kn P w K mg base "first_fault" 4 lv gf) (pf : 0 < d → P_check (d - 1) gf)
    (k_fault_in_branches : Kn P w K mg base "fault_in_branches" 4 lv gb) (pb : P_branches d gb) :
    ∃ g, Kn P w K mg base "fault_within" 4 (lv + 1) g ∧ P_within d g := by
  refine ⟨_, (kn_of (k := lv) F hm sc_fault_within (F.binds (ps := ["design", "sorts", "statement", "under"]) fun _ _ _ _ _ _ us hl => match us, hl with | [_, _, _, _], _ => rfl) fun cdv A outer s H E hr => (dss_cons (ds_set (i := 4) sc_fault_within.nd rfl (Or.inl rfl) (d_ix (d_var 2 (pv 2)) d_int (fun _ _ => rfl)))
  (dss_cons (ds_if (dt_cmp (op_eqA hr.units) g_eq (d_var 4 (pv 4)) d_str (nomark _)) (dss_one (ds_ret (d_kn k_first_fault (hr.mono (by omega)) rfl (da_cons (d_var 0 (pv 0)) (da_cons (d_var 1 (pv 1)) (da_cons (d_ix (d_var 2 (pv 2)) d_int (fun _ _ => rfl)) (da_cons (d_var 3 (pv 3)) da_nil))))))) dss_nil)
  (dss_cons (ds_if (dt_cmp (op_eqA hr.units) g_eq (d_var 4 (pv 4)) d_str (nomark _)) (dss_one (ds_ret (d_kn k_first_fault (hr.mono (by omega)) rfl (da_cons (d_var 0 (pv 0)) (da_cons (d_var 1 (pv 1)) (da_cons (d_ix (d_var 2 (pv 2)) d_int (fun _ _ => rfl)) (da_cons (d_or (d_var 3 (pv 3)) (d_one (d_kn k_is_secret (hr.mono (by omega)) rfl (da_cons (d_var 1 (pv 1)) (da_cons (d_ix (d_var 2 (pv 2)) d_int (fun _ _ => rfl)) da_nil))))) da_nil))))))) dss_nil)
  (dss_cons (ds_if (dt_cmp (op_eqA hr.units) g_eq (d_var 4 (pv 4)) d_str (nomark _)) (dss_one (ds_ret (d_kn k_fault_in_branches (hr.mono (by omega)) rfl (da_cons (d_var 0 (pv 0)) (da_cons (d_var 1 (pv 1)) (da_cons (d_var 2 (pv 2)) (da_cons (d_or (d_var 3 (pv 3)) (d_one (d_kn k_is_secret (hr.mono (by omega)) rfl (da_cons (d_var 1 (pv 1)) (da_cons (d_ix (d_var 2 (pv 2)) d_int (fun _ _ => rfl)) da_nil))))) da_nil))))))) dss_nil)
  (dss_one (ds_ret d_non))))))), ?_⟩
  intro ws so a und s hl ok
  cases a with
  | sum x ts n => simp [smD, withinM, placeD]
  | print x => simp [smD, withinM, placeD]
  | stop => simp [smD, withinM, placeD]
  | split x y => simp [smD, withinM, placeD]
  | keep t x y => simp [smD, withinM, placeD]
  | fetch t x y => simp [smD, withinM, placeD]
  | times n b =>
    obtain ⟨_, hb, hd0, okb⟩ := ok
    have h1 := pf hd0 ws so b und s hl (by omega) okb
    simp only [bodyD, sortsD] at h1
    simp [smD, bodyD, sortsD, withinM, h1]
  | whl x b =>
    obtain ⟨hx, hb, hd0, okb⟩ := ok
    have hs := ps so x s hx
    have h1 := pf hd0 ws so b (und || hid so x) s hl (by omega) okb
    simp only [bodyD, sortsD, natD] at h1 hs
    cases und <;> cases h : hid so x <;> rw [h] at hs h1 <;> simp [smD, bodyD, sortsD, natD, withinM, h, hs] at h1 ⊢ <;> simp [h1]
  | ite x p q =>
    have hs := ps so x s ok.1
    have h1 := pb ws so x p q (und || hid so x) s hl ok
    simp only [bodyD, sortsD, natD, smD] at h1 hs
    cases und <;> cases h : hid so x <;> rw [h] at hs h1 <;> simp [smD, bodyD, sortsD, natD, withinM, h, hs] at h1 ⊢ <;> simp [h1]

end
end Fw

set_option Elab.async false
set_option linter.all false
set_option maxRecDepth 100000
set_option maxHeartbeats 4000000
namespace Fw
open PySem PySem.Spec PyProof.Rows L2
section
variable {P : Program} {w : World} {K : PySem.W.Frag} {mg : Str → Option Value} {base : Heap}
theorem ok_first_fault {f : Addr} {fd : FuncData} (F : Fun K "first_fault" "first_fault" s_first_fault f fd) (hm : mg "first_fault" = some (.ref f)) (B : Bi mg) {d lv : Nat} (hd : d ≤ 100) {gs gw : FD} (k_may_stand : Kn P w K mg base "may_stand" 4 lv gs) (ps : P_stands gs) (k_fault_within : Kn P w K mg base "fault_within" 4 lv gw) (pw : P_within d gw) :
    ∃ g, Kn P w K mg base "first_fault" 4 (lv + 1) g ∧ P_check d g := by
  refine ⟨_, (kn_of (k := lv) F hm sc_first_fault (F.binds (ps := ["design", "sorts", "body", "under"]) fun _ _ _ _ _ _ us hl => match us, hl with | [_, _, _, _], _ => rfl) fun cdv A outer s H E hr => (dss_cons (ds_for PassesOwn.never rfl (di_enum rfl (B.get "enumerate") (da_cons (d_var 2 (pv 2)) da_nil)) (pg_tup rfl (pgs_cons (pg_name (i := 4) sc_first_fault.nd rfl (Or.inl rfl)) (pgs_cons (pg_name (i := 5) sc_first_fault.nd rfl (Or.inl rfl)) pgs_nil))) (gt_pair (i := 4) (j := 5) (vs := [4, 5]) (by decide) (by decide)) (dss_cons (ds_if (dt_not (dt_tru (d_kn k_may_stand (hr.mono (by omega)) rfl (da_cons (d_var 0 (pv 0)) (da_cons (d_var 1 (pv 1)) (da_cons (d_var 5 (pv 5)) (da_cons (d_var 3 (pv 3)) da_nil))))))) (dss_one (ds_ret (d_tup (da_cons (d_var 4 (pv 4)) da_nil)))) dss_nil)
  (dss_cons (ds_set (i := 6) sc_first_fault.nd rfl (Or.inl rfl) (d_kn k_fault_within (hr.mono (by omega)) rfl (da_cons (d_var 0 (pv 0)) (da_cons (d_var 1 (pv 1)) (da_cons (d_var 5 (pv 5)) (da_cons (d_var 3 (pv 3)) da_nil))))))
  (dss_one (ds_if (dt_cmp op_isNotA g_isNot (d_var 6 (pv 6)) d_non (nomark _)) (dss_one (ds_ret (d_op op_addA g_add (d_tup (da_cons (d_var 4 (pv 4)) da_nil)) (d_var 6 (pv 6))))) dss_nil)))))
  (dss_one (ds_ret d_non)))), ?_⟩
  intro ws so b und s hl hb ok
  have e0 : startD 7 [.tup (ws.map strD), sortsD so, .tup (smsD b), .bl und] = [some (.tup (ws.map strD)), some (sortsD so), some (.tup (smsD b)), some (.bl und), none, none, none] := rfl
  simp only [fBody_e, fSeq_e, fFor_e, fEnum_e, fCons_e, fVar_e, fNil_e, List.length_cons, List.length_nil, Nat.zero_add, Nat.reduceAdd, e0, List.getElem?_cons_zero, List.getElem?_cons_succ, kVar_s, kCons_s, kCons'_s, bodyD, kEnum_s, kFor_s]
  refine kSeq_loop (fun i δ s' => s' = s ∧ (∃ x1 x2 x3, δ = [some (.tup (ws.map strD)), some (sortsD so), some (.tup (smsD b)), some (.bl und), x1, x2, x3]) ∧ faultsM ws so und 0 b = faultsM ws so und i (b.drop i))
    (fun r s' => s' = s ∧ r = placeD (faultsM ws so und 0 b)) ⟨rfl, ⟨_, _, _, rfl⟩, rfl⟩ ?_ ?_ ?_
  · rintro i dd δ s' hi ⟨rfl, ⟨x1, x2, x3, rfl⟩, hf⟩
    obtain ⟨y, hy, rfl⟩ := enumD_get hi
    have hil : i < b.length := by
      have := (List.getElem?_eq_some_iff.mp hy).1
      rwa [smsD_length] at this
    have hbi : b[i]? = some b[i] := List.getElem?_eq_getElem hil
    have hyb : y = smD b[i] := by
      rw [smsD_map, List.getElem?_map, hbi] at hy
      exact (Option.some.inj hy).symm
    have oka : smOk so.length d b[i] := smsOk_iff.mp ok _ (List.getElem_mem hil)
    rw [drop_get hbi, faultsM, faultM_within] at hf
    have hs := ps ws so b[i] d und s' hl oka
    have hw := pw ws so b[i] und s' hl oka
    rw [hyb]
    clear hyb hy hi hbi
    revert hf hs hw
    generalize smD b[i] = sa
    cases hst : standsM ws so und b[i] with
    | false =>
      intro hf hs hw
      rw [if_neg Bool.false_ne_true] at hf
      refine ⟨_, rfl, .inr ⟨.tup [natD i], s', ?_, rfl, ?_⟩⟩
      · simp [hs, natD]
      · rw [hf]; rfl
    | true =>
      intro hf hs hw
      rw [if_pos rfl] at hf
      refine ⟨_, rfl, ?_⟩
      cases hz : withinM ws so und b[i] with
      | none =>
        rw [hz] at hf hw
        simp only [placeD] at hw
        exact .inl ⟨_, s', (by simp [hs, hw]; exact ⟨rfl, rfl, rfl⟩), rfl, ⟨_, _, _, rfl⟩, hf⟩
      | some z =>
        rw [hz] at hf hw
        have hzl := faults_len d b und 0 _ ok hf
        rw [List.length_cons] at hzl
        have hzl' : 1 + z.length ≤ 10000000 := by omega
        simp only [placeD] at hw
        exact .inr ⟨_, s', (by simp [hs, hw, hzl']; rfl), rfl, by rw [hf]; simp [placeD, natD]⟩
  · rintro δ s' ⟨rfl, ⟨x1, x2, x3, rfl⟩, hf⟩
    rw [enumD_length, smsD_length, List.drop_length, faultsM] at hf
    simp [hf, placeD]
  · rintro r s' ⟨rfl, rfl⟩
    rfl
def P_fault (g : FD) : Prop := ∀ (ws : List String) (so : List Bool) (b : List Sm) (s : S), ws.Sublist wordsL → 1 ≤ so.length → so.length ≤ 6 → smsOk so.length 2 b → b.length ≤ 8 → g [.tup (ws.map strD), .tup [sortsD so, bodyD b]] s = some (placeD (faultsM ws so false 0 b), s)
def P_lets_by (g : FD) : Prop := ∀ (ws : List String) (so : List Bool) (b : List Sm) (s : S), ws.Sublist wordsL → 1 ≤ so.length → so.length ≤ 6 → smsOk so.length 2 b → b.length ≤ 8 → g [.tup (ws.map strD), .tup [sortsD so, bodyD b]] s = some (.bl (faultsM ws so false 0 b).isNone, s)
theorem ok_fault {f : Addr} {fd : FuncData} (F : Fun K "fault" "fault" s_fault f fd) (hm : mg "fault" = some (.ref f)) (B : Bi mg) {lv : Nat} {gd gp gf : FD} (k_check_design : Kn P w K mg base "check_design" 1 lv gd) (pd : P_check_design gd) (k_check_program : Kn P w K mg base "check_program" 1 lv gp) (pp : P_check_program gp)
    (k_first_fault : Kn P w K mg base "first_fault" 4 lv gf) (pf : P_check 2 gf) : ∃ g, Kn P w K mg base "fault" 2 (lv + 1) g ∧ P_fault g := by
  refine ⟨_, (kn_of (k := lv) F hm sc_fault (F.binds (ps := ["design", "program"]) fun _ _ _ _ _ _ us hl => match us, hl with | [_, _], _ => rfl) fun cdv A outer s H E hr => (dss_cons (ds_expr (d_kn k_check_design (hr.mono (by omega)) rfl (da_cons (d_var 0 (pv 0)) da_nil)))
  (dss_cons (ds_expr (d_kn k_check_program (hr.mono (by omega)) rfl (da_cons (d_var 1 (pv 1)) da_nil)))
  (dss_cons (ds_asg (d_var 1 (pv 1)) (pg_tup rfl (pgs_cons (pg_name (i := 2) sc_fault.nd rfl (Or.inl rfl)) (pgs_cons (pg_name (i := 3) sc_fault.nd rfl (Or.inl rfl)) pgs_nil))) (gt_pair (i := 2) (j := 3) (vs := [2, 3]) (by decide) (by decide)))
  (dss_one (ds_ret (d_kn k_first_fault (hr.mono (by omega)) rfl (da_cons (d_var 0 (pv 0)) (da_cons (d_var 2 (pv 2)) (da_cons (d_var 3 (pv 3)) (da_cons d_bl da_nil))))))))))), ?_⟩
  intro ws so b s hw h1 h2 ok hb
  have e1 := pd ws s hw
  have e2 := pp so b s h1 h2 ok hb
  have e3 := pf ws so b false s (by omega) (by omega) ok
  simp only [desD] at e1
  simp [e1, e2, e3]
theorem ok_lets_by {f : Addr} {fd : FuncData} (F : Fun K "lets_by" "lets_by" s_lets_by f fd) (hm : mg "lets_by" = some (.ref f)) (B : Bi mg) {lv : Nat} {gf : FD} (k_fault : Kn P w K mg base "fault" 2 lv gf) (pf : P_fault gf) : ∃ g, Kn P w K mg base "lets_by" 2 (lv + 1) g ∧ P_lets_by g := by
  refine ⟨_, (kn_of (k := lv) F hm sc_lets_by (F.binds (ps := ["design", "program"]) fun _ _ _ _ _ _ us hl => match us, hl with | [_, _], _ => rfl) fun cdv A outer s H E hr => (dss_one (ds_ret (d_cmp op_isA g_is (d_kn k_fault (hr.mono (by omega)) rfl (da_cons (d_var 0 (pv 0)) (da_cons (d_var 1 (pv 1)) da_nil))) d_non (nomark _))))), ?_⟩
  intro ws so b s hw h1 h2 ok hb
  have e := pf ws so b s hw h1 h2 ok hb
  cases h : faultsM ws so false 0 b <;> rw [h] at e <;> simp only [placeD] at e <;> simp [e]

end
end Fw

set_option Elab.async false
set_option linter.all false
set_option maxRecDepth 100000
set_option maxHeartbeats 4000000
namespace Fw
open PySem PySem.Spec PyProof.Rows L2
section
variable {P : Program} {w : World} {K : PySem.W.Frag} {mg : Str → Option Value} {base : Heap}
def P_opens (g : FD) : Prop := ∀ (so : List Bool) (ns : List Nat) (s : S), so.length ≤ 1000 → g [sortsD so, natsD ns] s = some (.lst ((opensM so ns).map natD), s)
def P_isfin (g : FD) : Prop := ∀ (x : Ou) (s : S), g [ouD x] s = some (.bl (endS x), s)
def P_begins (g : FD) : Prop := ∀ (p q : List Nat) (s : S), g [natsD p, natsD q] s = some (.bl (beginM p q), s)
def P_same (g : FD) : Prop := ∀ (ws : List String) (so : List Bool) (x y : Ou) (s : S), so.length ≤ 1000 → g [.tup (ws.map strD), sortsD so, ouD x, ouD y] s = some (.bl (sameM ws so x y), s)
def P_look (g : FD) : Prop := ∀ (ws : List String) (so : List Bool) (x y : Ou) (s : S), so.length ≤ 1000 → g [.tup (ws.map strD), sortsD so, ouD x, ouD y] s = some (.bl (lookM ws so x y), s)
def P_alikeL (g : FD) : Prop := ∀ (ws : List String) (so : List Bool) (b : List Sm) (one other : List Nat) (s : S), Fin s → ws.Sublist wordsL → 1 ≤ so.length → so.length ≤ 6 → smsOk so.length 2 b → b.length ≤ 8 → one.length = so.length → other.length = so.length → (∀ n ∈ one, n < 10) → (∀ n ∈ other, n < 10) → opensM so one = opensM so other →
  g [.tup (ws.map strD), .tup [sortsD so, bodyD b], natsD one, natsD other] s = some (.bl (lookM ws so (runO b one) (runO b other)), s)
theorem ok_opens {f : Addr} {fd : FuncData} (F : Fun K "open_numbers" "open_numbers" s_open_numbers f fd) (hm : mg "open_numbers" = some (.ref f)) (B : Bi mg) :
    ∃ g, Kn P w K mg base "open_numbers" 2 1 g ∧ P_opens g := by
  refine ⟨_, (kn_of (k := 0) F hm sc_open_numbers (F.binds (ps := ["sorts", "numbers"]) fun _ _ _ _ _ _ us hl => match us, hl with | [_, _], _ => rfl) fun cdv A outer s H E hr => (dss_one (ds_ret (d_lc (own := [("sort", 2), ("number", 3)]) rfl sc_open_numbers.nd (di_zip rfl (B.get "zip") (da_cons (d_var 0 (pv 0)) (da_cons (d_var 1 (pv 1)) da_nil))) (blkOk_by (N := ["sorts", "numbers", "sort", "number"]) (sc := defScope s_open_numbers) (by decide +kernel)) (gt_pair (i := 2) (j := 3) (vs := [2, 3]) (by decide) (by decide)) (fun _ _ _ _ _ => (pg_tup rfl (pgs_cons (pg_name (i := 2) sc_open_numbers.nd rfl (Or.inl rfl)) (pgs_cons (pg_name (i := 3) sc_open_numbers.nd rfl (Or.inl rfl)) pgs_nil)))) (fun _ _ _ _ _ => (dts_one (dt_cmp (op_eqA hr.units) g_eq (d_var 2 (pv 2)) d_str (nomark _)))) (fun _ _ _ _ _ => (d_var 3 (pv 3))))))), ?_⟩
  intro so ns s hl
  have h1 : min so.length ns.length ≤ 10000000 := by omega
  have h2 : (zipD (so.map sortD) (ns.map natD)).length ≤ 10000000 := by rw [zipD_length, List.length_map, List.length_map]; exact h1
  have c := compL_opens (i := 2) (j := 3) (δ := [some (sortsD so), some (natsD ns), none, none]) (s := s) (by simp) (by simp) (by decide) so ns
  simp only [sortsD, natsD] at c ⊢
  simp [h2, c]
theorem ok_isfin {f : Addr} {fd : FuncData} (F : Fun K "is_finished" "is_finished" s_is_finished f fd) (hm : mg "is_finished" = some (.ref f)) (B : Bi mg) :
    ∃ g, Kn P w K mg base "is_finished" 1 1 g ∧ P_isfin g := by
  refine ⟨_, (kn_of (k := 0) F hm sc_is_finished (F.binds (ps := ["seen"]) fun _ _ _ _ _ _ us hl => match us, hl with | [_], _ => rfl) fun cdv A outer s H E hr => (dss_one (ds_ret (d_cmp op_in_seq g_in (d_ix (d_var 0 (pv 0)) d_int (fun _ _ => rfl)) (d_tup (da_cons d_str (da_cons d_str da_nil))) (by with_unfolding_all rfl))))), ?_⟩
  intro x s
  have h := dIn_strs x.h ["ends", "stops"] s
  simp only [List.map_cons, List.map_nil, strD] at h
  simp [ouD, strD, h, endS]
theorem ok_begins {f : Addr} {fd : FuncData} (F : Fun K "one_begins_other" "one_begins_other" s_one_begins_other f fd) (hm : mg "one_begins_other" = some (.ref f)) (B : Bi mg) :
    ∃ g, Kn P w K mg base "one_begins_other" 2 1 g ∧ P_begins g := by
  refine ⟨_, (kn_of (k := 0) F hm sc_one_begins_other (F.binds (ps := ["one", "other"]) fun _ _ _ _ _ _ us hl => match us, hl with | [_, _], _ => rfl) fun cdv A outer s H E hr => (dss_cons (ds_set (i := 2) sc_one_begins_other.nd rfl (Or.inl rfl) (d_callB (call_min2 rfl) g_min2 rfl (B.get "min") (by decide +kernel) (da_cons (d_callB call_len g_len rfl (B.get "len") (by decide +kernel) (da_cons (d_var 0 (pv 0)) da_nil)) (da_cons (d_callB call_len g_len rfl (B.get "len") (by decide +kernel) (da_cons (d_var 1 (pv 1)) da_nil)) da_nil))))
  (dss_one (ds_ret (d_cmp (op_eqA hr.units) g_eq (d_slice (d_var 0 (pv 0)) do_no (do_yes (d_var 2 (pv 2)))) (d_slice (d_var 1 (pv 1)) do_no (do_yes (d_var 2 (pv 2)))) (nomark _)))))), ?_⟩
  intro p q s
  have e : (if q.length < p.length then ((q.length : Nat) : Int) else ((p.length : Nat) : Int)) = ((min p.length q.length : Nat) : Int) := by split <;> omega
  have c1 := cut_pre (p.map natD) (min p.length q.length)
  have c2 := cut_pre (q.map natD) (min p.length q.length)
  rw [← List.map_take] at c1 c2
  have d := deep_natsT (p.take (min p.length q.length)) (q.take (min p.length q.length))
  simp [natsD, e, c1, c2, d, beginM, -List.map_take]
theorem ok_same {f : Addr} {fd : FuncData} (F : Fun K "same_at_end" "same_at_end" s_same_at_end f fd) (hm : mg "same_at_end" = some (.ref f)) (B : Bi mg) {go : FD} (k_open_numbers : Kn P w K mg base "open_numbers" 2 1 go) (po : P_opens go) :
    ∃ g, Kn P w K mg base "same_at_end" 4 2 g ∧ P_same g := by
  refine ⟨_, (kn_of (k := 1) F hm sc_same_at_end (F.binds (ps := ["design", "sorts", "one", "other"]) fun _ _ _ _ _ _ us hl => match us, hl with | [_, _, _, _], _ => rfl) fun cdv A outer s H E hr => (dss_cons (ds_if (dt_cmp (op_neA hr.units) g_ne (d_kn k_open_numbers (hr.mono (by omega)) rfl (da_cons (d_var 1 (pv 1)) (da_cons (d_ix (d_var 2 (pv 2)) d_int (fun _ _ => rfl)) da_nil))) (d_kn k_open_numbers (hr.mono (by omega)) rfl (da_cons (d_var 1 (pv 1)) (da_cons (d_ix (d_var 3 (pv 3)) d_int (fun _ _ => rfl)) da_nil))) (nomark _)) (dss_one (ds_ret d_bl)) dss_nil)
  (dss_cons (ds_if (dt_cmp (op_neA hr.units) g_ne (d_ix (d_ix (d_var 2 (pv 2)) d_int (fun _ _ => rfl)) d_int (fun _ _ => rfl)) (d_ix (d_ix (d_var 3 (pv 3)) d_int (fun _ _ => rfl)) d_int (fun _ _ => rfl)) (nomark _)) (dss_one (ds_ret d_bl)) dss_nil)
  (dss_cons (ds_if (PW.pt (dw_and (dt_cmp op_in_seq g_in d_str (d_var 0 (pv 0)) (by with_unfolding_all rfl)) (dw_and1 (dt_cmp (op_neA hr.units) g_ne (d_ix (d_var 2 (pv 2)) d_int (fun _ _ => rfl)) (d_ix (d_var 3 (pv 3)) d_int (fun _ _ => rfl)) (nomark _))))) (dss_one (ds_ret d_bl)) dss_nil)
  (dss_one (ds_ret (d_or (d_cmp op_notIn_seq g_notIn d_str (d_var 0 (pv 0)) (by with_unfolding_all rfl)) (d_one (d_cmp (op_eqA hr.units) g_eq (d_ix (d_var 2 (pv 2)) d_int (fun _ _ => rfl)) (d_ix (d_var 3 (pv 3)) d_int (fun _ _ => rfl)) (nomark _)))))))))), ?_⟩
  intro ws so x y s hl
  have o1 := po so x.n s hl
  have o2 := po so y.n s hl
  have d0 := deep_natsL (opensM so x.n) (opensM so y.n)
  have d1 := deep_natsT x.o y.o
  have d2 := deep_natsT x.p y.p
  have i1 := dIn_strs "steps seen" ws s
  have i2 := dNotIn_strs "prints seen" ws s
  simp only [natsD] at o1 o2
  unfold sameM
  by_cases h0 : opensM so x.n = opensM so y.n
  · rw [if_neg (not_not_intro h0)]
    rw [h0] at d0 o1
    by_cases h1 : x.o = y.o
    · rw [if_neg (not_not_intro h1)]
      rw [h1] at d1
      by_cases h2 : "steps seen" ∈ ws
      · by_cases h3 : x.t = y.t
        · rw [if_neg (fun z => z.2 h3)]
          by_cases h4 : "prints seen" ∈ ws <;> simp [ouD, natsD, natD, o1, o2, d0, d1, d2, i1, i2, h1, h2, h3, h4]
        · rw [if_pos ⟨h2, h3⟩]
          have h3' : ¬ ((x.t : Int) = (y.t : Int)) := by omega
          simp [ouD, natsD, natD, o1, o2, d0, d1, d2, i1, i2, h1, h2, h3, h3']
      · rw [if_neg (fun z => h2 z.1)]
        by_cases h4 : "prints seen" ∈ ws <;> simp [ouD, natsD, natD, o1, o2, d0, d1, d2, i1, i2, h1, h2, h4]
    · rw [if_pos h1]
      simp [ouD, natsD, natD, o1, o2, d0, d1, d2, i1, i2, h1]
  · rw [if_pos h0]
    simp [ouD, natsD, natD, o1, o2, d0, d1, d2, i1, i2, h0]
theorem ok_look {f : Addr} {fd : FuncData} (F : Fun K "look_alike" "look_alike" s_look_alike f fd) (hm : mg "look_alike" = some (.ref f)) (B : Bi mg) {gf gs gb : FD} (k_is_finished : Kn P w K mg base "is_finished" 1 1 gf) (pf : P_isfin gf) (k_same_at_end : Kn P w K mg base "same_at_end" 4 2 gs) (ps : P_same gs) (k_one_begins_other : Kn P w K mg base "one_begins_other" 2 1 gb) (pb : P_begins gb) :
    ∃ g, Kn P w K mg base "look_alike" 4 3 g ∧ P_look g := by
  refine ⟨_, (kn_of (k := 2) F hm sc_look_alike (F.binds (ps := ["design", "sorts", "one", "other"]) fun _ _ _ _ _ _ us hl => match us, hl with | [_, _, _, _], _ => rfl) fun cdv A outer s H E hr => (dss_cons (ds_if (PW.pt (dw_and (dt_cmp op_in_seq g_in d_str (d_var 0 (pv 0)) (by with_unfolding_all rfl)) (dw_and1 (dt_cmp (op_neA hr.units) g_ne (d_ix (d_var 2 (pv 2)) d_int (fun _ _ => rfl)) (d_ix (d_var 3 (pv 3)) d_int (fun _ _ => rfl)) (nomark _))))) (dss_one (ds_ret d_bl)) dss_nil)
  (dss_cons (ds_if (PW.pt (dw_and (dt_tru (d_kn k_is_finished (hr.mono (by omega)) rfl (da_cons (d_var 2 (pv 2)) da_nil))) (dw_and1 (dt_tru (d_kn k_is_finished (hr.mono (by omega)) rfl (da_cons (d_var 3 (pv 3)) da_nil)))))) (dss_one (ds_ret (d_kn k_same_at_end (hr.mono (by omega)) rfl (da_cons (d_var 0 (pv 0)) (da_cons (d_var 1 (pv 1)) (da_cons (d_var 2 (pv 2)) (da_cons (d_var 3 (pv 3)) da_nil))))))) dss_nil)
  (dss_one (ds_ret (d_or (d_cmp op_notIn_seq g_notIn d_str (d_var 0 (pv 0)) (by with_unfolding_all rfl)) (d_one (d_kn k_one_begins_other (hr.mono (by omega)) rfl (da_cons (d_ix (d_var 2 (pv 2)) d_int (fun _ _ => rfl)) (da_cons (d_ix (d_var 3 (pv 3)) d_int (fun _ _ => rfl)) da_nil)))))))))), ?_⟩
  intro ws so x y s hl
  have f1 := pf x s
  have f2 := pf y s
  have q1 := ps ws so x y s hl
  have q2 := pb x.p y.p s
  have i1 := dIn_strs "ends seen" ws s
  have i2 := dNotIn_strs "prints seen" ws s
  unfold lookM
  have hx : ouD x = .tup [.str (Str.ofString x.h), natsD x.n, .tup [natsD x.o, natsD x.e], natsD x.p, natD x.t] := rfl
  have hy : ouD y = .tup [.str (Str.ofString y.h), natsD y.n, .tup [natsD y.o, natsD y.e], natsD y.p, natD y.t] := rfl
  rw [hx] at f1 q1
  rw [hy] at f2 q1
  have tail : ∀ (z : Bool), z = (endS x && endS y) → True := fun _ _ => trivial
  by_cases h0 : "ends seen" ∈ ws ∧ x.h ≠ y.h
  · rw [if_pos h0]
    obtain ⟨a, b⟩ := h0
    simp [hx, hy, i1, a, b]
  · rw [if_neg h0]
    by_cases h1 : "ends seen" ∈ ws
    · have h2 : x.h = y.h := Decidable.byContradiction fun z => h0 ⟨h1, z⟩
      cases e1 : endS x <;> cases e2 : endS y <;> rw [e1] at f1 <;> rw [e2] at f2 <;> by_cases h4 : "prints seen" ∈ ws <;> simp [hx, hy, i1, i2, h1, h2, h4, f1, f2, q1, q2] <;> simp_all
    · cases e1 : endS x <;> cases e2 : endS y <;> rw [e1] at f1 <;> rw [e2] at f2 <;> by_cases h4 : "prints seen" ∈ ws <;> simp [hx, hy, i1, i2, h1, h4, f1, f2, q1, q2]
theorem ok_alikeL {f : Addr} {fd : FuncData} (F : Fun K "alike" "alike" s_alike f fd) (hm : mg "alike" = some (.ref f)) (B : Bi mg) {gd gc gs go gl gu : FD} {lv : Nat} (hlv : 3 ≤ lv) (k_check_design : Kn P w K mg base "check_design" 1 lv gd) (pd : P_check_design gd) (k_check_program : Kn P w K mg base "check_program" 1 lv gc) (pc : P_check_program gc)
    (k_check_start : Kn P w K mg base "check_start" 2 lv gs) (ps : P_check_start gs) (k_open_numbers : Kn P w K mg base "open_numbers" 2 lv go) (po : P_opens go) (k_look_alike : Kn P w K mg base "look_alike" 4 lv gl) (pl : P_look gl) (k_outcome : Kn P w K mg base "outcome" 2 lv gu) (pu : P_out gu) :
    ∃ g, Kn P w K mg base "alike" 4 (lv + 1) g ∧ P_alikeL g := by
  refine ⟨_, (kn_of (k := lv) F hm sc_alike (F.binds (ps := ["design", "program", "one", "other"]) fun _ _ _ _ _ _ us hl => match us, hl with | [_, _, _, _], _ => rfl) fun cdv A outer s H E hr => (dss_cons (ds_expr (d_kn k_check_design (hr.mono (by omega)) rfl (da_cons (d_var 0 (pv 0)) da_nil)))
  (dss_cons (ds_expr (d_kn k_check_program (hr.mono (by omega)) rfl (da_cons (d_var 1 (pv 1)) da_nil)))
  (dss_cons (ds_expr (d_kn k_check_start (hr.mono (by omega)) rfl (da_cons (d_var 1 (pv 1)) (da_cons (d_var 2 (pv 2)) da_nil))))
  (dss_cons (ds_expr (d_kn k_check_start (hr.mono (by omega)) rfl (da_cons (d_var 1 (pv 1)) (da_cons (d_var 3 (pv 3)) da_nil))))
  (dss_cons (ds_set (i := 4) sc_alike.nd rfl (Or.inl rfl) (d_ix (d_var 1 (pv 1)) d_int (fun _ _ => rfl)))
  (dss_cons (ds_if (dt_cmp (op_neA hr.units) g_ne (d_kn k_open_numbers (hr.mono (by omega)) rfl (da_cons (d_var 4 (pv 4)) (da_cons (d_var 2 (pv 2)) da_nil))) (d_kn k_open_numbers (hr.mono (by omega)) rfl (da_cons (d_var 4 (pv 4)) (da_cons (d_var 3 (pv 3)) da_nil))) (nomark _)) (dss_one ds_never) dss_nil)
  (dss_one (ds_ret (d_kn k_look_alike (hr.mono (by omega)) rfl (da_cons (d_var 0 (pv 0)) (da_cons (d_var 4 (pv 4)) (da_cons (d_kn k_outcome (hr.mono (by omega)) rfl (da_cons (d_var 1 (pv 1)) (da_cons (d_var 2 (pv 2)) da_nil))) (da_cons (d_kn k_outcome (hr.mono (by omega)) rfl (da_cons (d_var 1 (pv 1)) (da_cons (d_var 3 (pv 3)) da_nil))) da_nil)))))))))))))), ?_⟩
  intro ws so b one other s hf hw h1 h2 ok hb l1 l2 v1 v2 he
  have a1 := pd ws s hw
  have a2 := pc so b s h1 h2 ok hb
  have a3 := ps so b one s l1 (by omega) v1
  have a4 := ps so b other s l2 (by omega) v2
  have a5 := po so one s (by omega)
  have a6 := po so other s (by omega)
  have a7 := pu s so b one hf h1 h2 (by rw [l1]; exact ok) hb l1 v1
  have a8 := pu s so b other hf h1 h2 (by rw [l2]; exact ok) hb l2 v2
  have a9 := pl ws so (runO b one) (runO b other) s (by omega)
  rw [← runD_ou, ← runD_ou] at a9
  have d0 := deep_natsL (opensM so other) (opensM so other)
  rw [he] at a5
  rw [decide_eq_true rfl] at d0
  simp only [desD] at a1
  simp [a1, a2, a3, a4, a5, a6, a7, a8, a9, d0]

end
end Fw

set_option Elab.async false
set_option linter.all false
set_option maxRecDepth 100000
set_option maxHeartbeats 4000000
namespace Fw
open PySem PySem.Spec PyProof.Rows L2
section
variable {P : Program} {w : World} {K : PySem.W.Frag} {mg : Str → Option Value} {base : Heap}
def P_likeS (g : FD) : Prop := ∀ (so : List Bool) (ns : List Nat) (s : S), ns.length = so.length → so.length ≤ 1000 → so.count true ≤ 2 → g [sortsD so, natsD ns] s = some (.lst ((startsM so ns).map natsD), s)
def P_leak (g : FD) : Prop := ∀ (ws : List String) (so : List Bool) (b : List Sm) (ns : List Nat) (s : S), Fin s → ws.Sublist wordsL → 1 ≤ so.length → so.length ≤ 6 → smsOk so.length 2 b → b.length ≤ 8 → ns.length = so.length → (∀ n ∈ ns, n < 10) → so.count true ≤ 2 →
  g [.tup (ws.map strD), .tup [sortsD so, bodyD b], natsD ns] s = some (placeD (leakM ws so b ns), s)
theorem rg10 : rangeD 0 10 = (List.range 10).map natD := by rfl
theorem ok_like {f : Addr} {fd : FuncData} (F : Fun K "starts_like" "starts_like" s_starts_like f fd) (hm : mg "starts_like" = some (.ref f)) (B : Bi mg) (g_HIGHEST : Gc K mg "HIGHEST" (.int 9)) : ∃ g, Kn P w K mg base "starts_like" 2 1 g ∧ P_likeS g := by
  refine ⟨_, (kn_of (k := 0) F hm sc_starts_like (F.binds (ps := ["sorts", "start"]) fun _ _ _ _ _ _ us hl => match us, hl with | [_, _], _ => rfl) fun cdv A outer s H E hr => (dss_cons (ds_set (i := 2) sc_starts_like.nd rfl (Or.inl rfl) (d_lst (da_cons (d_tup da_nil) da_nil)))
  (dss_cons (ds_for PassesOwn.never rfl (di_zip rfl (B.get "zip") (da_cons (d_var 0 (pv 0)) (da_cons (d_var 1 (pv 1)) da_nil))) (pg_tup rfl (pgs_cons (pg_name (i := 3) sc_starts_like.nd rfl (Or.inl rfl)) (pgs_cons (pg_name (i := 4) sc_starts_like.nd rfl (Or.inl rfl)) pgs_nil))) (gt_pair (i := 3) (j := 4) (vs := [3, 4]) (by decide) (by decide)) (dss_cons (ds_set (i := 5) sc_starts_like.nd rfl (Or.inr rfl) (d_if (dt_cmp (op_eqA hr.units) g_eq (d_var 3 (pv 3)) d_str (nomark _)) (d_lst (da_cons (d_var 4 (pv 4)) da_nil)) (d_listRg rfl rfl (B.get "list") rfl (B.get "range") (d_op op_addA g_add (d_gc g_HIGHEST rfl) d_int))))
  (dss_one (ds_setLc2 (i := 2) (own := [("begun", 6), ("choice", 7)]) (vs1 := [7]) rfl sc_starts_like.nd rfl rfl (sw_true rfl rfl rfl (by decide +kernel)) (di_items (d_var 2 (pv 2))) (blkOk_by (N := ["sorts", "start", "starts", "sort", "number", "choices", "begun", "choice"]) (sc := defScope s_starts_like) (by decide +kernel)) (by decide) (gt_name (i := 6) (vs := [6, 7]) (by decide)) (gt_name (i := 7) (vs := [7]) (by decide)) (fun _ _ _ _ _ => (pg_name (i := 6) sc_starts_like.nd rfl (Or.inl rfl))) (fun _ _ _ _ _ => dts_nil) (fun _ _ _ _ _ => (dy_items (d_var 5 (pv 5)))) (fun _ _ _ _ _ => (pg_name (i := 7) sc_starts_like.nd rfl (Or.inl rfl))) (fun _ _ _ _ _ => dts_nil) (fun _ _ _ _ _ => (d_op op_addA g_add (d_var 6 (pv 6)) (d_tup (da_cons (d_var 7 (pv 7)) da_nil))))))))
  (dss_one (ds_ret (d_var 2 (pv 2))))))), ?_⟩
  intro so ns s hl h1 h2
  have e0 : startD 8 [sortsD so, natsD ns] = [some (sortsD so), some (natsD ns), none, none, none, none, none, none] := rfl
  simp [sortsD, natsD]
  refine kSeq_loop (fun i δ s' => s' = s ∧ ∃ (acc : List (List Nat)) (x3 x4 x5 x6 x7 : Option D), δ = [some (.tup (so.map sortD)), some (.tup (ns.map natD)), some (.lst (acc.map natsD)), x3, x4, x5, x6, x7] ∧ startsM so ns = startsF acc (so.drop i) (ns.drop i) ∧ manyM (so.drop i) acc.length ≤ 100 ∧ ∀ st ∈ acc, st.length ≤ i)
    (fun r s' => False) ⟨rfl, [[]], none, none, none, none, none, rfl, rfl, ?_, fun st hs => by rw [List.mem_singleton.mp hs]; exact Nat.le_refl _⟩ ?_ ?_ ?_
  · rw [List.drop_zero, many_pow]
    have : 10 ^ so.count true ≤ 10 ^ 2 := Nat.pow_le_pow_right (by decide) h2
    simpa using this
  · rintro i dd δ s' hi ⟨rfl, acc, x3, x4, x5, x6, x7, rfl, hs, hmany, hlen⟩
    obtain ⟨x, y, hx, hy, rfl⟩ := zipD_get hi
    rw [List.getElem?_map] at hx hy
    cases hb : so[i]? with
    | none => rw [hb] at hx; cases hx
    | some b =>
    cases hn : ns[i]? with
    | none => rw [hn] at hy; cases hy
    | some n =>
    rw [hb] at hx
    rw [hn] at hy
    cases hx
    cases hy
    have hi2 : i < so.length := (List.getElem?_eq_some_iff.mp hb).1
    rw [drop_get hb, drop_get hn, startsF] at hs
    rw [drop_get hb, manyM] at hmany
    have hacc := Nat.le_trans (many_le (so.drop (i + 1)) _) hmany
    refine ⟨_, rfl, .inl ?_⟩
    have c : ∀ (ds : List D), ds = (choiceM b n).map natD → compL2 (gtName 6) tTrue (fItems (fVar 5)) (gtName 7) tTrue (f2 dAdd (fVar 6) (fTup (fCons (fVar 7) fNil))) [7] (acc.map natsD) [some (.tup (so.map sortD)), some (.tup (ns.map natD)), some (.lst (acc.map natsD)), some (sortD b), some (natD n), some (.lst ds), none, none] s' =
        some ((acc.map fun st => (choiceM b n).map fun c => natsD (st ++ [c])).flatten, s') := by
      rintro ds rfl
      refine compL2_by natsD (fun st => (choiceM b n).map fun c => natsD (st ++ [c])) acc fun st hst => ⟨_, (choiceM b n).map natD, rfl, rfl, by simp, ?_⟩
      have := compL_by (ft := gtName 7) (tt := tTrue) (fe := f2 dAdd (fVar 6) (fTup (fCons (fVar 7) fNil))) (δ := [some (.tup (so.map sortD)), some (.tup (ns.map natD)), some (.lst (acc.map natsD)), some (sortD b), some (natD n), some (.lst ((choiceM b n).map natD)), some (natsD st), none]) (s := s') natD (fun _ => true) (fun c => natsD (st ++ [c])) (choiceM b n) fun c _ => ⟨_, rfl, rfl, fun _ => by
        have := hlen st hst
        have h3 : st.length + 1 ≤ 10000000 := by omega
        simp [natsD, h3]⟩
      rw [List.filter_eq_self.mpr fun _ _ => rfl] at this
      exact this
    have hmap : (acc.map fun st => (choiceM b n).map fun c => natsD (st ++ [c])).flatten = ((acc.map fun st => (choiceM b n).map fun c => st ++ [c]).flatten).map natsD := by
      rw [List.map_flatten, List.map_map]
      congr 1
      apply List.map_congr_left
      intro st _
      simp
    have hl2 : (acc.map fun st => (choiceM b n).map fun c => natsD (st ++ [c])).flatten.length ≤ 10000000 := by
      rw [hmap, List.length_map, step_len]; omega
    have fin : ∀ ds : List D, ds = (choiceM b n).map natD → ∃ δ2 s2, (some ((Out.nx [some (.tup (so.map sortD)), some (.tup (ns.map natD)), some (.lst ((acc.map fun st => (choiceM b n).map fun c => natsD (st ++ [c])).flatten)), some (sortD b), some (natD n), some (.lst ds), x6, x7], s') : Out × S)) = some (.nx δ2, s2) ∧ s2 = s' ∧ ∃ (acc : List (List Nat)) (x3 x4 x5 x6 x7 : Option D), δ2 = [some (.tup (so.map sortD)), some (.tup (ns.map natD)), some (.lst (acc.map natsD)), x3, x4, x5, x6, x7] ∧ startsM so ns = startsF acc (so.drop (i + 1)) (ns.drop (i + 1)) ∧ manyM (so.drop (i + 1)) acc.length ≤ 100 ∧ ∀ st ∈ acc, st.length ≤ i + 1 := fun ds hds =>
      ⟨_, _, rfl, rfl, (acc.map fun st => (choiceM b n).map fun c => st ++ [c]).flatten, _, _, _, _, _, by rw [hmap], hs, by rw [step_len]; exact hmany, fun st hst => by
        obtain ⟨l, h1, h2⟩ := List.mem_flatten.mp hst
        obtain ⟨st0, h3, rfl⟩ := List.mem_map.mp h1
        obtain ⟨c, h4, rfl⟩ := List.mem_map.mp h2
        have := hlen st0 h3
        rw [List.length_append, List.length_singleton]; omega⟩
    have hacc0 : acc.length ≤ 10000000 := Nat.le_trans (by cases b <;> simp <;> omega) (Nat.le_trans hacc (by decide))
    cases b with
    | true =>
      obtain ⟨δ2, s2, e2, i2⟩ := fin (rangeD 0 10) (by rw [rg10]; rfl)
      refine ⟨δ2, s2, ?_, i2⟩
      rw [← e2]
      have c := c (rangeD 0 10) (by rw [rg10]; rfl)
      simp only [sortD, if_true, strD] at c
      simp [sortD, c, hl2, hacc0, -List.length_flatten]
    | false =>
      obtain ⟨δ2, s2, e2, i2⟩ := fin [natD n] rfl
      refine ⟨δ2, s2, ?_, i2⟩
      rw [← e2]
      have c := c [natD n] rfl
      simp [sortD] at c
      simp [sortD, c, hl2, hacc0, -List.length_flatten]
  · rintro δ s' ⟨rfl, acc, x3, x4, x5, x6, x7, rfl, hs, hmany, hlen⟩
    rw [zipD_length, List.length_map, List.length_map, hl, Nat.min_self, List.drop_length] at hs
    rw [hs]
    have : startsF acc [] (ns.drop so.length) = acc := by rw [startsF]; intro _ _ _ _ z; cases z
    rw [this]
    simp
  · rintro r s' z
    exact z.elim
theorem ok_leak {f : Addr} {fd : FuncData} (F : Fun K "leak" "leak" s_leak f fd) (hm : mg "leak" = some (.ref f)) (B : Bi mg) (g_MOST_SECRET_NAMES : Gc K mg "MOST_SECRET_NAMES" (.int 2)) {gd gc gs go gl gu : FD} {lv : Nat} (hlv : 3 ≤ lv) (k_check_design : Kn P w K mg base "check_design" 1 lv gd) (pd : P_check_design gd) (k_check_program : Kn P w K mg base "check_program" 1 lv gc) (pc : P_check_program gc)
    (k_check_start : Kn P w K mg base "check_start" 2 lv gs) (ps : P_check_start gs) (k_starts_like : Kn P w K mg base "starts_like" 2 lv go) (po : P_likeS go) (k_look_alike : Kn P w K mg base "look_alike" 4 lv gl) (pl : P_look gl) (k_outcome : Kn P w K mg base "outcome" 2 lv gu) (pu : P_out gu) :
    ∃ g, Kn P w K mg base "leak" 3 (lv + 1) g ∧ P_leak g := by
  refine ⟨_, (kn_of (k := lv) F hm sc_leak (F.binds (ps := ["design", "program", "start"]) fun _ _ _ _ _ _ us hl => match us, hl with | [_, _, _], _ => rfl) fun cdv A outer s H E hr => (dss_cons (ds_expr (d_kn k_check_design (hr.mono (by omega)) rfl (da_cons (d_var 0 (pv 0)) da_nil)))
  (dss_cons (ds_expr (d_kn k_check_program (hr.mono (by omega)) rfl (da_cons (d_var 1 (pv 1)) da_nil)))
  (dss_cons (ds_expr (d_kn k_check_start (hr.mono (by omega)) rfl (da_cons (d_var 1 (pv 1)) (da_cons (d_var 2 (pv 2)) da_nil))))
  (dss_cons (ds_set (i := 3) sc_leak.nd rfl (Or.inl rfl) (d_ix (d_var 1 (pv 1)) d_int (fun _ _ => rfl)))
  (dss_cons (ds_if (dt_cmp op_gt g_cmpI (d_count (pe_bmZ PySem.F.slot_tuple_count PySem.F.type_tuple_count mt_tcount (d_var 3 (pv 3)) (da_cons d_str da_nil))) (d_gc g_MOST_SECRET_NAMES rfl) (nomark _)) (dss_one ds_never) dss_nil)
  (dss_cons (ds_set (i := 4) sc_leak.nd rfl (Or.inl rfl) (d_kn k_outcome (hr.mono (by omega)) rfl (da_cons (d_var 1 (pv 1)) (da_cons (d_var 2 (pv 2)) da_nil))))
  (dss_cons (ds_for PassesOwn.never rfl (di_items (d_kn k_starts_like (hr.mono (by omega)) rfl (da_cons (d_var 3 (pv 3)) (da_cons (d_var 2 (pv 2)) da_nil)))) (pg_name (i := 5) sc_leak.nd rfl (Or.inl rfl)) (gt_name (i := 5) (vs := [5]) (by decide)) (dss_one (ds_if (dt_not (dt_tru (d_kn k_look_alike (hr.mono (by omega)) rfl (da_cons (d_var 0 (pv 0)) (da_cons (d_var 3 (pv 3)) (da_cons (d_var 4 (pv 4)) (da_cons (d_kn k_outcome (hr.mono (by omega)) rfl (da_cons (d_var 1 (pv 1)) (da_cons (d_var 5 (pv 5)) da_nil))) da_nil))))))) (dss_one (ds_ret (d_var 5 (pv 5)))) dss_nil)))
  (dss_one (ds_ret d_non)))))))))), ?_⟩
  intro ws so b ns s hf hw h1 h2 ok hb hl hv hc
  have a1 := pd ws s hw
  have a2 := pc so b s h1 h2 ok hb
  have a3 := ps so b ns s hl (by omega) hv
  have a4 := po so ns s hl (by omega) hc
  have a5 := pu s so b ns hf h1 h2 (by rw [hl]; exact ok) hb hl hv
  obtain ⟨ys, q1, q2⟩ := count_secret so
  have q3 := kCnt2_s (s := s) (z := Str.ofString "secret") q1
  rw [q2] at q3
  have hc2 : ¬ (2 : Int) < ((so.count true : Nat) : Int) := by omega
  simp only [desD] at a1
  simp only [sortsD] at a2 a3 a4 a5
  simp [sortsD, a1, a2, a3, a4, a5, q3, hc2]
  refine kSeq_loop (fun i δ s' => s' = s ∧ (∃ x5, δ = [some (.tup (ws.map strD)), some (.tup [.tup (so.map sortD), bodyD b]), some (natsD ns), some (.tup (so.map sortD)), some (runD b ns), x5]) ∧ leakM ws so b ns = ((startsM so ns).drop i).find? fun o => !lookM ws so (runO b ns) (runO b o))
    (fun r s' => s' = s ∧ r = placeD (leakM ws so b ns)) ⟨rfl, ⟨_, rfl⟩, rfl⟩ ?_ ?_ ?_
  · rintro i dd δ s' hi ⟨rfl, ⟨x5, rfl⟩, hk⟩
    rw [List.getElem?_map] at hi
    cases ho : (startsM so ns)[i]? with
    | none => rw [ho] at hi; cases hi
    | some o =>
    rw [ho] at hi
    cases hi
    obtain ⟨m1, m2⟩ := starts_mem hl hv o (List.mem_of_getElem? ho)
    rw [drop_get ho] at hk
    have a6 := pu s' so b o hf h1 h2 (by rw [m1]; exact ok) hb m1 m2
    have a7 := pl ws so (runO b ns) (runO b o) s' (by omega)
    rw [← runD_ou, ← runD_ou] at a7
    simp only [sortsD] at a6 a7
    refine ⟨_, rfl, ?_⟩
    cases hh : lookM ws so (runO b ns) (runO b o) with
    | true =>
      rw [hh] at a7
      rw [List.find?_cons_of_neg (by rw [hh]; exact Bool.false_ne_true)] at hk
      exact .inl ⟨_, s', (by simp [a6, a7]; rfl), rfl, ⟨_, rfl⟩, hk⟩
    | false =>
      rw [hh] at a7
      rw [List.find?_cons_of_pos (by rw [hh]; rfl)] at hk
      exact .inr ⟨_, s', (by simp [a6, a7]; rfl), rfl, by rw [hk]; rfl⟩
  · rintro δ s' ⟨rfl, ⟨x5, rfl⟩, hk⟩
    rw [List.length_map, List.drop_length] at hk
    simp [hk, placeD]
  · rintro r s' ⟨rfl, rfl⟩
    rfl

end
end Fw

set_option Elab.async false
set_option linter.all false
set_option maxRecDepth 100000
set_option maxHeartbeats 4000000
namespace Fw
open PySem PySem.Spec PyProof.Rows L2
section
variable {P : Program} {w : World} {K : PySem.W.Frag} {mg : Str → Option Value} {base : Heap}
def P_other (g : FD) : Prop := ∀ (a : Addr) (s : S) (so : List Bool) (ns : List Nat), IsRow s a → so.length ≤ 1000 → ns.length = so.length → (∀ n ∈ ns, n < 10) → ∃ (ms : List Nat) (s' : S), g [.ref a, sortsD so, natsD ns] s = some (natsD ms, s') ∧ RowTo s a s' ∧ ms.length = so.length ∧ (∀ n ∈ ms, n < 10) ∧ opensM so ns = opensM so ms
theorem ok_other {f : Addr} {fd : FuncData} (F : Fun K "_law_other" "_law_other" s_l_other f fd) (hm : mg "_law_other" = some (.ref f)) (B : Bi mg) {gs : FD} (k_l_start : Kn P w K mg base "_law_start" 2 3 gs) (ps : P_start gs) :
    ∃ g, Kn P w K mg base "_law_other" 3 4 g ∧ P_other g := by
  refine ⟨_, (kn_of (k := 3) F hm sc_l_other (F.binds (ps := ["row", "sorts", "start"]) fun _ _ _ _ _ _ us hl => match us, hl with | [_, _, _], _ => rfl) fun cdv A outer s H E hr => (dss_cons (ds_set (i := 3) sc_l_other.nd rfl (Or.inr rfl) (d_kn k_l_start (hr.mono (by omega)) rfl (da_cons (d_var 0 (pv 0)) (da_cons (d_var 1 (pv 1)) da_nil))))
  (dss_one (ds_ret (d_callTy call_tuple_ofZ g_tuple rfl (B.get "tuple") (by decide +kernel) (da_cons (d_lc (own := [("x", 4)]) rfl sc_l_other.nd (di_range rfl (B.get "range") (da_cons (d_callB call_len g_len rfl (B.get "len") (by decide +kernel) (da_cons (d_var 1 (pv 1)) da_nil)) da_nil)) (blkOk_by (N := ["row", "sorts", "start", "fresh", "x"]) (sc := defScope s_l_other) (by decide +kernel)) (gt_name (i := 4) (vs := [4]) (by decide)) (fun _ _ _ _ _ => (pg_name (i := 4) sc_l_other.nd rfl (Or.inl rfl))) (fun _ _ _ _ _ => dts_nil) (fun _ _ _ _ _ => (d_if (dt_cmp (op_eqA hr.units) g_eq (d_ix (d_var 1 (pv 1)) (d_var 4 (pv 4)) (fun _ _ => rfl)) d_str (nomark _)) (d_ix (d_var 2 (pv 2)) (d_var 4 (pv 4)) (fun _ _ => rfl)) (d_ix (d_var 3 (pv 3)) (d_var 4 (pv 4)) (fun _ _ => rfl))))) da_nil)))))), ?_⟩
  intro a s so ns hr hl h1 hv
  obtain ⟨fs, s1, e1, r1, l1, v1⟩ := ps a s so hr hl
  refine ⟨mixM so ns fs, s1, ?_, r1, mix_len so ns fs h1 l1, mix_lt so ns fs hv v1, (mix_opens so ns fs h1 l1).symm⟩
  have hc := compL_map (ft := gtName 4) (fe := fIf (fT (f2 dEq (f2 dIx (fVar 1) (fVar 4)) (fC (.str (Str.ofString "open"))))) (f2 dIx (fVar 2) (fVar 4)) (f2 dIx (fVar 3) (fVar 4))) (δ := [some (.ref a), some (sortsD so), some (natsD ns), some (natsD fs), none]) (s := s1)
    (mixF so ns fs) (rangeD 0 so.length) fun d hd => by
    obtain ⟨i, hi, rfl⟩ := List.mem_map.mp hd
    have hi := List.mem_range.mp hi
    refine ⟨_, rfl, ?_⟩
    have g1 : L2.atI (so.map sortD) ((0 : Int) + (i : Nat)) = some (sortD (so.getD i false)) := by
      rw [Int.zero_add, atI_cast, List.getElem?_map, List.getElem?_eq_getElem hi, List.getD_eq_getElem?_getD, List.getElem?_eq_getElem hi]; rfl
    have g2 : L2.atI (ns.map natD) ((0 : Int) + (i : Nat)) = some (natD (ns.getD i 0)) := by
      rw [Int.zero_add, atI_cast, List.getElem?_map, List.getElem?_eq_getElem (by omega), List.getD_eq_getElem?_getD, List.getElem?_eq_getElem (by omega)]; rfl
    have g3 : L2.atI (fs.map natD) ((0 : Int) + (i : Nat)) = some (natD (fs.getD i 0)) := by
      rw [Int.zero_add, atI_cast, List.getElem?_map, List.getElem?_eq_getElem (by omega), List.getD_eq_getElem?_getD, List.getElem?_eq_getElem (by omega)]; rfl
    rw [Int.zero_add] at g1 g2 g3 ⊢
    cases hb : so.getD i false with
    | true =>
      rw [hb] at g1
      have g1' : L2.atI (so.map sortD) (i : Nat) = some (.str (Str.ofString "secret")) := g1
      simp [sortsD, natsD, g1', g2, g3, hb, mixF, -List.getD_eq_getElem?_getD]
    | false =>
      rw [hb] at g1
      have g1' : L2.atI (so.map sortD) (i : Nat) = some (.str (Str.ofString "open")) := g1
      simp [sortsD, natsD, g1', g2, g3, hb, mixF, -List.getD_eq_getElem?_getD]
  rw [mix_eq so ns fs h1 l1] at hc
  have h3 : so.length ≤ 10000000 := by omega
  have h4 : (mixM so ns fs).length ≤ 10000000 := by rw [mix_len so ns fs h1 l1]; exact h3
  simp only [sortsD, natsD] at e1 hc ⊢
  have h5 : ((so.length : Nat) : Int) ≤ 10000000 := by omega
  simp [e1, h3, h4, h5, hc]

end
end Fw

set_option Elab.async false
set_option linter.all false
set_option maxRecDepth 100000
set_option maxHeartbeats 4000000
namespace Fw
open PySem PySem.Spec PyProof.Rows L2
section
variable {P : Program} {w : World} {K : PySem.W.Frag} {mg : Str → Option Value} {base : Heap}
theorem ok_program {f : Addr} {fd : FuncData} (F : Fun K "_law_program" "_law_program" s_l_program f fd) (hm : mg "_law_program" = some (.ref f)) (B : Bi mg) {gt gp gso gl gtd gc gst : FD} {lv : Nat} (hlv : 3 ≤ lv) (k_l_taken : Kn P w K mg base "_law_taken" 2 1 gt) (pt : P_taken gt) (k_l_pick : Kn P w K mg base "_law_pick" 2 2 gp) (pp : P_pick gp)
    (k_l_sorts : Kn P w K mg base "_law_sorts" 1 3 gso) (pso : P_sorts gso) (k_l_lots : Kn P w K mg base "_law_lots" 0 1 gl) (pl : ∀ s, gl [] s = some (.lst (lotsL.map lotD), s)) (k_l_told : Kn P w K mg base "_law_told" 1 1 gtd) (ptd : P_told gtd)
    (k_l_check : Kn P w K mg base "_law_check" 4 lv gc) (pc : P_check 2 gc) (k_l_statement : Kn P w K mg base "_law_statement" 3 lv gst) (pst : P_statement 2 gst) :
    ∃ g, Kn P w K mg base "_law_program" 2 (lv + 1) g ∧ P_program g := by
  refine ⟨_, (kn_of (k := lv) F hm sc_l_program (F.binds (ps := ["row", "words"]) fun _ _ _ _ _ _ us hl => match us, hl with | [_, _], _ => rfl) fun cdv A outer s H E hr => (dss_cons (ds_par (i := 2) (j := 3) (ps_par rfl sc_l_program.nd rfl rfl (by decide) rfl rfl (da_cons (d_kn k_l_sorts (hr.mono (by omega)) rfl (da_cons (d_var 0 (pv 0)) da_nil)) (da_cons (d_tup da_nil) da_nil)) (by first | rfl | with_unfolding_all rfl)))
  (dss_cons (ds_if (dt_cmp (op_eqA hr.units) g_eq (d_kn k_l_taken (hr.mono (by omega)) rfl (da_cons (d_var 0 (pv 0)) (da_cons d_int da_nil))) d_int (nomark _)) (dss_cons (ds_set (i := 4) sc_l_program.nd rfl (Or.inl rfl) (d_kn k_l_told (hr.mono (by omega)) rfl (da_cons (d_kn k_l_pick (hr.mono (by omega)) rfl (da_cons (d_var 0 (pv 0)) (da_cons (d_kn0 k_l_lots (hr.mono (by omega)) rfl) da_nil))) da_nil)))
  (dss_one (ds_if (dt_cmp op_isA g_is (d_kn k_l_check (hr.mono (by omega)) rfl (da_cons (d_var 1 (pv 1)) (da_cons (d_tup (da_cons d_str (da_cons d_str da_nil))) (da_cons (d_var 4 (pv 4)) (da_cons d_bl da_nil))))) d_non (nomark _)) (dss_one (ds_par (i := 2) (j := 3) (ps_par rfl sc_l_program.nd rfl rfl (by decide) rfl rfl (da_cons (d_op op_addA g_add (d_tup (da_cons d_str (da_cons d_str da_nil))) (d_slice (d_var 2 (pv 2)) do_no (do_yes (d_kn k_l_taken (hr.mono (by omega)) rfl (da_cons (d_var 0 (pv 0)) (da_cons d_int da_nil)))))) (da_cons (d_var 4 (pv 4)) da_nil)) (by first | rfl | with_unfolding_all rfl)))) dss_nil))) dss_nil)
  (dss_cons (ds_for PassesOwn.never rfl (di_range rfl (B.get "range") (da_cons d_int da_nil)) (pg_name (i := 5) sc_l_program.nd rfl (Or.inl rfl)) (gt_name (i := 5) (vs := [5]) (by decide)) (dss_cons (ds_set (i := 6) sc_l_program.nd rfl (Or.inl rfl) (d_kn k_l_statement (hr.mono (by omega)) rfl (da_cons (d_var 0 (pv 0)) (da_cons (d_callB call_len g_len rfl (B.get "len") (by decide +kernel) (da_cons (d_var 2 (pv 2)) da_nil)) (da_cons d_int da_nil)))))
  (dss_one (ds_if (PW.pt (dw_and (dt_cmp op_lt g_cmpI (d_callB call_len g_len rfl (B.get "len") (by decide +kernel) (da_cons (d_var 3 (pv 3)) da_nil)) d_int (nomark _)) (dw_and1 (dt_cmp op_isA g_is (d_kn k_l_check (hr.mono (by omega)) rfl (da_cons (d_var 1 (pv 1)) (da_cons (d_var 2 (pv 2)) (da_cons (d_tup (da_cons (d_var 6 (pv 6)) da_nil)) (da_cons d_bl da_nil))))) d_non (nomark _))))) (dss_one (ds_set (i := 3) sc_l_program.nd rfl (Or.inl rfl) (d_op op_addA g_add (d_var 3 (pv 3)) (d_tup (da_cons (d_var 6 (pv 6)) da_nil))))) dss_nil))))
  (dss_one (ds_ret (d_tup (da_cons (d_var 2 (pv 2)) (da_cons (d_var 3 (pv 3)) da_nil))))))))), ?_⟩
  intro a s ws hr
  obtain ⟨so0, s1, e1, rt1, hs1, hs2⟩ := pso a s hr
  obtain ⟨v, s2, e2, rt2, hv⟩ := takenN pt a s1 3 rt1.is (by omega) (by omega)
  have e2' : gt [.ref a, .int 3] s1 = some (.int (v : Nat), s2) := e2
  simp [e1, e2']
  refine seq_then (R := fun r => ∃ so b s', r = some (D.tup [sortsD so, bodyD b], s') ∧ RowTo s a s' ∧ 2 ≤ so.length ∧ so.length ≤ 4 ∧ b.length ≤ 7 ∧ smsOk so.length 2 b ∧ faultsM ws so false 0 b = none)
    (fun δ s3 => ∃ so b x, δ = [some (.ref a), some (.tup (ws.map strD)), some (sortsD so), some (.tup (smsD b)), x, none, none] ∧ RowTo s a s3 ∧ 2 ≤ so.length ∧ so.length ≤ 4 ∧ b.length ≤ 7 ∧ smsOk so.length 2 b ∧ faultsM ws so false 0 b = none) ?_ ?_
  · by_cases h0 : v = 0
    rotate_left
    · exact ⟨[some (.ref a), some (.tup (ws.map strD)), some (sortsD (so0)), some (.tup (smsD ([]))), none, none, none], s2, by simp [h0, smsD], so0, [], none, rfl, rt1.trans rt2, hs1, hs2, by simp, trivial, rfl⟩
    obtain ⟨x, s3, e3, rt3, hx⟩ := pp a s2 (.lst (lotsL.map lotD)) _ rfl rt2.is (by simp [lotsL]) (by simp [lotsL])
    obtain ⟨l, hl, rfl⟩ := List.mem_map.mp hx
    have et := ptd l hl s3
    obtain ⟨ok, len⟩ := told_ok hl
    have ec := pc ws [false, true] (toldM l) false s3 (by simp) (by omega) ok
    simp only [sortsD, sortD, List.map_cons, List.map_nil, strD, bodyD, Bool.false_eq_true, if_false, if_true] at ec et
    cases hf : faultsM ws [false, true] false 0 (toldM l) with
    | none =>
      rw [hf] at ec
      obtain ⟨k, s4, e4, rt4, hk⟩ := takenN pt a s3 2 rt3.is (by omega) (by omega)
      have e4' : gt [.ref a, .int 2] s3 = some (.int (k : Nat), s4) := e4
      have hlen : 2 + min k so0.length ≤ 10000000 := by omega
      refine ⟨[some (.ref a), some (.tup (ws.map strD)), some (sortsD ([false, true] ++ so0.take k)), some (.tup (smsD (toldM l))), some (.tup (smsD (toldM l))), none, none], s4, by simp [h0, pl, e3, et, ec, e4', sortsD, sortD, cut_pre, hlen, List.map_take], [false, true] ++ so0.take k, toldM l, some (.tup (smsD (toldM l))), rfl, rt1.trans (rt2.trans (rt3.trans rt4)), by simp, by simp; omega, by omega, ?_, ?_⟩
      · exact smsOk_mono (by simp) 2 _ ok
      · rw [← faults_ext (hid_two k so0) 2 (toldM l) false 0 ok]; exact hf
    | some z =>
      rw [hf] at ec
      exact ⟨[some (.ref a), some (.tup (ws.map strD)), some (sortsD (so0)), some (.tup (smsD ([]))), some (.tup (smsD (toldM l))), none, none], s3, by simp [h0, pl, e3, et, ec, smsD], so0, [], _, rfl, rt1.trans (rt2.trans rt3), hs1, hs2, by simp, trivial, rfl⟩
  · rintro δ s3 ⟨so, b, x, rfl, rt, h1, h2, h3, h4, h5⟩
    simp
    refine kSeq_loopR (R := fun r => ∃ so b s', r = some (D.tup [sortsD so, bodyD b], s') ∧ RowTo s a s' ∧ 2 ≤ so.length ∧ so.length ≤ 4 ∧ b.length ≤ 7 ∧ smsOk so.length 2 b ∧ faultsM ws so false 0 b = none)
      (fun i δ s3 => ∃ b y z, δ = [some (.ref a), some (.tup (ws.map strD)), some (sortsD so), some (.tup (smsD b)), x, y, z] ∧ RowTo s a s3 ∧ b.length ≤ 7 ∧ smsOk so.length 2 b ∧ faultsM ws so false 0 b = none) ⟨b, none, none, rfl, rt, h3, h4, h5⟩ ?_ ?_
    · rintro i d δ s4 hi ⟨b, y, z, rfl, rt, h3, h4, h5⟩
      rw [rangeD_get] at hi
      split at hi
      rotate_left
      · cases hi
      cases hi
      refine ⟨_, rfl, ?_⟩
      obtain ⟨st, s5, e5, rt5, ok⟩ := pst a s4 so.length rt.is (by omega) (by omega)
      have e5' : gst [.ref a, .int (so.length : Nat), .int 2] s4 = some (smD st, s5) := e5
      have hl7 : (smsD b).length ≤ 7 := by rw [smsD_length]; exact h3
      have hso : so.length ≤ 10000000 := by omega
      by_cases hb : b.length < 7
      · have ec := pc ws so [st] false s5 (by omega) (by simp) ⟨ok, trivial⟩
        simp only [bodyD, smsD] at ec
        have hb' : ((smsD b).length : Int) < 7 := by rw [smsD_length]; omega
        cases hf : faultsM ws so false 0 [st] with
        | none =>
          rw [hf] at ec
          have hl8 : (smsD b).length + 1 ≤ 10000000 := by omega
          simp only [sortsD] at ec
          refine ⟨[some (.ref a), some (.tup (ws.map strD)), some (sortsD (so)), some (.tup (smsD (b ++ [st]))), x, some (.int (i : Nat)), some (smD st)], s5, by simp [sortsD, e5', ec, hb', hl8, smsD_append, smsD], b ++ [st], _, _, rfl, rt.trans rt5, by simp; omega, ?_, ?_⟩
          · exact smsOk_iff.mpr fun x hx => by
              rcases List.mem_append.mp hx with hx | hx
              · exact smsOk_iff.mp h4 x hx
              · cases List.mem_singleton.mp hx; exact ok
          · rw [faults_append b [st] 0 h5]
            exact faults_shift [st] 0 _ hf
        | some z =>
          rw [hf] at ec
          simp only [sortsD] at ec
          exact ⟨[some (.ref a), some (.tup (ws.map strD)), some (sortsD (so)), some (.tup (smsD (b))), x, some (.int (i : Nat)), some (smD st)], s5, by simp [sortsD, e5', ec, hb'], b, _, _, rfl, rt.trans rt5, h3, h4, h5⟩
      · have hb' : ¬ ((smsD b).length : Int) < 7 := by rw [smsD_length]; omega
        exact ⟨[some (.ref a), some (.tup (ws.map strD)), some (sortsD (so)), some (.tup (smsD (b))), x, some (.int (i : Nat)), some (smD st)], s5, by simp [sortsD, e5', hb'], b, _, _, rfl, rt.trans rt5, h3, h4, h5⟩
    · rintro δ s4 ⟨b, y, z, rfl, rt, h3, h4, h5⟩
      exact ⟨so, b, s4, by simp [bodyD], rt, h1, h2, h3, h4, h5⟩

end
end Fw

set_option Elab.async false
set_option linter.all false
set_option maxRecDepth 100000
set_option maxHeartbeats 4000000
namespace Fw
open PySem PySem.Spec PyProof.Rows L2
section
variable {P : Program} {w : World} {K : PySem.W.Frag} {mg : Str → Option Value} {base : Heap}
theorem ok_start {f : Addr} {fd : FuncData} (F : Fun K "_law_start" "_law_start" s_l_start f fd) (hm : mg "_law_start" = some (.ref f)) (B : Bi mg) {gt gp : FD} (k_l_taken : Kn P w K mg base "_law_taken" 2 1 gt) (pt : P_taken gt) (k_l_pick : Kn P w K mg base "_law_pick" 2 2 gp) (pp : P_pick gp) :
    ∃ g, Kn P w K mg base "_law_start" 2 3 g ∧ P_start g := by
  refine ⟨_, (kn_of (k := 2) F hm sc_l_start (F.binds (ps := ["row", "sorts"]) fun _ _ _ _ _ _ us hl => match us, hl with | [_, _], _ => rfl) fun cdv A outer s H E hr => (dss_one (ds_ret (d_callTy call_tuple_ofZ g_tuple rfl (B.get "tuple") (by decide +kernel) (da_cons (d_lc (own := [("sort", 2)]) rfl sc_l_start.nd (di_items (d_var 1 (pv 1))) (blkOk_by (N := ["row", "sorts", "sort"]) (sc := defScope s_l_start) (by decide +kernel)) (gt_name (i := 2) (vs := [2]) (by decide)) (fun _ _ _ _ _ => (pg_name (i := 2) sc_l_start.nd rfl (Or.inl rfl))) (fun _ _ _ _ _ => dts_nil) (fun _ _ _ _ _ => (d_kn k_l_pick (hr.mono (by omega)) rfl (da_cons (d_var 0 (pv 0)) (da_cons (d_lst (da_cons d_int (da_cons d_int (da_cons d_int (da_cons d_int (da_cons (d_kn k_l_taken (hr.mono (by omega)) rfl (da_cons (d_var 0 (pv 0)) (da_cons d_int da_nil))) da_nil)))))) da_nil))))) da_nil))))), ?_⟩
  intro a s so hr hl
  obtain ⟨vs, s', e, rt, hlv, hv⟩ := compL_draw (fe := fCall 2 gp (fCons (fVar 0) (fCons (fLst (fCons (fC (.int 0)) (fCons (fC (.int 0)) (fCons (fC (.int 1)) (fCons (fC (.int 2)) (fCons (fCall 2 gt (fCons (fVar 0) (fCons (fC (.int 10)) fNil))) fNil)))))) fNil))) (i := 2) (δ := [some (.ref a), some (.tup (so.map sortD)), none]) (a := a) (fun v => ∃ n : Nat, v = .int (n : Int) ∧ n < 10) (so.map sortD) s hr fun dd _ s hr => by
    obtain ⟨n, s1, e1, rt1, hn⟩ := takenN pt a s 10 hr (by omega) (by omega)
    have e1' : gt [.ref a, .int 10] s = some (.int (n : Nat), s1) := e1
    obtain ⟨x, s2, e2, rt2, hx⟩ := pp a s1 (.lst [.int 0, .int 0, .int 1, .int 2, .int (n : Nat)]) _ rfl rt1.is (by simp) (by simp)
    refine ⟨x, s2, by simp [e1', e2], rt1.trans rt2, ?_⟩
    simp only [List.mem_cons, List.mem_nil_iff, or_false] at hx
    rcases hx with rfl | rfl | rfl | rfl | rfl
    · exact ⟨0, rfl, by omega⟩
    · exact ⟨0, rfl, by omega⟩
    · exact ⟨1, rfl, by omega⟩
    · exact ⟨2, rfl, by omega⟩
    · exact ⟨n, rfl, hn⟩
  obtain ⟨ns, rfl, hn⟩ := nats_of hv
  rw [List.length_map, List.length_map] at hlv
  have h1 : so.length ≤ 10000000 := by omega
  exact ⟨ns, s', by simp [sortsD, e, h1, natsD], rt, hlv, hn⟩

end
end Fw

set_option Elab.async false
set_option linter.all false
set_option maxRecDepth 100000
set_option maxHeartbeats 4000000
namespace Fw
open PySem PySem.Spec PyProof.Rows L2
section
variable {P : Program} {w : World} {K : PySem.W.Frag} {mg : Str → Option Value} {base : Heap}
def P_law (g : FD) : Prop := ∀ sc : List Int, g [.scr sc] S0 = some (.bl true, S0)
theorem ok_law {f : Addr} {fd : FuncData} (F : Fun K "law" "law" s_law f fd) (B : Bi mg) {gt gpi gw gli gso ggr gp glb gst goth gal gle : FD} {lv : Nat} (k_l_taken : Kn P w K mg base "_law_taken" 2 lv gt) (pt : P_taken gt) (k_l_pick : Kn P w K mg base "_law_pick" 2 lv gpi) (ppi : P_pick gpi)
    (k_l_words : Kn P w K mg base "_law_words" 0 lv gw) (pw : ∀ s, gw [] s = some (.lst (wordsL.map strD), s)) (k_l_lots_in : Kn P w K mg base "_law_lots_in" 1 lv gli) (pli : P_llots_in gli)
    (k_is_sound : Kn P w K mg base "is_sound" 1 lv gso) (pso : P_sound gso) (k_greatest_sound : Kn P w K mg base "greatest_sound" 1 lv ggr) (pgr : P_great ggr) (k_l_program : Kn P w K mg base "_law_program" 2 lv gp) (pp : P_program gp)
    (k_lets_by : Kn P w K mg base "lets_by" 2 lv glb) (plb : P_lets_by glb) (k_l_start : Kn P w K mg base "_law_start" 2 lv gst) (pst : P_start gst) (k_l_other : Kn P w K mg base "_law_other" 3 lv goth) (poth : P_other goth)
    (k_alike : Kn P w K mg base "alike" 4 lv gal) (pal : P_alikeL gal) (k_leak : Kn P w K mg base "leak" 3 lv gle) (ple : P_leak gle) :
    ∃ g, FnOk P w K mg base CX0 (lv + 1) f fd ["script"] (spD K 1 g) ∧ P_law g := by
  refine ⟨_, okD F sc_law fun cdv A outer s H E hr => ⟨_, ((dss_ownL (i := 1) (ps_set sc_law.nd rfl (Or.inr rfl) (o_lst (da_cons (d_var 0 (pv 0)) (da_cons d_int (da_cons d_int (da_cons d_int da_nil))))))
  (dss_cons (ds_set (i := 2) sc_law.nd rfl (Or.inl rfl) (d_callTy call_tuple_ofZ g_tuple rfl (B.get "tuple") (by decide +kernel) (da_cons (d_lc (own := [("word", 3)]) rfl sc_law.nd (di_items (d_kn0 k_l_words (hr.mono (by omega)) rfl)) (blkOk_by (N := ["script", "row", "kept", "word", "top", "design", "turn", "program", "start", "other"]) (sc := defScope s_law) (by decide +kernel)) (gt_name (i := 3) (vs := [3]) (by decide)) (fun _ _ _ _ _ => (pg_name (i := 3) sc_law.nd rfl (Or.inl rfl))) (fun _ _ _ _ _ => (dts_one (dt_cmp (op_eqA hr.units) g_eq (d_kn k_l_taken (hr.mono (by omega)) rfl (da_cons (d_var 1 (pv 1)) (da_cons d_int da_nil))) d_int (nomark _)))) (fun _ _ _ _ _ => (d_var 3 (pv 3)))) da_nil)))
  (dss_cons (ds_set (i := 4) sc_law.nd rfl (Or.inl rfl) (d_kn k_l_pick (hr.mono (by omega)) rfl (da_cons (d_var 1 (pv 1)) (da_cons (d_kn k_greatest_sound (hr.mono (by omega)) rfl (da_cons (d_if (dt_cmp (op_eqA hr.units) g_eq (d_kn k_l_lots_in (hr.mono (by omega)) rfl (da_cons (d_var 2 (pv 2)) da_nil)) (d_lst da_nil) (nomark _)) (d_var 2 (pv 2)) (d_tup da_nil)) da_nil)) da_nil))))
  (dss_cons (ds_set (i := 5) sc_law.nd rfl (Or.inl rfl) (d_kn k_l_pick (hr.mono (by omega)) rfl (da_cons (d_var 1 (pv 1)) (da_cons (d_lst (da_cons (d_var 4 (pv 4)) (da_cons (d_callTy call_tuple_ofZ g_tuple rfl (B.get "tuple") (by decide +kernel) (da_cons (d_lc (own := [("word", 3)]) rfl sc_law.nd (di_items (d_var 4 (pv 4))) (blkOk_by (N := ["script", "row", "kept", "word", "top", "design", "turn", "program", "start", "other"]) (sc := defScope s_law) (by decide +kernel)) (gt_name (i := 3) (vs := [3]) (by decide)) (fun _ _ _ _ _ => (pg_name (i := 3) sc_law.nd rfl (Or.inl rfl))) (fun _ _ _ _ _ => (dts_one (dt_cmp op_gt g_cmpI (d_kn k_l_taken (hr.mono (by omega)) rfl (da_cons (d_var 1 (pv 1)) (da_cons d_int da_nil))) d_int (nomark _)))) (fun _ _ _ _ _ => (d_var 3 (pv 3)))) da_nil)) da_nil))) da_nil))))
  (dss_cons (ds_if (PW.pt (dw_or (dt_cmp op_isNotA g_isNot (d_kn k_is_sound (hr.mono (by omega)) rfl (da_cons (d_var 5 (pv 5)) da_nil)) d_bl (nomark _)) (dw_or1 (dt_cmp (op_neA hr.units) g_ne (d_kn k_l_lots_in (hr.mono (by omega)) rfl (da_cons (d_var 4 (pv 4)) da_nil)) (d_lst da_nil) (nomark _))))) (dss_one (ds_ret d_bl)) dss_nil)
  (dss_cons (ds_for PassesOwn.never rfl (di_range rfl (B.get "range") (da_cons d_int da_nil)) (pg_name (i := 6) sc_law.nd rfl (Or.inl rfl)) (gt_name (i := 6) (vs := [6]) (by decide)) (dss_cons (ds_set (i := 7) sc_law.nd rfl (Or.inl rfl) (d_kn k_l_program (hr.mono (by omega)) rfl (da_cons (d_var 1 (pv 1)) (da_cons (d_var 5 (pv 5)) da_nil))))
  (dss_cons (ds_if (PW.pt (dw_or (dt_cmp op_isNotA g_isNot (d_kn k_lets_by (hr.mono (by omega)) rfl (da_cons (d_var 5 (pv 5)) (da_cons (d_var 7 (pv 7)) da_nil))) d_bl (nomark _)) (dw_or1 (dt_cmp op_isNotA g_isNot (d_kn k_lets_by (hr.mono (by omega)) rfl (da_cons (d_var 4 (pv 4)) (da_cons (d_var 7 (pv 7)) da_nil))) d_bl (nomark _))))) (dss_one (ds_ret d_bl)) dss_nil)
  (dss_cons (ds_set (i := 8) sc_law.nd rfl (Or.inl rfl) (d_kn k_l_start (hr.mono (by omega)) rfl (da_cons (d_var 1 (pv 1)) (da_cons (d_ix (d_var 7 (pv 7)) d_int (fun _ _ => rfl)) da_nil))))
  (dss_cons (ds_set (i := 9) sc_law.nd rfl (Or.inl rfl) (d_kn k_l_other (hr.mono (by omega)) rfl (da_cons (d_var 1 (pv 1)) (da_cons (d_ix (d_var 7 (pv 7)) d_int (fun _ _ => rfl)) (da_cons (d_var 8 (pv 8)) da_nil)))))
  (dss_cons (ds_if (PW.pt (dw_or (dt_cmp op_isNotA g_isNot (d_kn k_alike (hr.mono (by omega)) rfl (da_cons (d_var 5 (pv 5)) (da_cons (d_var 7 (pv 7)) (da_cons (d_var 8 (pv 8)) (da_cons (d_var 9 (pv 9)) da_nil))))) d_bl (nomark _)) (dw_or1 (dt_cmp op_isNotA g_isNot (d_kn k_alike (hr.mono (by omega)) rfl (da_cons (d_var 4 (pv 4)) (da_cons (d_var 7 (pv 7)) (da_cons (d_var 8 (pv 8)) (da_cons (d_var 9 (pv 9)) da_nil))))) d_bl (nomark _))))) (dss_one (ds_ret d_bl)) dss_nil)
  (dss_one (ds_if (PW.pt (dw_and (dt_cmp op_lt g_cmpI (d_countL (pe_bm PySem.F.plainAttrs_list PySem.F.slot_list_count PySem.F.type_list_count mt_lcount (d_callTy call_list_of g_list rfl (B.get "list") (by decide +kernel) (da_cons (d_ix (d_var 7 (pv 7)) d_int (fun _ _ => rfl)) da_nil)) (da_cons d_str da_nil))) d_int (nomark _)) (dw_and1 (dt_cmp op_isNotA g_isNot (d_kn k_leak (hr.mono (by omega)) rfl (da_cons (d_var 5 (pv 5)) (da_cons (d_var 7 (pv 7)) (da_cons (d_var 8 (pv 8)) da_nil)))) d_non (nomark _))))) (dss_one (ds_ret d_bl)) dss_nil))))))))
  (dss_one (ds_ret d_bl))))))))), fun _ _ _ _ _ q => q⟩, ?_⟩
  intro sc
  have e0 : startD 10 [.scr sc] = [some (.scr sc), none, none, none, none, none, none, none, none, none] := rfl
  rw [fBody_e]
  simp only [List.length_cons, List.length_nil, Nat.zero_add, Nat.reduceAdd, e0]
  rw [fOwnL_eq (d := .bl true)]
  · rfl
  refine ⟨⟨0, rfl⟩, rowO sc 0 15204 0, by simp [oLst, rowO], fun a _ => ?_⟩
  have hkeep : ∀ s2 : S, keepS S0 s2 = S0 := fun s2 => by funext b; unfold keepS; rw [if_pos rfl]
  suffices h : ∃ s2, _ = some (Out.rt (.bl true), s2) from let ⟨s2, h⟩ := h; ⟨s2, h, hkeep s2⟩
  have hrow : IsRow (supd S0 a (rowO sc 0 15204 0)) a := ⟨sc, 0, 15204, 0, supd_same, by omega⟩
  have key : ∀ (x2 x4 x5 : Option D) (us : List String) (s : S) (tt : FT), IsRow s a → (∀ x ∈ us, ∀ s, IsRow s a → ∃ b s', tt [some (.scr sc), some (.ref a), x2, some (strD x), x4, x5, none, none, none, none] s = some (b, s') ∧ RowTo s a s') →
      ∃ (ws : List String) (s' : S), compL (gtName 3) tt (fVar 3) (us.map strD) [some (.scr sc), some (.ref a), x2, none, x4, x5, none, none, none, none] s = some (ws.map strD, s') ∧ RowTo s a s' ∧ ws.Sublist us := fun x2 x4 x5 us s tt hr h => compL_wordsX (by simp) us s hr h
  have g0 := pw (supd S0 a (rowO sc 0 15204 0))
  obtain ⟨ks, s1, e1, r1, sb1⟩ := key none none none wordsL _ (fT (f2 dEq (fCall 2 gt (fCons (fVar 1) (fCons (fC (.int 6)) fNil))) (fC (.int 0)))) hrow fun x hx s hr => by
    obtain ⟨v, s', e, rt, _, _⟩ := pt a s 6 hr (by decide) (by decide)
    exact ⟨_, s', (by simp [e]; rfl), rt⟩
  have hw12 : wordsL.length ≤ 10000000 := by decide
  have q1 := pli ks s1
  have q2 := (deep_lots0 (ls := lotsAt ks) fun l hl => (lotsAt_mem hl).1).2
  -- the design that is kept, and the greatest above it
  obtain ⟨vs, gv, ev⟩ : ∃ vs, Good vs ∧ (if (lotsAt ks).isEmpty = true then D.tup (ks.map strD) else D.tup []) = D.tup (vs.map strD) := by
    cases h : (lotsAt ks).isEmpty with
    | true => exact ⟨ks, ⟨sb1, sound_iff.mp h⟩, by rw [if_pos rfl]⟩
    | false => exact ⟨[], ⟨List.nil_sublist _, by decide⟩, by rw [if_neg Bool.false_ne_true]; rfl⟩
  have q3 := pgr vs s1 gv
  have hgl : (greatL vs).length ≤ 10000000 := by
    have hp := (List.mergeSort_perm (((aboveM vs).filter greatB).map fun d => d.map Str.ofString) leX).length_eq
    have hl : (aboveM vs).length ≤ 1 * 2 ^ 12 := above_len wordsL [vs]
    have := List.length_filter_le greatB (aboveM vs)
    have hp : (greatL vs).length = _ := hp
    rw [hp, List.length_map]
    omega
  obtain ⟨d0, s2, e2, r2, m2⟩ := ppi a s1 (.tup ((greatL vs).map tupT)) ((greatL vs).map tupT) rfl r1.is (fun z => great_ne gv (List.map_eq_nil_iff.mp z)) (by rw [List.length_map]; exact hgl)
  obtain ⟨top, gtop, etop⟩ : ∃ top, Good top ∧ d0 = .tup (top.map strD) := by
    obtain ⟨e, he, rfl⟩ := List.mem_map.mp m2
    obtain ⟨d, rfl, gd, _⟩ := great_is gv e he
    exact ⟨d, gd, tupT_of d⟩
  subst etop
  have htl : top.length ≤ 10000000 := Nat.le_trans gtop.sub.length_le (by decide)
  obtain ⟨us, s3, e3, r3, sb3⟩ := key (some (.tup (ks.map strD))) (some (.tup (top.map strD))) none top s2 (fT (f2 (dCmpI (fun i j => decide (i > j))) (fCall 2 gt (fCons (fVar 1) (fCons (fC (.int 6)) fNil))) (fC (.int 0)))) r2.is fun x hx s hr => by
    obtain ⟨v, s', e, rt, _, _⟩ := pt a s 6 hr (by decide) (by decide)
    exact ⟨_, s', (by simp [e]; rfl), rt⟩
  obtain ⟨d1, s4, e4, r4, m4⟩ := ppi a s3 (.lst [.tup (top.map strD), .tup (us.map strD)]) [.tup (top.map strD), .tup (us.map strD)] rfl r3.is (by simp) (by simp)
  obtain ⟨ws, gws, hsub, ews⟩ : ∃ ws, Good ws ∧ (∀ x ∈ ws, x ∈ top) ∧ d1 = .tup (ws.map strD) := by
    simp only [List.mem_cons, List.mem_nil_iff, or_false] at m4
    rcases m4 with rfl | rfl
    · exact ⟨top, gtop, fun _ z => z, rfl⟩
    · exact ⟨us, ⟨sb3.trans gtop.sub, lots_mono gtop.snd fun x hx => sb3.subset hx⟩, fun x hx => sb3.subset hx, rfl⟩
  subst ews
  have q5 := pso ws s4 gws.sub
  have q6 := pli top s4
  rw [gws.snd] at q5
  rw [gtop.snd] at q6
  have dn0 : deepD (.lst []) (.lst []) = some true := rfl
  simp only [List.map_nil, List.isEmpty_nil] at q5 q6
  have eif : kIf (fVar 2) (fTup fNil) [some (.scr sc), some (.ref a), some (.tup (ks.map strD)), none, none, none, none, none, none, none] (some ((lotsAt ks).isEmpty, s1)) = some (.tup (vs.map strD), s1) := by
    rw [← ev]
    cases (lotsAt ks).isEmpty <;> simp
  obtain ⟨ns4, j4, sd4, t4, es4, hj4⟩ := ((r1.trans r2).trans r3).trans r4
  rw [supd_supd] at es4
  simp [g0, hw12, e1, q1, q2, eif, q3, e2, htl, e3, e4, q5, q6, dn0]
  refine kSeq_loopX (R := fun o => ∃ s2, o = some (.rt (.bl true), s2)) (fun i δ s => (∃ ns' j sd r, s = supd S0 a (rowO ns' j sd r) ∧ 0 ≤ j) ∧ ∃ x6 x7 x8 x9, δ = [some (.scr sc), some (.ref a), some (.tup (ks.map strD)), none, some (.tup (top.map strD)), some (.tup (ws.map strD)), x6, x7, x8, x9])
    ⟨⟨ns4, j4, sd4, t4, es4, hj4⟩, none, none, none, none, rfl⟩ ?_ ?_
  · rintro i d δ s hd ⟨⟨ns', j, sd, r, rfl, hj⟩, x6, x7, x8, x9, rfl⟩
    rw [rangeD_get] at hd
    split at hd
    rotate_left
    · cases hd
    cases hd
    obtain ⟨so, b, s5, e5, r5, h1, h2, hb, ok, hf⟩ := pp a _ ws (⟨ns', j, sd, r, supd_same, hj⟩ : IsRow (supd S0 a (rowO ns' j sd r)) a)
    obtain ⟨n1, s6, e6, r6, l1, v1⟩ := pst a s5 so r5.is (by omega)
    obtain ⟨n2, s7, e7, r7, l2, v2, ho⟩ := poth a s6 so n1 r6.is (by omega) l1 v1
    obtain ⟨ns7, j7, sd7, t7, es7, hj7⟩ := (r5.trans r6).trans r7
    rw [supd_supd] at es7
    have hf7 : Fin s7 := by rw [es7]; exact fin_row a _
    have hft : faultsM top so false 0 b = none := faults_mono (cov_sub hsub) b false 0 (fun h => nomatch h) hf
    have k1 := plb ws so b s5 gws.sub (by omega) (by omega) ok (by omega)
    have k2 := plb top so b s5 gtop.sub (by omega) (by omega) ok (by omega)
    have k3 := pal ws so b n1 n2 s7 hf7 gws.sub (by omega) (by omega) ok (by omega) l1 l2 v1 v2 ho
    have k4 := pal top so b n1 n2 s7 hf7 gtop.sub (by omega) (by omega) ok (by omega) l1 l2 v1 v2 ho
    rw [hf] at k1
    rw [hft] at k2
    rw [ni gws.snd hf l1 l2 ho] at k3
    rw [ni gtop.snd hft l1 l2 ho] at k4
    obtain ⟨ys, c1, c2⟩ := count_secret so
    have c3 := kCnt2_s (s := s7) (z := Str.ofString "secret") c1
    rw [c2] at c3
    have hso : so.length ≤ 10000000 := by omega
    simp only [Option.isNone_none, sortsD] at e5 e6 e7 k1 k2 k3 k4
    refine ⟨_, rfl, ?_⟩
    by_cases hc : so.count true < 2
    · have k5 := ple ws so b n1 s7 hf7 gws.sub (by omega) (by omega) ok (by omega) l1 v1 (by omega)
      rw [leak_none gws.snd hf l1 v1] at k5
      simp only [placeD, sortsD] at k5
      have hc2 : ((so.count true : Nat) : Int) < 2 := by omega
      exact ⟨_, s7, (by simp [e5, e6, e7, k1, k2, k3, k4, k5, c3, hc2, hso]; exact ⟨rfl, rfl, rfl, rfl⟩), ⟨ns7, j7, sd7, t7, es7, hj7⟩, _, _, _, _, rfl⟩
    · have hc2 : ¬ ((so.count true : Nat) : Int) < 2 := by omega
      exact ⟨_, s7, (by simp [e5, e6, e7, k1, k2, k3, k4, c3, hc2, hso]; exact ⟨rfl, rfl, rfl, rfl⟩), ⟨ns7, j7, sd7, t7, es7, hj7⟩, _, _, _, _, rfl⟩
  · rintro δ s ⟨_, x6, x7, x8, x9, rfl⟩
    exact ⟨_, by simp; rfl⟩

end
end Fw

set_option Elab.async false
set_option linter.all false
set_option maxRecDepth 100000
set_option maxHeartbeats 4000000
namespace Fw
open PySem PySem.Spec PyProof.Rows L2
section
variable {P : Program} {w : World} {K : PySem.W.Frag} {mg : Str → Option Value} {base : Heap}
theorem ok_taken {f : Addr} {fd : FuncData} (F : Fun K "_law_taken" "_law_taken" s_l_taken f fd) (hm : mg "_law_taken" = some (.ref f)) (B : Bi mg) :
    ∃ g, Kn P w K mg base "_law_taken" 2 1 g ∧ P_taken g := by
  refine ⟨_, (kn_of (k := 0) F hm sc_l_taken (F.binds (ps := ["row", "many"]) fun _ _ _ _ _ _ us hl => match us, hl with | [_, _], _ => rfl) fun cdv A outer s H E hr => (dss_cons (ds_if (dt_cmp op_gt g_cmpI (d_ix (d_var 0 (pv 0)) d_int (fun _ _ => rfl)) d_int (nomark _)) (dss_cons (ds_set (i := 2) sc_l_taken.nd rfl (Or.inl rfl) (d_op op_mod g_mod (d_callTy call_int1 g_int rfl (B.get "int") (by decide +kernel) (da_cons (d_ix (d_var 0 (pv 0)) d_int (fun _ _ => rfl)) da_nil)) (d_var 1 (pv 1))))
  (dss_cons (ds_putIx (d_op op_fdiv g_div (d_ix (d_var 0 (pv 0)) d_int (fun _ _ => rfl)) (d_var 1 (pv 1))) (d_var 0 (pv 0)) d_int)
  (dss_one (ds_ret (d_var 2 (pv 2)))))) dss_nil)
  (dss_cons (ds_putIx (d_op op_addA g_add (d_ix (d_var 0 (pv 0)) d_int (fun _ _ => rfl)) d_int) (d_var 0 (pv 0)) d_int)
  (dss_cons (ds_if (dt_cmp op_gt g_cmpI (d_ix (d_var 0 (pv 0)) d_int (fun _ _ => rfl)) (d_callB call_len g_len rfl (B.get "len") (by decide +kernel) (da_cons (d_ix (d_var 0 (pv 0)) d_int (fun _ _ => rfl)) da_nil)) (nomark _)) (dss_cons (ds_putIx (d_op op_mod g_mod (d_callTy call_int1 g_int rfl (B.get "int") (by decide +kernel) (da_cons (d_op op_addA g_add (d_op op_mulA g_mul (d_ix (d_var 0 (pv 0)) d_int (fun _ _ => rfl)) d_int) d_int) da_nil)) d_int) (d_var 0 (pv 0)) d_int)
  (dss_one (ds_ret (d_op op_mod g_mod (d_callTy call_int1 g_int rfl (B.get "int") (by decide +kernel) (da_cons (d_op op_fdiv g_div (d_ix (d_var 0 (pv 0)) d_int (fun _ _ => rfl)) d_int) da_nil)) (d_var 1 (pv 1)))))) dss_nil)
  (dss_cons (ds_set (i := 3) sc_l_taken.nd rfl (Or.inl rfl) (d_ix (d_ix (d_var 0 (pv 0)) d_int (fun _ _ => rfl)) (d_op op_sub g_sub (d_ix (d_var 0 (pv 0)) d_int (fun _ _ => rfl)) d_int) (fun _ _ => rfl)))
  (dss_cons (ds_putIx (d_op op_mod g_mod (d_callTy call_int1 g_int rfl (B.get "int") (by decide +kernel) (da_cons (d_op op_addA g_add (d_op op_addA g_add (d_op op_mulA g_mul (d_ix (d_var 0 (pv 0)) d_int (fun _ _ => rfl)) d_int) (d_var 3 (pv 3))) d_int) da_nil)) d_int) (d_var 0 (pv 0)) d_int)
  (dss_cons (ds_if (dt_cmp op_ge g_cmpI (d_var 3 (pv 3)) (d_op op_pow g_pow d_int d_int) (nomark _)) (dss_one (ds_putIx (d_op op_fdiv g_div (d_var 3 (pv 3)) (d_var 1 (pv 1))) (d_var 0 (pv 0)) d_int)) dss_nil)
  (dss_one (ds_ret (d_op op_mod g_mod (d_callTy call_int1 g_int rfl (B.get "int") (by decide +kernel) (da_cons (d_var 3 (pv 3)) da_nil)) (d_var 1 (pv 1)))))))))))), ?_⟩
  rintro a s m ⟨ns, i, sd, r, hs, hi⟩ h0 h1
  have hs0 : s a = some (.lst [.scr ns, .int i, .int sd, .int r]) := hs
  have n0 := Int.emod_nonneg
  by_cases c1 : 0 < r
  · refine ⟨r % m, supd s a (rowO ns i sd (r / m)), ?_, ⟨ns, i, sd, _, rfl, hi⟩, Int.emod_nonneg _ (by omega), Int.emod_lt_of_pos _ h0⟩
    simp [hs0, c1, h0, h1, rowO]
  · by_cases c2 : (ns.length : Int) < i + 1
    · refine ⟨(sd * 48271 + 11) % 2147483647 / 7 % m, supd s a (rowO ns (i + 1) ((sd * 48271 + 11) % 2147483647) r), ?_, ⟨ns, _, _, _, rfl, by omega⟩, Int.emod_nonneg _ (by omega), Int.emod_lt_of_pos _ h0⟩
      simp [hs0, c1, c2, h0, h1, rowO, supd_same, supd_supd]
    · obtain ⟨c, hc, _⟩ := atI_of (xs := ns) hi (by omega)
      by_cases c3 : 1000000000000000000 ≤ c
      · refine ⟨c % m, supd s a (rowO ns (i + 1) ((sd * 48271 + c + 11) % 2147483647) (c / m)), ?_, ⟨ns, _, _, _, rfl, by omega⟩, Int.emod_nonneg _ (by omega), Int.emod_lt_of_pos _ h0⟩
        simp [hs0, c1, c2, c3, h0, h1, rowO, supd_same, supd_supd, hc]
      · refine ⟨c % m, supd s a (rowO ns (i + 1) ((sd * 48271 + c + 11) % 2147483647) r), ?_, ⟨ns, _, _, _, rfl, by omega⟩, Int.emod_nonneg _ (by omega), Int.emod_lt_of_pos _ h0⟩
        simp [hs0, c1, c2, c3, h0, h1, rowO, supd_same, supd_supd, hc]

end
end Fw

set_option Elab.async false
set_option linter.all false
set_option maxRecDepth 100000
set_option maxHeartbeats 4000000
namespace Fw
open PySem PySem.Spec PyProof.Rows L2
section
variable {P : Program} {w : World} {K : PySem.W.Frag} {mg : Str → Option Value} {base : Heap}
theorem ok_pick {f : Addr} {fd : FuncData} (F : Fun K "_law_pick" "_law_pick" s_l_pick f fd) (hm : mg "_law_pick" = some (.ref f)) (B : Bi mg) {gt : FD} (k_l_taken : Kn P w K mg base "_law_taken" 2 1 gt) (pt : P_taken gt) :
    ∃ g, Kn P w K mg base "_law_pick" 2 2 g ∧ P_pick g := by
  refine ⟨_, (kn_of (k := 1) F hm sc_l_pick (F.binds (ps := ["row", "kinds"]) fun _ _ _ _ _ _ us hl => match us, hl with | [_, _], _ => rfl) fun cdv A outer s H E hr => (dss_one (ds_ret (d_ix (d_var 1 (pv 1)) (d_kn k_l_taken (hr.mono (by omega)) rfl (da_cons (d_var 0 (pv 0)) (da_cons (d_callB call_len g_len rfl (B.get "len") (by decide +kernel) (da_cons (d_var 1 (pv 1)) da_nil)) da_nil))) (fun _ _ => rfl))))), ?_⟩
  intro a s x ds hx hr hne hl
  have h0 : 0 < ds.length := List.length_pos_iff.mpr hne
  obtain ⟨v, s', e, rt, v0, v1⟩ := pt a s (ds.length : Nat) hr (by omega) (by omega)
  obtain ⟨d, e2, hd⟩ := atI_of (xs := ds) v0 v1
  refine ⟨d, s', ?_, rt, hd⟩
  cases x with
  | tup es => cases (show some es = some ds from hx); simp [e, e2]
  | lst es => cases (show some es = some ds from hx); simp [e, e2]
  | _ => cases hx

end
end Fw

set_option Elab.async false
set_option linter.all false
set_option maxRecDepth 100000
set_option maxHeartbeats 4000000
namespace Fw
open PySem PySem.Spec PyProof.Rows L2
section
variable {P : Program} {w : World} {K : PySem.W.Frag} {mg : Str → Option Value} {base : Heap}
theorem ok_words {f : Addr} {fd : FuncData} (F : Fun K "_law_words" "_law_words" s_l_words f fd) (hm : mg "_law_words" = some (.ref f)) (B : Bi mg) :
    ∃ g, Kn P w K mg base "_law_words" 0 1 g ∧ ∀ s, g [] s = some (.lst (wordsL.map strD), s) := by
  refine ⟨_, (kn_of (k := 0) F hm sc_l_words (F.binds (ps := []) fun _ _ _ _ _ _ us hl => match us, hl with | [], _ => rfl) fun cdv A outer s H E hr => (dss_cons (ds_set (i := 0) sc_l_words.nd rfl (Or.inl rfl) (d_lst (da_cons d_str (da_cons d_str (da_cons d_str (da_cons d_str (da_cons d_str (da_cons d_str (da_cons d_str (da_cons d_str (da_cons d_str (da_cons d_str da_nil))))))))))))
  (dss_one (ds_ret (d_op op_addA g_add (d_var 0 (pv 0)) (d_lst (da_cons d_str (da_cons d_str da_nil)))))))), ?_⟩
  intro s
  simp [wordsL, strD]

end
end Fw

set_option Elab.async false
set_option linter.all false
set_option maxRecDepth 100000
set_option maxHeartbeats 4000000
namespace Fw
open PySem PySem.Spec PyProof.Rows L2
section
variable {P : Program} {w : World} {K : PySem.W.Frag} {mg : Str → Option Value} {base : Heap}
theorem ok_lots {f : Addr} {fd : FuncData} (F : Fun K "_law_lots" "_law_lots" s_l_lots f fd) (hm : mg "_law_lots" = some (.ref f)) (B : Bi mg) :
    ∃ g, Kn P w K mg base "_law_lots" 0 1 g ∧ ∀ s, g [] s = some (.lst (lotsL.map lotD), s) := by
  refine ⟨_, (kn_of (k := 0) F hm sc_l_lots (F.binds (ps := []) fun _ _ _ _ _ _ us hl => match us, hl with | [], _ => rfl) fun cdv A outer s H E hr => (dss_cons (ds_set (i := 0) sc_l_lots.nd rfl (Or.inl rfl) (d_lst (da_cons (d_tup (da_cons d_str (da_cons d_str da_nil))) (da_cons (d_tup (da_cons d_str (da_cons d_str da_nil))) (da_cons (d_tup (da_cons d_str (da_cons d_str (da_cons d_str da_nil)))) (da_cons (d_tup (da_cons d_str (da_cons d_str da_nil))) da_nil))))))
  (dss_cons (ds_set (i := 0) sc_l_lots.nd rfl (Or.inl rfl) (d_op op_addA g_add (d_var 0 (pv 0)) (d_lst (da_cons (d_tup (da_cons d_str (da_cons d_str da_nil))) (da_cons (d_tup (da_cons d_str (da_cons d_str da_nil))) (da_cons (d_tup (da_cons d_str da_nil)) (da_cons (d_tup (da_cons d_str (da_cons d_str (da_cons d_str da_nil)))) da_nil)))))))
  (dss_cons (ds_set (i := 0) sc_l_lots.nd rfl (Or.inl rfl) (d_op op_addA g_add (d_var 0 (pv 0)) (d_lst (da_cons (d_tup (da_cons d_str (da_cons d_str da_nil))) (da_cons (d_tup (da_cons d_str (da_cons d_str da_nil))) (da_cons (d_tup (da_cons d_str (da_cons d_str da_nil))) (da_cons (d_tup (da_cons d_str da_nil)) da_nil)))))))
  (dss_one (ds_ret (d_op op_addA g_add (d_var 0 (pv 0)) (d_lst (da_cons (d_tup (da_cons d_str (da_cons d_str da_nil))) da_nil))))))))), ?_⟩
  intro s
  simp [lotsL, lotD]

end
end Fw

set_option Elab.async false
set_option linter.all false
set_option maxRecDepth 100000
set_option maxHeartbeats 4000000
namespace Fw
open PySem PySem.Spec PyProof.Rows L2
section
variable {P : Program} {w : World} {K : PySem.W.Frag} {mg : Str → Option Value} {base : Heap}
theorem ok_told {f : Addr} {fd : FuncData} (F : Fun K "_law_told" "_law_told" s_l_told f fd) (hm : mg "_law_told" = some (.ref f)) (B : Bi mg) :
    ∃ g, Kn P w K mg base "_law_told" 1 1 g ∧ P_told g := by
  refine ⟨_, (kn_of (k := 0) F hm sc_l_told (F.binds (ps := ["lot"]) fun _ _ _ _ _ _ us hl => match us, hl with | [_], _ => rfl) fun cdv A outer s H E hr => (dss_cons (ds_asg (d_tup (da_cons (d_tup (da_cons d_str (da_cons d_int (da_cons (d_tup da_nil) (da_cons d_int da_nil))))) (da_cons (d_tup (da_cons d_str (da_cons d_int (da_cons (d_tup da_nil) (da_cons d_int da_nil))))) (da_cons (d_tup (da_cons d_str (da_cons d_int da_nil))) da_nil)))) (pg_tup rfl (pgs_cons (pg_name (i := 1) sc_l_told.nd rfl (Or.inl rfl)) (pgs_cons (pg_name (i := 2) sc_l_told.nd rfl (Or.inl rfl)) (pgs_cons (pg_name (i := 3) sc_l_told.nd rfl (Or.inl rfl)) pgs_nil)))) (gt_tri (i := 1) (j := 2) (k := 3) (vs := [1, 2, 3]) (by decide) (by decide) (by decide)))
  (dss_cons (ds_if (dt_cmp (op_eqA hr.units) g_eq (d_callB call_len g_len rfl (B.get "len") (by decide +kernel) (da_cons (d_var 0 (pv 0)) da_nil)) d_int (nomark _)) (dss_one (ds_ret (d_if (dt_cmp (op_eqA hr.units) g_eq (d_var 0 (pv 0)) (d_tup (da_cons d_str da_nil)) (nomark _)) (d_tup (da_cons (d_var 1 (pv 1)) (da_cons (d_tup (da_cons d_str (da_cons d_str (da_cons d_int (da_cons d_int da_nil))))) da_nil))) (d_tup (da_cons (d_tup (da_cons d_str (da_cons d_int (da_cons (d_tup (da_cons d_int da_nil)) (da_cons d_int da_nil))))) da_nil))))) dss_nil)
  (dss_cons (ds_if (dt_cmp (op_eqA hr.units) g_eq (d_var 0 (pv 0)) (d_tup (da_cons d_str (da_cons d_str da_nil))) (nomark _)) (dss_one (ds_ret (d_tup (da_cons (d_tup (da_cons d_str (da_cons d_int (da_cons d_int da_nil)))) da_nil)))) dss_nil)
  (dss_cons (ds_if (dt_cmp (op_eqA hr.units) g_eq (d_var 0 (pv 0)) (d_tup (da_cons d_str (da_cons d_str da_nil))) (nomark _)) (dss_one (ds_ret (d_tup (da_cons (d_tup (da_cons d_str (da_cons d_int da_nil))) da_nil)))) dss_nil)
  (dss_cons (ds_if (dt_cmp (op_eqA hr.units) g_eq (d_ix (d_var 0 (pv 0)) d_int (fun _ _ => rfl)) d_str (nomark _)) (dss_cons (ds_set (i := 4) sc_l_told.nd rfl (Or.inl rfl) (d_dictIx (hu_of hr) (dp_cons (d_var 3 (pv 3)) (dp_cons (d_var 2 (pv 2)) (dp_cons (d_tup (da_cons d_str da_nil)) (dp_cons (d_var 1 (pv 1)) dp_nil)))) (d_ix (d_var 0 (pv 0)) d_int (fun _ _ => rfl)) (fun _ _ => rfl)))
  (dss_one (ds_ret (d_op op_addA g_add (d_tup (da_cons (d_tup (da_cons d_str (da_cons d_int (da_cons (d_tup (da_cons (d_var 4 (pv 4)) da_nil)) (da_cons (d_tup da_nil) da_nil))))) da_nil)) (d_op op_mulA g_mul (d_tup (da_cons (d_var 1 (pv 1)) da_nil)) (d_callTy call_int1 g_int rfl (B.get "int") (by decide +kernel) (da_cons (d_cmp (op_eqA hr.units) g_eq (d_ix (d_var 0 (pv 0)) d_int (fun _ _ => rfl)) d_str (nomark _)) da_nil))))))) dss_nil)
  (dss_cons (ds_set (i := 4) sc_l_told.nd rfl (Or.inl rfl) (d_dictIx (hu_of hr) (dp_cons (d_tup da_nil) (dp_cons (d_tup (da_cons (d_var 3 (pv 3)) (da_cons (d_var 2 (pv 2)) da_nil))) (dp_cons (d_tup (da_cons (d_var 2 (pv 2)) da_nil)) (dp_cons (d_tup (da_cons (d_tup (da_cons d_str da_nil)) da_nil)) (dp_cons (d_tup (da_cons (d_var 1 (pv 1)) (da_cons (d_var 2 (pv 2)) da_nil))) dp_nil))))) (d_ix (d_var 0 (pv 0)) d_int (fun _ _ => rfl)) (fun _ _ => rfl)))
  (dss_one (ds_ret (d_op op_addA g_add (d_tup (da_cons (d_tup (da_cons d_str (da_cons d_int (da_cons (d_var 4 (pv 4)) da_nil)))) da_nil)) (d_op op_mulA g_mul (d_tup (da_cons (d_var 1 (pv 1)) da_nil)) (d_callTy call_int1 g_int rfl (B.get "int") (by decide +kernel) (da_cons (d_cmp (op_eqA hr.units) g_eq (d_ix (d_var 0 (pv 0)) d_int (fun _ _ => rfl)) d_str (nomark _)) da_nil))))))))))))), ?_⟩
  intro l hl s
  simp only [lotsL, List.mem_cons, List.mem_nil_iff, or_false] at hl
  rcases hl with rfl | rfl | rfl | rfl | rfl | rfl | rfl | rfl | rfl | rfl | rfl | rfl | rfl <;>
    simp [lotD, bodyD, toldM, smsD, smD, natD, sortD, deepD, toPy, toPys, SeqAt.shaped, PyData.canLay0, PyData.canLayAll0, PyData.depth, PyData.depthAll, PyData.eqv, PyData.eqvAll]

end
end Fw

set_option Elab.async false
set_option linter.all false
set_option maxRecDepth 100000
set_option maxHeartbeats 4000000
namespace Fw
open PySem PySem.Spec PyProof.Rows L2
section
variable {P : Program} {w : World} {K : PySem.W.Frag} {mg : Str → Option Value} {base : Heap}
theorem ok_into {f : Addr} {fd : FuncData} (F : Fun K "_law_into" "_law_into" s_l_into f fd) (hm : mg "_law_into" = some (.ref f)) (B : Bi mg) :
    ∃ g, Kn P w K mg base "_law_into" 4 1 g ∧ P_into g := by
  refine ⟨_, (kn_of (k := 0) F hm sc_l_into (F.binds (ps := ["words", "secret", "source", "under"]) fun _ _ _ _ _ _ us hl => match us, hl with | [_, _, _, _], _ => rfl) fun cdv A outer s H E hr => (dss_one (ds_ret (d_or (d_var 1 (pv 1)) (d_one (d_and (d_or (d_not (d_var 2 (pv 2))) (d_one (d_cmp op_in_seq g_in d_str (d_var 0 (pv 0)) (by with_unfolding_all rfl)))) (d_one (d_or (d_not (d_var 3 (pv 3))) (d_one (d_cmp op_in_seq g_in d_str (d_var 0 (pv 0)) (by with_unfolding_all rfl))))))))))), ?_⟩
  intro ws a b c s
  by_cases h1 : "straight" ∈ ws <;> by_cases h2 : "under" ∈ ws <;> cases a <;> cases b <;> cases c <;> simp [h1, h2]

end
end Fw

set_option Elab.async false
set_option linter.all false
set_option maxRecDepth 100000
set_option maxHeartbeats 4000000
namespace Fw
open PySem PySem.Spec PyProof.Rows L2
section
variable {P : Program} {w : World} {K : PySem.W.Frag} {mg : Str → Option Value} {base : Heap}
theorem ok_stands {f : Addr} {fd : FuncData} (F : Fun K "_law_stands" "_law_stands" s_l_stands f fd) (hm : mg "_law_stands" = some (.ref f)) (B : Bi mg) {gi : FD} (k_l_into : Kn P w K mg base "_law_into" 4 1 gi) (pi : P_into gi) :
    ∃ g, Kn P w K mg base "_law_stands" 4 2 g ∧ P_stands g := by
  refine ⟨_, (kn_of (k := 1) F hm sc_l_stands (F.binds (ps := ["words", "sorts", "one", "under"]) fun _ _ _ _ _ _ us hl => match us, hl with | [_, _, _, _], _ => rfl) fun cdv A outer s H E hr => (dss_cons (ds_set (i := 4) sc_l_stands.nd rfl (Or.inr rfl) (d_lc (own := [("sort", 5)]) rfl sc_l_stands.nd (di_items (d_var 1 (pv 1))) (blkOk_by (N := ["words", "sorts", "one", "under", "hidden", "sort", "word", "x", "bad", "source", "table"]) (sc := defScope s_l_stands) (by decide +kernel)) (gt_name (i := 5) (vs := [5]) (by decide)) (fun _ _ _ _ _ => (pg_name (i := 5) sc_l_stands.nd rfl (Or.inl rfl))) (fun _ _ _ _ _ => dts_nil) (fun _ _ _ _ _ => (d_cmp (op_eqA hr.units) g_eq (d_var 5 (pv 5)) d_str (nomark _)))))
  (dss_cons (ds_set (i := 6) sc_l_stands.nd rfl (Or.inl rfl) (d_ix (d_var 2 (pv 2)) d_int (fun _ _ => rfl)))
  (dss_cons (ds_if (dt_cmp (op_eqA hr.units) g_eq (d_var 6 (pv 6)) d_str (nomark _)) (dss_one (ds_ret (d_kn k_l_into (hr.mono (by omega)) rfl (da_cons (d_var 0 (pv 0)) (da_cons (d_ix (d_var 4 (pv 4)) (d_ix (d_var 2 (pv 2)) d_int (fun _ _ => rfl)) (fun _ _ => rfl)) (da_cons (d_cmp op_in_seq g_in d_bl (d_lc (own := [("x", 7)]) rfl sc_l_stands.nd (di_items (d_ix (d_var 2 (pv 2)) d_int (fun _ _ => rfl))) (blkOk_by (N := ["words", "sorts", "one", "under", "hidden", "sort", "word", "x", "bad", "source", "table"]) (sc := defScope s_l_stands) (by decide +kernel)) (gt_name (i := 7) (vs := [7]) (by decide)) (fun _ _ _ _ _ => (pg_name (i := 7) sc_l_stands.nd rfl (Or.inl rfl))) (fun _ _ _ _ _ => dts_nil) (fun _ _ _ _ _ => (d_ix (d_var 4 (pv 4)) (d_var 7 (pv 7)) (fun _ _ => rfl)))) (by with_unfolding_all rfl)) (da_cons (d_var 3 (pv 3)) da_nil))))))) dss_nil)
  (dss_cons (ds_if (dt_cmp op_in_seq g_in (d_var 6 (pv 6)) (d_lst (da_cons d_str (da_cons d_str da_nil))) (by with_unfolding_all rfl)) (dss_cons (ds_set (i := 8) sc_l_stands.nd rfl (Or.inl rfl) (d_or (d_ix (d_var 4 (pv 4)) (d_ix (d_var 2 (pv 2)) d_int (fun _ _ => rfl)) (fun _ _ => rfl)) (d_one (d_and (d_cmp (op_eqA hr.units) g_eq (d_var 6 (pv 6)) d_str (nomark _)) (d_one (d_var 3 (pv 3)))))))
  (dss_one (ds_ret (d_or (d_not (d_var 8 (pv 8))) (d_one (d_cmp op_in_seq g_in (d_op op_addA g_add (d_var 6 (pv 6)) d_str) (d_var 0 (pv 0)) (by with_unfolding_all rfl))))))) dss_nil)
  (dss_cons (ds_if (dt_cmp (op_eqA hr.units) g_eq (d_var 6 (pv 6)) d_str (nomark _)) (dss_one (ds_ret (d_and (d_or (d_not (d_ix (d_var 4 (pv 4)) (d_ix (d_var 2 (pv 2)) d_int (fun _ _ => rfl)) (fun _ _ => rfl))) (d_one (d_cmp op_in_seq g_in d_str (d_var 0 (pv 0)) (by with_unfolding_all rfl)))) (d_one (d_or (d_not (d_var 3 (pv 3))) (d_one (d_cmp op_in_seq g_in d_str (d_var 0 (pv 0)) (by with_unfolding_all rfl)))))))) dss_nil)
  (dss_cons (ds_if (dt_cmp (op_eqA hr.units) g_eq (d_var 6 (pv 6)) d_str (nomark _)) (dss_one (ds_ret (d_or (d_not (d_var 3 (pv 3))) (d_one (d_cmp op_in_seq g_in d_str (d_var 0 (pv 0)) (by with_unfolding_all rfl)))))) dss_nil)
  (dss_cons (ds_if (dt_cmp (op_eqA hr.units) g_eq (d_var 6 (pv 6)) d_str (nomark _)) (dss_cons (ds_set (i := 9) sc_l_stands.nd rfl (Or.inl rfl) (d_ix (d_var 4 (pv 4)) (d_ix (d_var 2 (pv 2)) d_int (fun _ _ => rfl)) (fun _ _ => rfl)))
  (dss_one (ds_ret (d_and (d_or (d_and (d_not (d_var 9 (pv 9))) (d_one (d_not (d_var 3 (pv 3))))) (d_one (d_cmp op_in_seq g_in d_str (d_var 0 (pv 0)) (by with_unfolding_all rfl)))) (d_one (d_kn k_l_into (hr.mono (by omega)) rfl (da_cons (d_var 0 (pv 0)) (da_cons (d_ix (d_var 4 (pv 4)) (d_ix (d_var 2 (pv 2)) d_int (fun _ _ => rfl)) (fun _ _ => rfl)) (da_cons (d_var 9 (pv 9)) (da_cons (d_var 3 (pv 3)) da_nil)))))))))) dss_nil)
  (dss_cons (ds_if (dt_cmp (op_eqA hr.units) g_eq (d_var 6 (pv 6)) d_str (nomark _)) (dss_cons (ds_set (i := 10) sc_l_stands.nd rfl (Or.inl rfl) (d_cmp (op_eqA hr.units) g_eq (d_ix (d_var 2 (pv 2)) d_int (fun _ _ => rfl)) d_str (nomark _)))
  (dss_one (ds_ret (d_and (d_or (d_var 10 (pv 10)) (d_or (d_not (d_ix (d_var 4 (pv 4)) (d_ix (d_var 2 (pv 2)) d_int (fun _ _ => rfl)) (fun _ _ => rfl))) (d_one (d_cmp op_in_seq g_in d_str (d_var 0 (pv 0)) (by with_unfolding_all rfl))))) (d_one (d_kn k_l_into (hr.mono (by omega)) rfl (da_cons (d_var 0 (pv 0)) (da_cons (d_var 10 (pv 10)) (da_cons (d_ix (d_var 4 (pv 4)) (d_ix (d_var 2 (pv 2)) d_int (fun _ _ => rfl)) (fun _ _ => rfl)) (da_cons (d_var 3 (pv 3)) da_nil)))))))))) dss_nil)
  (dss_cons (ds_if (dt_cmp (op_eqA hr.units) g_eq (d_var 6 (pv 6)) d_str (nomark _)) (dss_one (ds_ret (d_kn k_l_into (hr.mono (by omega)) rfl (da_cons (d_var 0 (pv 0)) (da_cons (d_ix (d_var 4 (pv 4)) (d_ix (d_var 2 (pv 2)) d_int (fun _ _ => rfl)) (fun _ _ => rfl)) (da_cons (d_or (d_cmp (op_eqA hr.units) g_eq (d_ix (d_var 2 (pv 2)) d_int (fun _ _ => rfl)) d_str (nomark _)) (d_one (d_ix (d_var 4 (pv 4)) (d_ix (d_var 2 (pv 2)) d_int (fun _ _ => rfl)) (fun _ _ => rfl)))) (da_cons (d_var 3 (pv 3)) da_nil))))))) dss_nil)
  (dss_one (ds_ret d_bl)))))))))))), ?_⟩
  intro ws so a d und s hl ok
  have hso : ∀ (δ : Fr), 5 < δ.length → compL (gtName 5) tTrue (f2 dEq (fVar 5) (fC (.str (Str.ofString "secret")))) (so.map sortD) δ s = some (so.map D.bl, s) := fun δ h => compL_so so h
  have hl' : so.length ≤ 10000000 := by omega
  have pi' := fun a b c => pi ws a b c s
  cases a with
  | sum x ts n =>
    obtain ⟨h1, h2, h3, h4⟩ := ok
    have hts : ∀ (δ : Fr), δ[4]? = some (some (.lst (so.map D.bl))) → 7 < δ.length → compL (gtName 7) tTrue (f2 dIx (fVar 4) (fVar 7)) (ts.map natD) δ s = some ((ts.map (hid so)).map D.bl, s) := fun δ q1 q2 => compL_hid ts h3 q1 q2 (by decide)
    have h2' : ts.length ≤ 10000000 := by omega
    simp [hso, hl', sortsD, smD, natD, hid_get h1, hts, h2', pi', standsM, intoM, -List.map_map]
  | ite x p q =>
    have h1 : x < so.length := ok.1
    by_cases c1 : "ifs" ∈ ws <;> cases c2 : hid so x <;> simp [hso, hl', sortsD, smD, natD, hid_get h1, standsM, c1, c2]
  | times n b => simp [hso, hl', sortsD, smD, standsM]
  | whl x b =>
    have h1 : x < so.length := ok.1
    by_cases c1 : "whiles" ∈ ws <;> cases c2 : hid so x <;> cases und <;> simp [hso, hl', sortsD, smD, natD, hid_get h1, standsM, c1, c2]
  | print x =>
    have h1 : x < so.length := ok
    by_cases c1 : "tells" ∈ ws <;> by_cases c3 : "prints" ∈ ws <;> cases c2 : hid so x <;> cases und <;> simp [hso, hl', sortsD, smD, natD, hid_get h1, standsM, c1, c2, c3]
  | stop =>
    by_cases c1 : "stops" ∈ ws <;> cases und <;> simp [hso, hl', sortsD, smD, standsM, c1]
  | split x y =>
    obtain ⟨h1, h2⟩ := ok
    by_cases c1 : "splits" ∈ ws <;> cases c2 : hid so y <;> cases und <;> simp [hso, hl', sortsD, smD, natD, hid_get h1, hid_get h2, standsM, intoM, c1, c2, pi']
  | keep t x y =>
    obtain ⟨h1, h2⟩ := ok
    by_cases c1 : "marks" ∈ ws <;> cases c2 : hid so x <;> cases t <;> simp [hso, hl', sortsD, sortD, smD, natD, hid_get h1, hid_get h2, standsM, intoM, c1, c2, pi']
  | fetch t x y =>
    obtain ⟨h1, h2⟩ := ok
    cases c2 : hid so y <;> cases t <;> simp [hso, hl', sortsD, sortD, smD, natD, hid_get h1, hid_get h2, standsM, intoM, c2, pi']

end
end Fw

set_option Elab.async false
set_option linter.all false
set_option maxRecDepth 100000
set_option maxHeartbeats 4000000
namespace Fw
open PySem PySem.Spec PyProof.Rows L2
section
variable {P : Program} {w : World} {K : PySem.W.Frag} {mg : Str → Option Value} {base : Heap}
theorem ok_check {f : Addr} {fd : FuncData} (F : Fun K "_law_check" "_law_check" s_l_check f fd) (hm : mg "_law_check" = some (.ref f)) (B : Bi mg) {gs gc : FD} {lv : Nat} (hlv : 2 ≤ lv) (k_l_stands : Kn P w K mg base "_law_stands" 4 2 gs) (ps : P_stands gs)
    {d : Nat} (hd : d ≤ 100) (k_l_check : Kn P w K mg base "_law_check" 4 lv gc) (pc : 0 < d → P_check (d - 1) gc) :
    ∃ g, Kn P w K mg base "_law_check" 4 (lv + 1) g ∧ P_check d g := by
  refine ⟨_, (kn_of (k := lv) F hm sc_l_check (F.binds (ps := ["words", "sorts", "body", "under"]) fun _ _ _ _ _ _ us hl => match us, hl with | [_, _, _, _], _ => rfl) fun cdv A outer s H E hr => (dss_cons (ds_for PassesOwn.never rfl (di_range rfl (B.get "range") (da_cons (d_callB call_len g_len rfl (B.get "len") (by decide +kernel) (da_cons (d_var 2 (pv 2)) da_nil)) da_nil)) (pg_name (i := 4) sc_l_check.nd rfl (Or.inl rfl)) (gt_name (i := 4) (vs := [4]) (by decide)) (dss_cons (ds_set (i := 5) sc_l_check.nd rfl (Or.inl rfl) (d_ix (d_var 2 (pv 2)) (d_var 4 (pv 4)) (fun _ _ => rfl)))
  (dss_cons (ds_if (dt_not (dt_tru (d_kn k_l_stands (hr.mono (by omega)) rfl (da_cons (d_var 0 (pv 0)) (da_cons (d_var 1 (pv 1)) (da_cons (d_var 5 (pv 5)) (da_cons (d_var 3 (pv 3)) da_nil))))))) (dss_one (ds_ret (d_tup (da_cons (d_var 4 (pv 4)) da_nil)))) dss_nil)
  (dss_one (ds_if (dt_cmp op_in_seq g_in (d_ix (d_var 5 (pv 5)) d_int (fun _ _ => rfl)) (d_lst (da_cons d_str (da_cons d_str (da_cons d_str da_nil)))) (by with_unfolding_all rfl)) (dss_cons (ds_set (i := 6) sc_l_check.nd rfl (Or.inl rfl) (d_or (d_var 3 (pv 3)) (d_one (d_and (d_cmp (op_neA hr.units) g_ne (d_ix (d_var 5 (pv 5)) d_int (fun _ _ => rfl)) d_str (nomark _)) (d_one (d_cmp (op_eqA hr.units) g_eq (d_ix (d_var 1 (pv 1)) (d_ix (d_var 5 (pv 5)) d_int (fun _ _ => rfl)) (fun _ _ => rfl)) d_str (nomark _)))))))
  (dss_one (ds_for PassesOwn.never rfl (di_range2 rfl (B.get "range") (da_cons d_int (da_cons (d_callB call_len g_len rfl (B.get "len") (by decide +kernel) (da_cons (d_var 5 (pv 5)) da_nil)) da_nil))) (pg_name (i := 7) sc_l_check.nd rfl (Or.inl rfl)) (gt_name (i := 7) (vs := [7]) (by decide)) (dss_cons (ds_set (i := 8) sc_l_check.nd rfl (Or.inl rfl) (d_kn k_l_check (hr.mono (by omega)) rfl (da_cons (d_var 0 (pv 0)) (da_cons (d_var 1 (pv 1)) (da_cons (d_ix (d_var 5 (pv 5)) (d_var 7 (pv 7)) (fun _ _ => rfl)) (da_cons (d_var 6 (pv 6)) da_nil))))))
  (dss_one (ds_if (dt_cmp op_isNotA g_isNot (d_var 8 (pv 8)) d_non (nomark _)) (dss_one (ds_ret (d_op op_addA g_add (d_op op_addA g_add (d_tup (da_cons (d_var 4 (pv 4)) da_nil)) (d_op op_mulA g_mul (d_tup (da_cons (d_op op_sub g_sub (d_var 7 (pv 7)) d_int) da_nil)) (d_callTy call_int1 g_int rfl (B.get "int") (by decide +kernel) (da_cons (d_cmp (op_eqA hr.units) g_eq (d_ix (d_var 5 (pv 5)) d_int (fun _ _ => rfl)) d_str (nomark _)) da_nil)))) (d_var 8 (pv 8))))) dss_nil)))))) dss_nil)))))
  (dss_one (ds_ret d_non)))), ?_⟩
  intro ws so b und s hl hb ok
  have e0 : startD 9 [.tup (ws.map strD), sortsD so, .tup (smsD b), .bl und] = [some (.tup (ws.map strD)), some (sortsD so), some (.tup (smsD b)), some (.bl und), none, none, none, none, none] := rfl
  have hr0 : okR (b.length : Int) = true := by simp; omega
  simp only [fBody_e, fSeq_e, fFor_e, fRange_e, fCons_e, fL_e, fVar_e, fNil_e, List.length_cons, List.length_nil, Nat.zero_add, Nat.reduceAdd, e0, List.getElem?_cons_zero, List.getElem?_cons_succ, kVar_s, kCons_s, kCons'_s, kL_s, bodyD, dLen, smsD_length, kR_s, kRange_s, hr0, if_true, kFor_s, Int.toNat_natCast]
  refine kSeq_loop (fun i δ s' => s' = s ∧ (∃ x1 x2 x3 x4 x5, δ = [some (.tup (ws.map strD)), some (sortsD so), some (.tup (smsD b)), some (.bl und), x1, x2, x3, x4, x5]) ∧ faultsM ws so und 0 b = faultsM ws so und i (b.drop i))
    (fun r s' => s' = s ∧ r = placeD (faultsM ws so und 0 b)) ⟨rfl, ⟨_, _, _, _, _, rfl⟩, rfl⟩ ?_ ?_ ?_
  · rintro i dd δ s' hi ⟨rfl, ⟨x1, x2, x3, x4, x5, rfl⟩, hf⟩
    rw [rangeD_get] at hi
    split at hi
    rotate_left
    · cases hi
    rename_i hil
    cases hi
    have hbi : b[i]? = some b[i] := List.getElem?_eq_getElem hil
    have hget := smsD_get hbi
    have oka : smOk so.length d b[i] := smsOk_iff.mp ok _ (List.getElem_mem hil)
    rw [drop_get hbi, faultsM] at hf
    have hs := ps ws so b[i] d und s' hl oka
    refine ⟨_, rfl, ?_⟩
    have e1 : (0 : Int) + ((i : Nat) : Int) = (i : Int) := by omega
    rw [e1]
    cases hst : standsM ws so und b[i] with
    | false =>
      refine .inr ⟨.tup [natD i], s', ?_, rfl, ?_⟩
      · simp [hget, hs, hst, natD]
      · have hfa : faultM ws so und b[i] = some [] := by
          cases hb' : b[i] <;> rw [hb'] at hst <;> rw [faultM] <;> simp [hst]
        rw [hfa] at hf
        simp [hf]
    | true =>
      clear hbi
      revert oka hget hs hf hst
      generalize b[i] = a
      intro hf hget oka hs hst
      have hsh : ∀ y1 y2 y3 y4 y5 : Option D, ∃ x1 x2 x3 x4 x5, [some (D.tup (ws.map strD)), some (sortsD so), some (D.tup (smsD b)), some (D.bl und), y1, y2, y3, y4, y5] = [some (D.tup (ws.map strD)), some (sortsD so), some (D.tup (smsD b)), some (D.bl und), x1, x2, x3, x4, x5] := fun _ _ _ _ _ => ⟨_, _, _, _, _, rfl⟩
      cases a with
      | sum x ts n =>
        have hn : faultM ws so und (.sum x ts n) = none := by rw [faultM, if_pos hst]
        rw [hn] at hf
        rw [hst] at hs
        simp only [smD, strD] at hs hget
        exact .inl ⟨_, s', (by simp [hget, hs]; exact ⟨rfl, rfl, rfl, rfl, rfl⟩), rfl, hsh _ _ _ _ _, hf⟩
      | print x =>
        have hn : faultM ws so und (.print x) = none := by rw [faultM, if_pos hst]
        rw [hn] at hf
        rw [hst] at hs
        simp only [smD, strD] at hs hget
        exact .inl ⟨_, s', (by simp [hget, hs]; exact ⟨rfl, rfl, rfl, rfl, rfl⟩), rfl, hsh _ _ _ _ _, hf⟩
      | stop =>
        have hn : faultM ws so und (.stop) = none := by rw [faultM, if_pos hst]
        rw [hn] at hf
        rw [hst] at hs
        simp only [smD, strD] at hs hget
        exact .inl ⟨_, s', (by simp [hget, hs]; exact ⟨rfl, rfl, rfl, rfl, rfl⟩), rfl, hsh _ _ _ _ _, hf⟩
      | split x y =>
        have hn : faultM ws so und (.split x y) = none := by rw [faultM, if_pos hst]
        rw [hn] at hf
        rw [hst] at hs
        simp only [smD, strD] at hs hget
        exact .inl ⟨_, s', (by simp [hget, hs]; exact ⟨rfl, rfl, rfl, rfl, rfl⟩), rfl, hsh _ _ _ _ _, hf⟩
      | keep t x y =>
        have hn : faultM ws so und (.keep t x y) = none := by rw [faultM, if_pos hst]
        rw [hn] at hf
        rw [hst] at hs
        simp only [smD, strD] at hs hget
        exact .inl ⟨_, s', (by simp [hget, hs]; exact ⟨rfl, rfl, rfl, rfl, rfl⟩), rfl, hsh _ _ _ _ _, hf⟩
      | fetch t x y =>
        have hn : faultM ws so und (.fetch t x y) = none := by rw [faultM, if_pos hst]
        rw [hn] at hf
        rw [hst] at hs
        simp only [smD, strD] at hs hget
        exact .inl ⟨_, s', (by simp [hget, hs]; exact ⟨rfl, rfl, rfl, rfl, rfl⟩), rfl, hsh _ _ _ _ _, hf⟩
      | times n q =>
        obtain ⟨_, hq, hd0, okq⟩ := oka
        have hc := pc hd0 ws so q und s' hl (by omega) okq
        rw [hst] at hs
        rw [faultM, if_pos hst] at hf
        simp only [smD, strD, bodyD] at hs hget hc
        cases hz : faultsM ws so und 0 q with
        | none =>
          rw [hz] at hf hc
          cases und <;> exact .inl ⟨_, s', (by simp [hget, hs, hc, loopF_cons]; exact ⟨rfl, rfl, rfl, rfl, rfl⟩), rfl, hsh _ _ _ _ _, hf⟩
        | some z =>
          have hzl := faults_len (d - 1) q und 0 z okq hz
          have hzl' : 1 + z.length ≤ 10000000 := by omega
          rw [hz] at hf hc
          cases und <;> exact .inr ⟨_, s', (by simp [hget, hs, hc, loopF_cons, hzl']; rfl), rfl, by rw [hf]; simp [natD]⟩
      | whl x q =>
        obtain ⟨hx, hq, hd0, okq⟩ := oka
        have hc := pc hd0 ws so q (und || hid so x) s' hl (by omega) okq
        have hsx := so_get hx
        rw [hst] at hs
        rw [faultM, if_pos hst] at hf
        simp only [smD, strD, bodyD, sortsD, natD] at hs hget hc
        cases hz : faultsM ws so (und || hid so x) 0 q with
        | none =>
          rw [hz] at hf hc
          cases und <;> cases hh : hid so x <;> rw [hh] at hc hsx <;> simp only [Bool.or_self, Bool.false_or, Bool.or_false, Bool.true_or, Bool.or_true] at hc <;> exact .inl ⟨_, s', (by simp [hget, hs, hc, loopF_cons, sortsD, hsx, sortD]; exact ⟨rfl, rfl, rfl, rfl, rfl⟩), rfl, hsh _ _ _ _ _, hf⟩
        | some z =>
          have hzl := faults_len (d - 1) q _ 0 z okq hz
          have hzl' : 1 + z.length ≤ 10000000 := by omega
          rw [hz] at hf hc
          cases und <;> cases hh : hid so x <;> rw [hh] at hc hsx <;> simp only [Bool.or_self, Bool.false_or, Bool.or_false, Bool.true_or, Bool.or_true] at hc <;> exact .inr ⟨_, s', (by simp [hget, hs, hc, loopF_cons, hzl', sortsD, hsx, sortD]; rfl), rfl, by rw [hf]; simp [natD]⟩
      | ite x p q =>
        obtain ⟨hx, hp, hq, hd0, okp, okq⟩ := oka
        have hc := pc hd0 ws so p (und || hid so x) s' hl (by omega) okp
        have hc2 := pc hd0 ws so q (und || hid so x) s' hl (by omega) okq
        have hsx := so_get hx
        rw [hst] at hs
        rw [faultM, if_pos hst] at hf
        simp only [smD, strD, bodyD, sortsD, natD] at hs hget hc hc2
        cases hz : faultsM ws so (und || hid so x) 0 p with
        | none =>
          rw [hz] at hf hc
          cases hz2 : faultsM ws so (und || hid so x) 0 q with
          | none =>
            rw [hz2] at hf hc2
            cases und <;> cases hh : hid so x <;> rw [hh] at hc hc2 hsx <;> simp only [Bool.or_self, Bool.false_or, Bool.or_false, Bool.true_or, Bool.or_true] at hc hc2 <;> exact .inl ⟨_, s', (by simp [hget, hs, hc, hc2, loopF_cons, sortsD, hsx, sortD]; exact ⟨rfl, rfl, rfl, rfl, rfl⟩), rfl, hsh _ _ _ _ _, hf⟩
          | some z =>
            have hzl := faults_len (d - 1) q _ 0 z okq hz2
            have hzl' : 1 + 1 + z.length ≤ 10000000 := by omega
            have hzl2 : 2 + z.length ≤ 10000000 := by omega
            rw [hz2] at hf hc2
            cases und <;> cases hh : hid so x <;> rw [hh] at hc hc2 hsx <;> simp only [Bool.or_self, Bool.false_or, Bool.or_false, Bool.true_or, Bool.or_true] at hc hc2 <;> exact .inr ⟨_, s', (by simp [hget, hs, hc, hc2, loopF_cons, hzl', hzl2, sortsD, hsx, sortD]; rfl), rfl, by rw [hf]; simp [natD]⟩
        | some z =>
          have hzl := faults_len (d - 1) p _ 0 z okp hz
          have hzl' : 1 + 1 + z.length ≤ 10000000 := by omega
          have hzl2 : 2 + z.length ≤ 10000000 := by omega
          rw [hz] at hf hc
          cases und <;> cases hh : hid so x <;> rw [hh] at hc hsx <;> simp only [Bool.or_self, Bool.false_or, Bool.or_false, Bool.true_or, Bool.or_true] at hc <;> exact .inr ⟨_, s', (by simp [hget, hs, hc, loopF_cons, hzl', hzl2, sortsD, hsx, sortD]; rfl), rfl, by rw [hf]; simp [natD]⟩
  · rintro δ s' ⟨rfl, ⟨x1, x2, x3, x4, x5, rfl⟩, hf⟩
    rw [rangeD_length, List.drop_length, faultsM] at hf
    simp [hf]
  · rintro r s' ⟨rfl, rfl⟩
    rfl

end
end Fw

set_option Elab.async false
set_option linter.all false
set_option maxRecDepth 100000
set_option maxHeartbeats 4000000
namespace Fw
open PySem PySem.Spec PyProof.Rows L2
section
variable {P : Program} {w : World} {K : PySem.W.Frag} {mg : Str → Option Value} {base : Heap}
theorem ok_sorts {f : Addr} {fd : FuncData} (F : Fun K "_law_sorts" "_law_sorts" s_l_sorts f fd) (hm : mg "_law_sorts" = some (.ref f)) (B : Bi mg) {gt gp : FD} (k_l_taken : Kn P w K mg base "_law_taken" 2 1 gt) (pt : P_taken gt) (k_l_pick : Kn P w K mg base "_law_pick" 2 2 gp) (pp : P_pick gp) :
    ∃ g, Kn P w K mg base "_law_sorts" 1 3 g ∧ P_sorts g := by
  refine ⟨_, (kn_of (k := 2) F hm sc_l_sorts (F.binds (ps := ["row"]) fun _ _ _ _ _ _ us hl => match us, hl with | [_], _ => rfl) fun cdv A outer s H E hr => (dss_cons (ds_setLc (i := 1) (own := [("turn", 2)]) rfl sc_l_sorts.nd rfl rfl (sw_true rfl rfl rfl (by decide +kernel)) (di_range rfl (B.get "range") (da_cons (d_op op_addA g_add d_int (d_kn k_l_taken (hr.mono (by omega)) rfl (da_cons (d_var 0 (pv 0)) (da_cons d_int da_nil)))) da_nil)) (blkOk_by (N := ["row", "found", "turn"]) (sc := defScope s_l_sorts) (by decide +kernel)) (gt_name (i := 2) (vs := [2]) (by decide)) (fun _ _ _ _ _ => (pg_name (i := 2) sc_l_sorts.nd rfl (Or.inl rfl))) (fun _ _ _ _ _ => dts_nil) (fun _ _ _ _ _ => (d_kn k_l_pick (hr.mono (by omega)) rfl (da_cons (d_var 0 (pv 0)) (da_cons (d_lst (da_cons d_str (da_cons d_str da_nil))) da_nil)))))
  (dss_one (ds_ret (d_callTy call_tuple_ofZ g_tuple rfl (B.get "tuple") (by decide +kernel) (da_cons (d_op op_addA g_add (d_var 1 (pv 1)) (d_lst (da_cons (d_kn k_l_pick (hr.mono (by omega)) rfl (da_cons (d_var 0 (pv 0)) (da_cons (d_lst (da_cons d_str (da_cons d_str (da_cons d_str da_nil)))) da_nil))) da_nil))) da_nil)))))), ?_⟩
  intro a s hr
  obtain ⟨v, s1, e1, rt1, hv⟩ := takenN pt a s 3 hr (by omega) (by omega)
  have hc := compL_draw (fe := fCall 2 gp (fCons (fVar 0) (fCons (fLst (fCons (fC (.str (Str.ofString "open"))) (fCons (fC (.str (Str.ofString "secret"))) fNil))) fNil))) (i := 2) (δ := [some (.ref a), none, none]) (a := a) (fun v => ∃ n : Bool, v = sortD n) (rangeD 0 (1 + v)) s1 rt1.is fun d _ s hr => by
    obtain ⟨x, s', e, rt, hx⟩ := pp a s (.lst [.str (Str.ofString "open"), .str (Str.ofString "secret")]) _ rfl hr (by simp) (by simp)
    refine ⟨x, s', by simp [e], rt, ?_⟩
    simp at hx
    rcases hx with rfl | rfl
    · exact ⟨false, rfl⟩
    · exact ⟨true, rfl⟩
  obtain ⟨vs, s2, e2, rt2, hl, hvs⟩ := hc
  obtain ⟨so, rfl⟩ := bools_of hvs
  rw [rangeD_length, List.length_map] at hl
  obtain ⟨x, s3, e3, rt3, hx⟩ := pp a s2 (.lst [.str (Str.ofString "secret"), .str (Str.ofString "secret"), .str (Str.ofString "open")]) _ rfl rt2.is (by simp) (by simp)
  obtain ⟨b, rfl⟩ : ∃ b, x = sortD b := by
    simp at hx
    rcases hx with rfl | rfl
    · exact ⟨true, rfl⟩
    · exact ⟨false, rfl⟩
  have hv1 : -10000000 ≤ 1 + (v : Int) ∧ 1 + (v : Int) ≤ 10000000 := by omega
  have hv2 : (1 + (v : Int)).toNat = 1 + v := by omega
  have hv3 : 1 + v ≤ 10000000 := by omega
  have hv4 : so.length + 1 ≤ 10000000 := by omega
  refine ⟨so ++ [b], s3, ?_, rt1.trans (rt2.trans rt3), by simp; omega, by simp; omega⟩
  have e1' : gt [.ref a, .int 3] s = some (.int (v : Int), s1) := e1
  simp [e1', hv1, hv2, hv3, e2, e3, sortsD, hv4]

end
end Fw

set_option Elab.async false
set_option linter.all false
set_option maxRecDepth 100000
set_option maxHeartbeats 4000000
namespace Fw
open PySem PySem.Spec PyProof.Rows L2
section
variable {P : Program} {w : World} {K : PySem.W.Frag} {mg : Str → Option Value} {base : Heap}
theorem ok_statement {f : Addr} {fd : FuncData} (F : Fun K "_law_statement" "_law_statement" s_l_statement f fd) (hm : mg "_law_statement" = some (.ref f)) (B : Bi mg) {gt gp gr : FD} {lv : Nat} (hlv : 2 ≤ lv) (k_l_taken : Kn P w K mg base "_law_taken" 2 1 gt) (pt : P_taken gt) (k_l_pick : Kn P w K mg base "_law_pick" 2 2 gp) (pp : P_pick gp)
    {d : Nat} (k_l_statement : Kn P w K mg base "_law_statement" 3 lv gr) (pr : 0 < d → P_statement (d - 1) gr) :
    ∃ g, Kn P w K mg base "_law_statement" 3 (lv + 1) g ∧ P_statement d g := by
  refine ⟨_, (kn_of (k := lv) F hm sc_l_statement (F.binds (ps := ["row", "many", "deep"]) fun _ _ _ _ _ _ us hl => match us, hl with | [_, _, _], _ => rfl) fun cdv A outer s H E hr => (dss_cons (ds_par3 (i := 3) (j := 4) (l := 5) (ps_par3 rfl sc_l_statement.nd rfl rfl rfl (by decide) (by decide) (by decide) rfl rfl rfl (da_cons (d_kn k_l_taken (hr.mono (by omega)) rfl (da_cons (d_var 0 (pv 0)) (da_cons (d_var 1 (pv 1)) da_nil))) (da_cons (d_kn k_l_taken (hr.mono (by omega)) rfl (da_cons (d_var 0 (pv 0)) (da_cons (d_var 1 (pv 1)) da_nil))) (da_cons (d_kn k_l_taken (hr.mono (by omega)) rfl (da_cons (d_var 0 (pv 0)) (da_cons (d_var 1 (pv 1)) da_nil))) da_nil))) (by first | rfl | with_unfolding_all rfl)))
  (dss_cons (ds_set (i := 6) sc_l_statement.nd rfl (Or.inl rfl) (d_lst (da_cons d_str (da_cons d_str (da_cons d_str (da_cons d_str (da_cons d_str (da_cons d_str (da_cons d_str (da_cons d_str (da_cons d_str (da_cons d_str (da_cons d_str da_nil)))))))))))))
  (dss_cons (ds_set (i := 7) sc_l_statement.nd rfl (Or.inl rfl) (d_kn k_l_pick (hr.mono (by omega)) rfl (da_cons (d_var 0 (pv 0)) (da_cons (d_op op_addA g_add (d_var 6 (pv 6)) (d_op op_mulA g_mul (d_lst (da_cons d_str (da_cons d_str (da_cons d_str (da_cons d_str (da_cons d_str (da_cons d_str da_nil))))))) (d_callTy call_int1 g_int rfl (B.get "int") (by decide +kernel) (da_cons (d_cmp op_gt g_cmpI (d_var 2 (pv 2)) d_int (nomark _)) da_nil)))) da_nil))))
  (dss_cons (ds_if (dt_cmp (op_eqA hr.units) g_eq (d_var 7 (pv 7)) d_str (nomark _)) (dss_one (ds_ret (d_tup (da_cons (d_var 7 (pv 7)) (da_cons (d_var 3 (pv 3)) (da_cons (d_callTy call_tuple_ofZ g_tuple rfl (B.get "tuple") (by decide +kernel) (da_cons (d_lc (own := [("turn", 8)]) rfl sc_l_statement.nd (di_range rfl (B.get "range") (da_cons (d_kn k_l_taken (hr.mono (by omega)) rfl (da_cons (d_var 0 (pv 0)) (da_cons d_int da_nil))) da_nil)) (blkOk_by (N := ["row", "many", "deep", "x", "y", "z", "plain", "word", "turn", "first"]) (sc := defScope s_l_statement) (by decide +kernel)) (gt_name (i := 8) (vs := [8]) (by decide)) (fun _ _ _ _ _ => (pg_name (i := 8) sc_l_statement.nd rfl (Or.inl rfl))) (fun _ _ _ _ _ => dts_nil) (fun _ _ _ _ _ => (d_kn k_l_taken (hr.mono (by omega)) rfl (da_cons (d_var 0 (pv 0)) (da_cons (d_var 1 (pv 1)) da_nil))))) da_nil)) (da_cons (d_kn k_l_taken (hr.mono (by omega)) rfl (da_cons (d_var 0 (pv 0)) (da_cons d_int da_nil))) da_nil))))))) dss_nil)
  (dss_cons (ds_if (dt_cmp op_in_seq g_in (d_var 7 (pv 7)) (d_lst (da_cons d_str (da_cons d_str da_nil))) (by with_unfolding_all rfl)) (dss_one (ds_ret (d_tup (da_cons (d_var 7 (pv 7)) (da_cons (d_kn k_l_pick (hr.mono (by omega)) rfl (da_cons (d_var 0 (pv 0)) (da_cons (d_lst (da_cons d_str (da_cons d_str da_nil))) da_nil))) (da_cons (d_var 3 (pv 3)) (da_cons (d_var 4 (pv 4)) da_nil))))))) dss_nil)
  (dss_cons (ds_if (dt_cmp op_in_seq g_in (d_var 7 (pv 7)) (d_lst (da_cons d_str (da_cons d_str (da_cons d_str da_nil)))) (by with_unfolding_all rfl)) (dss_one (ds_ret (d_dictIx (hu_of hr) (dp_cons (d_tup (da_cons (d_var 7 (pv 7)) (da_cons (d_var 3 (pv 3)) da_nil))) (dp_cons (d_tup (da_cons (d_var 7 (pv 7)) da_nil)) (dp_cons (d_tup (da_cons (d_var 7 (pv 7)) (da_cons (d_var 3 (pv 3)) (da_cons (d_var 4 (pv 4)) da_nil)))) dp_nil))) (d_var 7 (pv 7)) (fun _ _ => rfl)))) dss_nil)
  (dss_cons (ds_set (i := 9) sc_l_statement.nd rfl (Or.inl rfl) (d_callTy call_tuple_ofZ g_tuple rfl (B.get "tuple") (by decide +kernel) (da_cons (d_lc (own := [("turn", 8)]) rfl sc_l_statement.nd (di_range rfl (B.get "range") (da_cons (d_kn k_l_taken (hr.mono (by omega)) rfl (da_cons (d_var 0 (pv 0)) (da_cons d_int da_nil))) da_nil)) (blkOk_by (N := ["row", "many", "deep", "x", "y", "z", "plain", "word", "turn", "first"]) (sc := defScope s_l_statement) (by decide +kernel)) (gt_name (i := 8) (vs := [8]) (by decide)) (fun _ _ _ _ _ => (pg_name (i := 8) sc_l_statement.nd rfl (Or.inl rfl))) (fun _ _ _ _ _ => dts_nil) (fun _ _ _ _ _ => (d_kn k_l_statement (hr.mono (by omega)) rfl (da_cons (d_var 0 (pv 0)) (da_cons (d_var 1 (pv 1)) (da_cons (d_op op_sub g_sub (d_var 2 (pv 2)) d_int) da_nil)))))) da_nil)))
  (dss_cons (ds_if (dt_cmp (op_eqA hr.units) g_eq (d_var 7 (pv 7)) d_str (nomark _)) (dss_one (ds_ret (d_tup (da_cons (d_var 7 (pv 7)) (da_cons (d_var 3 (pv 3)) (da_cons (d_var 9 (pv 9)) (da_cons (d_callTy call_tuple_ofZ g_tuple rfl (B.get "tuple") (by decide +kernel) (da_cons (d_lc (own := [("turn", 8)]) rfl sc_l_statement.nd (di_range rfl (B.get "range") (da_cons (d_kn k_l_taken (hr.mono (by omega)) rfl (da_cons (d_var 0 (pv 0)) (da_cons d_int da_nil))) da_nil)) (blkOk_by (N := ["row", "many", "deep", "x", "y", "z", "plain", "word", "turn", "first"]) (sc := defScope s_l_statement) (by decide +kernel)) (gt_name (i := 8) (vs := [8]) (by decide)) (fun _ _ _ _ _ => (pg_name (i := 8) sc_l_statement.nd rfl (Or.inl rfl))) (fun _ _ _ _ _ => dts_nil) (fun _ _ _ _ _ => (d_kn k_l_statement (hr.mono (by omega)) rfl (da_cons (d_var 0 (pv 0)) (da_cons (d_var 1 (pv 1)) (da_cons (d_op op_sub g_sub (d_var 2 (pv 2)) d_int) da_nil)))))) da_nil)) da_nil))))))) dss_nil)
  (dss_one (ds_ret (d_if (dt_cmp (op_eqA hr.units) g_eq (d_var 7 (pv 7)) d_str (nomark _)) (d_tup (da_cons (d_var 7 (pv 7)) (da_cons (d_kn k_l_taken (hr.mono (by omega)) rfl (da_cons (d_var 0 (pv 0)) (da_cons d_int da_nil))) (da_cons (d_var 9 (pv 9)) da_nil)))) (d_tup (da_cons (d_var 7 (pv 7)) (da_cons (d_var 5 (pv 5)) (da_cons (d_var 9 (pv 9)) da_nil)))))))))))))))), ?_⟩
  intro a s m hr hm0 hm1
  obtain ⟨x, s1, e1, rt1, hx⟩ := takenN pt a s m hr hm0 (by omega)
  obtain ⟨y, s2, e2, rt2, hy⟩ := takenN pt a s1 m rt1.is hm0 (by omega)
  obtain ⟨z, s3, e3, rt3, hz⟩ := takenN pt a s2 m rt2.is hm0 (by omega)
  have draws : ∀ (n : Nat) (s : S) (δ : Fr), IsRow s a → δ.length = 10 → δ[0]? = some (some (.ref a)) → δ[1]? = some (some (.int (m : Nat))) →
      ∃ (ts : List Nat) (s' : S), compL (gtName 8) tTrue (fCall 2 gt (fCons (fVar 0) (fCons (fVar 1) fNil))) (rangeD 0 n) δ s = some (ts.map natD, s') ∧ RowTo s a s' ∧ ts.length = n ∧ ∀ t ∈ ts, t < m := by
    intro n s δ hr hl h0 h1
    obtain ⟨vs, s', e, rt, hlv, hv⟩ := compL_draw (fe := fCall 2 gt (fCons (fVar 0) (fCons (fVar 1) fNil))) (i := 8) (δ := δ) (a := a) (fun v => ∃ n : Nat, v = .int (n : Int) ∧ n < m) (rangeD 0 n) s hr fun d _ s hr => by
      obtain ⟨v, s', e, rt, hv⟩ := takenN pt a s m hr hm0 (by omega)
      refine ⟨_, s', ?_, rt, v, rfl, hv⟩
      simp [h0, h1, e]
    obtain ⟨ts, rfl, ht⟩ := nats_of hv
    exact ⟨ts, s', e, rt, by simpa using hlv, ht⟩
  have bodies : 0 < d → ∀ (n : Nat) (s : S) (δ : Fr), IsRow s a → δ.length = 10 → δ[0]? = some (some (.ref a)) → δ[1]? = some (some (.int (m : Nat))) → δ[2]? = some (some (.int (d : Nat))) →
      ∃ (ts : List Sm) (s' : S), compL (gtName 8) tTrue (fCall 3 gr (fCons (fVar 0) (fCons (fVar 1) (fCons (f2 dSub (fVar 2) (fC (.int 1))) fNil)))) (rangeD 0 n) δ s = some (smsD ts, s') ∧ RowTo s a s' ∧ ts.length = n ∧ smsOk m (d - 1) ts := by
    intro hd n s δ hr hl h0 h1 h2
    obtain ⟨vs, s', e, rt, hlv, hv⟩ := compL_draw (fe := fCall 3 gr (fCons (fVar 0) (fCons (fVar 1) (fCons (f2 dSub (fVar 2) (fC (.int 1))) fNil)))) (i := 8) (δ := δ) (a := a) (fun v => ∃ n : Sm, v = smD n ∧ smOk m (d - 1) n) (rangeD 0 n) s hr fun dd _ s hr => by
      obtain ⟨v, s', e, rt, hv⟩ := pr hd a s m hr hm0 hm1
      refine ⟨_, s', ?_, rt, v, rfl, hv⟩
      have ed : (d : Int) - 1 = ((d - 1 : Nat) : Int) := by omega
      simp [h0, h1, h2, e, ed]
    obtain ⟨ts, rfl, ht, hl2⟩ := sms_of hv
    exact ⟨ts, s', e, rt, by rw [hl2]; simpa using hlv, ht⟩
  have hrt : ∀ {s'}, RowTo s3 a s' → RowTo s a s' := fun h => rt1.trans (rt2.trans (rt3.trans h))
  rcases Nat.eq_zero_or_pos d with h0 | hd
  · subst h0
    have h0 : ¬ (0 : Nat) < 0 := by omega
    obtain ⟨wd, s4, e4, rt4, hw⟩ := pp a s3 (.lst [.str (Str.ofString "sum"), .str (Str.ofString "sum"), .str (Str.ofString "sum"), .str (Str.ofString "print"), .str (Str.ofString "print"), .str (Str.ofString "stop"), .str (Str.ofString "split"), .str (Str.ofString "keep"), .str (Str.ofString "keep"), .str (Str.ofString "fetch"), .str (Str.ofString "fetch")]) _ rfl rt3.is (by simp) (by simp)
    replace hw : wd = .str (Str.ofString "sum") ∨ wd = .str (Str.ofString "print") ∨ wd = .str (Str.ofString "stop") ∨ wd = .str (Str.ofString "split") ∨ wd = .str (Str.ofString "keep") ∨ wd = .str (Str.ofString "fetch") := by
      simp only [List.mem_cons, List.mem_nil_iff, or_false] at hw
      rcases hw with h | h | h | h | h | h | h | h | h | h | h <;> simp [h]
    rcases hw with rfl | rfl | rfl | rfl | rfl | rfl
    · obtain ⟨v, s5, e5, rt5, hv⟩ := takenN pt a s4 3 rt4.is (by omega) (by omega)
      obtain ⟨ts, s6, e6, rt6, hl6, ht6⟩ := draws v s5 [some (.ref a), some (.int (m : Nat)), some (.int 0), some (.int (x : Nat)), some (.int (y : Nat)), some (.int (z : Nat)), some (.lst [.str (Str.ofString "sum"), .str (Str.ofString "sum"), .str (Str.ofString "sum"), .str (Str.ofString "print"), .str (Str.ofString "print"), .str (Str.ofString "stop"), .str (Str.ofString "split"), .str (Str.ofString "keep"), .str (Str.ofString "keep"), .str (Str.ofString "fetch"), .str (Str.ofString "fetch")]), some (.str (Str.ofString "sum")), none, none] rt5.is rfl rfl rfl
      obtain ⟨n, s7, e7, rt7, hn⟩ := takenN pt a s6 10 rt6.is (by omega) (by omega)
      have e5' : gt [.ref a, .int 3] s4 = some (.int (v : Nat), s5) := e5
      have e7' : gt [.ref a, .int 10] s6 = some (.int (n : Nat), s7) := e7
      have hv1 : (-10000000 : Int) ≤ (v : Int) ∧ (v : Int) ≤ 10000000 := by omega
      have hv2 : v ≤ 10000000 := by omega
      exact ⟨.sum x ts n, s7, by simp [e1, e2, e3, e4, h0, smD, natD, sortD, e5', e6, e7', hv1, hv2], hrt (rt4.trans (rt5.trans (rt6.trans rt7))), hx, by omega, ht6, by omega⟩
    · exact ⟨.print x, s4, by simp [e1, e2, e3, e4, h0, smD, natD, sortD], hrt rt4, hx⟩
    · exact ⟨.stop, s4, by simp [e1, e2, e3, e4, h0, smD, natD, sortD], hrt rt4, trivial⟩
    · exact ⟨.split x y, s4, by simp [e1, e2, e3, e4, h0, smD, natD, sortD], hrt rt4, hx, hy⟩
    · obtain ⟨t, s5, e5, rt5, hti⟩ := pp a s4 (.lst [.str (Str.ofString "open"), .str (Str.ofString "secret")]) _ rfl rt4.is (by simp) (by simp)
      simp only [List.mem_cons, List.mem_nil_iff, or_false] at hti
      rcases hti with rfl | rfl
      · exact ⟨.keep false x y, s5, by simp [e1, e2, e3, e4, h0, smD, natD, sortD, e5], hrt (rt4.trans rt5), hx, hy⟩
      · exact ⟨.keep true x y, s5, by simp [e1, e2, e3, e4, h0, smD, natD, sortD, e5], hrt (rt4.trans rt5), hx, hy⟩
    · obtain ⟨t, s5, e5, rt5, hti⟩ := pp a s4 (.lst [.str (Str.ofString "open"), .str (Str.ofString "secret")]) _ rfl rt4.is (by simp) (by simp)
      simp only [List.mem_cons, List.mem_nil_iff, or_false] at hti
      rcases hti with rfl | rfl
      · exact ⟨.fetch false x y, s5, by simp [e1, e2, e3, e4, h0, smD, natD, sortD, e5], hrt (rt4.trans rt5), hx, hy⟩
      · exact ⟨.fetch true x y, s5, by simp [e1, e2, e3, e4, h0, smD, natD, sortD, e5], hrt (rt4.trans rt5), hx, hy⟩
  · obtain ⟨wd, s4, e4, rt4, hw⟩ := pp a s3 (.lst [.str (Str.ofString "sum"), .str (Str.ofString "sum"), .str (Str.ofString "sum"), .str (Str.ofString "print"), .str (Str.ofString "print"), .str (Str.ofString "stop"), .str (Str.ofString "split"), .str (Str.ofString "keep"), .str (Str.ofString "keep"), .str (Str.ofString "fetch"), .str (Str.ofString "fetch"), .str (Str.ofString "if"), .str (Str.ofString "if"), .str (Str.ofString "if"), .str (Str.ofString "times"), .str (Str.ofString "while"), .str (Str.ofString "while")]) _ rfl rt3.is (by simp) (by simp)
    replace hw : wd = .str (Str.ofString "sum") ∨ wd = .str (Str.ofString "print") ∨ wd = .str (Str.ofString "stop") ∨ wd = .str (Str.ofString "split") ∨ wd = .str (Str.ofString "keep") ∨ wd = .str (Str.ofString "fetch") ∨ wd = .str (Str.ofString "if") ∨ wd = .str (Str.ofString "times") ∨ wd = .str (Str.ofString "while") := by
      simp only [List.mem_cons, List.mem_nil_iff, or_false] at hw
      rcases hw with h | h | h | h | h | h | h | h | h | h | h | h | h | h | h | h | h <;> simp [h]
    rcases hw with rfl | rfl | rfl | rfl | rfl | rfl | rfl | rfl | rfl
    · obtain ⟨v, s5, e5, rt5, hv⟩ := takenN pt a s4 3 rt4.is (by omega) (by omega)
      obtain ⟨ts, s6, e6, rt6, hl6, ht6⟩ := draws v s5 [some (.ref a), some (.int (m : Nat)), some (.int (d : Nat)), some (.int (x : Nat)), some (.int (y : Nat)), some (.int (z : Nat)), some (.lst [.str (Str.ofString "sum"), .str (Str.ofString "sum"), .str (Str.ofString "sum"), .str (Str.ofString "print"), .str (Str.ofString "print"), .str (Str.ofString "stop"), .str (Str.ofString "split"), .str (Str.ofString "keep"), .str (Str.ofString "keep"), .str (Str.ofString "fetch"), .str (Str.ofString "fetch")]), some (.str (Str.ofString "sum")), none, none] rt5.is rfl rfl rfl
      obtain ⟨n, s7, e7, rt7, hn⟩ := takenN pt a s6 10 rt6.is (by omega) (by omega)
      have e5' : gt [.ref a, .int 3] s4 = some (.int (v : Nat), s5) := e5
      have e7' : gt [.ref a, .int 10] s6 = some (.int (n : Nat), s7) := e7
      have hv1 : (-10000000 : Int) ≤ (v : Int) ∧ (v : Int) ≤ 10000000 := by omega
      have hv2 : v ≤ 10000000 := by omega
      exact ⟨.sum x ts n, s7, by simp [e1, e2, e3, e4, hd, smD, natD, sortD, e5', e6, e7', hv1, hv2], hrt (rt4.trans (rt5.trans (rt6.trans rt7))), hx, by omega, ht6, by omega⟩
    · exact ⟨.print x, s4, by simp [e1, e2, e3, e4, hd, smD, natD, sortD], hrt rt4, hx⟩
    · exact ⟨.stop, s4, by simp [e1, e2, e3, e4, hd, smD, natD, sortD], hrt rt4, trivial⟩
    · exact ⟨.split x y, s4, by simp [e1, e2, e3, e4, hd, smD, natD, sortD], hrt rt4, hx, hy⟩
    · obtain ⟨t, s5, e5, rt5, hti⟩ := pp a s4 (.lst [.str (Str.ofString "open"), .str (Str.ofString "secret")]) _ rfl rt4.is (by simp) (by simp)
      simp only [List.mem_cons, List.mem_nil_iff, or_false] at hti
      rcases hti with rfl | rfl
      · exact ⟨.keep false x y, s5, by simp [e1, e2, e3, e4, hd, smD, natD, sortD, e5], hrt (rt4.trans rt5), hx, hy⟩
      · exact ⟨.keep true x y, s5, by simp [e1, e2, e3, e4, hd, smD, natD, sortD, e5], hrt (rt4.trans rt5), hx, hy⟩
    · obtain ⟨t, s5, e5, rt5, hti⟩ := pp a s4 (.lst [.str (Str.ofString "open"), .str (Str.ofString "secret")]) _ rfl rt4.is (by simp) (by simp)
      simp only [List.mem_cons, List.mem_nil_iff, or_false] at hti
      rcases hti with rfl | rfl
      · exact ⟨.fetch false x y, s5, by simp [e1, e2, e3, e4, hd, smD, natD, sortD, e5], hrt (rt4.trans rt5), hx, hy⟩
      · exact ⟨.fetch true x y, s5, by simp [e1, e2, e3, e4, hd, smD, natD, sortD, e5], hrt (rt4.trans rt5), hx, hy⟩
    · obtain ⟨v, s5, e5, rt5, hv⟩ := takenN pt a s4 4 rt4.is (by omega) (by omega)
      obtain ⟨p, s6, e6, rt6, hl6, hp6⟩ := bodies hd v s5 [some (.ref a), some (.int (m : Nat)), some (.int (d : Nat)), some (.int (x : Nat)), some (.int (y : Nat)), some (.int (z : Nat)), some (.lst [.str (Str.ofString "sum"), .str (Str.ofString "sum"), .str (Str.ofString "sum"), .str (Str.ofString "print"), .str (Str.ofString "print"), .str (Str.ofString "stop"), .str (Str.ofString "split"), .str (Str.ofString "keep"), .str (Str.ofString "keep"), .str (Str.ofString "fetch"), .str (Str.ofString "fetch")]), some (.str (Str.ofString "if")), none, none] rt5.is rfl rfl rfl rfl
      have e5' : gt [.ref a, .int 4] s4 = some (.int (v : Nat), s5) := e5
      have hv1 : (-10000000 : Int) ≤ (v : Int) ∧ (v : Int) ≤ 10000000 := by omega
      have hv2 : v ≤ 10000000 := by omega
      obtain ⟨u, s7, e7, rt7, hu⟩ := takenN pt a s6 3 rt6.is (by omega) (by omega)
      obtain ⟨r, s8, e8, rt8, hl8, hp8⟩ := bodies hd u s7 [some (.ref a), some (.int (m : Nat)), some (.int (d : Nat)), some (.int (x : Nat)), some (.int (y : Nat)), some (.int (z : Nat)), some (.lst [.str (Str.ofString "sum"), .str (Str.ofString "sum"), .str (Str.ofString "sum"), .str (Str.ofString "print"), .str (Str.ofString "print"), .str (Str.ofString "stop"), .str (Str.ofString "split"), .str (Str.ofString "keep"), .str (Str.ofString "keep"), .str (Str.ofString "fetch"), .str (Str.ofString "fetch")]), some (.str (Str.ofString "if")), none, some (.tup (smsD p))] rt7.is rfl rfl rfl rfl
      have e7' : gt [.ref a, .int 3] s6 = some (.int (u : Nat), s7) := e7
      have hu1 : (-10000000 : Int) ≤ (u : Int) ∧ (u : Int) ≤ 10000000 := by omega
      have hu2 : u ≤ 10000000 := by omega
      exact ⟨.ite x p r, s8, by simp [e1, e2, e3, e4, hd, smD, natD, sortD, e5', e6, e7', e8, hv1, hv2, hu1, hu2], hrt (rt4.trans (rt5.trans (rt6.trans (rt7.trans rt8)))), hx, by omega, by omega, hd, hp6, hp8⟩
    · obtain ⟨v, s5, e5, rt5, hv⟩ := takenN pt a s4 4 rt4.is (by omega) (by omega)
      obtain ⟨p, s6, e6, rt6, hl6, hp6⟩ := bodies hd v s5 [some (.ref a), some (.int (m : Nat)), some (.int (d : Nat)), some (.int (x : Nat)), some (.int (y : Nat)), some (.int (z : Nat)), some (.lst [.str (Str.ofString "sum"), .str (Str.ofString "sum"), .str (Str.ofString "sum"), .str (Str.ofString "print"), .str (Str.ofString "print"), .str (Str.ofString "stop"), .str (Str.ofString "split"), .str (Str.ofString "keep"), .str (Str.ofString "keep"), .str (Str.ofString "fetch"), .str (Str.ofString "fetch")]), some (.str (Str.ofString "times")), none, none] rt5.is rfl rfl rfl rfl
      have e5' : gt [.ref a, .int 4] s4 = some (.int (v : Nat), s5) := e5
      have hv1 : (-10000000 : Int) ≤ (v : Int) ∧ (v : Int) ≤ 10000000 := by omega
      have hv2 : v ≤ 10000000 := by omega
      obtain ⟨u, s7, e7, rt7, hu⟩ := takenN pt a s6 4 rt6.is (by omega) (by omega)
      have e7' : gt [.ref a, .int 4] s6 = some (.int (u : Nat), s7) := e7
      exact ⟨.times u p, s7, by simp [e1, e2, e3, e4, hd, smD, natD, sortD, e5', e6, e7', hv1, hv2], hrt (rt4.trans (rt5.trans (rt6.trans rt7))), by omega, by omega, hd, hp6⟩
    · obtain ⟨v, s5, e5, rt5, hv⟩ := takenN pt a s4 4 rt4.is (by omega) (by omega)
      obtain ⟨p, s6, e6, rt6, hl6, hp6⟩ := bodies hd v s5 [some (.ref a), some (.int (m : Nat)), some (.int (d : Nat)), some (.int (x : Nat)), some (.int (y : Nat)), some (.int (z : Nat)), some (.lst [.str (Str.ofString "sum"), .str (Str.ofString "sum"), .str (Str.ofString "sum"), .str (Str.ofString "print"), .str (Str.ofString "print"), .str (Str.ofString "stop"), .str (Str.ofString "split"), .str (Str.ofString "keep"), .str (Str.ofString "keep"), .str (Str.ofString "fetch"), .str (Str.ofString "fetch")]), some (.str (Str.ofString "while")), none, none] rt5.is rfl rfl rfl rfl
      have e5' : gt [.ref a, .int 4] s4 = some (.int (v : Nat), s5) := e5
      have hv1 : (-10000000 : Int) ≤ (v : Int) ∧ (v : Int) ≤ 10000000 := by omega
      have hv2 : v ≤ 10000000 := by omega
      exact ⟨.whl z p, s6, by simp [e1, e2, e3, e4, hd, smD, natD, sortD, e5', e6, hv1, hv2], hrt (rt4.trans (rt5.trans rt6)), hz, by omega, hd, hp6⟩

end
end Fw

set_option Elab.async false
set_option linter.all false
set_option maxRecDepth 100000
set_option maxHeartbeats 4000000
namespace Fw
open PySem PySem.Spec PyProof.Rows L2
section
variable {P : Program} {w : World} {K : PySem.W.Frag} {mg : Str → Option Value} {base : Heap}
theorem ok_is_pair {f : Addr} {fd : FuncData} (F : Fun K "is_pair" "is_pair" s_is_pair f fd) (hm : mg "is_pair" = some (.ref f)) (B : Bi mg) :
    ∃ g, Kn P w K mg base "is_pair" 1 1 g ∧ P_is_pair g := by
  refine ⟨_, (kn_of (k := 0) F hm sc_is_pair (F.binds (ps := ["value"]) fun _ _ _ _ _ _ us hl => match us, hl with | [_], _ => rfl) fun cdv A outer s H E hr => (dss_one (ds_ret (d_and (d_isI (t := .tuple) rfl (B.get "isinstance") (d_var 0 (pv 0)) rfl (B.get "tuple") (by decide +kernel)) (d_one (d_cmp (op_eqA hr.units) g_eq (d_callB call_len g_len rfl (B.get "len") (by decide +kernel) (da_cons (d_var 0 (pv 0)) da_nil)) d_int (nomark _))))))), ?_⟩
  intro a b s
  simp
theorem ok_is_sort {f : Addr} {fd : FuncData} (F : Fun K "is_sort" "is_sort" s_is_sort f fd) (hm : mg "is_sort" = some (.ref f)) (B : Bi mg) (g_SORTS : Gc K mg "SORTS" (.tup [strD "open", strD "secret"])) :
    ∃ g, Kn P w K mg base "is_sort" 1 1 g ∧ P_is_sort g := by
  refine ⟨_, (kn_of (k := 0) F hm sc_is_sort (F.binds (ps := ["value"]) fun _ _ _ _ _ _ us hl => match us, hl with | [_], _ => rfl) fun cdv A outer s H E hr => (dss_one (ds_ret (d_and (d_isI (t := .str) rfl (B.get "isinstance") (d_var 0 (pv 0)) rfl (B.get "str") (by decide +kernel)) (d_one (d_cmp op_in_seq g_in (d_var 0 (pv 0)) (d_gc g_SORTS rfl) (by with_unfolding_all rfl))))))), ?_⟩
  intro t s
  cases t <;> simp [sortD]
theorem ok_is_number {f : Addr} {fd : FuncData} (F : Fun K "is_number" "is_number" s_is_number f fd) (hm : mg "is_number" = some (.ref f)) (B : Bi mg) :
    ∃ g, Kn P w K mg base "is_number" 2 1 g ∧ P_is_number g := by
  refine ⟨_, (kn_of (k := 0) F hm sc_is_number (F.binds (ps := ["value", "most"]) fun _ _ _ _ _ _ us hl => match us, hl with | [_, _], _ => rfl) fun cdv A outer s H E hr => (dss_one (ds_ret (d_and (d_isI (t := .int) rfl (B.get "isinstance") (d_var 0 (pv 0)) rfl (B.get "int") (by decide +kernel)) (d_and (d_not (d_isI (t := .bool) rfl (B.get "isinstance") (d_var 0 (pv 0)) rfl (B.get "bool") (by decide +kernel))) (d_one (d_chain op_le op_le g_cmpI g_cmpI d_int (d_var 0 (pv 0)) (d_var 1 (pv 1))))))))), ?_⟩
  intro n k s h
  simp [h]
theorem ok_is_sorts {f : Addr} {fd : FuncData} (F : Fun K "is_sorts" "is_sorts" s_is_sorts f fd) (hm : mg "is_sorts" = some (.ref f)) (B : Bi mg) (g_MOST_NAMES : Gc K mg "MOST_NAMES" (.int 6)) {gs : FD} (k_is_sort : Kn P w K mg base "is_sort" 1 1 gs) (ps : P_is_sort gs) :
    ∃ g, Kn P w K mg base "is_sorts" 1 2 g ∧ P_is_sorts g := by
  refine ⟨_, (kn_of (k := 1) F hm sc_is_sorts (F.binds (ps := ["value"]) fun _ _ _ _ _ _ us hl => match us, hl with | [_], _ => rfl) fun cdv A outer s H E hr => (dss_cons (ds_if (PW.pt (dw_or (dt_not (dt_tru (d_isI (t := .tuple) rfl (B.get "isinstance") (d_var 0 (pv 0)) rfl (B.get "tuple") (by decide +kernel)))) (dw_or1 (dt_not (dt_chain op_le op_le g_cmpI g_cmpI d_int (d_callB call_len g_len rfl (B.get "len") (by decide +kernel) (da_cons (d_var 0 (pv 0)) da_nil)) (d_gc g_MOST_NAMES rfl)))))) (dss_one (ds_ret d_bl)) dss_nil)
  (dss_one (ds_ret (d_callB (cr_all rfl) g_all rfl (B.get "all") (by decide +kernel) (da_cons (d_lc (own := [("word", 1)]) rfl sc_is_sorts.nd (di_items (d_var 0 (pv 0))) (blkOk_by (N := ["value", "word"]) (sc := defScope s_is_sorts) (by decide +kernel)) (gt_name (i := 1) (vs := [1]) (by decide)) (fun _ _ _ _ _ => (pg_name (i := 1) sc_is_sorts.nd rfl (Or.inl rfl))) (fun _ _ _ _ _ => dts_nil) (fun _ _ _ _ _ => (d_kn k_is_sort (hr.mono (by omega)) rfl (da_cons (d_var 1 (pv 1)) da_nil)))) da_nil)))))), ?_⟩
  intro so s h1 h2
  have hc : ∀ (δ : Fr), 1 < δ.length → compL (gtName 1) tTrue (fCall 1 gs (fCons (fVar 1) fNil)) (so.map sortD) δ s = some (List.replicate (so.map sortD).length (.bl true), s) := fun δ hl => compL_true _ fun d hd => by
    obtain ⟨t, _, rfl⟩ := List.mem_map.mp hd
    refine ⟨_, rfl, ?_⟩
    simp [hl, ps t s]
  have h3 : so.length ≤ 10000000 := by omega
  have h4 : (1 : Int) ≤ (so.length : Nat) := by omega
  have h5 : ((so.length : Nat) : Int) ≤ 6 := by omega
  simp [sortsD, h3, h4, h5, hc]
theorem ok_is_terms {f : Addr} {fd : FuncData} (F : Fun K "is_terms" "is_terms" s_is_terms f fd) (hm : mg "is_terms" = some (.ref f)) (B : Bi mg) (g_MOST_TERMS : Gc K mg "MOST_TERMS" (.int 2)) {gn : FD} (k_is_number : Kn P w K mg base "is_number" 2 1 gn) (pn : P_is_number gn) :
    ∃ g, Kn P w K mg base "is_terms" 2 2 g ∧ P_is_terms g := by
  refine ⟨_, (kn_of (k := 1) F hm sc_is_terms (F.binds (ps := ["value", "names"]) fun _ _ _ _ _ _ us hl => match us, hl with | [_, _], _ => rfl) fun cdv A outer s H E hr => (dss_cons (ds_if (PW.pt (dw_or (dt_not (dt_tru (d_isI (t := .tuple) rfl (B.get "isinstance") (d_var 0 (pv 0)) rfl (B.get "tuple") (by decide +kernel)))) (dw_or1 (dt_cmp op_gt g_cmpI (d_callB call_len g_len rfl (B.get "len") (by decide +kernel) (da_cons (d_var 0 (pv 0)) da_nil)) (d_gc g_MOST_TERMS rfl) (nomark _))))) (dss_one (ds_ret d_bl)) dss_nil)
  (dss_one (ds_ret (d_callB (cr_all rfl) g_all rfl (B.get "all") (by decide +kernel) (da_cons (d_lc (own := [("name", 2)]) rfl sc_is_terms.nd (di_items (d_var 0 (pv 0))) (blkOk_by (N := ["value", "names", "name"]) (sc := defScope s_is_terms) (by decide +kernel)) (gt_name (i := 2) (vs := [2]) (by decide)) (fun _ _ _ _ _ => (pg_name (i := 2) sc_is_terms.nd rfl (Or.inl rfl))) (fun _ _ _ _ _ => dts_nil) (fun _ _ _ _ _ => (d_kn k_is_number (hr.mono (by omega)) rfl (da_cons (d_var 2 (pv 2)) (da_cons (d_op op_sub g_sub (d_var 1 (pv 1)) d_int) da_nil))))) da_nil)))))), ?_⟩
  intro ts m s h1 h2
  have hc : ∀ (δ : Fr), δ[1]? = some (some (.int (m : Nat))) → 2 < δ.length → compL (gtName 2) tTrue (fCall 2 gn (fCons (fVar 2) (fCons (f2 dSub (fVar 1) (fC (.int 1))) fNil))) (ts.map natD) δ s = some (List.replicate (ts.map natD).length (.bl true), s) := fun δ q1 hl => compL_true _ fun d hd => by
    obtain ⟨t, ht, rfl⟩ := List.mem_map.mp hd
    refine ⟨_, rfl, ?_⟩
    have := h2 t ht
    have hp := pn t ((m : Int) - 1) s (by omega)
    simp [hl, natD, q1, hp]
  have h3 : ts.length ≤ 10000000 := by omega
  have h5 : ¬ ((2 : Int) < (ts.length : Nat)) := by omega
  simp [natsD, h3, h5, hc]
theorem ok_is_item {f : Addr} {fd : FuncData} (F : Fun K "is_item" "is_item" s_is_item f fd) (hm : mg "is_item" = some (.ref f)) (B : Bi mg) (g_HIGHEST : Gc K mg "HIGHEST" (.int 9)) (g_MOST_TURNS : Gc K mg "MOST_TURNS" (.int 3)) (g_MOST_WITHIN : Gc K mg "MOST_WITHIN" (.int 2)) (g_MOST_INNER_STATEMENTS : Gc K mg "MOST_INNER_STATEMENTS" (.int 4))
    {gn gs gt gb : FD} {lv d : Nat} (hlv : 2 ≤ lv) (k_is_number : Kn P w K mg base "is_number" 2 1 gn) (pn : P_is_number gn) (k_is_sort : Kn P w K mg base "is_sort" 1 1 gs) (ps : P_is_sort gs) (k_is_terms : Kn P w K mg base "is_terms" 2 2 gt) (pt : P_is_terms gt)
    (k_is_body : Kn P w K mg base "is_body" 4 lv gb) (pb : 0 < d → P_is_body (d - 1) gb) :
    ∃ g, Kn P w K mg base "is_item" 4 (lv + 1) g ∧ P_is_item d g := by
  refine ⟨_, (kn_of (k := lv) F hm sc_is_item (F.binds (ps := ["kind", "value", "names", "depth"]) fun _ _ _ _ _ _ us hl => match us, hl with | [_, _, _, _], _ => rfl) fun cdv A outer s H E hr => (dss_cons (ds_if (dt_cmp (op_eqA hr.units) g_eq (d_var 0 (pv 0)) d_str (nomark _)) (dss_one (ds_ret (d_kn k_is_number (hr.mono (by omega)) rfl (da_cons (d_var 1 (pv 1)) (da_cons (d_op op_sub g_sub (d_var 2 (pv 2)) d_int) da_nil))))) dss_nil)
  (dss_cons (ds_if (dt_cmp (op_eqA hr.units) g_eq (d_var 0 (pv 0)) d_str (nomark _)) (dss_one (ds_ret (d_kn k_is_number (hr.mono (by omega)) rfl (da_cons (d_var 1 (pv 1)) (da_cons (d_gc g_HIGHEST rfl) da_nil))))) dss_nil)
  (dss_cons (ds_if (dt_cmp (op_eqA hr.units) g_eq (d_var 0 (pv 0)) d_str (nomark _)) (dss_one (ds_ret (d_kn k_is_number (hr.mono (by omega)) rfl (da_cons (d_var 1 (pv 1)) (da_cons (d_gc g_MOST_TURNS rfl) da_nil))))) dss_nil)
  (dss_cons (ds_if (dt_cmp (op_eqA hr.units) g_eq (d_var 0 (pv 0)) d_str (nomark _)) (dss_one (ds_ret (d_kn k_is_sort (hr.mono (by omega)) rfl (da_cons (d_var 1 (pv 1)) da_nil)))) dss_nil)
  (dss_cons (ds_if (dt_cmp (op_eqA hr.units) g_eq (d_var 0 (pv 0)) d_str (nomark _)) (dss_one (ds_ret (d_kn k_is_terms (hr.mono (by omega)) rfl (da_cons (d_var 1 (pv 1)) (da_cons (d_var 2 (pv 2)) da_nil))))) dss_nil)
  (dss_one (ds_ret (d_and (d_cmp op_lt g_cmpI (d_var 3 (pv 3)) (d_gc g_MOST_WITHIN rfl) (nomark _)) (d_one (d_kn k_is_body (hr.mono (by omega)) rfl (da_cons (d_var 1 (pv 1)) (da_cons (d_var 2 (pv 2)) (da_cons (d_gc g_MOST_INNER_STATEMENTS rfl) (da_cons (d_op op_addA g_add (d_var 3 (pv 3)) d_int) da_nil))))))))))))))), ?_⟩
  intro m k s hk
  refine ⟨fun x hx => ?_, fun n hn => ?_, fun n hn => ?_, fun t => ?_, fun ts h1 h2 => ?_, fun b hd ok hb => ?_⟩
  · have := pn x ((m : Int) - 1) s (by omega)
    simp [natD, this]
  · have := pn n 9 s (by omega)
    simp [natD, this]
  · have := pn n 3 s (by omega)
    simp [natD, this]
  · have := ps t s
    cases t <;> simp [sortD] at this ⊢ <;> simp [this]
  · have := pt ts m s h1 h2
    simp only [natsD] at this ⊢
    simp [this]
  · have := pb hd b m 4 (k + 1) s ok hb (by omega) (by omega)
    simp only [bodyD] at this ⊢
    have h2 : ((k : Nat) : Int) < 2 := by omega
    push_cast at this
    simp [h2, this]
theorem ok_is_body {f : Addr} {fd : FuncData} (F : Fun K "is_body" "is_body" s_is_body f fd) (hm : mg "is_body" = some (.ref f)) (B : Bi mg) {gs : FD} {lv d : Nat} (k_is_statement : Kn P w K mg base "is_statement" 3 lv gs) (ps : P_is_statement d gs) :
    ∃ g, Kn P w K mg base "is_body" 4 (lv + 1) g ∧ P_is_body d g := by
  refine ⟨_, (kn_of (k := lv) F hm sc_is_body (F.binds (ps := ["value", "names", "most", "depth"]) fun _ _ _ _ _ _ us hl => match us, hl with | [_, _, _, _], _ => rfl) fun cdv A outer s H E hr => (dss_cons (ds_if (PW.pt (dw_or (dt_not (dt_tru (d_isI (t := .tuple) rfl (B.get "isinstance") (d_var 0 (pv 0)) rfl (B.get "tuple") (by decide +kernel)))) (dw_or1 (dt_cmp op_gt g_cmpI (d_callB call_len g_len rfl (B.get "len") (by decide +kernel) (da_cons (d_var 0 (pv 0)) da_nil)) (d_var 2 (pv 2)) (nomark _))))) (dss_one (ds_ret d_bl)) dss_nil)
  (dss_one (ds_ret (d_callB (cr_all rfl) g_all rfl (B.get "all") (by decide +kernel) (da_cons (d_lc (own := [("statement", 4)]) rfl sc_is_body.nd (di_items (d_var 0 (pv 0))) (blkOk_by (N := ["value", "names", "most", "depth", "statement"]) (sc := defScope s_is_body) (by decide +kernel)) (gt_name (i := 4) (vs := [4]) (by decide)) (fun _ _ _ _ _ => (pg_name (i := 4) sc_is_body.nd rfl (Or.inl rfl))) (fun _ _ _ _ _ => dts_nil) (fun _ _ _ _ _ => (d_kn k_is_statement (hr.mono (by omega)) rfl (da_cons (d_var 4 (pv 4)) (da_cons (d_var 1 (pv 1)) (da_cons (d_var 3 (pv 3)) da_nil)))))) da_nil)))))), ?_⟩
  intro b m most k s ok hb hm hk
  have hc : ∀ (δ : Fr), δ[1]? = some (some (.int (m : Nat))) → δ[3]? = some (some (.int (k : Nat))) → 4 < δ.length → compL (gtName 4) tTrue (fCall 3 gs (fCons (fVar 4) (fCons (fVar 1) (fCons (fVar 3) fNil)))) (smsD b) δ s = some (List.replicate (smsD b).length (.bl true), s) := fun δ q1 q3 hl => compL_true _ fun d hd => by
    rw [smsD_map] at hd
    obtain ⟨a, ha, rfl⟩ := List.mem_map.mp hd
    refine ⟨_, rfl, ?_⟩
    have hp := ps a m k s (smsOk_iff.mp ok a ha) hk
    simp [hl, q1, q3, hp]
  have h3 : b.length ≤ 10000000 := by omega
  have h5 : ¬ ((most : Nat) : Int) < (b.length : Nat) := by omega
  simp [bodyD, smsD_length, h3, h5, hc]

end
end Fw

set_option Elab.async false
set_option linter.all false
set_option maxRecDepth 100000
set_option maxHeartbeats 4000000
namespace Fw
open PySem PySem.Spec PyProof.Rows L2
section
variable {P : Program} {w : World} {K : PySem.W.Frag} {mg : Str → Option Value} {base : Heap}
theorem ok_is_statement {f : Addr} {fd : FuncData} (F : Fun K "is_statement" "is_statement" s_is_statement f fd) (hm : mg "is_statement" = some (.ref f)) (B : Bi mg) {aF : Addr} (g_FORMS : Gc K mg "FORMS" (.ref aF)) (G_FORMS : GK K w formsL aF)
    {gi : FD} {lv d : Nat} (k_is_item : Kn P w K mg base "is_item" 4 lv gi) (pi : P_is_item d gi) :
    ∃ g, Kn P w K mg base "is_statement" 3 (lv + 1) g ∧ P_is_statement d g := by
  refine ⟨_, (kn_of (k := lv) F hm sc_is_statement (F.binds (ps := ["value", "names", "depth"]) fun _ _ _ _ _ _ us hl => match us, hl with | [_, _, _], _ => rfl) fun cdv A outer s H E hr => (dss_cons (ds_if (PW.pt (dw_or (dt_not (dt_tru (d_isI (t := .tuple) rfl (B.get "isinstance") (d_var 0 (pv 0)) rfl (B.get "tuple") (by decide +kernel)))) (dw_or1 (dt_not (dt_tru (d_var 0 (pv 0))))))) (dss_one (ds_ret d_bl)) dss_nil)
  (dss_cons (ds_if (PW.pt (dw_or (dt_not (dt_tru (d_isI (t := .str) rfl (B.get "isinstance") (d_ix (d_var 0 (pv 0)) d_int (fun _ _ => rfl)) rfl (B.get "str") (by decide +kernel)))) (dw_or1 (dt_notInK G_FORMS (d_ix (d_var 0 (pv 0)) d_int (fun _ _ => rfl)) (d_gc g_FORMS rfl))))) (dss_one (ds_ret d_bl)) dss_nil)
  (dss_cons (ds_set (i := 3) sc_is_statement.nd rfl (Or.inl rfl) (d_itemK G_FORMS (d_gc g_FORMS rfl) (d_ix (d_var 0 (pv 0)) d_int (fun _ _ => rfl)) (fun _ _ => rfl)))
  (dss_cons (ds_set (i := 4) sc_is_statement.nd rfl (Or.inl rfl) (d_slice (d_var 0 (pv 0)) (do_yes d_int) do_no))
  (dss_cons (ds_if (dt_cmp (op_neA hr.units) g_ne (d_callB call_len g_len rfl (B.get "len") (by decide +kernel) (da_cons (d_var 4 (pv 4)) da_nil)) (d_callB call_len g_len rfl (B.get "len") (by decide +kernel) (da_cons (d_var 3 (pv 3)) da_nil)) (nomark _)) (dss_one (ds_ret d_bl)) dss_nil)
  (dss_one (ds_ret (d_callB (cr_all rfl) g_all rfl (B.get "all") (by decide +kernel) (da_cons (d_lc (own := [("kind", 5), ("item", 6)]) rfl sc_is_statement.nd (di_zip rfl (B.get "zip") (da_cons (d_var 3 (pv 3)) (da_cons (d_var 4 (pv 4)) da_nil))) (blkOk_by (N := ["value", "names", "depth", "kinds", "items", "kind", "item"]) (sc := defScope s_is_statement) (by decide +kernel)) (gt_pair (i := 5) (j := 6) (vs := [5, 6]) (by decide) (by decide)) (fun _ _ _ _ _ => (pg_tup rfl (pgs_cons (pg_name (i := 5) sc_is_statement.nd rfl (Or.inl rfl)) (pgs_cons (pg_name (i := 6) sc_is_statement.nd rfl (Or.inl rfl)) pgs_nil)))) (fun _ _ _ _ _ => dts_nil) (fun _ _ _ _ _ => (d_kn k_is_item (hr.mono (by omega)) rfl (da_cons (d_var 5 (pv 5)) (da_cons (d_var 6 (pv 6)) (da_cons (d_var 1 (pv 1)) (da_cons (d_var 2 (pv 2)) da_nil))))))) da_nil)))))))))), ?_⟩
  intro a m k s ok hk
  obtain ⟨p1, p2, p3, p4, p5, p6⟩ := pi m k s hk
  cases a with
  | sum x ts n =>
    obtain ⟨h1, h2, h3, h4⟩ := ok
    have a1 := p1 x h1
    have a2 := p5 ts h2 h3
    have a3 := p2 n h4
    simp only [natsD, natD, strD] at a1 a2 a3
    simp [smD, natD, formsL, List.lookup_cons, compL, a1, a2, a3]
  | ite x p q =>
    obtain ⟨h1, h2, h3, hd, h4, h5⟩ := ok
    have a1 := p1 x h1
    have a2 := p6 p hd h4 h2
    have a3 := p6 q hd h5 h3
    simp only [bodyD, natD, strD] at a1 a2 a3
    simp [smD, natD, formsL, List.lookup_cons, compL, a1, a2, a3]
  | times n b =>
    obtain ⟨h1, h2, hd, h4⟩ := ok
    have a1 := p3 n h1
    have a2 := p6 b hd h4 h2
    simp only [bodyD, natD, strD] at a1 a2
    simp [smD, natD, formsL, List.lookup_cons, compL, a1, a2]
  | whl x b =>
    obtain ⟨h1, h2, hd, h4⟩ := ok
    have a1 := p1 x h1
    have a2 := p6 b hd h4 h2
    simp only [bodyD, natD, strD] at a1 a2
    simp [smD, natD, formsL, List.lookup_cons, compL, a1, a2]
  | print x =>
    have a1 := p1 x ok
    simp only [natD, strD] at a1
    simp [smD, natD, formsL, List.lookup_cons, compL, a1]
  | stop => simp [smD, natD, formsL, List.lookup_cons, compL]
  | split x y =>
    obtain ⟨h1, h2⟩ := ok
    have a1 := p1 x h1
    have a2 := p1 y h2
    simp only [natD, strD] at a1 a2
    simp [smD, natD, formsL, List.lookup_cons, compL, a1, a2]
  | keep t x y =>
    obtain ⟨h1, h2⟩ := ok
    have a1 := p1 x h1
    have a2 := p1 y h2
    have a3 := p4 t
    simp only [natD, strD] at a1 a2 a3
    simp [smD, natD, formsL, List.lookup_cons, compL, a1, a2, a3]
  | fetch t x y =>
    obtain ⟨h1, h2⟩ := ok
    have a1 := p1 x h1
    have a2 := p1 y h2
    have a3 := p4 t
    simp only [natD, strD] at a1 a2 a3
    simp [smD, natD, formsL, List.lookup_cons, compL, a1, a2, a3]
theorem ok_is_whole_body {f : Addr} {fd : FuncData} (F : Fun K "is_whole_body" "is_whole_body" s_is_whole_body f fd) (hm : mg "is_whole_body" = some (.ref f)) (B : Bi mg) (g_MOST_STATEMENTS : Gc K mg "MOST_STATEMENTS" (.int 8))
    {gb : FD} {lv : Nat} (k_is_body : Kn P w K mg base "is_body" 4 lv gb) (pb : P_is_body 2 gb) :
    ∃ g, Kn P w K mg base "is_whole_body" 2 (lv + 1) g ∧ P_is_whole_body g := by
  refine ⟨_, (kn_of (k := lv) F hm sc_is_whole_body (F.binds (ps := ["value", "names"]) fun _ _ _ _ _ _ us hl => match us, hl with | [_, _], _ => rfl) fun cdv A outer s H E hr => (dss_one (ds_ret (d_kn k_is_body (hr.mono (by omega)) rfl (da_cons (d_var 0 (pv 0)) (da_cons (d_var 1 (pv 1)) (da_cons (d_gc g_MOST_STATEMENTS rfl) (da_cons d_int da_nil)))))))), ?_⟩
  intro b m s ok hb
  have := pb b m 8 0 s ok hb (by omega) (by omega)
  simp only [bodyD] at this ⊢
  simp at this ⊢
  simp [this]
theorem ok_check_program {f : Addr} {fd : FuncData} (F : Fun K "check_program" "check_program" s_check_program f fd) (hm : mg "check_program" = some (.ref f)) (B : Bi mg) {gp gs gb : FD} {lv : Nat} (hlv : 2 ≤ lv) (k_is_pair : Kn P w K mg base "is_pair" 1 1 gp) (pp : P_is_pair gp)
    (k_is_sorts : Kn P w K mg base "is_sorts" 1 2 gs) (ps : P_is_sorts gs) (k_is_whole_body : Kn P w K mg base "is_whole_body" 2 lv gb) (pb : P_is_whole_body gb) :
    ∃ g, Kn P w K mg base "check_program" 1 (lv + 1) g ∧ P_check_program g := by
  refine ⟨_, (kn_of (k := lv) F hm sc_check_program (F.binds (ps := ["value"]) fun _ _ _ _ _ _ us hl => match us, hl with | [_], _ => rfl) fun cdv A outer s H E hr => (dss_cons (ds_if (dt_not (dt_tru (d_kn k_is_pair (hr.mono (by omega)) rfl (da_cons (d_var 0 (pv 0)) da_nil)))) (dss_one ds_never) dss_nil)
  (dss_cons (ds_if (dt_not (dt_tru (d_kn k_is_sorts (hr.mono (by omega)) rfl (da_cons (d_ix (d_var 0 (pv 0)) d_int (fun _ _ => rfl)) da_nil)))) (dss_one ds_never) dss_nil)
  (dss_one (ds_if (dt_not (dt_tru (d_kn k_is_whole_body (hr.mono (by omega)) rfl (da_cons (d_ix (d_var 0 (pv 0)) d_int (fun _ _ => rfl)) (da_cons (d_callB call_len g_len rfl (B.get "len") (by decide +kernel) (da_cons (d_ix (d_var 0 (pv 0)) d_int (fun _ _ => rfl)) da_nil)) da_nil))))) (dss_one ds_never) dss_nil))))), ?_⟩
  intro so b s h1 h2 ok hb
  have a1 := pp (sortsD so) (bodyD b) s
  have a2 := ps so s h1 h2
  have a3 := pb b so.length s ok hb
  have h3 : so.length ≤ 10000000 := by omega
  simp only [sortsD, bodyD] at a1 a2 a3
  simp [sortsD, bodyD, a1, a2, a3, h3]

end
end Fw

set_option Elab.async false
set_option linter.all false
set_option maxRecDepth 100000
set_option maxHeartbeats 4000000
namespace Fw
open PySem PySem.Spec PyProof.Rows L2
section
variable {P : Program} {w : World} {K : PySem.W.Frag} {mg : Str → Option Value} {base : Heap}
theorem ok_do_sum {f : Addr} {fd : FuncData} (F : Fun K "do_sum" "do_sum" s_do_sum f fd) (hm : mg "do_sum" = some (.ref f)) (B : Bi mg) {d : Nat} :
    ∃ g, Kn P w K mg base "do_sum" 2 1 g ∧ P_act d isSum g := by
  refine ⟨_, (kn_of (k := 0) F hm sc_do_sum (F.binds (ps := ["state", "statement"]) fun _ _ _ _ _ _ us hl => match us, hl with | [_, _], _ => rfl) fun cdv A outer s H E hr => (dss_cons (ds_asg (d_slice (d_var 1 (pv 1)) (do_yes d_int) do_no) (pg_tup rfl (pgs_cons (pg_name (i := 2) sc_do_sum.nd rfl (Or.inl rfl)) (pgs_cons (pg_name (i := 3) sc_do_sum.nd rfl (Or.inl rfl)) (pgs_cons (pg_name (i := 4) sc_do_sum.nd rfl (Or.inl rfl)) pgs_nil)))) (gt_tri (i := 2) (j := 3) (k := 4) (vs := [2, 3, 4]) (by decide) (by decide) (by decide)))
  (dss_cons (ds_putIx (d_op op_mod g_mod (d_op op_addA g_add (d_var 4 (pv 4)) (d_callB (cr_sum rfl) g_sum rfl (B.get "sum") (by decide +kernel) (da_cons (d_lc (own := [("term", 5)]) rfl sc_do_sum.nd (di_items (d_var 3 (pv 3))) (blkOk_by (N := ["state", "statement", "name", "terms", "number", "term"]) (sc := defScope s_do_sum) (by decide +kernel)) (gt_name (i := 5) (vs := [5]) (by decide)) (fun _ _ _ _ _ => (pg_name (i := 5) sc_do_sum.nd rfl (Or.inl rfl))) (fun _ _ _ _ _ => dts_nil) (fun _ _ _ _ _ => (d_ix (d_fld (d_var 0 (pv 0))) (d_var 5 (pv 5)) (fun _ _ => rfl)))) da_nil))) d_int) (d_fld (d_var 0 (pv 0))) (d_var 2 (pv 2)))
  (dss_one (ds_ret d_non))))), ?_⟩
  intro s0 c m u a hw hi ok hs hp
  cases a with
  | sum x ts n =>
    obtain ⟨h1, h2, h3, h4⟩ := ok
    have hc := fun (δ : Fr) (q1 : δ[0]? = some (some (.ref c.a))) (q2 : 5 < δ.length) => compL_attr (s0 := s0) (v := u) ts (fun t q => by rw [hw.nl]; exact h3 t q) q1 q2 (by decide)
    have h2' : ts.length ≤ 10000000 := by omega
    rw [exM]
    simp [smD, natD, hc, h2', intsD_num, sum_nat, s_putm (show x < u.nums.length by rw [hw.nl]; exact h1), -kPutIx3_s, -List.map_map, haltD]
  | _ => cases hi
theorem ok_do_print {f : Addr} {fd : FuncData} (F : Fun K "do_print" "do_print" s_do_print f fd) (hm : mg "do_print" = some (.ref f)) (B : Bi mg) {d : Nat} :
    ∃ g, Kn P w K mg base "do_print" 2 1 g ∧ P_act d isPrint g := by
  refine ⟨_, (kn_of (k := 0) F hm sc_do_print (F.binds (ps := ["state", "statement"]) fun _ _ _ _ _ _ us hl => match us, hl with | [_, _], _ => rfl) fun cdv A outer s H E hr => (dss_cons (ds_expr (d_app (pe_bm PySem.F.plainAttrs_list PySem.F.slot_list_append PySem.F.type_list_append mt_append (d_fld (d_var 0 (pv 0))) (da_cons (d_ix (d_fld (d_var 0 (pv 0))) (d_ix (d_var 1 (pv 1)) d_int (fun _ _ => rfl)) (fun _ _ => rfl)) da_nil))))
  (dss_one (ds_ret d_non)))), ?_⟩
  intro s0 c m u a hw hi ok hs hp
  cases a with
  | print x =>
    have h1 : x < m := ok
    have hg := nat_get (l := u.nums) (show x < _ by rw [hw.nl]; exact h1)
    have hpp : u.prints.length ≤ 10000000 := by omega
    rw [exM]
    change L2.atI _ _ = some (D.int ((num u x : Nat) : Int)) at hg
    simp [smD, natD, hg, s_app hpp, -kApp3_s, haltD]
  | _ => cases hi
theorem ok_do_stop {f : Addr} {fd : FuncData} (F : Fun K "do_stop" "do_stop" s_do_stop f fd) (hm : mg "do_stop" = some (.ref f)) (B : Bi mg) {d : Nat} :
    ∃ g, Kn P w K mg base "do_stop" 2 1 g ∧ P_act d isStop g := by
  refine ⟨_, (kn_of (k := 0) F hm sc_do_stop (F.binds (ps := ["state", "statement"]) fun _ _ _ _ _ _ us hl => match us, hl with | [_, _], _ => rfl) fun cdv A outer s H E hr => (dss_one (ds_ret d_str))), ?_⟩
  intro s0 c m u a hw hi ok hs hp
  cases a with
  | stop => rw [exM]; simp [haltD]
  | _ => cases hi
theorem ok_do_split {f : Addr} {fd : FuncData} (F : Fun K "do_split" "do_split" s_do_split f fd) (hm : mg "do_split" = some (.ref f)) (B : Bi mg) {d : Nat} :
    ∃ g, Kn P w K mg base "do_split" 2 1 g ∧ P_act d isSplit g := by
  refine ⟨_, (kn_of (k := 0) F hm sc_do_split (F.binds (ps := ["state", "statement"]) fun _ _ _ _ _ _ us hl => match us, hl with | [_, _], _ => rfl) fun cdv A outer s H E hr => (dss_cons (ds_asg (d_slice (d_var 1 (pv 1)) (do_yes d_int) do_no) (pg_tup rfl (pgs_cons (pg_name (i := 2) sc_do_split.nd rfl (Or.inl rfl)) (pgs_cons (pg_name (i := 3) sc_do_split.nd rfl (Or.inl rfl)) pgs_nil))) (gt_pair (i := 2) (j := 3) (vs := [2, 3]) (by decide) (by decide)))
  (dss_cons (ds_if (dt_cmp (op_eqA hr.units) g_eq (d_ix (d_fld (d_var 0 (pv 0))) (d_var 3 (pv 3)) (fun _ _ => rfl)) d_int (nomark _)) (dss_one (ds_ret d_str)) dss_nil)
  (dss_cons (ds_putIx (d_op op_fdiv g_div d_int (d_ix (d_fld (d_var 0 (pv 0))) (d_var 3 (pv 3)) (fun _ _ => rfl))) (d_fld (d_var 0 (pv 0))) (d_var 2 (pv 2)))
  (dss_one (ds_ret d_non)))))), ?_⟩
  intro s0 c m u a hw hi ok hs hp
  cases a with
  | split x y =>
    obtain ⟨h1, h2⟩ := ok
    have hg := nat_get (l := u.nums) (show y < _ by rw [hw.nl]; exact h2)
    change L2.atI _ _ = some (D.int ((num u y : Nat) : Int)) at hg
    rw [exM]
    have hy := hw.num y
    by_cases hz : num u y = 0
    · rw [if_pos hz]
      rw [hz] at hg
      simp [smD, natD, hg, haltD]
    · rw [if_neg hz]
      have hy1 : 0 < num u y := by omega
      have hy2 : ((num u y : Nat) : Int) < 1073741824 := by omega
      simp [smD, natD, hg, hz, hy1, hy2, s_putv (show x < u.nums.length by rw [hw.nl]; exact h1), -kPutIx3_s, haltD]
  | _ => cases hi
theorem ok_do_keep {f : Addr} {fd : FuncData} (F : Fun K "do_keep" "do_keep" s_do_keep f fd) (hm : mg "do_keep" = some (.ref f)) (B : Bi mg) {d : Nat} :
    ∃ g, Kn P w K mg base "do_keep" 2 1 g ∧ P_act d isKeep g := by
  refine ⟨_, (kn_of (k := 0) F hm sc_do_keep (F.binds (ps := ["state", "statement"]) fun _ _ _ _ _ _ us hl => match us, hl with | [_, _], _ => rfl) fun cdv A outer s H E hr => (dss_cons (ds_asg (d_slice (d_var 1 (pv 1)) (do_yes d_int) do_no) (pg_tup rfl (pgs_cons (pg_name (i := 2) sc_do_keep.nd rfl (Or.inl rfl)) (pgs_cons (pg_name (i := 3) sc_do_keep.nd rfl (Or.inl rfl)) (pgs_cons (pg_name (i := 4) sc_do_keep.nd rfl (Or.inl rfl)) pgs_nil)))) (gt_tri (i := 2) (j := 3) (k := 4) (vs := [2, 3, 4]) (by decide) (by decide) (by decide)))
  (dss_cons (ds_putIx (d_ix (d_fld (d_var 0 (pv 0))) (d_var 4 (pv 4)) (fun _ _ => rfl)) (d_dget (hu_of hr) (d_fld (d_var 0 (pv 0))) (d_var 2 (pv 2)) (fun _ _ => rfl)) (d_ix (d_fld (d_var 0 (pv 0))) (d_var 3 (pv 3)) (fun _ _ => rfl)))
  (dss_one (ds_ret d_non))))), ?_⟩
  intro s0 c m u a hw hi ok hs hp
  cases a with
  | keep t x y =>
    obtain ⟨h1, h2⟩ := ok
    have hg := nat_get (l := u.nums) (show x < _ by rw [hw.nl]; exact h1)
    have hg2 := nat_get (l := u.nums) (show y < _ by rw [hw.nl]; exact h2)
    change L2.atI _ _ = some (D.int ((num u x : Nat) : Int)) at hg
    change L2.atI _ _ = some (D.int ((num u y : Nat) : Int)) at hg2
    have hx := hw.num x
    rw [exM]
    cases t with
    | false => simp [smD, natD, sortD, hg, hg2, s_puto (show num u x < u.op.length by rw [hw.ol]; exact hx), -kPutIx3_s, haltD]
    | true => simp [smD, natD, sortD, hg, hg2, s_pute (show num u x < u.sec.length by rw [hw.sl]; exact hx), -kPutIx3_s, haltD]
  | _ => cases hi
theorem ok_do_fetch {f : Addr} {fd : FuncData} (F : Fun K "do_fetch" "do_fetch" s_do_fetch f fd) (hm : mg "do_fetch" = some (.ref f)) (B : Bi mg) {d : Nat} :
    ∃ g, Kn P w K mg base "do_fetch" 2 1 g ∧ P_act d isFetch g := by
  refine ⟨_, (kn_of (k := 0) F hm sc_do_fetch (F.binds (ps := ["state", "statement"]) fun _ _ _ _ _ _ us hl => match us, hl with | [_, _], _ => rfl) fun cdv A outer s H E hr => (dss_cons (ds_asg (d_slice (d_var 1 (pv 1)) (do_yes d_int) do_no) (pg_tup rfl (pgs_cons (pg_name (i := 2) sc_do_fetch.nd rfl (Or.inl rfl)) (pgs_cons (pg_name (i := 3) sc_do_fetch.nd rfl (Or.inl rfl)) (pgs_cons (pg_name (i := 4) sc_do_fetch.nd rfl (Or.inl rfl)) pgs_nil)))) (gt_tri (i := 2) (j := 3) (k := 4) (vs := [2, 3, 4]) (by decide) (by decide) (by decide)))
  (dss_cons (ds_putIx (d_ix (d_dget (hu_of hr) (d_fld (d_var 0 (pv 0))) (d_var 2 (pv 2)) (fun _ _ => rfl)) (d_ix (d_fld (d_var 0 (pv 0))) (d_var 4 (pv 4)) (fun _ _ => rfl)) (fun _ _ => rfl)) (d_fld (d_var 0 (pv 0))) (d_var 3 (pv 3)))
  (dss_one (ds_ret d_non))))), ?_⟩
  intro s0 c m u a hw hi ok hs hp
  cases a with
  | fetch t x y =>
    obtain ⟨h1, h2⟩ := ok
    have hg := nat_get (l := u.nums) (show y < _ by rw [hw.nl]; exact h2)
    change L2.atI _ _ = some (D.int ((num u y : Nat) : Int)) at hg
    have hy := hw.num y
    rw [exM]
    cases t with
    | false =>
      have hg2 := nat_get (l := u.op) (show num u y < _ by rw [hw.ol]; exact hy)
      simp [smD, natD, sortD, hg, hg2, s_putn (show x < u.nums.length by rw [hw.nl]; exact h1), -kPutIx3_s, haltD, tab]
    | true =>
      have hg2 := nat_get (l := u.sec) (show num u y < _ by rw [hw.sl]; exact hy)
      simp [smD, natD, sortD, hg, hg2, s_putn (show x < u.nums.length by rw [hw.nl]; exact h1), -kPutIx3_s, haltD, tab]
  | _ => cases hi

end
end Fw

set_option Elab.async false
set_option linter.all false
set_option maxRecDepth 100000
set_option maxHeartbeats 4000000
namespace Fw
open PySem PySem.Spec PyProof.Rows L2
section
variable {P : Program} {w : World} {K : PySem.W.Frag} {mg : Str → Option Value} {base : Heap}
theorem ok_do_if {f : Addr} {fd : FuncData} (F : Fun K "do_if" "do_if" s_do_if f fd) (hm : mg "do_if" = some (.ref f)) (B : Bi mg) {gb : FD} {lv d : Nat} (k_do_body : Kn P w K mg base "do_body" 2 lv gb) (pb : 0 < d → P_do_body (d - 1) gb) :
    ∃ g, Kn P w K mg base "do_if" 2 (lv + 1) g ∧ P_act d isIf g := by
  refine ⟨_, (kn_of (k := lv) F hm sc_do_if (F.binds (ps := ["state", "statement"]) fun _ _ _ _ _ _ us hl => match us, hl with | [_, _], _ => rfl) fun cdv A outer s H E hr => (dss_cons (ds_asg (d_slice (d_var 1 (pv 1)) (do_yes d_int) do_no) (pg_tup rfl (pgs_cons (pg_name (i := 2) sc_do_if.nd rfl (Or.inl rfl)) (pgs_cons (pg_name (i := 3) sc_do_if.nd rfl (Or.inl rfl)) (pgs_cons (pg_name (i := 4) sc_do_if.nd rfl (Or.inl rfl)) pgs_nil)))) (gt_tri (i := 2) (j := 3) (k := 4) (vs := [2, 3, 4]) (by decide) (by decide) (by decide)))
  (dss_cons (ds_set (i := 5) sc_do_if.nd rfl (Or.inl rfl) (d_if (dt_cmp (op_neA hr.units) g_ne (d_ix (d_fld (d_var 0 (pv 0))) (d_var 2 (pv 2)) (fun _ _ => rfl)) d_int (nomark _)) (d_var 3 (pv 3)) (d_var 4 (pv 4))))
  (dss_one (ds_ret (d_kn k_do_body (hr.mono (by omega)) rfl (da_cons (d_var 0 (pv 0)) (da_cons (d_var 5 (pv 5)) da_nil)))))))), ?_⟩
  intro s0 c m u a hw hi ok hb hp
  cases a with
  | ite x p q =>
    obtain ⟨hx, hp, hq, hd0, okp, okq⟩ := ok
    obtain ⟨e, rfl⟩ : ∃ e, d = e + 1 := ⟨d - 1, by omega⟩
    rw [cst_s] at hb
    have b1 : u.steps + p.length * cst e ≤ 10000000 := by have := Nat.mul_le_mul_right (cst e) hp; omega
    have b2 : u.steps + q.length * cst e ≤ 10000000 := by have := Nat.mul_le_mul_right (cst e) hq; omega
    have h1 := pb hd0 s0 c m u p hw (by omega) okp b1
    have h2 := pb hd0 s0 c m u q hw (by omega) okq b2
    have hg := nat_get (l := u.nums) (show x < _ by rw [hw.nl]; exact hx)
    change L2.atI _ _ = some (D.int ((num u x : Nat) : Int)) at hg
    simp only [bodyD] at h1 h2
    rw [exM]
    by_cases hz : num u x = 0
    · rw [if_pos hz]
      rw [hz] at hg
      simp [smD, natD, hg, h2]
    · rw [if_neg hz]
      simp [smD, natD, hg, h1, hz]
  | _ => cases hi
theorem ok_do_times {f : Addr} {fd : FuncData} (F : Fun K "do_times" "do_times" s_do_times f fd) (hm : mg "do_times" = some (.ref f)) (B : Bi mg) {gb : FD} {lv d : Nat} (k_do_body : Kn P w K mg base "do_body" 2 lv gb) (pb : 0 < d → P_do_body (d - 1) gb) :
    ∃ g, Kn P w K mg base "do_times" 2 (lv + 1) g ∧ P_act d isTimes g := by
  refine ⟨_, (kn_of (k := lv) F hm sc_do_times (F.binds (ps := ["state", "statement"]) fun _ _ _ _ _ _ us hl => match us, hl with | [_, _], _ => rfl) fun cdv A outer s H E hr => (dss_cons (ds_asg (d_slice (d_var 1 (pv 1)) (do_yes d_int) do_no) (pg_tup rfl (pgs_cons (pg_name (i := 2) sc_do_times.nd rfl (Or.inl rfl)) (pgs_cons (pg_name (i := 3) sc_do_times.nd rfl (Or.inl rfl)) pgs_nil))) (gt_pair (i := 2) (j := 3) (vs := [2, 3]) (by decide) (by decide)))
  (dss_cons (ds_for PassesOwn.never rfl (di_range rfl (B.get "range") (da_cons (d_var 2 (pv 2)) da_nil)) (pg_name (i := 4) sc_do_times.nd rfl (Or.inl rfl)) (gt_name (i := 4) (vs := [4]) (by decide)) (dss_cons (ds_set (i := 5) sc_do_times.nd rfl (Or.inl rfl) (d_kn k_do_body (hr.mono (by omega)) rfl (da_cons (d_var 0 (pv 0)) (da_cons (d_var 3 (pv 3)) da_nil))))
  (dss_one (ds_if (dt_cmp op_isNotA g_isNot (d_var 5 (pv 5)) d_non (nomark _)) (dss_one (ds_ret (d_var 5 (pv 5)))) dss_nil))))
  (dss_one (ds_ret d_non))))), ?_⟩
  intro s0 c m u a hw hi ok hb hp
  cases a with
  | times n b =>
    obtain ⟨hn, hl, hd0, okb⟩ := ok
    obtain ⟨e, rfl⟩ : ∃ e, d = e + 1 := ⟨d - 1, by omega⟩
    rw [cst_s] at hb
    rw [exM]
    have hn2 : (n : Int) ≤ 10000000 := by omega
    have hc : b.length * cst e ≤ 4 * cst e := Nat.mul_le_mul_right (cst e) hl
    generalize hwm : timesM (fun w => exsM b w) n u = W
    simp [smD, natD, hn2]
    refine kSeq_loop (fun i δ s' => ∃ v, s' = sst s0 c v ∧ WOk m v ∧ W = timesM (fun w => exsM b w) (n - i) v ∧ v.steps ≤ u.steps + i * (4 * cst e) ∧ ∃ x1 x2 x3 x4, δ = [some (.ref c.a), x1, x2, some (.tup (smsD b)), x3, x4])
      (fun r s' => r = haltD W.2 ∧ s' = sst s0 c W.1) ⟨u, rfl, hw, hwm.symm, by omega, _, _, _, _, rfl⟩ ?_ ?_ ?_
    · rintro i dd δ s' hi ⟨v, rfl, hv, ht, hs, x1, x2, x3, x4, rfl⟩
      rw [rangeD_get] at hi
      split at hi
      rotate_left
      · cases hi
      rename_i hil
      cases hi
      refine ⟨_, rfl, ?_⟩
      have hi3 : i * (4 * cst e) ≤ 3 * (4 * cst e) := Nat.mul_le_mul_right _ (by omega)
      have h1 := pb hd0 s0 c m v b hv (by omega) okb (by simp only [Nat.add_sub_cancel]; omega)
      have hk := exsM_ok e b v okb hv
      simp only [bodyD] at h1
      have hni : n - i = (n - (i + 1)) + 1 := by omega
      rw [hni, timesM] at ht
      cases er : exsM b v with
      | mk v' o =>
        rw [er] at h1 hk ht
        cases o with
        | none =>
          simp only [haltD] at h1
          exact .inl ⟨_, _, (by simp [h1]; first | exact ⟨rfl, rfl, rfl, rfl⟩ | exact ⟨rfl, rfl⟩ | exact ⟨rfl, rfl, rfl⟩), v', rfl, hk.ok, ht, by have := hk.st; rw [Nat.succ_mul]; simp only at this; omega, _, _, _, _, rfl⟩
        | some hh => cases hh <;> (simp only [haltD, strD] at h1; exact .inr ⟨_, _, (by simp [h1]; exact ⟨rfl, rfl⟩), by rw [ht]; rfl, by rw [ht]⟩)
    · rintro δ s' ⟨v, rfl, hv, ht, hs, x1, x2, x3, x4, rfl⟩
      rw [rangeD_length, Nat.sub_self, timesM] at ht
      simp [ht, haltD]
    · rintro r s' ⟨rfl, rfl⟩
      rfl
  | _ => cases hi
theorem ok_do_while {f : Addr} {fd : FuncData} (F : Fun K "do_while" "do_while" s_do_while f fd) (hm : mg "do_while" = some (.ref f)) (B : Bi mg) (g_MOST_ROUNDS : Gc K mg "MOST_ROUNDS" (.int 60)) {gb : FD} {lv d : Nat} (k_do_body : Kn P w K mg base "do_body" 2 lv gb) (pb : 0 < d → P_do_body (d - 1) gb) :
    ∃ g, Kn P w K mg base "do_while" 2 (lv + 1) g ∧ P_act d isWhile g := by
  refine ⟨_, (kn_of (k := lv) F hm sc_do_while (F.binds (ps := ["state", "statement"]) fun _ _ _ _ _ _ us hl => match us, hl with | [_, _], _ => rfl) fun cdv A outer s H E hr => (dss_cons (ds_asg (d_slice (d_var 1 (pv 1)) (do_yes d_int) do_no) (pg_tup rfl (pgs_cons (pg_name (i := 2) sc_do_while.nd rfl (Or.inl rfl)) (pgs_cons (pg_name (i := 3) sc_do_while.nd rfl (Or.inl rfl)) pgs_nil))) (gt_pair (i := 2) (j := 3) (vs := [2, 3]) (by decide) (by decide)))
  (dss_cons (ds_while 100 PassesOwn.never (dt_cmp (op_neA hr.units) g_ne (d_ix (d_fld (d_var 0 (pv 0))) (d_var 2 (pv 2)) (fun _ _ => rfl)) d_int (nomark _)) (dss_cons (ds_if (dt_cmp (op_eqA hr.units) g_eq (d_fld (d_var 0 (pv 0))) (d_gc g_MOST_ROUNDS rfl) (nomark _)) (dss_one (ds_ret d_str)) dss_nil)
  (dss_cons (ds_fldA (d_var 0 (pv 0)) d_int)
  (dss_cons (ds_set (i := 4) sc_do_while.nd rfl (Or.inl rfl) (d_kn k_do_body (hr.mono (by omega)) rfl (da_cons (d_var 0 (pv 0)) (da_cons (d_var 3 (pv 3)) da_nil))))
  (dss_one (ds_if (dt_cmp op_isNotA g_isNot (d_var 4 (pv 4)) d_non (nomark _)) (dss_one (ds_ret (d_var 4 (pv 4)))) dss_nil))))))
  (dss_one (ds_ret d_non))))), ?_⟩
  intro s0 c m u a hw hi ok hb hp
  cases a with
  | whl x b =>
    obtain ⟨hx, hl, hd0, okb⟩ := ok
    obtain ⟨e, rfl⟩ : ∃ e, d = e + 1 := ⟨d - 1, by omega⟩
    rw [cst_s] at hb
    rw [exM]
    have hc : b.length * cst e ≤ 4 * cst e := Nat.mul_le_mul_right (cst e) hl
    simp [smD, natD]
    have okb' : smsOk m e b := okb
    have hx' : ∀ v, WOk m v → L2.atI (v.nums.map natD) (x : Int) = some (D.int ((num v x : Nat) : Int)) := fun v hv => nat_get (l := v.nums) (show x < _ by rw [hv.nl]; exact hx)
    have h99 : (61 - u.rounds) * (4 * cst e) ≤ 61 * (4 * cst e) := Nat.mul_le_mul_right _ (by omega)
    obtain ⟨x5, hw5⟩ := loopW_while (x := x) (tt := _) (fb := _) (mk := fun x4 => [some (.ref c.a), some (.tup [.str (Str.ofString "while"), .int (x : Int), .tup (smsD b)]), some (.int (x : Int)), some (.tup (smsD b)), x4]) (st := fun v => sst s0 c v) okb' hl
      (fun v x4 hv => show fT (f2 dNe (f2 dIx (f1 (dFld "numbers") (fVar 0)) (fVar 2)) (fC (.int 0))) _ _ = _ by simp [hx' v hv])
      (fun v x4 hv hr => show fSeq (fIfS (fT (f2 dEq (f1 (dFld "rounds") (fVar 0)) (fC (.int 60)))) (fRet (fC (.str (Str.ofString "goes on")))) fNx) (fSeq (fFldA (fVar 0) (fC (.int 1)) "rounds") (fSeq (fSet 4 (fCall 2 gb (fCons (fVar 0) (fCons (fVar 3) fNil)))) (fIfS (fT (f2 (dIs true) (fVar 4) (fC .non))) (fRet (fVar 4)) fNx))) _ _ = _ by
        have hr1 : ((v.rounds : Nat) : Int) = 60 := by omega
        simp [hr1])
      (fun v x4 hv hr hs => by
        have hr1 : ¬ ((v.rounds : Nat) : Int) = 60 := by omega
        have h1 := pb hd0 s0 c m { v with rounds := v.rounds + 1 } b (hv.round hr) (by omega) okb (by simp only [Nat.add_sub_cancel]; omega)
        simp only [bodyD] at h1
        cases er : exsM b { v with rounds := v.rounds + 1 } with
        | mk v' o =>
          rw [er] at h1
          cases o with
          | none =>
            simp only [haltD] at h1
            simp [hr1, h1, endW]
          | some hh => cases hh <;> (simp only [haltD, strD] at h1; simp [hr1, h1, endW, haltD]))
      99 u none hw (by omega) (by omega)
    rw [hw5]
    cases er : whileM x (fun w => exsM b w) 99 u with
    | mk v' o =>
      cases o with
      | none => simp [endW, haltD]
      | some hh => simp [endW]
  | _ => cases hi

end
end Fw

set_option Elab.async false
set_option linter.all false
set_option maxRecDepth 100000
set_option maxHeartbeats 4000000
namespace Fw
open PySem PySem.Spec PyProof.Rows L2
section
variable {P : Program} {w : World} {K : PySem.W.Frag} {mg : Str → Option Value} {base : Heap}
theorem ok_do_body {f : Addr} {fd : FuncData} (F : Fun K "do_body" "do_body" s_do_body f fd) (hm : mg "do_body" = some (.ref f)) (B : Bi mg) {aA : Addr} {A : Acts} (g_ACTIONS : Gc K mg "ACTIONS" (.ref aA)) (G_ACTIONS : GK K w (actsL A) aA)
    {tb : Addr → Option FD} {lv d : Nat} (T_action : ∀ f g, tb f = some g → Held P w K mg base lv f (spD K 2 g)) (T : ActsOk d A tb) :
    ∃ g, Kn P w K mg base "do_body" 2 (lv + 1) g ∧ P_do_body d g := by
  refine ⟨_, (kn_of (k := lv) F hm sc_do_body (F.binds (ps := ["state", "body"]) fun _ _ _ _ _ _ us hl => match us, hl with | [_, _], _ => rfl) fun cdv A outer s H E hr => (dss_cons (ds_for PassesOwn.never rfl (di_items (d_var 1 (pv 1))) (pg_name (i := 2) sc_do_body.nd rfl (Or.inl rfl)) (gt_name (i := 2) (vs := [2]) (by decide)) (dss_cons (ds_fldA (d_var 0 (pv 0)) d_int)
  (dss_cons (ds_set (i := 3) sc_do_body.nd rfl (Or.inl rfl) (d_itemK G_ACTIONS (d_gc g_ACTIONS rfl) (d_ix (d_var 2 (pv 2)) d_int (fun _ _ => rfl)) (fun _ _ => rfl)))
  (dss_cons (ds_set (i := 4) sc_do_body.nd rfl (Or.inl rfl) (d_callA (j := 3) T_action (hr.mono (by omega)) rfl (by first | exact Or.inl rfl | exact Or.inr rfl | rfl) (da_cons (d_var 0 (pv 0)) (da_cons (d_var 2 (pv 2)) da_nil))))
  (dss_one (ds_if (dt_cmp op_isNotA g_isNot (d_var 4 (pv 4)) d_non (nomark _)) (dss_one (ds_ret (d_var 4 (pv 4)))) dss_nil))))))
  (dss_one (ds_ret d_non)))), ?_⟩
  intro s0 c m u b hw hb ok hs
  have hbl : b.length ≤ 10000000 := by omega
  generalize hwm : exsM b u = W
  simp [bodyD, smsD_length, hbl]
  refine kSeq_loop (fun i δ s' => ∃ v, s' = sst s0 c v ∧ WOk m v ∧ W = exsM (b.drop i) v ∧ v.steps + (b.length - i) * cst d ≤ 10000000 ∧ ∃ x1 x2 x3, δ = [some (.ref c.a), some (.tup (smsD b)), x1, x2, x3])
      (fun r s' => r = haltD W.2 ∧ s' = sst s0 c W.1) ⟨u, rfl, hw, hwm.symm, hs, _, _, _, rfl⟩ ?_ ?_ ?_
  · rintro i dd δ s' hi ⟨v, rfl, hv, ht, hs, x1, x2, x3, rfl⟩
    rw [smsD_map, List.getElem?_map] at hi
    cases hbi : b[i]? with
    | none => rw [hbi] at hi; cases hi
    | some a =>
    rw [hbi] at hi
    cases hi
    have hil := (List.getElem?_eq_some_iff.mp hbi).1
    have oka : smOk m d a := smsOk_iff.mp ok a (List.mem_of_getElem? hbi)
    rw [drop_get hbi, exsM] at ht
    refine ⟨_, rfl, ?_⟩
    have hbump := hv.bump
    have hcp := cst_pos d
    have hki : b.length - i = (b.length - (i + 1)) + 1 := by omega
    have hmul : (b.length - i) * cst d = (b.length - (i + 1)) * cst d + cst d := by rw [hki, Nat.succ_mul]
    have hst : (bump v).steps = v.steps + 1 := rfl
    have hpl : (bump v).prints.length < (bump v).steps := Nat.lt_succ_of_le hv.pl
    have hkeep := exM_ok d a (bump v) oka hbump hpl
    obtain ⟨k, r, f, g, e1, e2, e3, e4⟩ := T.of a
    have h1 := e4 s0 c m (bump v) hbump oka (by omega) hpl
    rw [e1] at h1
    cases er : exM a (bump v) with
    | mk v' o =>
      rw [er] at hkeep ht h1
      have a2 := hkeep.st
      simp only at a2
      cases o with
      | none =>
        simp only [haltD, strD] at h1
        exact .inl ⟨_, sst s0 c v', (by simp [e1, e2, e3, h1]; first | exact ⟨rfl, rfl, rfl⟩ | exact ⟨rfl, rfl⟩), v', rfl, hkeep.ok, ht, by omega, _, _, _, rfl⟩
      | some hh =>
        refine .inr ⟨haltD (some hh), sst s0 c v', ?_, by rw [ht], by rw [ht]⟩
        cases hh <;> (simp only [haltD, strD] at h1; simp [e1, e2, e3, h1, haltD])
  · rintro δ s' ⟨v, rfl, hv, ht, hs, x1, x2, x3, rfl⟩
    rw [smsD_length, List.drop_length, exsM] at ht
    simp [ht, haltD]
  · rintro r s' ⟨rfl, rfl⟩
    rfl

end
end Fw

set_option Elab.async false
set_option linter.all false
set_option maxRecDepth 100000
set_option maxHeartbeats 4000000
namespace Fw
open PySem PySem.Spec PyProof.Rows L2
section
variable {P : Program} {w : World} {K : PySem.W.Frag} {mg : Str → Option Value} {base : Heap}
theorem ok_is_start {f : Addr} {fd : FuncData} (F : Fun K "is_start" "is_start" s_is_start f fd) (hm : mg "is_start" = some (.ref f)) (B : Bi mg) (g_HIGHEST : Gc K mg "HIGHEST" (.int 9)) {gn : FD} (k_is_number : Kn P w K mg base "is_number" 2 1 gn) (pn : P_is_number gn) :
    ∃ g, Kn P w K mg base "is_start" 2 2 g ∧ P_is_start g := by
  refine ⟨_, (kn_of (k := 1) F hm sc_is_start (F.binds (ps := ["program", "value"]) fun _ _ _ _ _ _ us hl => match us, hl with | [_, _], _ => rfl) fun cdv A outer s H E hr => (dss_cons (ds_if (PW.pt (dw_or (dt_not (dt_tru (d_isI (t := .tuple) rfl (B.get "isinstance") (d_var 1 (pv 1)) rfl (B.get "tuple") (by decide +kernel)))) (dw_or1 (dt_cmp (op_neA hr.units) g_ne (d_callB call_len g_len rfl (B.get "len") (by decide +kernel) (da_cons (d_var 1 (pv 1)) da_nil)) (d_callB call_len g_len rfl (B.get "len") (by decide +kernel) (da_cons (d_ix (d_var 0 (pv 0)) d_int (fun _ _ => rfl)) da_nil)) (nomark _))))) (dss_one (ds_ret d_bl)) dss_nil)
  (dss_one (ds_ret (d_callB (cr_all rfl) g_all rfl (B.get "all") (by decide +kernel) (da_cons (d_lc (own := [("number", 2)]) rfl sc_is_start.nd (di_items (d_var 1 (pv 1))) (blkOk_by (N := ["program", "value", "number"]) (sc := defScope s_is_start) (by decide +kernel)) (gt_name (i := 2) (vs := [2]) (by decide)) (fun _ _ _ _ _ => (pg_name (i := 2) sc_is_start.nd rfl (Or.inl rfl))) (fun _ _ _ _ _ => dts_nil) (fun _ _ _ _ _ => (d_kn k_is_number (hr.mono (by omega)) rfl (da_cons (d_var 2 (pv 2)) (da_cons (d_gc g_HIGHEST rfl) da_nil))))) da_nil)))))), ?_⟩
  intro so b ns s hl hn hv
  have hc : ∀ (δ : Fr), 2 < δ.length → compL (gtName 2) tTrue (fCall 2 gn (fCons (fVar 2) (fCons (fC (.int 9)) fNil))) (ns.map natD) δ s = some (List.replicate (ns.map natD).length (.bl true), s) := fun δ hl => compL_true _ fun d hd => by
    obtain ⟨t, ht, rfl⟩ := List.mem_map.mp hd
    refine ⟨_, rfl, ?_⟩
    have := hv t ht
    have hp := pn t 9 s (by omega)
    simp [hl, natD, hp]
  have h3 : ns.length ≤ 10000000 := by omega
  have h4 : so.length ≤ 10000000 := by omega
  simp [natsD, sortsD, h3, h4, hl, hc]
theorem ok_check_start {f : Addr} {fd : FuncData} (F : Fun K "check_start" "check_start" s_check_start f fd) (hm : mg "check_start" = some (.ref f)) (B : Bi mg) {gs : FD} (k_is_start : Kn P w K mg base "is_start" 2 2 gs) (ps : P_is_start gs) :
    ∃ g, Kn P w K mg base "check_start" 2 3 g ∧ P_check_start g := by
  refine ⟨_, (kn_of (k := 2) F hm sc_check_start (F.binds (ps := ["program", "value"]) fun _ _ _ _ _ _ us hl => match us, hl with | [_, _], _ => rfl) fun cdv A outer s H E hr => (dss_one (ds_if (dt_not (dt_tru (d_kn k_is_start (hr.mono (by omega)) rfl (da_cons (d_var 0 (pv 0)) (da_cons (d_var 1 (pv 1)) da_nil))))) (dss_one ds_never) dss_nil))), ?_⟩
  intro so b ns s hl hn hv
  have := ps so b ns s hl hn hv
  simp only [natsD, sortsD, bodyD] at this ⊢
  simp [this]
end
end Fw

set_option Elab.async false
set_option linter.all false
set_option maxRecDepth 100000
set_option maxHeartbeats 4000000
namespace Fw
open PySem PySem.Spec PyProof.Rows L2
section
variable {P : Program} {w : World} {K : PySem.W.Frag} {mg : Str → Option Value} {base : Heap}
theorem ok_init {x qual : Str} {f : Addr} {fd : FuncData} {C : Addr} (F : Fun K x qual s_State_init f fd) (B : Bi mg) (na : ∀ g ∈ ["numbers", "tables", "prints", "steps", "rounds"], NoAttr K C (Str.ofString g))
    (g_SORTS : Gc K mg "SORTS" (.tup [strD "open", strD "secret"])) (g_PLACES : Gc K mg "PLACES" (.int 10)) :
    ∃ Pd fg, FnOk P w K mg base CX0 1 f fd ["self", "start"] (spI K C 1 5 (fun ds s => ∀ x, s x = some (.ins C []) → Pd (startD 3 (.ref x :: ds)) s) (fun ds as s => match as with | x :: as => (fg as (startD 3 (.ref x :: ds)) s).map (·.2) | [] => none)) ∧ P_init C Pd fg := by
  have hfo : ∀ (δ : Fr) (s : S), oRep (fLst (fCons (fC (.int 0)) fNil)) (fC (.int 10)) δ s = some (.lst (List.replicate 10 (.int 0)), s) := fun δ s => by simp [oRep]
  have hI := okI (P := P) (w := w) (mg := mg) (base := base) (k := 0) (C := C) F sc_State_init rfl fun cdv A outer s H E hr => gs_cons (gs_own (i := 0) (C := C) (na "numbers" (by decide)) (d_var 0 (pv 0)) (o_list rfl (pe_callTy call_list_of rfl (B.get "list") (by decide +kernel) (da_cons (d_var 1 (pv 1)) da_nil))))
    (gs_cons (gs_dc (i := 0) (j := 2) (C := C) (na "tables" (by decide)) (d_var 0 (pv 0)) (o_dc (keys := [Str.ofString "open", Str.ofString "secret"]) (L := List.replicate 10 (.int 0)) (own := [("sort", 2)]) g_SORTS rfl (by decide +kernel) (by decide) rfl sc_State_init.nd (blkOk_by (N := ["self", "start", "sort"]) (sc := defScope s_State_init) (by decide +kernel)) rfl hfo (fun _ _ _ _ _ => (pg_name (i := 2) sc_State_init.nd rfl (Or.inl rfl))) (fun _ _ _ _ _ => (d_var 2 (pv 2))) (fun _ _ _ _ _ => (o_rep (d_lst (da_cons d_int da_nil)) (d_gc g_PLACES rfl)))))
    (gs_cons (gs_own (i := 0) (C := C) (na "prints" (by decide)) (d_var 0 (pv 0)) (o_lst da_nil))
    (gs_cons (gs_set (i := 0) (C := C) (na "steps" (by decide)) (d_var 0 (pv 0)) d_int)
    (gs_cons (gs_set (i := 0) (C := C) (na "rounds" (by decide)) (d_var 0 (pv 0)) d_int) gs_nil))))
  refine ⟨_, _, hI, ?_, ?_⟩
  · intro ns s x hx
    have e2 : (startD 3 [.ref x, natsD ns])[0]? = some (some (.ref x)) := rfl
    refine qSeq_own (u := .lst (ns.map natD)) (by simp [oList, natsD]) e2 hx (by decide) fun a1 s1 h1 => ?_
    refine qSeq_dc (by simp) e2 h1 (by simp [putFD]) fun a2 s2 h2 => ?_
    refine qSeq_own (u := .lst []) (by simp [oLst]) e2 h2 (by simp [putFD]) fun a3 s3 h3 => ?_
    refine qSeq_set (d := .int 0) (by simp) e2 h3 (by simp [putFD]) fun s4 h4 => ?_
    exact qSeq_set (d := .int 0) (by simp) e2 h4 (by simp [putFD]) fun s5 h5 => trivial
  · intro s0 c ns hC
    subst hC
    have e2 : (startD 3 [.ref c.a, natsD ns])[0]? = some (some (.ref c.a)) := rfl
    refine ⟨startD 3 [.ref c.a, natsD ns], ?_⟩
    unfold gSeqS
    simp only [List.take, List.drop, List.length_cons, List.length_nil, Nat.zero_add, Nat.reduceAdd]
    rw [gOwnS_eq (u := .lst (ns.map natD)) (by simp [oList, natsD]) e2 supd_same]
    simp only [Option.bind_some]
    rw [gDcS_eq e2 supd_same]
    simp only [Option.bind_some]
    rw [gOwnS_eq (u := .lst []) (by simp [oLst]) e2 supd_same]
    simp only [Option.bind_some]
    rw [gSetS_eq (d := .int 0) (by simp) e2 supd_same]
    simp only [Option.bind_some]
    rw [gSetS_eq (d := .int 0) (by simp) e2 supd_same]
    simp only [Option.bind_some]
    show some (_, _) = _
    refine congrArg some (Prod.ext rfl ?_)
    have hL : putFD (Str.ofString "rounds") (.int 0) (putFD (Str.ofString "steps") (.int 0) (putFD (Str.ofString "prints") (.ref c.p) (putFD (Str.ofString "tables") (.ref c.d) (putFD (Str.ofString "numbers") (.ref c.n) [])))) = stateL c 0 0 := by simp [putFD, stateL]
    have h10 : OO.lst (List.replicate 10 (D.int 0)) = .lst ((List.replicate 10 0).map natD) := rfl
    funext b
    show supd _ _ _ b = _
    rw [hL]
    unfold supd ownAll sst
    by_cases b1 : b = c.a
    · simp [b1, w0]
    by_cases b2 : b = c.n
    · simp [b2, c.na, c.on.symm, c.en.symm, c.pn.symm, c.dn.symm, w0]
    by_cases b3 : b = c.d
    · simp [b3, c.da, c.dn, c.od.symm, c.ed.symm, c.pd.symm, tabsL]
    by_cases b4 : b = c.o
    · simp [b4, c.oa, c.on, c.od, c.eo.symm, c.po.symm, w0, natD]
    by_cases b5 : b = c.e
    · simp [b5, c.ea, c.en, c.ed, c.eo, c.pe.symm, w0, natD]
    by_cases b6 : b = c.p
    · simp [b6, c.pa, c.pn, c.pd, c.po, c.pe, w0]
    simp [b1, b2, b3, b4, b5, b6]
end
end Fw

set_option Elab.async false
set_option linter.all false
set_option maxRecDepth 100000
set_option maxHeartbeats 4000000
namespace Fw
open PySem PySem.Spec PyProof.Rows L2
section
variable {P : Program} {w : World} {K : PySem.W.Frag} {mg : Str → Option Value} {base : Heap}
theorem ok_outcome {f : Addr} {fd : FuncData} (F : Fun K "outcome" "outcome" s_outcome f fd) (hm : mg "outcome" = some (.ref f)) (B : Bi mg) (g_SORTS : Gc K mg "SORTS" (.tup [strD "open", strD "secret"]))
    {C fI : Addr} {fdI : FuncData} {Pd : Fr → S → Prop} {fg : FGS} (M_State : Mk K C fI) (cl_State : Cls K C) (hm_State : mg "State" = some (.ref C)) (bi_State : Binds K fdI ["self", "start"] [])
    (ok_State : FnOk P w K mg base CX0 1 fI fdI ["self", "start"] (spI K C 1 5 (fun ds s => ∀ x, s x = some (.ins C []) → Pd (startD 3 (.ref x :: ds)) s) (fun ds as s => match as with | x :: as => (fg as (startD 3 (.ref x :: ds)) s).map (·.2) | [] => none))) (pI : P_init C Pd fg)
    {gb : FD} {lv : Nat} (hlv : 2 ≤ lv) (k_do_body : Kn P w K mg base "do_body" 2 lv gb) (pb : P_do_body 2 gb) :
    ∃ g, Kn P w K mg base "outcome" 2 (lv + 1) g ∧ P_out g := by
  refine ⟨_, (kn_of (k := lv) F hm sc_outcome (F.binds (ps := ["program", "start"]) fun _ _ _ _ _ _ us hl => match us, hl with | [_, _], _ => rfl) fun cdv A outer s H E hr => (dss_ownI (i := 2) (ps_set sc_outcome.nd rfl (Or.inr rfl) (o_make M_State cl_State ok_State (hr.mono (by omega)) rfl hm_State bi_State (da_cons (d_var 1 (pv 1)) da_nil) (fun _ _ _ _ h => len_one h)))
  (dss_cons (ds_set (i := 3) sc_outcome.nd rfl (Or.inl rfl) (d_kn k_do_body (hr.mono (by omega)) rfl (da_cons (d_var 2 (pv 2)) (da_cons (d_ix (d_var 0 (pv 0)) d_int (fun _ _ => rfl)) da_nil))))
  (dss_cons (ds_set (i := 4) sc_outcome.nd rfl (Or.inl rfl) (d_if (dt_cmp op_isA g_is (d_var 3 (pv 3)) d_non (nomark _)) d_str (d_var 3 (pv 3))))
  (dss_cons (ds_set (i := 5) sc_outcome.nd rfl (Or.inl rfl) (d_callTy call_tuple_ofZ g_tuple rfl (B.get "tuple") (by decide +kernel) (da_cons (d_lc (own := [("sort", 6)]) rfl sc_outcome.nd (di_items (d_gc g_SORTS rfl)) (blkOk_by (N := ["program", "start", "state", "halt", "how", "tables", "sort"]) (sc := defScope s_outcome) (by decide +kernel)) (gt_name (i := 6) (vs := [6]) (by decide)) (fun _ _ _ _ _ => (pg_name (i := 6) sc_outcome.nd rfl (Or.inl rfl))) (fun _ _ _ _ _ => dts_nil) (fun _ _ _ _ _ => (d_callTy call_tuple_ofZ g_tuple rfl (B.get "tuple") (by decide +kernel) (da_cons (d_dget (hu_of hr) (d_fld (d_var 2 (pv 2))) (d_var 6 (pv 6)) (fun _ _ => rfl)) da_nil)))) da_nil)))
  (dss_one (ds_ret (d_tup (da_cons (d_var 4 (pv 4)) (da_cons (d_callTy call_tuple_ofZ g_tuple rfl (B.get "tuple") (by decide +kernel) (da_cons (d_fld (d_var 2 (pv 2))) da_nil)) (da_cons (d_var 5 (pv 5)) (da_cons (d_callTy call_tuple_ofZ g_tuple rfl (B.get "tuple") (by decide +kernel) (da_cons (d_fld (d_var 2 (pv 2))) da_nil)) (da_cons (d_fld (d_var 2 (pv 2))) da_nil))))))))))))), ?_⟩
  intro s so b ns hfin h1 h2 ok hb hl hv
  have e0 : startD 7 [.tup [sortsD so, bodyD b], natsD ns] = [some (.tup [sortsD so, bodyD b]), some (natsD ns), none, none, none, none, none] := rfl
  rw [fBody_e]
  simp only [List.length_cons, List.length_nil, Nat.zero_add, Nat.reduceAdd, e0]
  rw [fOwnI_eq (d := runD b ns)]
  · rfl
  refine ⟨?_, [natsD ns], by simp, fun x hx y hy => pI.1 ns _ y hy, ?_⟩
  · obtain ⟨N, hN⟩ := hfin
    refine ⟨N, [N + 1, N + 2, N + 3, N + 4, N + 5], rfl, ?_, ?_⟩
    · simp
    · intro a ha
      simp only [List.mem_cons, List.mem_nil_iff, or_false] at ha
      rcases ha with rfl | rfl | rfl | rfl | rfl | rfl
      · exact hN _ (Nat.le_refl _)
      · exact hN _ (Nat.le_add_right _ _)
      · exact hN _ (Nat.le_add_right _ _)
      · exact hN _ (Nat.le_add_right _ _)
      · exact hN _ (Nat.le_add_right _ _)
      · exact hN _ (Nat.le_add_right _ _)
  · intro a as hl5 hf
    match as, hl5, hf with
    | [n, d, o, e, p], _, hf =>
    obtain ⟨f1, f2⟩ := hf
    simp only [List.nodup_cons, List.mem_cons, List.mem_nil_iff, or_false, not_or] at f1
    obtain ⟨⟨x1, x2, x3, x4, x5⟩, ⟨x6, x7, x8, x9⟩, ⟨x10, x11, x12⟩, ⟨x13, x14⟩, x15, _⟩ := f1
    obtain ⟨c, cC, ca, cn, cd, co, ce, cp⟩ : ∃ c : SC, C = c.C ∧ a = c.a ∧ n = c.n ∧ d = c.d ∧ o = c.o ∧ e = c.e ∧ p = c.p := ⟨⟨C, a, n, d, o, e, p, Ne.symm x1, Ne.symm x2, Ne.symm x3, Ne.symm x4, Ne.symm x5, Ne.symm x6, Ne.symm x7, Ne.symm x8, Ne.symm x9, Ne.symm x10, Ne.symm x11, Ne.symm x12, Ne.symm x13, Ne.symm x14, Ne.symm x15⟩, rfl, rfl, rfl, rfl, rfl, rfl, rfl⟩
    subst ca cn cd co ce cp
    obtain ⟨δ', hi⟩ := pI.2 s c ns cC.symm
    have hw : WOk ns.length (w0 ns) := ⟨rfl, hv, by simp [w0], by simp [w0], by simp [w0], by simp [w0], by simp [w0], by simp [w0], by simp [w0]⟩
    have hc2 : b.length * cst 2 ≤ 8 * cst 2 := Nat.mul_le_mul_right _ hb
    have hc3 : cst 2 = 157213 := by rfl
    have hbd := pb s c ns.length (w0 ns) b hw (by omega) ok (by rw [show (w0 ns).steps = 0 from rfl]; omega)
    have hk := exsM_ok 2 b (w0 ns) ok hw
    refine ⟨sst s c (w0 ns), sst s c (exsM b (w0 ns)).1, ?_, ?_, ?_⟩
    · show (fg _ _ _).map _ = _
      rw [hi]; rfl
    · simp only [bodyD] at hbd
      have hpl := hk.ok.pl
      have hst := hk.st
      cases er : exsM b (w0 ns) with
      | mk v oo =>
        rw [er] at hbd
        cases oo with
        | none =>
          simp only [haltD] at hbd
          simp [bodyD, hbd, runD, er, compL, natsD]
          exact ⟨rfl, rfl⟩
        | some hh =>
          cases hh <;> (simp only [haltD, strD] at hbd; simp [bodyD, hbd, runD, er, compL, natsD]; exact ⟨rfl, rfl⟩)
    · exact keep_sst (f2 c.a (by simp)) (f2 c.n (by simp)) (f2 c.d (by simp)) (f2 c.o (by simp)) (f2 c.e (by simp)) (f2 c.p (by simp))

end
end Fw

set_option Elab.async false
set_option linter.all false
set_option maxRecDepth 100000
set_option maxHeartbeats 4000000
namespace Fw
open PySem PySem.Spec PyProof.Rows L2
section
variable {P : Program} {w : World} {K : PySem.W.Frag} {mg : Str → Option Value} {base : Heap}
structure Rules where
  sum : Addr
  ite : Addr
  times : Addr
  whl : Addr
  print : Addr
  stop : Addr
  split : Addr
  keep : Addr
  fetch : Addr
def rulesL (A : Rules) : List (Str × D) := [(Str.ofString "sum", .ref A.sum), (Str.ofString "if", .ref A.ite), (Str.ofString "times", .ref A.times), (Str.ofString "while", .ref A.whl), (Str.ofString "print", .ref A.print), (Str.ofString "stop", .ref A.stop), (Str.ofString "split", .ref A.split), (Str.ofString "keep", .ref A.keep), (Str.ofString "fetch", .ref A.fetch)]
structure RulesOk (A : Rules) (tb : Addr → Option FD) : Prop where
  sum : ∃ g, tb A.sum = some g ∧ ∀ d, P_rule d isSum g
  ite : ∃ g, tb A.ite = some g ∧ ∀ d, P_rule d isIf g
  times : ∃ g, tb A.times = some g ∧ ∀ d, P_rule d isTimes g
  whl : ∃ g, tb A.whl = some g ∧ ∀ d, P_rule d isWhile g
  print : ∃ g, tb A.print = some g ∧ ∀ d, P_rule d isPrint g
  stop : ∃ g, tb A.stop = some g ∧ ∀ d, P_rule d isStop g
  split : ∃ g, tb A.split = some g ∧ ∀ d, P_rule d isSplit g
  keep : ∃ g, tb A.keep = some g ∧ ∀ d, P_rule d isKeep g
  fetch : ∃ g, tb A.fetch = some g ∧ ∀ d, P_rule d isFetch g
theorem RulesOk.of {A : Rules} {tb : Addr → Option FD} (T : RulesOk A tb) (a : Sm) : ∃ (k : String) (r : List D) (f : Addr) (g : FD), smD a = .tup (strD k :: r) ∧ (rulesL A).lookup (Str.ofString k) = some (.ref f) ∧ tb f = some g ∧
    ∀ (d : Nat) (ws : List String) (so : List Bool) (und : Bool) (s : S), so.length ≤ 1000 → smOk so.length d a → g [.tup (ws.map strD), sortsD so, smD a, .bl und] s = some (.bl (standsM ws so und a), s) := by
  cases a with
  | sum x ts n => obtain ⟨g, h1, h2⟩ := T.sum; exact ⟨_, _, _, g, by rw [smD], by simp [rulesL, List.lookup_cons], h1, fun d ws so und s hl ok => h2 d ws so _ und s hl rfl ok⟩
  | ite x p q => obtain ⟨g, h1, h2⟩ := T.ite; exact ⟨_, _, _, g, by rw [smD], by simp [rulesL, List.lookup_cons], h1, fun d ws so und s hl ok => h2 d ws so _ und s hl rfl ok⟩
  | times n b => obtain ⟨g, h1, h2⟩ := T.times; exact ⟨_, _, _, g, by rw [smD], by simp [rulesL, List.lookup_cons], h1, fun d ws so und s hl ok => h2 d ws so _ und s hl rfl ok⟩
  | whl x b => obtain ⟨g, h1, h2⟩ := T.whl; exact ⟨_, _, _, g, by rw [smD], by simp [rulesL, List.lookup_cons], h1, fun d ws so und s hl ok => h2 d ws so _ und s hl rfl ok⟩
  | print x => obtain ⟨g, h1, h2⟩ := T.print; exact ⟨_, _, _, g, by rw [smD], by simp [rulesL, List.lookup_cons], h1, fun d ws so und s hl ok => h2 d ws so _ und s hl rfl ok⟩
  | stop => obtain ⟨g, h1, h2⟩ := T.stop; exact ⟨_, _, _, g, by rw [smD], by simp [rulesL, List.lookup_cons], h1, fun d ws so und s hl ok => h2 d ws so _ und s hl rfl ok⟩
  | split x y => obtain ⟨g, h1, h2⟩ := T.split; exact ⟨_, _, _, g, by rw [smD], by simp [rulesL, List.lookup_cons], h1, fun d ws so und s hl ok => h2 d ws so _ und s hl rfl ok⟩
  | keep t x y => obtain ⟨g, h1, h2⟩ := T.keep; exact ⟨_, _, _, g, by rw [smD], by simp [rulesL, List.lookup_cons], h1, fun d ws so und s hl ok => h2 d ws so _ und s hl rfl ok⟩
  | fetch t x y => obtain ⟨g, h1, h2⟩ := T.fetch; exact ⟨_, _, _, g, by rw [smD], by simp [rulesL, List.lookup_cons], h1, fun d ws so und s hl ok => h2 d ws so _ und s hl rfl ok⟩
theorem ok_may_stand {f : Addr} {fd : FuncData} (F : Fun K "may_stand" "may_stand" s_may_stand f fd) (hm : mg "may_stand" = some (.ref f)) (B : Bi mg) {aR : Addr} {A : Rules} (g_RULES : Gc K mg "RULES" (.ref aR)) (G_RULES : GK K w (rulesL A) aR)
    {tb : Addr → Option FD} {lv : Nat} (T_rule : ∀ f g, tb f = some g → Held P w K mg base lv f (spD K 4 g)) (T : RulesOk A tb) :
    ∃ g, Kn P w K mg base "may_stand" 4 (lv + 1) g ∧ P_stands g := by
  refine ⟨_, (kn_of (k := lv) F hm sc_may_stand (F.binds (ps := ["design", "sorts", "statement", "under"]) fun _ _ _ _ _ _ us hl => match us, hl with | [_, _, _, _], _ => rfl) fun cdv A outer s H E hr => (dss_cons (ds_set (i := 4) sc_may_stand.nd rfl (Or.inl rfl) (d_itemK G_RULES (d_gc g_RULES rfl) (d_ix (d_var 2 (pv 2)) d_int (fun _ _ => rfl)) (fun _ _ => rfl)))
  (dss_one (ds_ret (d_callA (j := 4) T_rule (hr.mono (by omega)) rfl (by first | exact Or.inl rfl | exact Or.inr rfl | rfl) (da_cons (d_var 0 (pv 0)) (da_cons (d_var 1 (pv 1)) (da_cons (d_var 2 (pv 2)) (da_cons (d_var 3 (pv 3)) da_nil))))))))), ?_⟩
  intro ws so a d und s hl ok
  obtain ⟨k, r, fr, g, h1, h2, h3, h4⟩ := T.of a
  have h5 := h4 d ws so und s hl ok
  rw [h1] at h5 ⊢
  simp only [strD, sortsD] at h5 ⊢
  simp [h2, h3, h5]

end
end Fw

set_option Elab.async false
set_option linter.all false
set_option maxRecDepth 100000
set_option maxHeartbeats 4000000
namespace Fw
open PySem PySem.Spec PyProof.Rows L2
section
variable {P : Program} {w : World} {K : PySem.W.Frag} {mg : Str → Option Value} {base : Heap}
/-- a def of the module, by its name -/
structure Fat (K : PySem.W.Frag) (mg : Str → Option Value) (x : Str) (st : Stmt) (f : Addr) (fd : FuncData) : Prop where
  fn : Fun K x x st f fd
  at_ : mg x = some (.ref f)
theorem fa_mk {h : Heap} {x : Str} {st : Stmt} {f : Addr} {oc : Value} {od an : Option Addr} {osl : Array (Option Value)} {kV doc pm cdv ct : Value} (X : K.In h) (G : h.Ns mainGlobals mg)
    (a : PySem.W.nsIn K mainGlobals x = some (some (.ref f))) (l : K.lookup f = some ⟨oc, od, .func (PySem.W.fnOf x x (defArgs st) (defBody st) (defScope st) .none kV doc pm an cdv ct), osl⟩) (c : PySem.W.codeIn K cdv x = true) (k : PySem.W.keepIn K (.ref f) = true) :
    ∃ f fd, Fat K mg x st f fd := ⟨_, _, fun_mk l c k, PySem.W.mg_of X G a⟩
theorem fun_ne {x q x' q' : Str} {st st' : Stmt} {f f' : Addr} {fd fd' : FuncData} (F : Fun K x q st f fd) (F' : Fun K x' q' st' f' fd') (h : x ≠ x') : f ≠ f' := by
  intro e
  subst e
  obtain ⟨oc, od, kV, doc, pm, an, cdv, ct, osl, rfl, lk, _⟩ := F.ex
  obtain ⟨oc', od', kV', doc', pm', an', cdv', ct', osl', rfl, lk', _⟩ := F'.ex
  rw [lk] at lk'
  injection lk' with lk'
  injection lk' with _ _ lk' _
  injection lk' with lk'
  exact h (congrArg FuncData.name lk')
/-- nothing is promised -/
theorem kn_zero {x : Str} {st : Stmt} {f : Addr} {fd : FuncData} {n : Nat} {ps : List Str} (F : Fat K mg x st f fd) (bi : Binds K fd ps []) : Kn P w K mg base x n 0 (fun _ _ => none) := by
  have no : ∀ vs H Q E, ¬ spD K n (fun _ _ => none) vs H Q E := fun vs H Q E h => by
    obtain ⟨_, _, _, _, _, _, _, _, e, _⟩ := h
    cases e
  exact ⟨f, fd, ps, ⟨fun vs H Q E h => absurd h (no vs H Q E), fun A outer s H args us vs Q E _ _ _ _ h => absurd h (no vs H Q E)⟩, bi, F.fn.kp, F.at_⟩
theorem held_at {x : Str} {n k : Nat} {g : FD} {f : Addr} (F : Kn P w K mg base x n k g) (h : mg x = some (.ref f)) : Held P w K mg base k f (spD K n g) := by
  obtain ⟨f', e, q⟩ := held_of F
  rw [h] at e
  cases e
  exact q
theorem Held.mono {k l : Nat} {f : Addr} {sp : Sp} (F : Held P w K mg base k f sp) (h : k ≤ l) : Held P w K mg base l f sp := let ⟨fd, ps, a, b, c⟩ := F.ex; ⟨fd, ps, a.mono h, b, c⟩
/-- the constants that the module holds -/
structure Consts (K : PySem.W.Frag) (w : World) (mg : Str → Option Value) (aF aA : Addr) (A : Acts) : Prop where
  SORTS : Gc K mg "SORTS" (.tup [strD "open", strD "secret"])
  HIGHEST : Gc K mg "HIGHEST" (.int 9)
  MOST_NAMES : Gc K mg "MOST_NAMES" (.int 6)
  MOST_STATEMENTS : Gc K mg "MOST_STATEMENTS" (.int 8)
  MOST_INNER_STATEMENTS : Gc K mg "MOST_INNER_STATEMENTS" (.int 4)
  MOST_WITHIN : Gc K mg "MOST_WITHIN" (.int 2)
  MOST_TERMS : Gc K mg "MOST_TERMS" (.int 2)
  MOST_TURNS : Gc K mg "MOST_TURNS" (.int 3)
  PLACES : Gc K mg "PLACES" (.int 10)
  MOST_ROUNDS : Gc K mg "MOST_ROUNDS" (.int 60)
  FORMS : Gc K mg "FORMS" (.ref aF)
  formsK : GK K w formsL aF
  ACTIONS : Gc K mg "ACTIONS" (.ref aA)
  actsK : GK K w (actsL A) aA

/-! ### the checks of the program -/
section
variable {aF aA : Addr} {A : Acts} (B : Bi mg) (C : Consts K w mg aF aA A)
  {f1 f2 f3 f4 f5 f6 f7 f8 f9 f10 : Addr} {d1 d2 d3 d4 d5 d6 d7 d8 d9 d10 : FuncData}
  (F1 : Fat K mg "check_program" s_check_program f1 d1) (F2 : Fat K mg "is_pair" s_is_pair f2 d2) (F3 : Fat K mg "is_sorts" s_is_sorts f3 d3) (F4 : Fat K mg "is_sort" s_is_sort f4 d4) (F5 : Fat K mg "is_number" s_is_number f5 d5)
  (F6 : Fat K mg "is_whole_body" s_is_whole_body f6 d6) (F7 : Fat K mg "is_body" s_is_body f7 d7) (F8 : Fat K mg "is_statement" s_is_statement f8 d8) (F9 : Fat K mg "is_item" s_is_item f9 d9) (F10 : Fat K mg "is_terms" s_is_terms f10 d10)
include B C F1 F2 F3 F4 F5 F6 F7 F8 F9 F10
theorem checks_ok : ∃ g, Kn P w K mg base "check_program" 1 13 g ∧ P_check_program g := by
  obtain ⟨_, k2, p2⟩ := ok_is_pair (P := P) (w := w) (base := base) F2.fn F2.at_ B
  obtain ⟨_, k4, p4⟩ := ok_is_sort (P := P) (w := w) (base := base) F4.fn F4.at_ B C.SORTS
  obtain ⟨_, k3, p3⟩ := ok_is_sorts (P := P) (w := w) (base := base) F3.fn F3.at_ B C.MOST_NAMES k4 p4
  obtain ⟨_, k5, p5⟩ := ok_is_number (P := P) (w := w) (base := base) F5.fn F5.at_ B
  obtain ⟨_, k10, p10⟩ := ok_is_terms (P := P) (w := w) (base := base) F10.fn F10.at_ B C.MOST_TERMS k5 p5
  have z := kn_zero (P := P) (w := w) (base := base) (n := 4) F7 (F7.fn.binds (ps := ["value", "names", "most", "depth"]) fun _ _ _ _ _ _ us hl => match us, hl with | [_, _, _, _], _ => rfl)
  obtain ⟨_, ki0, pi0⟩ := ok_is_item (P := P) (w := w) (base := base) (d := 0) F9.fn F9.at_ B C.HIGHEST C.MOST_TURNS C.MOST_WITHIN C.MOST_INNER_STATEMENTS (Nat.le_refl 2) k5 p5 k4 p4 k10 p10 (z.mono (by decide : 0 ≤ 2)) (fun h => absurd h (by decide))
  obtain ⟨_, ks0, ps0⟩ := ok_is_statement (P := P) (w := w) (base := base) F8.fn F8.at_ B C.FORMS C.formsK ki0 pi0
  obtain ⟨_, kb0, pb0⟩ := ok_is_body (P := P) (w := w) (base := base) F7.fn F7.at_ B ks0 ps0
  obtain ⟨_, ki1, pi1⟩ := ok_is_item (P := P) (w := w) (base := base) (d := 1) F9.fn F9.at_ B C.HIGHEST C.MOST_TURNS C.MOST_WITHIN C.MOST_INNER_STATEMENTS (by decide) k5 p5 k4 p4 k10 p10 kb0 (fun _ => pb0)
  obtain ⟨_, ks1, ps1⟩ := ok_is_statement (P := P) (w := w) (base := base) F8.fn F8.at_ B C.FORMS C.formsK ki1 pi1
  obtain ⟨_, kb1, pb1⟩ := ok_is_body (P := P) (w := w) (base := base) F7.fn F7.at_ B ks1 ps1
  obtain ⟨_, ki2, pi2⟩ := ok_is_item (P := P) (w := w) (base := base) (d := 2) F9.fn F9.at_ B C.HIGHEST C.MOST_TURNS C.MOST_WITHIN C.MOST_INNER_STATEMENTS (by decide) k5 p5 k4 p4 k10 p10 kb1 (fun _ => pb1)
  obtain ⟨_, ks2, ps2⟩ := ok_is_statement (P := P) (w := w) (base := base) F8.fn F8.at_ B C.FORMS C.formsK ki2 pi2
  obtain ⟨_, kb2, pb2⟩ := ok_is_body (P := P) (w := w) (base := base) F7.fn F7.at_ B ks2 ps2
  obtain ⟨_, k6, p6⟩ := ok_is_whole_body (P := P) (w := w) (base := base) F6.fn F6.at_ B C.MOST_STATEMENTS kb2 pb2
  obtain ⟨g, k1, p1⟩ := ok_check_program (P := P) (w := w) (base := base) F1.fn F1.at_ B (by decide) k2 p2 k3 p3 k6 p6
  exact ⟨g, k1.mono (by decide), p1⟩
end
/-! ### the program's run -/
theorem acts_ok {A : Acts} {d l : Nat} {d1 d2 d3 d4 d5 d6 d7 d8 d9 : FuncData} {g1 g2 g3 g4 g5 g6 g7 g8 g9 : FD} (F1 : Fat K mg "do_sum" s_do_sum A.sum d1) (F2 : Fat K mg "do_if" s_do_if A.ite d2) (F3 : Fat K mg "do_times" s_do_times A.times d3) (F4 : Fat K mg "do_while" s_do_while A.whl d4)
    (F5 : Fat K mg "do_print" s_do_print A.print d5) (F6 : Fat K mg "do_stop" s_do_stop A.stop d6) (F7 : Fat K mg "do_split" s_do_split A.split d7) (F8 : Fat K mg "do_keep" s_do_keep A.keep d8) (F9 : Fat K mg "do_fetch" s_do_fetch A.fetch d9)
    (k1 : Kn P w K mg base "do_sum" 2 l g1) (p1 : P_act d isSum g1) (k2 : Kn P w K mg base "do_if" 2 l g2) (p2 : P_act d isIf g2) (k3 : Kn P w K mg base "do_times" 2 l g3) (p3 : P_act d isTimes g3) (k4 : Kn P w K mg base "do_while" 2 l g4) (p4 : P_act d isWhile g4)
    (k5 : Kn P w K mg base "do_print" 2 l g5) (p5 : P_act d isPrint g5) (k6 : Kn P w K mg base "do_stop" 2 l g6) (p6 : P_act d isStop g6) (k7 : Kn P w K mg base "do_split" 2 l g7) (p7 : P_act d isSplit g7) (k8 : Kn P w K mg base "do_keep" 2 l g8) (p8 : P_act d isKeep g8) (k9 : Kn P w K mg base "do_fetch" 2 l g9) (p9 : P_act d isFetch g9) :
    ∃ tb : Addr → Option FD, (∀ f g, tb f = some g → Held P w K mg base l f (spD K 2 g)) ∧ ActsOk d A tb := by
  refine ⟨fun a => if a = A.sum then some g1 else if a = A.ite then some g2 else if a = A.times then some g3 else if a = A.whl then some g4 else if a = A.print then some g5 else if a = A.stop then some g6 else if a = A.split then some g7 else if a = A.keep then some g8 else if a = A.fetch then some g9 else none, ?_, ?_⟩
  · intro f g h
    dsimp only at h
    split at h
    · rename_i e; cases h; rw [e]; exact held_at k1 F1.at_
    split at h
    · rename_i e; cases h; rw [e]; exact held_at k2 F2.at_
    split at h
    · rename_i e; cases h; rw [e]; exact held_at k3 F3.at_
    split at h
    · rename_i e; cases h; rw [e]; exact held_at k4 F4.at_
    split at h
    · rename_i e; cases h; rw [e]; exact held_at k5 F5.at_
    split at h
    · rename_i e; cases h; rw [e]; exact held_at k6 F6.at_
    split at h
    · rename_i e; cases h; rw [e]; exact held_at k7 F7.at_
    split at h
    · rename_i e; cases h; rw [e]; exact held_at k8 F8.at_
    split at h
    · rename_i e; cases h; rw [e]; exact held_at k9 F9.at_
    · cases h
  · refine ⟨⟨g1, ?_, p1⟩, ⟨g2, ?_, p2⟩, ⟨g3, ?_, p3⟩, ⟨g4, ?_, p4⟩, ⟨g5, ?_, p5⟩, ⟨g6, ?_, p6⟩, ⟨g7, ?_, p7⟩, ⟨g8, ?_, p8⟩, ⟨g9, ?_, p9⟩⟩
    · rw [if_pos rfl]
    · rw [if_neg (fun_ne F2.fn F1.fn (by decide)), if_pos rfl]
    · rw [if_neg (fun_ne F3.fn F1.fn (by decide)), if_neg (fun_ne F3.fn F2.fn (by decide)), if_pos rfl]
    · rw [if_neg (fun_ne F4.fn F1.fn (by decide)), if_neg (fun_ne F4.fn F2.fn (by decide)), if_neg (fun_ne F4.fn F3.fn (by decide)), if_pos rfl]
    · rw [if_neg (fun_ne F5.fn F1.fn (by decide)), if_neg (fun_ne F5.fn F2.fn (by decide)), if_neg (fun_ne F5.fn F3.fn (by decide)), if_neg (fun_ne F5.fn F4.fn (by decide)), if_pos rfl]
    · rw [if_neg (fun_ne F6.fn F1.fn (by decide)), if_neg (fun_ne F6.fn F2.fn (by decide)), if_neg (fun_ne F6.fn F3.fn (by decide)), if_neg (fun_ne F6.fn F4.fn (by decide)), if_neg (fun_ne F6.fn F5.fn (by decide)), if_pos rfl]
    · rw [if_neg (fun_ne F7.fn F1.fn (by decide)), if_neg (fun_ne F7.fn F2.fn (by decide)), if_neg (fun_ne F7.fn F3.fn (by decide)), if_neg (fun_ne F7.fn F4.fn (by decide)), if_neg (fun_ne F7.fn F5.fn (by decide)), if_neg (fun_ne F7.fn F6.fn (by decide)), if_pos rfl]
    · rw [if_neg (fun_ne F8.fn F1.fn (by decide)), if_neg (fun_ne F8.fn F2.fn (by decide)), if_neg (fun_ne F8.fn F3.fn (by decide)), if_neg (fun_ne F8.fn F4.fn (by decide)), if_neg (fun_ne F8.fn F5.fn (by decide)), if_neg (fun_ne F8.fn F6.fn (by decide)), if_neg (fun_ne F8.fn F7.fn (by decide)), if_pos rfl]
    · rw [if_neg (fun_ne F9.fn F1.fn (by decide)), if_neg (fun_ne F9.fn F2.fn (by decide)), if_neg (fun_ne F9.fn F3.fn (by decide)), if_neg (fun_ne F9.fn F4.fn (by decide)), if_neg (fun_ne F9.fn F5.fn (by decide)), if_neg (fun_ne F9.fn F6.fn (by decide)), if_neg (fun_ne F9.fn F7.fn (by decide)), if_neg (fun_ne F9.fn F8.fn (by decide)), if_pos rfl]
section
variable {aF aA : Addr} {A : Acts} {f0 : Addr} {d0 d1 d2 d3 d4 d5 d6 d7 d8 d9 : FuncData} (B : Bi mg) (C : Consts K w mg aF aA A)
  (F0 : Fat K mg "do_body" s_do_body f0 d0) (F1 : Fat K mg "do_sum" s_do_sum A.sum d1) (F2 : Fat K mg "do_if" s_do_if A.ite d2) (F3 : Fat K mg "do_times" s_do_times A.times d3) (F4 : Fat K mg "do_while" s_do_while A.whl d4)
    (F5 : Fat K mg "do_print" s_do_print A.print d5) (F6 : Fat K mg "do_stop" s_do_stop A.stop d6) (F7 : Fat K mg "do_split" s_do_split A.split d7) (F8 : Fat K mg "do_keep" s_do_keep A.keep d8) (F9 : Fat K mg "do_fetch" s_do_fetch A.fetch d9)
include B C F0 F1 F2 F3 F4 F5 F6 F7 F8 F9
theorem body_next {d l : Nat} {gb : FD} (kb : Kn P w K mg base "do_body" 2 l gb) (pb : 0 < d → P_do_body (d - 1) gb) : ∃ g, Kn P w K mg base "do_body" 2 (l + 2) g ∧ P_do_body d g := by
  obtain ⟨_, k1, p1⟩ := ok_do_sum (P := P) (w := w) (base := base) (d := d) F1.fn F1.at_ B
  obtain ⟨_, k5, p5⟩ := ok_do_print (P := P) (w := w) (base := base) (d := d) F5.fn F5.at_ B
  obtain ⟨_, k6, p6⟩ := ok_do_stop (P := P) (w := w) (base := base) (d := d) F6.fn F6.at_ B
  obtain ⟨_, k7, p7⟩ := ok_do_split (P := P) (w := w) (base := base) (d := d) F7.fn F7.at_ B
  obtain ⟨_, k8, p8⟩ := ok_do_keep (P := P) (w := w) (base := base) (d := d) F8.fn F8.at_ B
  obtain ⟨_, k9, p9⟩ := ok_do_fetch (P := P) (w := w) (base := base) (d := d) F9.fn F9.at_ B
  obtain ⟨_, k2, p2⟩ := ok_do_if (P := P) (w := w) (base := base) (d := d) F2.fn F2.at_ B kb pb
  obtain ⟨_, k3, p3⟩ := ok_do_times (P := P) (w := w) (base := base) (d := d) F3.fn F3.at_ B kb pb
  obtain ⟨_, k4, p4⟩ := ok_do_while (P := P) (w := w) (base := base) (d := d) F4.fn F4.at_ B C.MOST_ROUNDS kb pb
  have h1 : 1 ≤ l + 1 := by omega
  obtain ⟨tb, T1, T2⟩ := acts_ok (l := l + 1) F1 F2 F3 F4 F5 F6 F7 F8 F9 (k1.mono h1) p1 k2 p2 k3 p3 k4 p4 (k5.mono h1) p5 (k6.mono h1) p6 (k7.mono h1) p7 (k8.mono h1) p8 (k9.mono h1) p9
  exact ok_do_body (P := P) (w := w) (base := base) F0.fn F0.at_ B C.ACTIONS C.actsK T1 T2
theorem body_ok : ∃ g, Kn P w K mg base "do_body" 2 6 g ∧ P_do_body 2 g := by
  have z := kn_zero (P := P) (w := w) (base := base) (n := 2) F0 (F0.fn.binds (ps := ["state", "body"]) fun _ _ _ _ _ _ us hl => match us, hl with | [_, _], _ => rfl)
  obtain ⟨_, k0, p0⟩ := body_next (P := P) (base := base) B C F0 F1 F2 F3 F4 F5 F6 F7 F8 F9 (d := 0) z fun h => absurd h (by decide)
  obtain ⟨_, k1, p1⟩ := body_next (P := P) (base := base) B C F0 F1 F2 F3 F4 F5 F6 F7 F8 F9 (d := 1) k0 fun _ => p0
  exact body_next (P := P) (base := base) B C F0 F1 F2 F3 F4 F5 F6 F7 F8 F9 (d := 2) k1 fun _ => p1
end
end
theorem fa_at {K : PySem.W.Frag} {mg : Str → Option Value} {h : Heap} {x : Str} {st : Stmt} {f : Addr} {oc : Value} {od an : Option Addr} {osl : Array (Option Value)} {kV doc pm cdv ct : Value} (X : K.In h) (G : h.Ns mainGlobals mg)
    (a : PySem.W.nsIn K mainGlobals x = some (some (.ref f))) (l : K.lookup f = some ⟨oc, od, .func (PySem.W.fnOf x x (defArgs st) (defBody st) (defScope st) .none kV doc pm an cdv ct), osl⟩) (c : PySem.W.codeIn K cdv x = true) (k : PySem.W.keepIn K (.ref f) = true) :
    Fat K mg x st f (PySem.W.fnOf x x (defArgs st) (defBody st) (defScope st) .none kV doc pm an cdv ct) := ⟨fun_mk l c k, PySem.W.mg_of X G a⟩
theorem gc_int {K : PySem.W.Frag} {mg : Str → Option Value} {h : Heap} {x : Str} {i : Int} {t : Tok} (X : K.In h) (G : h.Ns mainGlobals mg) (a : PySem.W.nsIn K mainGlobals x = some (some (.int i t))) : Gc K mg x (.int i) := ⟨⟨_, .int i, PySem.W.mg_of X G a, ⟨t, rfl⟩, fun H => .int i⟩⟩
theorem gc_ref {K : PySem.W.Frag} {mg : Str → Option Value} {h : Heap} {x : Str} {b : Addr} (X : K.In h) (G : h.Ns mainGlobals mg) (a : PySem.W.nsIn K mainGlobals x = some (some (.ref b))) : Gc K mg x (.ref b) := ⟨⟨_, .ref b, PySem.W.mg_of X G a, rfl, fun H => .ref b⟩⟩
/-- a value of the written part by data -/
def RepV (K : PySem.W.Frag) (u : Value) (d : D) : Prop := ∃ v, RelV v u ∧ ∀ H, Rep K H v d
theorem rv_str {K : PySem.W.Frag} {x : String} {t : Tok} : RepV K (.str (Str.ofString x) t) (strD x) := ⟨.str _, ⟨t, rfl⟩, fun H => .str _⟩
theorem rv_ref {K : PySem.W.Frag} {a : Addr} : RepV K (.ref a) (.ref a) := ⟨.ref a, rfl, fun H => .ref a⟩
theorem rv_tup {K : PySem.W.Frag} {a : Addr} {its : Array Value} {n : Nat} {sl : Array (Option Value)} {ds : List D} (l : K.lookup a = some ⟨.type "tuple", none, .seq its n, sl⟩) (hs : its.size ≤ sizeLine) (hv : Paired (RepV K) its.toList ds) : RepV K (.ref a) (.tup ds) := by
  have key : ∀ (us : List Value) (ds : List D), Paired (RepV K) us ds → ∃ vs, Vals vs us ∧ ∀ H, Reps K H vs ds := by
    intro us ds h
    induction h with
    | nil => exact ⟨[], .nil, fun H => .nil⟩
    | cons h _ ih =>
      obtain ⟨v, r1, r2⟩ := h
      obtain ⟨vs, q1, q2⟩ := ih
      exact ⟨v :: vs, .cons r1 q1, fun H => .cons (r2 H) (q2 H)⟩
  obtain ⟨vs, q1, q2⟩ := key _ _ hv
  exact ⟨.ref a, rfl, fun H => .tup (Or.inr ⟨_, its, n, l, rfl, rfl, rfl, hs, q1⟩) (q2 H)⟩
theorem gc_rv {K : PySem.W.Frag} {mg : Str → Option Value} {h : Heap} {x : Str} {u : Value} {d : D} (X : K.In h) (G : h.Ns mainGlobals mg) (a : PySem.W.nsIn K mainGlobals x = some (some u)) (r : RepV K u d) : Gc K mg x d :=
  let ⟨v, r1, r2⟩ := r; ⟨⟨u, v, PySem.W.mg_of X G a, r1, r2⟩⟩
/-- the entries of a written dict by data -/
def EntR (K : PySem.W.Frag) (e : DictEntry) (kv : Str × D) : Prop := (∃ t, e.key = .str kv.1 t) ∧ RepV K e.val kv.2
theorem gk_of {K : PySem.W.Frag} {w : World} {kvs : List (Str × D)} {a : Addr} {es : Array DictEntry} {n : Nat} (l : K.lookup a = some ⟨.type "dict", none, .dict es n, #[]⟩) (lit : PySem.W.KeysLit w.params es.toList) (low : (a == sysModules) = false) (hv : Paired (EntR K) es.toList kvs) : GK K w kvs a := by
  refine ⟨⟨es, n, l, lit, low⟩, fun z => ?_⟩
  have key : ∀ (l : List DictEntry) (kvs : List (Str × D)), Paired (EntR K) l kvs → l.any (·.refKey) = false ∧ ((l.find? (·.key.isStr z)).map (·.val)).isSome = (kvs.lookup z).isSome ∧ ∀ d, kvs.lookup z = some d → ∃ e, l.find? (·.key.isStr z) = some e ∧ RepV K e.val d := by
    intro l kvs h
    induction h with
    | nil => exact ⟨rfl, rfl, fun d e => nomatch e⟩
    | @cons e kv l kvs h _ ih =>
      obtain ⟨⟨t, hk⟩, hr⟩ := h
      obtain ⟨k, d⟩ := kv
      dsimp only at hk hr
      obtain ⟨i1, i2, i3⟩ := ih
      have hrk : e.refKey = false := by unfold DictEntry.refKey; rw [hk]
      have his : e.key.isStr z = (k == z) := by rw [hk]; rfl
      by_cases hz : k = z
      · subst hz
        have h1 : e.key.isStr k = true := by rw [his]; exact beq_self_eq_true k
        rw [List.any_cons, hrk, i1, List.find?_cons_of_pos (p := fun x : DictEntry => x.key.isStr k) h1, List.lookup_cons, beq_self_eq_true]
        exact ⟨rfl, rfl, fun d' q => by cases q; exact ⟨e, rfl, hr⟩⟩
      · have h1 : ¬ e.key.isStr z = true := by rw [his]; simpa using hz
        have h2 : (z == k) = false := beq_eq_false_iff_ne.mpr fun q => hz q.symm
        rw [List.any_cons, hrk, i1, List.find?_cons_of_neg (p := fun x : DictEntry => x.key.isStr z) h1, List.lookup_cons, h2]
        exact ⟨rfl, i2, i3⟩
  obtain ⟨k1, k2, k3⟩ := key _ _ hv
  unfold PySem.W.nsIn
  rw [l]
  dsimp only
  cases hf : es.toList.find? (·.key.isStr z) with
  | none =>
    rw [hf] at k2
    dsimp only
    rw [k1]
    refine ⟨none, rfl, k2, fun d hd => ?_⟩
    rw [hd] at k2
    cases k2
  | some e =>
    rw [hf] at k2
    refine ⟨some e.val, rfl, k2, fun d hd => ?_⟩
    obtain ⟨e', q1, v, r1, r2⟩ := k3 d hd
    rw [hf] at q1
    cases q1
    exact ⟨_, v, rfl, r1, r2⟩
theorem bi_of {K : PySem.W.Frag} {mg : Str → Option Value} {h : Heap} (X : K.In h) (G : h.Ns mainGlobals mg) (a : (["len", "int", "str", "tuple", "list", "sum", "all", "any", "isinstance", "range", "zip", "enumerate", "sorted", "set", "min", "max", "super", "bool"] : List String).all (fun x => PySem.W.nsIn K mainGlobals (Str.ofString x) == some none) = true) : Bi mg :=
  ⟨fun x hx => PySem.W.mg_none_of X G (by have := List.all_eq_true.mp a x hx; simpa using this)⟩

/-! ### the law's own defs -/
def lotsX : List D := [
  .tup [.tup [strD "ends seen", strD "splits"], .tup [.tup [strD "split", .int 1, .int 1]]],
  .tup [.tup [strD "ends seen", strD "whiles"], .tup [.tup [strD "while", .int 1, .tup []]]],
  .tup [.tup [strD "ifs", strD "prints", strD "prints seen"], .tup [.tup [strD "if", .int 1, .tup [.tup [strD "print", .int 0]], .tup []]]],
  .tup [.tup [strD "ifs", strD "steps seen"], .tup [.tup [strD "if", .int 1, .tup [.tup [strD "sum", .int 1, .tup [], .int 0]], .tup []]]],
  .tup [.tup [strD "ifs", strD "stops"], .tup [.tup [strD "if", .int 1, .tup [.tup [strD "stop"]], .tup []], .tup [strD "sum", .int 0, .tup [], .int 1]]],
  .tup [.tup [strD "ifs", strD "under"], .tup [.tup [strD "if", .int 1, .tup [.tup [strD "sum", .int 0, .tup [], .int 1]], .tup []]]],
  .tup [.tup [strD "marks"], .tup [.tup [strD "sum", .int 0, .tup [], .int 1], .tup [strD "keep", strD "open", .int 1, .int 0]]],
  .tup [.tup [strD "prints", strD "prints seen", strD "whiles"], .tup [.tup [strD "while", .int 1, .tup [.tup [strD "print", .int 0], .tup [strD "sum", .int 1, .tup [], .int 0]]]]],
  .tup [.tup [strD "prints seen", strD "tells"], .tup [.tup [strD "print", .int 1]]],
  .tup [.tup [strD "steps seen", strD "whiles"], .tup [.tup [strD "while", .int 1, .tup [.tup [strD "sum", .int 1, .tup [], .int 0]]]]],
  .tup [.tup [strD "stops", strD "whiles"], .tup [.tup [strD "while", .int 1, .tup [.tup [strD "stop"]]], .tup [strD "sum", .int 0, .tup [], .int 1]]],
  .tup [.tup [strD "straight"], .tup [.tup [strD "sum", .int 0, .tup [.int 1], .int 0]]],
  .tup [.tup [strD "under", strD "whiles"], .tup [.tup [strD "while", .int 1, .tup [.tup [strD "sum", .int 0, .tup [], .int 1], .tup [strD "sum", .int 1, .tup [], .int 0]]]]]]
theorem lots_eq : lotsL.map lotT = lotsX := by simp [lotsL, lotsX, lotT, lotD, toldM, bodyD, smD, smsD, natD, natsD, sortD]
section
variable {P : Program} {w : World} {K : PySem.W.Frag} {mg : Str → Option Value} {base : Heap}
section
variable {f1 f2 f3 f4 f5 f6 f7 f8 f9 f10 f11 : Addr} {d1 d2 d3 d4 d5 d6 d7 d8 d9 d10 d11 : FuncData} (B : Bi mg)
  (F1 : Fat K mg "_law_taken" s_l_taken f1 d1) (F2 : Fat K mg "_law_pick" s_l_pick f2 d2) (F3 : Fat K mg "_law_lots" s_l_lots f3 d3) (F4 : Fat K mg "_law_told" s_l_told f4 d4) (F5 : Fat K mg "_law_into" s_l_into f5 d5) (F6 : Fat K mg "_law_stands" s_l_stands f6 d6)
  (F7 : Fat K mg "_law_check" s_l_check f7 d7) (F8 : Fat K mg "_law_statement" s_l_statement f8 d8) (F9 : Fat K mg "_law_sorts" s_l_sorts f9 d9) (F10 : Fat K mg "_law_program" s_l_program f10 d10) (F11 : Fat K mg "_law_start" s_l_start f11 d11)
include B F1 F2 F3 F4 F5 F6 F7 F8 F9 F10 F11
theorem drawn_ok : (∃ g, Kn P w K mg base "_law_program" 2 6 g ∧ P_program g) ∧ (∃ g, Kn P w K mg base "_law_start" 2 3 g ∧ P_start g) ∧ ∃ g, Kn P w K mg base "_law_taken" 2 1 g ∧ P_taken g := by
  obtain ⟨gt, k1, p1⟩ := ok_taken (P := P) (w := w) (base := base) F1.fn F1.at_ B
  obtain ⟨_, k2, p2⟩ := ok_pick (P := P) (w := w) (base := base) F2.fn F2.at_ B k1 p1
  obtain ⟨_, k3, p3⟩ := ok_lots (P := P) (w := w) (base := base) F3.fn F3.at_ B
  obtain ⟨_, k4, p4⟩ := ok_told (P := P) (w := w) (base := base) F4.fn F4.at_ B
  obtain ⟨_, k5, p5⟩ := ok_into (P := P) (w := w) (base := base) F5.fn F5.at_ B
  obtain ⟨_, k6, p6⟩ := ok_stands (P := P) (w := w) (base := base) F6.fn F6.at_ B k5 p5
  have z7 := kn_zero (P := P) (w := w) (base := base) (n := 4) F7 (F7.fn.binds (ps := ["words", "sorts", "body", "under"]) fun _ _ _ _ _ _ us hl => match us, hl with | [_, _, _, _], _ => rfl)
  obtain ⟨_, c0, q0⟩ := ok_check (P := P) (w := w) (base := base) F7.fn F7.at_ B (Nat.le_refl 2) k6 p6 (d := 0) (by decide) (z7.mono (by decide : 0 ≤ 2)) (fun h => absurd h (by decide))
  obtain ⟨_, c1, q1⟩ := ok_check (P := P) (w := w) (base := base) F7.fn F7.at_ B (by decide) k6 p6 (d := 1) (by decide) c0 (fun _ => q0)
  obtain ⟨_, c2, q2⟩ := ok_check (P := P) (w := w) (base := base) F7.fn F7.at_ B (by decide) k6 p6 (d := 2) (by decide) c1 (fun _ => q1)
  have z8 := kn_zero (P := P) (w := w) (base := base) (n := 3) F8 (F8.fn.binds (ps := ["row", "many", "deep"]) fun _ _ _ _ _ _ us hl => match us, hl with | [_, _, _], _ => rfl)
  obtain ⟨_, s0, r0⟩ := ok_statement (P := P) (w := w) (base := base) F8.fn F8.at_ B (Nat.le_refl 2) k1 p1 k2 p2 (d := 0) (z8.mono (by decide : 0 ≤ 2)) (fun h => absurd h (by decide))
  obtain ⟨_, s1, r1⟩ := ok_statement (P := P) (w := w) (base := base) F8.fn F8.at_ B (by decide) k1 p1 k2 p2 (d := 1) s0 (fun _ => r0)
  obtain ⟨_, s2, r2⟩ := ok_statement (P := P) (w := w) (base := base) F8.fn F8.at_ B (by decide) k1 p1 k2 p2 (d := 2) s1 (fun _ => r1)
  obtain ⟨_, k9, p9⟩ := ok_sorts (P := P) (w := w) (base := base) F9.fn F9.at_ B k1 p1 k2 p2
  obtain ⟨gp, k10, p10⟩ := ok_program (P := P) (w := w) (base := base) F10.fn F10.at_ B (by decide) k1 p1 k2 p2 k9 p9 k3 p3 k4 p4 c2 q2 s2 r2
  obtain ⟨gs, k11, p11⟩ := ok_start (P := P) (w := w) (base := base) F11.fn F11.at_ B k1 p1 k2 p2
  exact ⟨⟨gp, k10, p10⟩, ⟨gs, k11, p11⟩, gt, k1, p1⟩
end
/-- the class State as the text leaves it -/
structure StOk (K : PySem.W.Frag) (mg : Str → Option Value) (C fI : Addr) (fd : FuncData) : Prop where
  M : Mk K C fI
  cl : Cls K C
  at_ : mg "State" = some (.ref C)
  fn : Fun K "__init__" "State.__init__" s_State_init fI fd
  na : ∀ g ∈ ["numbers", "tables", "prints", "steps", "rounds"], NoAttr K C (Str.ofString g)
section
variable {aF aA C fI : Addr} {A : Acts} {f2 f3 f4 f5 : Addr} {d2 d3 d4 d5 dI : FuncData}
theorem start_ok (B : Bi mg) (Co : Consts K w mg aF aA A) (F2 : Fat K mg "is_start" s_is_start f2 d2) (F3 : Fat K mg "check_start" s_check_start f3 d3) (F5 : Fat K mg "is_number" s_is_number f5 d5) : ∃ g, Kn P w K mg base "check_start" 2 3 g ∧ P_check_start g := by
  obtain ⟨_, k5, p5⟩ := ok_is_number (P := P) (w := w) (base := base) F5.fn F5.at_ B
  obtain ⟨_, k2, p2⟩ := ok_is_start (P := P) (w := w) (base := base) F2.fn F2.at_ B Co.HIGHEST k5 p5
  exact ok_check_start (P := P) (w := w) (base := base) F3.fn F3.at_ B k2 p2
theorem outcome_ok (B : Bi mg) (Co : Consts K w mg aF aA A) (S : StOk K mg C fI dI) (F4 : Fat K mg "outcome" s_outcome f4 d4) (hb : ∃ g, Kn P w K mg base "do_body" 2 6 g ∧ P_do_body 2 g) : ∃ g, Kn P w K mg base "outcome" 2 7 g ∧ P_out g := by
  obtain ⟨_, kb, pb⟩ := hb
  obtain ⟨Pd, fg, ki, pi⟩ := ok_init (P := P) (w := w) (base := base) S.fn B S.na Co.SORTS Co.PLACES
  have bi := S.fn.binds (ps := ["self", "start"]) fun _ _ _ _ _ _ us hl => match us, hl with | [_, _], _ => rfl
  exact ok_outcome (P := P) (w := w) (base := base) F4.fn F4.at_ B Co.SORTS S.M S.cl S.at_ bi ki pi (by decide) kb pb
end
/-! ### the program's checker -/
theorem des_ok {f1 f2 f3 : Addr} {d1 d2 d3 : FuncData} (B : Bi mg) (gW : Gc K mg "WORDS" (.tup (wordsL.map strD))) (F1 : Fat K mg "is_word" s_is_word f1 d1) (F2 : Fat K mg "is_design" s_is_design f2 d2) (F3 : Fat K mg "check_design" s_check_design f3 d3) : ∃ g, Kn P w K mg base "check_design" 1 3 g ∧ P_check_design g := by
  obtain ⟨_, k1, p1⟩ := ok_is_word (P := P) (w := w) (base := base) F1.fn F1.at_ B gW
  obtain ⟨_, k2, p2⟩ := ok_is_design (P := P) (w := w) (base := base) F2.fn F2.at_ B k1 p1
  exact ok_check_design (P := P) (w := w) (base := base) F3.fn F3.at_ B k2 p2
theorem looks_ok {f1 f2 f3 f4 f5 f6 : Addr} {d1 d2 d3 d4 d5 d6 : FuncData} (B : Bi mg) (F1 : Fat K mg "alike" s_alike f1 d1) (F2 : Fat K mg "open_numbers" s_open_numbers f2 d2) (F3 : Fat K mg "look_alike" s_look_alike f3 d3) (F4 : Fat K mg "is_finished" s_is_finished f4 d4) (F5 : Fat K mg "same_at_end" s_same_at_end f5 d5) (F6 : Fat K mg "one_begins_other" s_one_begins_other f6 d6)
    (hd : ∃ g, Kn P w K mg base "check_design" 1 3 g ∧ P_check_design g) (hc : ∃ g, Kn P w K mg base "check_program" 1 13 g ∧ P_check_program g) (hs : ∃ g, Kn P w K mg base "check_start" 2 3 g ∧ P_check_start g) (hu : ∃ g, Kn P w K mg base "outcome" 2 7 g ∧ P_out g) :
    ∃ g, Kn P w K mg base "alike" 4 14 g ∧ P_alikeL g := by
  obtain ⟨_, kd, pd⟩ := hd
  obtain ⟨_, kc, pc⟩ := hc
  obtain ⟨_, ks, ps⟩ := hs
  obtain ⟨_, ku, pu⟩ := hu
  obtain ⟨_, k2, p2⟩ := ok_opens (P := P) (w := w) (base := base) F2.fn F2.at_ B
  obtain ⟨_, k4, p4⟩ := ok_isfin (P := P) (w := w) (base := base) F4.fn F4.at_ B
  obtain ⟨_, k6, p6⟩ := ok_begins (P := P) (w := w) (base := base) F6.fn F6.at_ B
  obtain ⟨_, k5, p5⟩ := ok_same (P := P) (w := w) (base := base) F5.fn F5.at_ B k2 p2
  obtain ⟨_, k3, p3⟩ := ok_look (P := P) (w := w) (base := base) F3.fn F3.at_ B k4 p4 k5 p5 k6 p6
  exact ok_alikeL (P := P) (w := w) (base := base) F1.fn F1.at_ B (by decide) (kd.mono (by decide)) pd kc pc (ks.mono (by decide)) ps (k2.mono (by decide)) p2 (k3.mono (by decide)) p3 (ku.mono (by decide)) pu
theorem rules_ok {A : Rules} {l : Nat} {d1 d2 d3 d4 d5 d6 d7 d8 d9 : FuncData} {g1 g2 g3 g4 g5 g6 g7 g8 g9 : FD} (F1 : Fat K mg "sum_may_stand" s_sum_may_stand A.sum d1) (F2 : Fat K mg "if_may_stand" s_if_may_stand A.ite d2) (F3 : Fat K mg "times_may_stand" s_times_may_stand A.times d3) (F4 : Fat K mg "while_may_stand" s_while_may_stand A.whl d4)
    (F5 : Fat K mg "print_may_stand" s_print_may_stand A.print d5) (F6 : Fat K mg "stop_may_stand" s_stop_may_stand A.stop d6) (F7 : Fat K mg "split_may_stand" s_split_may_stand A.split d7) (F8 : Fat K mg "keep_may_stand" s_keep_may_stand A.keep d8) (F9 : Fat K mg "fetch_may_stand" s_fetch_may_stand A.fetch d9)
    (k1 : Kn P w K mg base "sum_may_stand" 4 l g1) (p1 : ∀ d, P_rule d isSum g1) (k2 : Kn P w K mg base "if_may_stand" 4 l g2) (p2 : ∀ d, P_rule d isIf g2) (k3 : Kn P w K mg base "times_may_stand" 4 l g3) (p3 : ∀ d, P_rule d isTimes g3) (k4 : Kn P w K mg base "while_may_stand" 4 l g4) (p4 : ∀ d, P_rule d isWhile g4)
    (k5 : Kn P w K mg base "print_may_stand" 4 l g5) (p5 : ∀ d, P_rule d isPrint g5) (k6 : Kn P w K mg base "stop_may_stand" 4 l g6) (p6 : ∀ d, P_rule d isStop g6) (k7 : Kn P w K mg base "split_may_stand" 4 l g7) (p7 : ∀ d, P_rule d isSplit g7) (k8 : Kn P w K mg base "keep_may_stand" 4 l g8) (p8 : ∀ d, P_rule d isKeep g8) (k9 : Kn P w K mg base "fetch_may_stand" 4 l g9) (p9 : ∀ d, P_rule d isFetch g9) :
    ∃ tb : Addr → Option FD, (∀ f g, tb f = some g → Held P w K mg base l f (spD K 4 g)) ∧ RulesOk A tb := by
  refine ⟨fun a => if a = A.sum then some g1 else if a = A.ite then some g2 else if a = A.times then some g3 else if a = A.whl then some g4 else if a = A.print then some g5 else if a = A.stop then some g6 else if a = A.split then some g7 else if a = A.keep then some g8 else if a = A.fetch then some g9 else none, ?_, ?_⟩
  · intro f g h
    dsimp only at h
    split at h
    · rename_i e; cases h; rw [e]; exact held_at k1 F1.at_
    split at h
    · rename_i e; cases h; rw [e]; exact held_at k2 F2.at_
    split at h
    · rename_i e; cases h; rw [e]; exact held_at k3 F3.at_
    split at h
    · rename_i e; cases h; rw [e]; exact held_at k4 F4.at_
    split at h
    · rename_i e; cases h; rw [e]; exact held_at k5 F5.at_
    split at h
    · rename_i e; cases h; rw [e]; exact held_at k6 F6.at_
    split at h
    · rename_i e; cases h; rw [e]; exact held_at k7 F7.at_
    split at h
    · rename_i e; cases h; rw [e]; exact held_at k8 F8.at_
    split at h
    · rename_i e; cases h; rw [e]; exact held_at k9 F9.at_
    · cases h
  · refine ⟨⟨g1, ?_, p1⟩, ⟨g2, ?_, p2⟩, ⟨g3, ?_, p3⟩, ⟨g4, ?_, p4⟩, ⟨g5, ?_, p5⟩, ⟨g6, ?_, p6⟩, ⟨g7, ?_, p7⟩, ⟨g8, ?_, p8⟩, ⟨g9, ?_, p9⟩⟩
    · rw [if_pos rfl]
    · rw [if_neg (fun_ne F2.fn F1.fn (by decide)), if_pos rfl]
    · rw [if_neg (fun_ne F3.fn F1.fn (by decide)), if_neg (fun_ne F3.fn F2.fn (by decide)), if_pos rfl]
    · rw [if_neg (fun_ne F4.fn F1.fn (by decide)), if_neg (fun_ne F4.fn F2.fn (by decide)), if_neg (fun_ne F4.fn F3.fn (by decide)), if_pos rfl]
    · rw [if_neg (fun_ne F5.fn F1.fn (by decide)), if_neg (fun_ne F5.fn F2.fn (by decide)), if_neg (fun_ne F5.fn F3.fn (by decide)), if_neg (fun_ne F5.fn F4.fn (by decide)), if_pos rfl]
    · rw [if_neg (fun_ne F6.fn F1.fn (by decide)), if_neg (fun_ne F6.fn F2.fn (by decide)), if_neg (fun_ne F6.fn F3.fn (by decide)), if_neg (fun_ne F6.fn F4.fn (by decide)), if_neg (fun_ne F6.fn F5.fn (by decide)), if_pos rfl]
    · rw [if_neg (fun_ne F7.fn F1.fn (by decide)), if_neg (fun_ne F7.fn F2.fn (by decide)), if_neg (fun_ne F7.fn F3.fn (by decide)), if_neg (fun_ne F7.fn F4.fn (by decide)), if_neg (fun_ne F7.fn F5.fn (by decide)), if_neg (fun_ne F7.fn F6.fn (by decide)), if_pos rfl]
    · rw [if_neg (fun_ne F8.fn F1.fn (by decide)), if_neg (fun_ne F8.fn F2.fn (by decide)), if_neg (fun_ne F8.fn F3.fn (by decide)), if_neg (fun_ne F8.fn F4.fn (by decide)), if_neg (fun_ne F8.fn F5.fn (by decide)), if_neg (fun_ne F8.fn F6.fn (by decide)), if_neg (fun_ne F8.fn F7.fn (by decide)), if_pos rfl]
    · rw [if_neg (fun_ne F9.fn F1.fn (by decide)), if_neg (fun_ne F9.fn F2.fn (by decide)), if_neg (fun_ne F9.fn F3.fn (by decide)), if_neg (fun_ne F9.fn F4.fn (by decide)), if_neg (fun_ne F9.fn F5.fn (by decide)), if_neg (fun_ne F9.fn F6.fn (by decide)), if_neg (fun_ne F9.fn F7.fn (by decide)), if_neg (fun_ne F9.fn F8.fn (by decide)), if_pos rfl]
theorem fault_ok {aR : Addr} {A : Rules} {f1 f2 f3 f4 f5 f6 f7 f8 f9 f10 f11 : Addr} {d1 d2 d3 d4 d5 d6 d7 d8 d9 d10 d11 e1 e2 e3 e4 e5 e6 e7 e8 e9 : FuncData} (B : Bi mg) (gW : Gc K mg "WORDS" (.tup (wordsL.map strD))) (gR : Gc K mg "RULES" (.ref aR) ∧ GK K w (rulesL A) aR)
    (F1 : Fat K mg "is_word" s_is_word f1 d1) (F2 : Fat K mg "is_design" s_is_design f2 d2) (F3 : Fat K mg "check_design" s_check_design f3 d3) (F4 : Fat K mg "is_secret" s_is_secret f4 d4) (F5 : Fat K mg "may_change" s_may_change f5 d5) (F6 : Fat K mg "may_stand" s_may_stand f6 d6)
    (F7 : Fat K mg "first_fault" s_first_fault f7 d7) (F8 : Fat K mg "fault_within" s_fault_within f8 d8) (F9 : Fat K mg "fault_in_branches" s_fault_in_branches f9 d9) (F10 : Fat K mg "fault" s_fault f10 d10) (F11 : Fat K mg "lets_by" s_lets_by f11 d11)
    (R1 : Fat K mg "sum_may_stand" s_sum_may_stand A.sum e1) (R2 : Fat K mg "if_may_stand" s_if_may_stand A.ite e2) (R3 : Fat K mg "times_may_stand" s_times_may_stand A.times e3) (R4 : Fat K mg "while_may_stand" s_while_may_stand A.whl e4)
    (R5 : Fat K mg "print_may_stand" s_print_may_stand A.print e5) (R6 : Fat K mg "stop_may_stand" s_stop_may_stand A.stop e6) (R7 : Fat K mg "split_may_stand" s_split_may_stand A.split e7) (R8 : Fat K mg "keep_may_stand" s_keep_may_stand A.keep e8) (R9 : Fat K mg "fetch_may_stand" s_fetch_may_stand A.fetch e9)
    (hc : ∃ g, Kn P w K mg base "check_program" 1 13 g ∧ P_check_program g) : (∃ g, Kn P w K mg base "fault" 2 14 g ∧ P_fault g) ∧ ∃ g, Kn P w K mg base "lets_by" 2 15 g ∧ P_lets_by g := by
  obtain ⟨_, kc, pc⟩ := hc
  obtain ⟨_, k1, p1⟩ := ok_is_word (P := P) (w := w) (base := base) F1.fn F1.at_ B gW
  obtain ⟨_, k2, p2⟩ := ok_is_design (P := P) (w := w) (base := base) F2.fn F2.at_ B k1 p1
  obtain ⟨_, k3, p3⟩ := ok_check_design (P := P) (w := w) (base := base) F3.fn F3.at_ B k2 p2
  obtain ⟨_, k4, p4⟩ := ok_is_secret (P := P) (w := w) (base := base) F4.fn F4.at_ B
  obtain ⟨_, k5, p5⟩ := ok_may_change (P := P) (w := w) (base := base) F5.fn F5.at_ B
  obtain ⟨_, r1, q1⟩ := ok_sum_rule (P := P) (w := w) (base := base) B k4 p4 k5 p5 R1.fn R1.at_
  obtain ⟨_, r2, q2⟩ := ok_if_rule (P := P) (w := w) (base := base) B k4 p4 k5 p5 R2.fn R2.at_
  obtain ⟨_, r3, q3⟩ := ok_times_rule (P := P) (w := w) (base := base) B k4 p4 k5 p5 R3.fn R3.at_
  obtain ⟨_, r4, q4⟩ := ok_while_rule (P := P) (w := w) (base := base) B k4 p4 k5 p5 R4.fn R4.at_
  obtain ⟨_, r5, q5⟩ := ok_print_rule (P := P) (w := w) (base := base) B k4 p4 k5 p5 R5.fn R5.at_
  obtain ⟨_, r6, q6⟩ := ok_stop_rule (P := P) (w := w) (base := base) B k4 p4 k5 p5 R6.fn R6.at_
  obtain ⟨_, r7, q7⟩ := ok_split_rule (P := P) (w := w) (base := base) B k4 p4 k5 p5 R7.fn R7.at_
  obtain ⟨_, r8, q8⟩ := ok_keep_rule (P := P) (w := w) (base := base) B k4 p4 k5 p5 R8.fn R8.at_
  obtain ⟨_, r9, q9⟩ := ok_fetch_rule (P := P) (w := w) (base := base) B k4 p4 k5 p5 R9.fn R9.at_
  obtain ⟨tb, T1, T2⟩ := rules_ok (l := 2) R1 R2 R3 R4 R5 R6 R7 R8 R9 r1 q1 r2 q2 r3 q3 r4 q4 r5 q5 r6 q6 r7 q7 r8 q8 r9 q9
  obtain ⟨_, k6, p6⟩ := ok_may_stand (P := P) (w := w) (base := base) F6.fn F6.at_ B gR.1 gR.2 T1 T2
  have z := kn_zero (P := P) (w := w) (base := base) (n := 4) F7 (F7.fn.binds (ps := ["design", "sorts", "body", "under"]) fun _ _ _ _ _ _ us hl => match us, hl with | [_, _, _, _], _ => rfl)
  have next : ∀ (d l : Nat) (gf : FD), d ≤ 100 → 2 ≤ l → Kn P w K mg base "first_fault" 4 l gf → (0 < d → P_check (d - 1) gf) → ∃ g, Kn P w K mg base "first_fault" 4 (l + 3) g ∧ P_check d g := fun d l gf hd hl kf pf => by
    obtain ⟨_, b1, b2⟩ := ok_fault_in_branches (P := P) (w := w) (base := base) F9.fn F9.at_ B hd kf pf
    obtain ⟨_, w1, w2⟩ := ok_fault_within (P := P) (w := w) (base := base) F8.fn F8.at_ B (by omega) k4 p4 (kf.mono (by omega : l ≤ l + 1)) pf b1 b2
    exact ok_first_fault (P := P) (w := w) (base := base) F7.fn F7.at_ B hd (k6.mono (by omega : 3 ≤ l + 2)) p6 w1 w2
  obtain ⟨_, x0, y0⟩ := next 0 2 _ (by decide) (by decide) (z.mono (by decide)) (fun h => absurd h (by decide))
  obtain ⟨_, x1, y1⟩ := next 1 5 _ (by decide) (by decide) x0 (fun _ => y0)
  obtain ⟨_, x2, y2⟩ := next 2 8 _ (by decide) (by decide) x1 (fun _ => y1)
  obtain ⟨gf, k10, p10⟩ := ok_fault (P := P) (w := w) (base := base) F10.fn F10.at_ B (lv := 13) (k3.mono (by decide)) p3 kc pc (x2.mono (by decide)) y2
  obtain ⟨gl, k11, p11⟩ := ok_lets_by (P := P) (w := w) (base := base) F11.fn F11.at_ B k10 p10
  exact ⟨⟨gf, k10, p10⟩, gl, k11, p11⟩
theorem great_ok {f1 f2 f4 f5 f6 f7 f8 f9 : Addr} {d1 d2 d4 d5 d6 d7 d8 d9 : FuncData} (B : Bi mg) (gL : Gc K mg "LOTS" (.tup lotsX)) (gW : Gc K mg "WORDS" (.tup (wordsL.map strD))) (F1 : Fat K mg "holds" s_holds f1 d1) (F2 : Fat K mg "held_lots" s_held_lots f2 d2) (F4 : Fat K mg "lots_in" s_lots_in f4 d4) (F5 : Fat K mg "is_sound" s_is_sound f5 d5)
    (F6 : Fat K mg "with_word" s_with_word f6 d6) (F7 : Fat K mg "sound_above" s_sound_above f7 d7) (F8 : Fat K mg "is_greatest" s_is_greatest f8 d8) (F9 : Fat K mg "greatest_sound" s_greatest_sound f9 d9) (hd : ∃ g, Kn P w K mg base "check_design" 1 3 g ∧ P_check_design g) :
    (∃ g, Kn P w K mg base "is_sound" 1 5 g ∧ P_sound g) ∧ ∃ g, Kn P w K mg base "greatest_sound" 1 6 g ∧ P_great g := by
  rw [← lots_eq] at gL
  obtain ⟨_, kd, pd⟩ := hd
  obtain ⟨_, k1, p1⟩ := ok_holds (P := P) (w := w) (base := base) F1.fn F1.at_ B
  obtain ⟨_, k2, p2⟩ := ok_held (P := P) (w := w) (base := base) F2.fn F2.at_ B gL k1 p1
  obtain ⟨_, k4, p4⟩ := ok_lots_in (P := P) (w := w) (base := base) F4.fn F4.at_ B (by decide) kd pd (k2.mono (by decide)) p2
  obtain ⟨_, k5, p5⟩ := ok_sound (P := P) (w := w) (base := base) F5.fn F5.at_ B k4 p4
  obtain ⟨_, k6, p6⟩ := ok_with (P := P) (w := w) (base := base) F6.fn F6.at_ B
  obtain ⟨_, k7, p7⟩ := ok_above (P := P) (w := w) (base := base) F7.fn F7.at_ B gW (k6.mono (by decide)) p6 k2 p2
  obtain ⟨_, k8, p8⟩ := ok_isgreat (P := P) (w := w) (base := base) F8.fn F8.at_ B gW (k6.mono (by decide)) p6 k2 p2
  exact ⟨⟨_, k5, p5⟩, ok_great (P := P) (w := w) (base := base) F9.fn F9.at_ B k5 p5 (k7.mono (by decide)) p7 (k8.mono (by decide)) p8⟩
theorem leak_ok {f1 f2 f3 f4 f5 f6 f7 : Addr} {d1 d2 d3 d4 d5 d6 d7 : FuncData} (B : Bi mg) (gM : Gc K mg "MOST_SECRET_NAMES" (.int 2)) (gH : Gc K mg "HIGHEST" (.int 9)) (F1 : Fat K mg "leak" s_leak f1 d1) (F2 : Fat K mg "starts_like" s_starts_like f2 d2) (F3 : Fat K mg "look_alike" s_look_alike f3 d3) (F4 : Fat K mg "is_finished" s_is_finished f4 d4) (F5 : Fat K mg "same_at_end" s_same_at_end f5 d5) (F6 : Fat K mg "one_begins_other" s_one_begins_other f6 d6) (F7 : Fat K mg "open_numbers" s_open_numbers f7 d7)
    (hd : ∃ g, Kn P w K mg base "check_design" 1 3 g ∧ P_check_design g) (hc : ∃ g, Kn P w K mg base "check_program" 1 13 g ∧ P_check_program g) (hs : ∃ g, Kn P w K mg base "check_start" 2 3 g ∧ P_check_start g) (hu : ∃ g, Kn P w K mg base "outcome" 2 7 g ∧ P_out g) :
    ∃ g, Kn P w K mg base "leak" 3 14 g ∧ P_leak g := by
  obtain ⟨_, kd, pd⟩ := hd
  obtain ⟨_, kc, pc⟩ := hc
  obtain ⟨_, ks, ps⟩ := hs
  obtain ⟨_, ku, pu⟩ := hu
  obtain ⟨_, k7, p7⟩ := ok_opens (P := P) (w := w) (base := base) F7.fn F7.at_ B
  obtain ⟨_, k4, p4⟩ := ok_isfin (P := P) (w := w) (base := base) F4.fn F4.at_ B
  obtain ⟨_, k6, p6⟩ := ok_begins (P := P) (w := w) (base := base) F6.fn F6.at_ B
  obtain ⟨_, k5, p5⟩ := ok_same (P := P) (w := w) (base := base) F5.fn F5.at_ B k7 p7
  obtain ⟨_, k3, p3⟩ := ok_look (P := P) (w := w) (base := base) F3.fn F3.at_ B k4 p4 k5 p5 k6 p6
  obtain ⟨_, k2, p2⟩ := ok_like (P := P) (w := w) (base := base) F2.fn F2.at_ B gH
  exact ok_leak (P := P) (w := w) (base := base) F1.fn F1.at_ B gM (by decide) (kd.mono (by decide)) pd kc pc (ks.mono (by decide)) ps (k2.mono (by decide)) p2 (k3.mono (by decide)) p3 (ku.mono (by decide)) pu
theorem rv_int {K : PySem.W.Frag} {i : Int} {t : Tok} : RepV K (.int i t) (.int i) := ⟨.int i, ⟨t, rfl⟩, fun H => .int i⟩
def spL (K : PySem.W.Frag) : Sp := fun vs H Q _ => ∃ (a : Addr) (ns : List Int), vs = [.ref a] ∧ SqL K H a (ns.map V.int) ∧ ∀ H', Q (.bl true) H'
/-- from the law by data to what the head asks -/
theorem law_sp {f : Addr} {fd : FuncData} {k : Nat} (F : ∃ g, FnOk P w K mg base CX0 k f fd ["script"] (spD K 1 g) ∧ P_law g) : FnOk P w K mg base CX0 k f fd ["script"] (spL K) := by
  obtain ⟨g, F, p⟩ := F
  refine F.imp fun vs H Q E ⟨a, ns, e, hS, hQ⟩ => ?_
  subst e
  have hh : hide (fun _ => false) H = H := by funext a; unfold hide; rw [if_neg Bool.false_ne_true]
  refine ⟨fun _ => false, S0, [.scr ns], .bl true, S0, .cons (.scr (by rw [hh]; exact hS)) .nil, rfl, SI.zero K H, p ns, fun v H' _ r => ?_⟩
  cases r
  exact hQ H'
end
theorem gk_at {K : PySem.W.Frag} {w : World} {mg : Str → Option Value} {h : Heap} {x : Str} {kvs : List (Str × D)} {a : Addr} {es : Array DictEntry} {n : Nat} (X : K.In h) (G : h.Ns mainGlobals mg) (q : PySem.W.nsIn K mainGlobals x = some (some (.ref a)))
    (l : K.lookup a = some ⟨.type "dict", none, .dict es n, #[]⟩) (lit : PySem.W.KeysLit w.params es.toList) (low : (a == sysModules) = false) (hv : Paired (EntR K) es.toList kvs) : Gc K mg x (.ref a) ∧ GK K w kvs a := ⟨gc_ref X G q, gk_of l lit low hv⟩
theorem law_binds {K : PySem.W.Frag} {mg : Str → Option Value} {f : Addr} {fd : FuncData} (F : Fat K mg "law" s_law f fd) : ∀ (s : Shared) (u : Value), BindsTo s fd ⟨[u], []⟩ [("script", u)] := by
  obtain ⟨oc, od, kV, doc, pm, an, cdv, ct, osl, rfl, lk, _⟩ := F.fn.ex
  exact fun s u => .of_eq rfl
theorem st_mk {K : PySem.W.Frag} {mg : Str → Option Value} {h : Heap} {C fI : Addr} {oc : Value} {od an : Option Addr} {osl : Array (Option Value)} {kV doc pm cdv ct : Value} (X : K.In h) (G : h.Ns mainGlobals mg)
    (a : PySem.W.nsIn K mainGlobals "State" = some (some (.ref C))) (m1 : PySem.W.makesIn K C = true) (m2 : PySem.W.findIn K (.ref C) "__init__" = some (some (.ref fI))) (m3 : PySem.W.isFn K (.ref fI) = true) (m4 : PySem.W.keepIn K (.ref C) = true)
    (c1 : PySem.W.plainGet K C Str.empty = true) (c2 : PySem.W.hasDictIn K C = true) (c3 : PySem.W.plainOver K C = true) (c4 : PySem.W.findIn K (.ref C) "__setattr__" = some (some (.builtin "object.__setattr__")))
    (l : K.lookup fI = some ⟨oc, od, .func (PySem.W.fnOf "__init__" "State.__init__" (defArgs s_State_init) (defBody s_State_init) (defScope s_State_init) .none kV doc pm an cdv ct), osl⟩) (c : PySem.W.codeIn K cdv "State.__init__" = true) (k : PySem.W.keepIn K (.ref fI) = true)
    (n1 : PySem.W.findIn K (.ref C) "numbers" = some none) (n2 : PySem.W.findIn K (.ref C) "tables" = some none) (n3 : PySem.W.findIn K (.ref C) "prints" = some none) (n4 : PySem.W.findIn K (.ref C) "steps" = some none) (n5 : PySem.W.findIn K (.ref C) "rounds" = some none) :
    StOk K mg C fI (PySem.W.fnOf "__init__" "State.__init__" (defArgs s_State_init) (defBody s_State_init) (defScope s_State_init) .none kV doc pm an cdv ct) :=
  ⟨⟨m1, m2, m3, m4⟩, ⟨c1, c2, c3, c4⟩, PySem.W.mg_of X G a, fun_mk l c k, fun g hg => by
    simp only [List.mem_cons, List.mem_nil_iff, or_false] at hg
    rcases hg with rfl | rfl | rfl | rfl | rfl
    · exact n1
    · exact n2
    · exact n3
    · exact n4
    · exact n5⟩
theorem consts_mk {K : PySem.W.Frag} {w : World} {mg : Str → Option Value} {aF aA : Addr} {A : Acts} (c1 : Gc K mg "SORTS" (.tup [strD "open", strD "secret"])) (c2 : Gc K mg "HIGHEST" (.int 9)) (c3 : Gc K mg "MOST_NAMES" (.int 6)) (c4 : Gc K mg "MOST_STATEMENTS" (.int 8)) (c5 : Gc K mg "MOST_INNER_STATEMENTS" (.int 4))
    (c6 : Gc K mg "MOST_WITHIN" (.int 2)) (c7 : Gc K mg "MOST_TERMS" (.int 2)) (c8 : Gc K mg "MOST_TURNS" (.int 3)) (c9 : Gc K mg "PLACES" (.int 10)) (c10 : Gc K mg "MOST_ROUNDS" (.int 60)) (f : Gc K mg "FORMS" (.ref aF) ∧ GK K w formsL aF) (a : Gc K mg "ACTIONS" (.ref aA) ∧ GK K w (actsL A) aA) : Consts K w mg aF aA A :=
  ⟨c1, c2, c3, c4, c5, c6, c7, c8, c9, c10, f.1, f.2, a.1, a.2⟩
end Fw

open PySem PySem.W PyProof.Rows
set_option Elab.async false
set_option linter.all false
set_option maxRecDepth 100000 in
set_option maxHeartbeats 0 in
theorem PySem.Challenge.cw_flowborder_k00_whole_sound_designs_holds : PySem.Challenge.rw_flowborder_k00_whole_sound_designs.Holds := by
  w_on; o_law; k_head; (case hw => w_witness2)
  k_fill
  refine L2.walk_ofK (sp := Fw.spL) (l := PySem.Challenge.rw_flowborder_k00_whole_sound_designs) (n := 63) (k := 16) (x := "script") (CX := L2.CX0) rfl (by decide) rfl ⟨rfl, by decide, by decide⟩ (fun w h Y => PySem.W.kIn_of Y) ?F (fun _ _ a ns _ _ hS => ⟨a, ns, rfl, hS, fun _ => rfl⟩) fun _ _ _ _ z => z
  case F =>
    intro w mg fa h KX G hmg
    have F_is_design := Fw.fa_at (x := "is_design") (st := Fw.s_is_design) KX G (by k_is) (by k_is) (by k_is) (by k_is)
    have F_is_word := Fw.fa_at (x := "is_word") (st := Fw.s_is_word) KX G (by k_is) (by k_is) (by k_is) (by k_is)
    have F_check_design := Fw.fa_at (x := "check_design") (st := Fw.s_check_design) KX G (by k_is) (by k_is) (by k_is) (by k_is)
    have F_lots_in := Fw.fa_at (x := "lots_in") (st := Fw.s_lots_in) KX G (by k_is) (by k_is) (by k_is) (by k_is)
    have F_is_sound := Fw.fa_at (x := "is_sound") (st := Fw.s_is_sound) KX G (by k_is) (by k_is) (by k_is) (by k_is)
    have F_held_lots := Fw.fa_at (x := "held_lots") (st := Fw.s_held_lots) KX G (by k_is) (by k_is) (by k_is) (by k_is)
    have F_holds := Fw.fa_at (x := "holds") (st := Fw.s_holds) KX G (by k_is) (by k_is) (by k_is) (by k_is)
    have F_with_word := Fw.fa_at (x := "with_word") (st := Fw.s_with_word) KX G (by k_is) (by k_is) (by k_is) (by k_is)
    have F_sound_above := Fw.fa_at (x := "sound_above") (st := Fw.s_sound_above) KX G (by k_is) (by k_is) (by k_is) (by k_is)
    have F_is_greatest := Fw.fa_at (x := "is_greatest") (st := Fw.s_is_greatest) KX G (by k_is) (by k_is) (by k_is) (by k_is)
    have F_greatest_sound := Fw.fa_at (x := "greatest_sound") (st := Fw.s_greatest_sound) KX G (by k_is) (by k_is) (by k_is) (by k_is)
    have F_check_program := Fw.fa_at (x := "check_program") (st := Fw.s_check_program) KX G (by k_is) (by k_is) (by k_is) (by k_is)
    have F_is_pair := Fw.fa_at (x := "is_pair") (st := Fw.s_is_pair) KX G (by k_is) (by k_is) (by k_is) (by k_is)
    have F_is_sorts := Fw.fa_at (x := "is_sorts") (st := Fw.s_is_sorts) KX G (by k_is) (by k_is) (by k_is) (by k_is)
    have F_is_sort := Fw.fa_at (x := "is_sort") (st := Fw.s_is_sort) KX G (by k_is) (by k_is) (by k_is) (by k_is)
    have F_is_number := Fw.fa_at (x := "is_number") (st := Fw.s_is_number) KX G (by k_is) (by k_is) (by k_is) (by k_is)
    have F_is_whole_body := Fw.fa_at (x := "is_whole_body") (st := Fw.s_is_whole_body) KX G (by k_is) (by k_is) (by k_is) (by k_is)
    have F_is_body := Fw.fa_at (x := "is_body") (st := Fw.s_is_body) KX G (by k_is) (by k_is) (by k_is) (by k_is)
    have F_is_statement := Fw.fa_at (x := "is_statement") (st := Fw.s_is_statement) KX G (by k_is) (by k_is) (by k_is) (by k_is)
    have F_is_item := Fw.fa_at (x := "is_item") (st := Fw.s_is_item) KX G (by k_is) (by k_is) (by k_is) (by k_is)
    have F_is_terms := Fw.fa_at (x := "is_terms") (st := Fw.s_is_terms) KX G (by k_is) (by k_is) (by k_is) (by k_is)
    have F_fault := Fw.fa_at (x := "fault") (st := Fw.s_fault) KX G (by k_is) (by k_is) (by k_is) (by k_is)
    have F_lets_by := Fw.fa_at (x := "lets_by") (st := Fw.s_lets_by) KX G (by k_is) (by k_is) (by k_is) (by k_is)
    have F_first_fault := Fw.fa_at (x := "first_fault") (st := Fw.s_first_fault) KX G (by k_is) (by k_is) (by k_is) (by k_is)
    have F_fault_within := Fw.fa_at (x := "fault_within") (st := Fw.s_fault_within) KX G (by k_is) (by k_is) (by k_is) (by k_is)
    have F_fault_in_branches := Fw.fa_at (x := "fault_in_branches") (st := Fw.s_fault_in_branches) KX G (by k_is) (by k_is) (by k_is) (by k_is)
    have F_may_stand := Fw.fa_at (x := "may_stand") (st := Fw.s_may_stand) KX G (by k_is) (by k_is) (by k_is) (by k_is)
    have F_is_secret := Fw.fa_at (x := "is_secret") (st := Fw.s_is_secret) KX G (by k_is) (by k_is) (by k_is) (by k_is)
    have F_may_change := Fw.fa_at (x := "may_change") (st := Fw.s_may_change) KX G (by k_is) (by k_is) (by k_is) (by k_is)
    have F_sum_may_stand := Fw.fa_at (x := "sum_may_stand") (st := Fw.s_sum_may_stand) KX G (by k_is) (by k_is) (by k_is) (by k_is)
    have F_if_may_stand := Fw.fa_at (x := "if_may_stand") (st := Fw.s_if_may_stand) KX G (by k_is) (by k_is) (by k_is) (by k_is)
    have F_times_may_stand := Fw.fa_at (x := "times_may_stand") (st := Fw.s_times_may_stand) KX G (by k_is) (by k_is) (by k_is) (by k_is)
    have F_while_may_stand := Fw.fa_at (x := "while_may_stand") (st := Fw.s_while_may_stand) KX G (by k_is) (by k_is) (by k_is) (by k_is)
    have F_print_may_stand := Fw.fa_at (x := "print_may_stand") (st := Fw.s_print_may_stand) KX G (by k_is) (by k_is) (by k_is) (by k_is)
    have F_stop_may_stand := Fw.fa_at (x := "stop_may_stand") (st := Fw.s_stop_may_stand) KX G (by k_is) (by k_is) (by k_is) (by k_is)
    have F_split_may_stand := Fw.fa_at (x := "split_may_stand") (st := Fw.s_split_may_stand) KX G (by k_is) (by k_is) (by k_is) (by k_is)
    have F_keep_may_stand := Fw.fa_at (x := "keep_may_stand") (st := Fw.s_keep_may_stand) KX G (by k_is) (by k_is) (by k_is) (by k_is)
    have F_fetch_may_stand := Fw.fa_at (x := "fetch_may_stand") (st := Fw.s_fetch_may_stand) KX G (by k_is) (by k_is) (by k_is) (by k_is)
    have F_is_start := Fw.fa_at (x := "is_start") (st := Fw.s_is_start) KX G (by k_is) (by k_is) (by k_is) (by k_is)
    have F_check_start := Fw.fa_at (x := "check_start") (st := Fw.s_check_start) KX G (by k_is) (by k_is) (by k_is) (by k_is)
    have F_outcome := Fw.fa_at (x := "outcome") (st := Fw.s_outcome) KX G (by k_is) (by k_is) (by k_is) (by k_is)
    have F_do_body := Fw.fa_at (x := "do_body") (st := Fw.s_do_body) KX G (by k_is) (by k_is) (by k_is) (by k_is)
    have F_do_sum := Fw.fa_at (x := "do_sum") (st := Fw.s_do_sum) KX G (by k_is) (by k_is) (by k_is) (by k_is)
    have F_do_if := Fw.fa_at (x := "do_if") (st := Fw.s_do_if) KX G (by k_is) (by k_is) (by k_is) (by k_is)
    have F_do_times := Fw.fa_at (x := "do_times") (st := Fw.s_do_times) KX G (by k_is) (by k_is) (by k_is) (by k_is)
    have F_do_while := Fw.fa_at (x := "do_while") (st := Fw.s_do_while) KX G (by k_is) (by k_is) (by k_is) (by k_is)
    have F_do_print := Fw.fa_at (x := "do_print") (st := Fw.s_do_print) KX G (by k_is) (by k_is) (by k_is) (by k_is)
    have F_do_stop := Fw.fa_at (x := "do_stop") (st := Fw.s_do_stop) KX G (by k_is) (by k_is) (by k_is) (by k_is)
    have F_do_split := Fw.fa_at (x := "do_split") (st := Fw.s_do_split) KX G (by k_is) (by k_is) (by k_is) (by k_is)
    have F_do_keep := Fw.fa_at (x := "do_keep") (st := Fw.s_do_keep) KX G (by k_is) (by k_is) (by k_is) (by k_is)
    have F_do_fetch := Fw.fa_at (x := "do_fetch") (st := Fw.s_do_fetch) KX G (by k_is) (by k_is) (by k_is) (by k_is)
    have F_alike := Fw.fa_at (x := "alike") (st := Fw.s_alike) KX G (by k_is) (by k_is) (by k_is) (by k_is)
    have F_leak := Fw.fa_at (x := "leak") (st := Fw.s_leak) KX G (by k_is) (by k_is) (by k_is) (by k_is)
    have F_starts_like := Fw.fa_at (x := "starts_like") (st := Fw.s_starts_like) KX G (by k_is) (by k_is) (by k_is) (by k_is)
    have F_open_numbers := Fw.fa_at (x := "open_numbers") (st := Fw.s_open_numbers) KX G (by k_is) (by k_is) (by k_is) (by k_is)
    have F_look_alike := Fw.fa_at (x := "look_alike") (st := Fw.s_look_alike) KX G (by k_is) (by k_is) (by k_is) (by k_is)
    have F_is_finished := Fw.fa_at (x := "is_finished") (st := Fw.s_is_finished) KX G (by k_is) (by k_is) (by k_is) (by k_is)
    have F_same_at_end := Fw.fa_at (x := "same_at_end") (st := Fw.s_same_at_end) KX G (by k_is) (by k_is) (by k_is) (by k_is)
    have F_one_begins_other := Fw.fa_at (x := "one_begins_other") (st := Fw.s_one_begins_other) KX G (by k_is) (by k_is) (by k_is) (by k_is)
    have F_l_taken := Fw.fa_at (x := "_law_taken") (st := Fw.s_l_taken) KX G (by k_is) (by k_is) (by k_is) (by k_is)
    have F_l_pick := Fw.fa_at (x := "_law_pick") (st := Fw.s_l_pick) KX G (by k_is) (by k_is) (by k_is) (by k_is)
    have F_l_words := Fw.fa_at (x := "_law_words") (st := Fw.s_l_words) KX G (by k_is) (by k_is) (by k_is) (by k_is)
    have F_l_lots := Fw.fa_at (x := "_law_lots") (st := Fw.s_l_lots) KX G (by k_is) (by k_is) (by k_is) (by k_is)
    have F_l_lots_in := Fw.fa_at (x := "_law_lots_in") (st := Fw.s_l_lots_in) KX G (by k_is) (by k_is) (by k_is) (by k_is)
    have F_l_told := Fw.fa_at (x := "_law_told") (st := Fw.s_l_told) KX G (by k_is) (by k_is) (by k_is) (by k_is)
    have F_l_into := Fw.fa_at (x := "_law_into") (st := Fw.s_l_into) KX G (by k_is) (by k_is) (by k_is) (by k_is)
    have F_l_stands := Fw.fa_at (x := "_law_stands") (st := Fw.s_l_stands) KX G (by k_is) (by k_is) (by k_is) (by k_is)
    have F_l_check := Fw.fa_at (x := "_law_check") (st := Fw.s_l_check) KX G (by k_is) (by k_is) (by k_is) (by k_is)
    have F_l_statement := Fw.fa_at (x := "_law_statement") (st := Fw.s_l_statement) KX G (by k_is) (by k_is) (by k_is) (by k_is)
    have F_l_sorts := Fw.fa_at (x := "_law_sorts") (st := Fw.s_l_sorts) KX G (by k_is) (by k_is) (by k_is) (by k_is)
    have F_l_program := Fw.fa_at (x := "_law_program") (st := Fw.s_l_program) KX G (by k_is) (by k_is) (by k_is) (by k_is)
    have F_l_start := Fw.fa_at (x := "_law_start") (st := Fw.s_l_start) KX G (by k_is) (by k_is) (by k_is) (by k_is)
    have F_l_other := Fw.fa_at (x := "_law_other") (st := Fw.s_l_other) KX G (by k_is) (by k_is) (by k_is) (by k_is)
    have C_HIGHEST := Fw.gc_int (x := "HIGHEST") KX G (by k_is)
    have C_MOST_NAMES := Fw.gc_int (x := "MOST_NAMES") KX G (by k_is)
    have C_MOST_STATEMENTS := Fw.gc_int (x := "MOST_STATEMENTS") KX G (by k_is)
    have C_MOST_INNER_STATEMENTS := Fw.gc_int (x := "MOST_INNER_STATEMENTS") KX G (by k_is)
    have C_MOST_WITHIN := Fw.gc_int (x := "MOST_WITHIN") KX G (by k_is)
    have C_MOST_TERMS := Fw.gc_int (x := "MOST_TERMS") KX G (by k_is)
    have C_MOST_TURNS := Fw.gc_int (x := "MOST_TURNS") KX G (by k_is)
    have C_PLACES := Fw.gc_int (x := "PLACES") KX G (by k_is)
    have C_MOST_ROUNDS := Fw.gc_int (x := "MOST_ROUNDS") KX G (by k_is)
    have C_SORTS := Fw.gc_rv (x := "SORTS") (d := .tup [Fw.strD "open", Fw.strD "secret"]) KX G (by k_is) (Fw.rv_tup (by k_is) (by decide) (by repeat' (first | exact .nil | refine .cons Fw.rv_str ?_)))
    have C_WORDS := Fw.gc_rv (x := "WORDS") (d := .tup (Fw.wordsL.map Fw.strD)) KX G (by k_is) (Fw.rv_tup (by k_is) (by decide) (by repeat' (first | exact .nil | refine .cons Fw.rv_str ?_)))
    have C_FORMS := Fw.gk_at (w := w) (x := "FORMS") (kvs := Fw.formsL) KX G (by k_is) (by k_is) (by repeat' (first | exact True.intro | refine ⟨⟨_, _, rfl, rfl⟩, ?_⟩)) (by rfl) (by exact .cons ⟨⟨_, rfl⟩, Fw.rv_tup (by k_is) (by decide) (by repeat' (first | exact .nil | refine .cons Fw.rv_str ?_))⟩ (.cons ⟨⟨_, rfl⟩, Fw.rv_tup (by k_is) (by decide) (by repeat' (first | exact .nil | refine .cons Fw.rv_str ?_))⟩ (.cons ⟨⟨_, rfl⟩, Fw.rv_tup (by k_is) (by decide) (by repeat' (first | exact .nil | refine .cons Fw.rv_str ?_))⟩ (.cons ⟨⟨_, rfl⟩, Fw.rv_tup (by k_is) (by decide) (by repeat' (first | exact .nil | refine .cons Fw.rv_str ?_))⟩ (.cons ⟨⟨_, rfl⟩, Fw.rv_tup (by k_is) (by decide) (by repeat' (first | exact .nil | refine .cons Fw.rv_str ?_))⟩ (.cons ⟨⟨_, rfl⟩, Fw.rv_tup (by k_is) (by decide) (by repeat' (first | exact .nil | refine .cons Fw.rv_str ?_))⟩ (.cons ⟨⟨_, rfl⟩, Fw.rv_tup (by k_is) (by decide) (by repeat' (first | exact .nil | refine .cons Fw.rv_str ?_))⟩ (.cons ⟨⟨_, rfl⟩, Fw.rv_tup (by k_is) (by decide) (by repeat' (first | exact .nil | refine .cons Fw.rv_str ?_))⟩ (.cons ⟨⟨_, rfl⟩, Fw.rv_tup (by k_is) (by decide) (by repeat' (first | exact .nil | refine .cons Fw.rv_str ?_))⟩ (.nil))))))))))
    have C_ACTIONS := Fw.gk_at (w := w) (x := "ACTIONS") (kvs := Fw.actsL ⟨_, _, _, _, _, _, _, _, _⟩) KX G (by k_is) (by k_is) (by repeat' (first | exact True.intro | refine ⟨⟨_, _, rfl, rfl⟩, ?_⟩)) (by rfl) (by exact .cons ⟨⟨_, rfl⟩, Fw.rv_ref⟩ (.cons ⟨⟨_, rfl⟩, Fw.rv_ref⟩ (.cons ⟨⟨_, rfl⟩, Fw.rv_ref⟩ (.cons ⟨⟨_, rfl⟩, Fw.rv_ref⟩ (.cons ⟨⟨_, rfl⟩, Fw.rv_ref⟩ (.cons ⟨⟨_, rfl⟩, Fw.rv_ref⟩ (.cons ⟨⟨_, rfl⟩, Fw.rv_ref⟩ (.cons ⟨⟨_, rfl⟩, Fw.rv_ref⟩ (.cons ⟨⟨_, rfl⟩, Fw.rv_ref⟩ (.nil))))))))))
    have S := Fw.st_mk KX G (by k_is) (by k_is) (by k_is) (by k_is) (by k_is) (by k_is) (by k_is) (by k_is) (by k_is) (by k_is) (by k_is) (by k_is) (by k_is) (by k_is) (by k_is) (by k_is) (by k_is)
    have B := Fw.bi_of KX G (by kernel_rfl)
    have Co := Fw.consts_mk C_SORTS C_HIGHEST C_MOST_NAMES C_MOST_STATEMENTS C_MOST_INNER_STATEMENTS C_MOST_WITHIN C_MOST_TERMS C_MOST_TURNS C_PLACES C_MOST_ROUNDS C_FORMS C_ACTIONS
    have C_MOST_SECRET_NAMES := Fw.gc_int (x := "MOST_SECRET_NAMES") KX G (by k_is)
    have C_RULES := Fw.gk_at (w := w) (x := "RULES") (kvs := Fw.rulesL ⟨_, _, _, _, _, _, _, _, _⟩) KX G (by k_is) (by k_is) (by repeat' (first | exact True.intro | refine ⟨⟨_, _, rfl, rfl⟩, ?_⟩)) (by rfl) (by exact .cons ⟨⟨_, rfl⟩, Fw.rv_ref⟩ (.cons ⟨⟨_, rfl⟩, Fw.rv_ref⟩ (.cons ⟨⟨_, rfl⟩, Fw.rv_ref⟩ (.cons ⟨⟨_, rfl⟩, Fw.rv_ref⟩ (.cons ⟨⟨_, rfl⟩, Fw.rv_ref⟩ (.cons ⟨⟨_, rfl⟩, Fw.rv_ref⟩ (.cons ⟨⟨_, rfl⟩, Fw.rv_ref⟩ (.cons ⟨⟨_, rfl⟩, Fw.rv_ref⟩ (.cons ⟨⟨_, rfl⟩, Fw.rv_ref⟩ (.nil))))))))))
    have C_LOTS := Fw.gc_rv (x := "LOTS") (d := .tup Fw.lotsX) KX G (by k_is) (Fw.rv_tup (by k_is) (by decide) (by repeat' (first | exact .nil | refine .cons ?_ ?_ | exact Fw.rv_str | exact Fw.rv_int | refine Fw.rv_tup (by k_is) (by decide) ?_)))
    have F_law := Fw.fa_at (x := "law") (st := Fw.s_law) KX G (by k_is) (by k_is) (by k_is) (by k_is)
    have e := hmg.symm.trans F_law.at_
    cases e
    refine ⟨_, Fw.law_binds F_law, fun base _ _ => ?_⟩
    have hc := Fw.checks_ok (P := PySem.Challenge.rw_flowborder_k00_whole_sound_designs.prog) (w := w) (base := base) B Co F_check_program F_is_pair F_is_sorts F_is_sort F_is_number F_is_whole_body F_is_body F_is_statement F_is_item F_is_terms
    have hb := Fw.body_ok (P := PySem.Challenge.rw_flowborder_k00_whole_sound_designs.prog) (base := base) B Co F_do_body F_do_sum F_do_if F_do_times F_do_while F_do_print F_do_stop F_do_split F_do_keep F_do_fetch
    have hu := Fw.outcome_ok (P := PySem.Challenge.rw_flowborder_k00_whole_sound_designs.prog) (base := base) B Co S F_outcome hb
    have hs := Fw.start_ok (P := PySem.Challenge.rw_flowborder_k00_whole_sound_designs.prog) (base := base) B Co F_is_start F_check_start F_is_number
    have hd := Fw.des_ok (P := PySem.Challenge.rw_flowborder_k00_whole_sound_designs.prog) (w := w) (base := base) B C_WORDS F_is_word F_is_design F_check_design
    obtain ⟨_, k_al, p_al⟩ := Fw.looks_ok (P := PySem.Challenge.rw_flowborder_k00_whole_sound_designs.prog) (w := w) (base := base) B F_alike F_open_numbers F_look_alike F_is_finished F_same_at_end F_one_begins_other hd hc hs hu
    obtain ⟨_, k_le, p_le⟩ := Fw.leak_ok (P := PySem.Challenge.rw_flowborder_k00_whole_sound_designs.prog) (w := w) (base := base) B C_MOST_SECRET_NAMES C_HIGHEST F_leak F_starts_like F_look_alike F_is_finished F_same_at_end F_one_begins_other F_open_numbers hd hc hs hu
    obtain ⟨⟨_, k_fa, p_fa⟩, _, k_lb, p_lb⟩ := Fw.fault_ok (P := PySem.Challenge.rw_flowborder_k00_whole_sound_designs.prog) (w := w) (base := base) B C_WORDS C_RULES F_is_word F_is_design F_check_design F_is_secret F_may_change F_may_stand F_first_fault F_fault_within F_fault_in_branches F_fault F_lets_by F_sum_may_stand F_if_may_stand F_times_may_stand F_while_may_stand F_print_may_stand F_stop_may_stand F_split_may_stand F_keep_may_stand F_fetch_may_stand hc
    obtain ⟨⟨_, k_so, p_so⟩, _, k_gr, p_gr⟩ := Fw.great_ok (P := PySem.Challenge.rw_flowborder_k00_whole_sound_designs.prog) (w := w) (base := base) B C_LOTS C_WORDS F_holds F_held_lots F_lots_in F_is_sound F_with_word F_sound_above F_is_greatest F_greatest_sound hd
    obtain ⟨⟨_, k_pr, p_pr⟩, ⟨_, k_st, p_st⟩, _, k_t, p_t⟩ := Fw.drawn_ok (P := PySem.Challenge.rw_flowborder_k00_whole_sound_designs.prog) (w := w) (base := base) B F_l_taken F_l_pick F_l_lots F_l_told F_l_into F_l_stands F_l_check F_l_statement F_l_sorts F_l_program F_l_start
    obtain ⟨_, k_p, p_p⟩ := Fw.ok_pick (P := PySem.Challenge.rw_flowborder_k00_whole_sound_designs.prog) (w := w) (base := base) F_l_pick.fn F_l_pick.at_ B k_t p_t
    obtain ⟨_, k_w, p_w⟩ := Fw.ok_words (P := PySem.Challenge.rw_flowborder_k00_whole_sound_designs.prog) (w := w) (base := base) F_l_words.fn F_l_words.at_ B 
    obtain ⟨_, k_ll, p_ll⟩ := Fw.ok_lots (P := PySem.Challenge.rw_flowborder_k00_whole_sound_designs.prog) (w := w) (base := base) F_l_lots.fn F_l_lots.at_ B 
    obtain ⟨_, k_lli, p_lli⟩ := Fw.ok_llots_in (P := PySem.Challenge.rw_flowborder_k00_whole_sound_designs.prog) (w := w) (base := base) F_l_lots_in.fn F_l_lots_in.at_ B k_ll p_ll
    obtain ⟨_, k_ot, p_ot⟩ := Fw.ok_other (P := PySem.Challenge.rw_flowborder_k00_whole_sound_designs.prog) (w := w) (base := base) F_l_other.fn F_l_other.at_ B k_st p_st
    exact Fw.law_sp (Fw.ok_law F_law.fn B (lv := 15) (k_t.mono (by decide)) p_t (k_p.mono (by decide)) p_p (k_w.mono (by decide)) p_w (k_lli.mono (by decide)) p_lli (k_so.mono (by decide)) p_so (k_gr.mono (by decide)) p_gr (k_pr.mono (by decide)) p_pr k_lb p_lb (k_st.mono (by decide)) p_st (k_ot.mono (by decide)) p_ot (k_al.mono (by decide)) p_al (k_le.mono (by decide)) p_le)

