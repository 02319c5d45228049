import PyProof.Rows.All
import Wide.All
import OpenK.AllK
import Wide.FinOn
import HandS.ForMost
import HandS.Wide
import HandS.TupAny
import HandS.TupMul
import HandS.Zip
import HandS.Text
import HandS.Strs
import HandS.IsInst
import HandS.Deep
import HandS.Style
import HandS.Small
import HandS.More
import HandS.CallLocal
import HandS.DictComp
import HandS.Set
import HandS.SetFor
import KE.GoesMore
import PyProof.P3Eq
import HandS.Dict
import HandS.Comp
import PyProof.StrLawsChain
import HandS.RaiseMore
import HandS.FStr
import HandS.Lambda
import HandS.ExcIs
import HandS.WordsExc
import HandS.ExcField
import HandS.EndTab
import KE.KExcIs
import HandS.Nested
import KE.KDflt
import HandS.ExcInit
import KE.KExcSuper
import PySem.Challenge.RW_flowborder_k08_whole_refused
set_option Elab.async false
set_option linter.all false
set_option maxRecDepth 100000
set_option maxHeartbeats 4000000
namespace Fw
open PySem PySem.Spec PyProof.Rows L2
theorem tuple_mul1 (l : Addr) (items : Array Value) (n : Nat) (dd : Option Addr) (sl : Array (Option Value)) (x : Int) (u : Tok) (c0 : (decide (x < -(2 ^ 63)) || decide (x ≥ 2 ^ 63)) = false) (c1 : (items.isEmpty || x == 1) = true) :
    Meets (Builtin.«tuple.__mul__» ⟨[.ref l, .int x u], []⟩) (fun _ R s => s.heap.get? l = some { cls := .type "tuple", dict := dd, data := .seq items n, slots := sl } ∧ R (.ok (.ret (Value.ref l))) s) :=
  .of_wp fun prog w A R s h => by
    obtain ⟨hp, g, d, tk, os⟩ := s
    obtain ⟨hl, h⟩ := h
    have f1 := AutoSeq1.idx_int
    wp_walk using wpAny_loadPart' hl
    repeat (first
      | (refine wpAny_ite_false (decide_eq_false (by rw [c0]; exact Bool.false_ne_true)) ?_; wp_walk using wpAny_loadPart' hl)
      | (refine wpAny_ite_true (decide_eq_true c1) ?_; wp_walk using wpAny_loadPart' hl))
    exact ⟨_, rfl, h⟩
theorem tuple_mul0 (l : Addr) (items : Array Value) (n : Nat) (dd : Option Addr) (sl : Array (Option Value)) (x : Int) (u : Tok) (c0 : (decide (x < -(2 ^ 63)) || decide (x ≥ 2 ^ 63)) = false) (c1 : (items.isEmpty || x == 1) = false) (c2 : (decide (x ≤ 0) || items.isEmpty) = true) :
    Meets (Builtin.«tuple.__mul__» ⟨[.ref l, .int x u], []⟩) (fun _ R s => s.heap.get? l = some { cls := .type "tuple", dict := dd, data := .seq items n, slots := sl } ∧
      R (.ok (.ret (Value.ref s.heap.objs.size))) { s with heap := s.heap.push { cls := Value.type "tuple", data := Data.seq #[] }, toks := s.toks }) :=
  .of_wp fun prog w A R s h => by
    obtain ⟨hp, g, d, tk, os⟩ := s
    obtain ⟨hl, h⟩ := h
    have f1 := AutoSeq1.idx_int
    wp_walk using wpAny_loadPart' hl
    repeat (first
      | (refine wpAny_ite_false (decide_eq_false (by rw [c0]; exact Bool.false_ne_true)) ?_; wp_walk using wpAny_loadPart' hl)
      | (refine wpAny_ite_false (decide_eq_false (by rw [c1]; exact Bool.false_ne_true)) ?_; wp_walk using wpAny_loadPart' hl)
      | (refine wpAny_ite_true (decide_eq_true c2) ?_; wp_walk using wpAny_loadPart' hl))
    exact ⟨_, rfl, h⟩

section
variable {X : Cx} {es : List Expr} {t : TA} {pos : Pos}
/-- a tuple that has no names of its own -/
def SqZ (K : PySem.W.Frag) (H : Hp) (a : Addr) (xs : List V) : Prop := (∃ o, H a = some (.frz o (.tup xs)) ∧ o.dict = none) ∨
  ∃ (o : Obj) (its : Array Value) (n : Nat), K.lookup a = some o ∧ o.cls = .type "tuple" ∧ o.dict = none ∧ o.data = .seq its n ∧ its.size ≤ sizeLine ∧ Vals xs its.toList
theorem SqZ.sq {K : PySem.W.Frag} {H : Hp} {a : Addr} {xs : List V} (h : SqZ K H a xs) : SqT K H a xs := by
  rcases h with ⟨o, h, _⟩ | ⟨o, its, n, h1, h2, _, h3, h4, h5⟩
  · exact .inl (.inr ⟨o, h⟩)
  · exact .inr ⟨o, its, n, h1, h2, h3, h4, h5⟩
def NewZ (H : Hp) (xs : List V) (Q : VK) : Prop := ∀ p o, H p = none → o.dict = none → Q (.ref p) (upd H p (.frz o (.tup xs)))
def tTupZ (t : TA) : TE := fun σ H Q => t σ H fun xs H1 => xs.length ≤ sizeLine ∧ NewZ H1 xs Q
theorem pe_tupZ {x1} (h : PA X es t) : PE X (.Tuple es x1 pos) (tTupZ t) := by
  refine ⟨fun pins s σ H Q I hq => ?_⟩
  refine wpAny_Tuple_spliced (thn (h.run pos pins s σ H _ I hq) fun us s1 ⟨xs, H1, I1, r, z, q⟩ => ⟨by rw [← r.length]; exact z, ?_⟩)
  have hf : H1 s1.heap.objs.size = none := I1.hok.fresh (Nat.le_refl _)
  refine ⟨.ref s1.heap.objs.size, upd H1 s1.heap.objs.size (.frz { cls := .type "tuple", data := .seq us.toArray } (.tup xs)), I1.laid (t' := s1.toks) (fun b u e => Heap.get?_push_of_some _ e) (Nat.le_refl _) ?_, rfl, q _ _ hf rfl⟩
  exact ⟨Heap.get?_push_size _ rfl, z, us, r, ⟨_, Heap.get?_push_size _ rfl, rfl, _, rfl⟩⟩
theorem call_tuple_ofZ : CallR X (.type "tuple") (fun xs H Q => ∃ p ys, xs = [.ref p] ∧ ((SqL X.K H p ys ∧ NewZ H ys Q) ∨ (SqT X.K H p ys ∧ Q (.ref p) H))) := by
  intro pins s σ H xs us Q I r h
  obtain ⟨p, ys, rfl, h⟩ := h
  obtain ⟨u, rfl, rx⟩ := vals1 r
  cases rx
  rcases h with ⟨hq, q⟩ | ⟨hq, q⟩
  · obtain ⟨its, r', pl, hz⟩ := I.list hq
    have hlen := r'.length
    refine call_tuple_list pl.isList (fun h' kp => ?_) (by simp only [List.size_toArray] <;> omega)
    have I1 : Inv X pins σ H { s with heap := h' } := I.kept (t' := s.toks) kp
    have I2 : Inv X pins σ (upd H h'.objs.size (.frz { cls := .type "tuple", data := .seq its.toArray } (.tup ys))) { s with heap := h'.push { cls := .type "tuple", data := .seq its.toArray } } :=
      I1.laid (t' := s.toks) (fun b o e => Heap.get?_push_of_some _ e) (Nat.le_refl _) (show ObjOk X.prog X.w _ _ _ (.frz _ (.tup ys)) from ⟨Heap.get?_push_size _ rfl, hz, its, r', IsTup.new _ _⟩)
    exact ⟨.ref h'.objs.size, _, I2, rfl, q _ _ (I1.hok.fresh (Nat.le_refl _)) rfl⟩
  · obtain ⟨its, r', pl, hz⟩ := I.tuple hq
    exact call_tuple_same pl ⟨.ref p, H, I, rfl, q⟩
theorem sqz_is {pins : List (Addr × Obj)} {σ : L2.St} {H : Hp} {s : Shared} {a : Addr} {xs : List V} (I : Inv X pins σ H s) (h : SqZ X.K H a xs) : s.TypeIs (.ref a) "tuple" ∧ ∀ b, Value.ref a = .ref b → ∃ ob, s.heap.get? b = some ob ∧ ob.dict = none := by
  rcases h with ⟨o, h, hd⟩ | ⟨o, its, n, h1, h2, hd, _⟩
  · obtain ⟨g, _, _, _, o', g', c, _⟩ := I.hok a _ h
    rw [g] at g'
    cases g'
    exact ⟨⟨o, g, c⟩, fun b e => by cases e; exact ⟨o, g, hd⟩⟩
  · exact ⟨⟨o, I.kIn a o h1, h2⟩, fun b e => by cases e; exact ⟨o, I.kIn a o h1, hd⟩⟩
def tBMZ (K : PySem.W.Frag) (r : V → List V → Hp → VK → Prop) (to : TE) (t : TA) : TE := fun σ H Q => to σ H fun x H1 => (∃ p xs, x = .ref p ∧ SqZ K H1 p xs) ∧ t σ H1 fun xs H2 => r x xs H2 Q
theorem pe_bmZ {o e : Expr} {to : TE} {t : TA} {name : Str} {apos cpos : Pos} {id : String} {r : V → List V → Hp → VK → Prop} (slot : Slot "tuple" name id) (hty : typeOf (.builtin id) = pure (.type "method_descriptor")) (hm : MtR X id r) (ho : PE X o to) (ha : PA X (e :: es) t)
    (hbase : attributeBase o name X.env (eval o X.env) = eval o X.env := by rfl)
    (hfew : ((backTo cpos (starEach (e :: es) X.env)).all (fun x => !x.1) && (backToKw cpos (keywordEach [] X.env)).all (fun x => x.1.isSome)
      && decide ((e :: es).length + ([] : List Keyword).length + (if ([] : List Keyword).isEmpty then 0 else 1) < 30)) = true := by rfl)
    (hline : (apos.endLine == cpos.line) = true := by rfl) (hs : starEach (e :: es) X.env = (false, eval e X.env) :: starEach es X.env := by rfl) (hplain : (backTo cpos (starEach es X.env)).any (·.1) = false := by rfl) :
    PE X (.Call (.Attribute o name apos) (e :: es) [] cpos) (tBMZ X.K r to t) := by
  refine ⟨fun pins s σ H Q I h => ?_⟩
  refine wpAny_Call_method_late hbase hfew hline rfl (thn (ho.run pins s σ H _ I h) fun v s1 ⟨x, H1, I1, r1, ⟨p, xs, ex, hz⟩, q1⟩ => ?_)
  subst ex
  obtain rfl : v = Value.ref p := r1
  obtain ⟨h1, h2⟩ := sqz_is I1 hz
  refine ⟨"tuple", id, PySem.F.plainAttrs_tuple, slot, hty, h1, h2, ?_⟩
  have hA := ha.run cpos pins s1 σ H1 _ I1 q1
  rw [hs] at hA ⊢
  refine Calls.callWith_builtin (by show (false || (backTo cpos (starEach es X.env)).any (·.1)) = false; rw [hplain] <;> rfl) (Calls.evalArgs_plain ?_)
  exact thn hA fun us s2 ⟨vs, H2, I2, r2, q2⟩ => hm pins s2 σ H2 (.ref p) vs (.ref p) us Q I2 rfl r2 q2
theorem count_strs (k : Str) : ∀ {vs : List Value} {ys : List Str}, StrsAre vs ys → vs.countP (isStrOf k) = ys.count k
  | _, _, .nil => rfl
  | _, _, .cons n t h => by
    rw [List.countP_cons, List.count_cons, count_strs k h]
    rfl
theorem mt_tcount : MtR X "tuple.count" (fun x xs H Q => ∃ (p : Addr) (ys : List Str) (z : Str), x = .ref p ∧ xs = [.str z] ∧ SqT X.K H p (ys.map V.str) ∧ Q (.int (ys.count z : Nat)) H) := by
  intro pins s σ H x xs v us Q I rx rxs h
  obtain ⟨p, ys, z, rfl, rfl, hs, q⟩ := h
  cases rx
  obtain ⟨u, rfl, ru⟩ := rxs.one
  obtain ⟨t, rfl⟩ := ru
  obtain ⟨its, rv, ⟨⟨cls, dd, data, sl⟩, ho, hc, n, hd⟩, hlen⟩ := I.tuple hs
  simp only at hc hd
  subst hc hd
  have hi : StrsAre its ys := strsAre_of rv
  refine call_meets PySem.F.slot_tuple_count ⟨_, ho, rfl⟩ PySem.F.entry_tuple_count (PySem.F.args_tuple_count_2 _ _)
    (SeqAt.tuple_countAt p its.toArray n dd sl (.str z t) (isStrOf z)) ⟨ho, fun y hy => (eq_isStrOf z t hi y (by simpa using hy)).at _ _, ?_⟩
  have ec : its.toArray.toList.countP (isStrOf z) = ys.count z := count_strs z hi
  refine ⟨.int (ys.count z : Nat), H, I.tok _, ⟨s.toks, ?_⟩, q⟩
  show Value.int ((its.toArray.toList.countP (isStrOf z) : Nat) : Int) s.toks = Value.int ((ys.count z : Nat) : Int) s.toks
  rw [ec]
/-- t + u -/
def rCatZ (K : PySem.W.Frag) : R2 := fun x y H Q => ∃ a b xs ys, x = .ref a ∧ y = .ref b ∧ SqT K H a xs ∧ SqT K H b ys ∧ xs.length + ys.length ≤ sizeLine ∧
  (xs = [] → Q (.ref b) H) ∧ (xs ≠ [] → ys = [] → Q (.ref a) H) ∧ (xs ≠ [] → ys ≠ [] → NewZ H (xs ++ ys) Q)
theorem op_catZ : OpR X (binaryOp .Add) (rCatZ X.K) := by
  intro pins s σ H x y v u Q I rx ry h
  obtain ⟨a, b, xs, ys, rfl, rfl, ha, hb, hz, q0, q1, q2⟩ := h
  by_cases hx : xs = []
  · subst hx
    cases rx
    cases ry
    obtain ⟨its, r1, p1, _⟩ := I.tuple ha
    obtain ⟨its2, r2, p2, _⟩ := I.tuple hb
    cases r1
    exact cat_tup0 p1 p2 ⟨.ref b, H, I, rfl, q0 rfl⟩
  · cases rx
    cases ry
    obtain ⟨its, r1, p1, _⟩ := I.tuple ha
    obtain ⟨its2, r2, p2, _⟩ := I.tuple hb
    refine HT.cat_tup p1 p2 (fun z => hx (r1.nil_iff.mp z)) (fun z => ⟨.ref a, H, I, rfl, q1 hx (r2.nil_iff.mp z)⟩) (fun z => ?_) (by rw [← r1.length, ← r2.length]; exact hz)
    refine ⟨.ref s.heap.objs.size, _, I.laid (t' := s.toks) (o := .frz _ (.tup (xs ++ ys))) (fun b ob q => Heap.get?_push_of_some _ q) (Nat.le_refl _) (show ObjOk X.prog X.w _ _ _ (.frz _ (.tup (xs ++ ys))) from ⟨Heap.get?_push_size _ rfl, by rw [List.length_append]; exact hz, _, r1.append r2, IsTup.new _ _⟩), rfl, q2 hx (fun w => z (r2.nil_iff.mpr w)) _ _ (I.hok.fresh (Nat.le_refl _)) rfl⟩
/-- t[lo:hi] -/
def rSlZ (K : PySem.W.Frag) : V → Option Int → Option Int → Hp → VK → Prop := fun x lo hi H Q => ∃ a xs, x = .ref a ∧ SqT K H a xs ∧
  (HT.sIx xs.length 0 lo = 0 ∧ HT.sIx xs.length xs.length hi = xs.length → Q (.ref a) H) ∧ (¬ (HT.sIx xs.length 0 lo = 0 ∧ HT.sIx xs.length xs.length hi = xs.length) → NewZ H (cutV xs lo hi) Q)
theorem sl_tupZ : SlR X (rSlZ X.K) := by
  intro pins s σ H x v vl vu lo hi sl Q I rx hs pl pu h
  obtain ⟨a, xs, rfl, hx, q1, q2⟩ := h
  cases rx
  obtain ⟨its, r, ht, hz⟩ := I.tuple hx
  have hlen : its.toArray.size = xs.length := by rw [List.size_toArray]; exact r.length.symm
  by_cases hw : HT.sIx xs.length 0 lo = 0 ∧ HT.sIx xs.length xs.length hi = xs.length
  · refine ⟨"tuple", _, PyProof.Rows.slot_tuple_getitem.lookup, ht.typeIs, ?_⟩
    exact getItem_tuple_whole ht hs pl pu (by rw [hlen]; exact hw) ⟨.ref a, H, I, rfl, q1 hw⟩
  · refine ⟨"tuple", _, PyProof.Rows.slot_tuple_getitem.lookup, ht.typeIs, ?_⟩
    refine HT.getItem_tuple_cut ht hs pl pu (by rw [hlen]; exact hw) ?_ (by rw [hlen]; exact hz)
    rw [hlen]
    refine ⟨.ref s.heap.objs.size, _, I.laid (t' := s.toks) (o := .frz _ (.tup (cutV xs lo hi))) (fun b ob q => Heap.get?_push_of_some _ q) (Nat.le_refl _) (show ObjOk X.prog X.w _ _ _ (.frz _ (.tup (cutV xs lo hi))) from ⟨Heap.get?_push_size _ rfl, Nat.le_trans (cutV_length xs lo hi) hz, _, (r.drop (HT.sIx xs.length 0 lo)).take (HT.sIx xs.length xs.length hi - HT.sIx xs.length 0 lo), IsTup.new _ _⟩), rfl, q2 hw _ _ (I.hok.fresh (Nat.le_refl _)) rfl⟩
end
section
variable {X : Cx}
theorem op_repZ2 : OpR X (binaryOp .Mult) (fun x y H Q => ∃ l k xs, x = .ref l ∧ y = .int k ∧ SqT X.K H l xs ∧ xs ≠ [] ∧ 2 ≤ k ∧ k ≤ 1000 ∧ xs.length ≤ 1000 ∧ NewZ H (List.replicate k.toNat xs).flatten Q) := by
  intro pins s σ H x y v u Q I rx ry h
  obtain ⟨l, k, xs, rfl, rfl, hT, hne, h1, h2, hz, q⟩ := h
  cases rx
  obtain ⟨t, rfl⟩ := ry
  obtain ⟨its, r, ⟨⟨cls, dd, data, sl⟩, ho, hc, n, hd⟩, hs⟩ := I.tuple hT
  simp only at hc hd
  subst hc hd
  have hle : its.length = xs.length := r.length.symm
  have hn : its ≠ [] := fun e => hne (by
    rw [e] at hle
    exact List.eq_nil_of_length_eq_zero hle.symm)
  have hi : its.toArray.isEmpty = false := by
    cases its with
    | nil => exact absurd rfl hn
    | cons a b => rfl
  have hsz0 : its.toArray.size = xs.length := by rw [List.size_toArray, hle]
  have hm : ((its.toArray.size : Nat) : Int) * k ≤ 1000000 := by
    rw [hsz0]
    have a1 : ((xs.length : Nat) : Int) * k ≤ 1000 * k := Int.mul_le_mul_of_nonneg_right (by omega) (by omega)
    omega
  have flen : (List.replicate k.toNat its).flatten.length ≤ sizeLine := by
    rw [PyProof.Rows.lm_len_rep_flat, hle, sizeLine_eq]
    have a1 : k.toNat * xs.length ≤ 1000 * 1000 := Nat.mul_le_mul (by omega) hz
    omega
  have c0 : (decide (k < -(2 ^ 63)) || decide (k ≥ 2 ^ 63)) = false := by
    rw [decide_eq_false (by omega), decide_eq_false (by omega)] <;> rfl
  have c1 : (its.toArray.isEmpty || k == 1) = false := by
    rw [hi, Bool.false_or]
    exact beq_eq_false_iff_ne.mpr (by omega)
  have c2 : (decide (k ≤ 0) || its.toArray.isEmpty) = false := by
    rw [hi, Bool.or_false]
    exact decide_eq_false (by omega)
  have c4 : Builtin.Tuple.tupleTooMany (((its.toArray.size : Nat) : Int) * k) = false := by
    unfold Builtin.Tuple.tupleTooMany
    rw [sizeLine_eq]
    exact decide_eq_false (by omega)
  refine wpAny_binaryOp_repeat_ref (T := "tuple") (U := "int") (by decide) ⟨_, ho, rfl⟩ (fun s' => typeIs_int s' k t) noFill_tuple_mul F.fills_int_mul F.slot_int_rmul repeat_tuple F.slot_int_index.lookup
    (call_meets F.slot_int_rmul (typeIs_int s k t) F.entry_int_rmul (F.args_int_rmul_2 _ _) (int_rmul_tuple k t l its.toArray n dd sl)
      ⟨ho, rfl, ⟨_, ho, rfl⟩, call_meets F.slot_tuple_mul ⟨_, ho, rfl⟩ F.entry_tuple_mul (F.args_tuple_mul_2 _ _) (tuple_mulW l its.toArray n dd sl k t c0 c1 c2 (by omega) c4 (by rw [size_rep, List.size_toArray]; exact flen)) ⟨ho, ?_⟩⟩)
  rw [size_rep]
  refine ⟨.ref s.heap.objs.size, _, I.laid (t' := s.toks) (o := .frz _ (.tup (List.replicate k.toNat xs).flatten)) (fun b ob q => Heap.get?_push_of_some _ q) (Nat.le_refl _) (show ObjOk X.prog X.w _ _ _ (.frz _ (.tup (List.replicate k.toNat xs).flatten)) from ⟨Heap.get?_push_size _ rfl, by rw [PyProof.Rows.lm_len_rep_flat, sizeLine_eq]; have a1 : k.toNat * xs.length ≤ 1000 * 1000 := Nat.mul_le_mul (by omega) hz; omega, _, r.rep k.toNat, IsTup.new _ _⟩), rfl, q _ _ (I.hok.fresh (Nat.le_refl _)) rfl⟩
def rRepZ (K : PySem.W.Frag) : R2 := fun x y H Q => ∃ l k xs, x = .ref l ∧ y = .int k ∧ SqT K H l xs ∧ -1000 ≤ k ∧ k ≤ 1000 ∧ xs.length ≤ 1000 ∧
  ((xs = [] ∨ k = 1) → Q (.ref l) H) ∧ (xs ≠ [] → k ≠ 1 → NewZ H (List.replicate k.toNat xs).flatten Q)
theorem op_repZ : OpR X (binaryOp .Mult) (rRepZ X.K) := by
  intro pins s σ H x y v u Q I rx ry h
  obtain ⟨l, k, xs, rfl, rfl, hT, h1, h2, hz, q1, q2⟩ := h
  by_cases hb : xs ≠ [] ∧ 2 ≤ k
  · exact op_repZ2 pins s σ H _ _ v u Q I rx ry ⟨l, k, xs, rfl, rfl, hT, hb.1, hb.2, h2, hz, q2 hb.1 (by omega)⟩
  cases rx
  obtain ⟨t, rfl⟩ := ry
  obtain ⟨its, r, ⟨⟨cls, dd, data, sl⟩, ho, hc, n, hd⟩, hs⟩ := I.tuple hT
  simp only at hc hd
  subst hc hd
  have hle : its.length = xs.length := r.length.symm
  have c0 : (decide (k < -(2 ^ 63)) || decide (k ≥ 2 ^ 63)) = false := by
    rw [decide_eq_false (by omega), decide_eq_false (by omega)] <;> rfl
  by_cases h01 : xs = [] ∨ k = 1
  · have c1 : (its.toArray.isEmpty || k == 1) = true := by
      rcases h01 with e | e
      · rw [e] at hle
        rw [List.eq_nil_of_length_eq_zero hle]
        rfl
      · rw [e]; simp
    refine wpAny_binaryOp_repeat_ref (T := "tuple") (U := "int") (by decide) ⟨_, ho, rfl⟩ (fun s' => typeIs_int s' k t) noFill_tuple_mul F.fills_int_mul F.slot_int_rmul repeat_tuple F.slot_int_index.lookup
      (call_meets F.slot_int_rmul (typeIs_int s k t) F.entry_int_rmul (F.args_int_rmul_2 _ _) (int_rmul_tuple k t l its.toArray n dd sl)
        ⟨ho, rfl, ⟨_, ho, rfl⟩, call_meets F.slot_tuple_mul ⟨_, ho, rfl⟩ F.entry_tuple_mul (F.args_tuple_mul_2 _ _) (tuple_mul1 l its.toArray n dd sl k t c0 c1) ⟨ho, ?_⟩⟩)
    exact ⟨.ref l, H, I, rfl, q1 h01⟩
  · have hne : xs ≠ [] := fun e => h01 (.inl e)
    have hk1 : k ≠ 1 := fun e => h01 (.inr e)
    have hk0 : k ≤ 0 := by
      by_cases z : 2 ≤ k
      · exact absurd ⟨hne, z⟩ hb
      · omega
    have hi : its.toArray.isEmpty = false := by
      cases its with
      | nil => exact absurd (List.eq_nil_of_length_eq_zero hle.symm) hne
      | cons a b => rfl
    have c1 : (its.toArray.isEmpty || k == 1) = false := by
      rw [hi, Bool.false_or]
      exact beq_eq_false_iff_ne.mpr hk1
    have c2 : (decide (k ≤ 0) || its.toArray.isEmpty) = true := by
      rw [decide_eq_true hk0, Bool.true_or]
    have e0 : k.toNat = 0 := by omega
    refine wpAny_binaryOp_repeat_ref (T := "tuple") (U := "int") (by decide) ⟨_, ho, rfl⟩ (fun s' => typeIs_int s' k t) noFill_tuple_mul F.fills_int_mul F.slot_int_rmul repeat_tuple F.slot_int_index.lookup
      (call_meets F.slot_int_rmul (typeIs_int s k t) F.entry_int_rmul (F.args_int_rmul_2 _ _) (int_rmul_tuple k t l its.toArray n dd sl)
        ⟨ho, rfl, ⟨_, ho, rfl⟩, call_meets F.slot_tuple_mul ⟨_, ho, rfl⟩ F.entry_tuple_mul (F.args_tuple_mul_2 _ _) (tuple_mul0 l its.toArray n dd sl k t c0 c1 c2) ⟨ho, ?_⟩⟩)
    refine ⟨.ref s.heap.objs.size, _, I.laid (t' := s.toks) (o := .frz _ (.tup [])) (fun b ob q => Heap.get?_push_of_some _ q) (Nat.le_refl _) (show ObjOk X.prog X.w _ _ _ (.frz _ (.tup [])) from ⟨Heap.get?_push_size _ rfl, Nat.zero_le _, [], .nil, IsTup.new _ _⟩), rfl, ?_⟩
    have q3 := q2 hne hk1
    rw [e0] at q3
    exact q3 _ _ (I.hok.fresh (Nat.le_refl _)) rfl
end
open RZ
def ItzP (K : PySem.W.Frag) (a b : Addr) : It :=
  ⟨fun i H => ∃ (xs ys : List V) (x y : V), SqL K H a xs ∧ SqL K H b ys ∧ xs[i]? = some x ∧ ys[i]? = some y,
    fun i H v H' => ∃ T o x y, v = .ref T ∧ H T = none ∧ o.dict = none ∧ H' = upd H T (.frz o (.tup [x, y])) ∧ (∀ xs, SqL K H a xs → xs[i]? = some x) ∧ ∀ ys, SqL K H b ys → ys[i]? = some y,
    fun i H => ∃ xs ys : List V, SqL K H a xs ∧ SqL K H b ys ∧ (xs.length ≤ i ∨ ys.length ≤ i)⟩
theorem turn_zipP {P : Program} {w : World} {K : PySem.W.Frag} {elts : List Expr} {kk : Nat} {tpos : Pos} {a b z TI TO i1 i2 : Addr} (D : ZipApart z TI TO i1 i2 a b) :
    Turn P w K (.Tuple elts kk tpos) (ItzP K a b) [z, TI, TO, i1, i2] z (fun i h => IsZip h z TI TO .none ∧ IsPair h TI (.ref i1) (.ref i2) ∧ (∃ x y, IsPair h TO x y) ∧ h.IsListIter i1 a i ∧ h.IsListIter i2 b i) where
  mem := by simp
  obj := fun i h st c hc => by
    obtain ⟨hz, hTI, ⟨x, y, hTO⟩, ⟨o1, e1, _, d1⟩, ⟨o2, e2, _, d2⟩⟩ := st
    have e' : c = z ∨ c = TI ∨ c = TO ∨ c = i1 ∨ c = i2 := by simpa using hc
    rcases e' with q | q | q | q | q
    · rw [q]; exact ⟨_, hz, fun v q => nomatch q⟩
    · rw [q]; exact ⟨_, hTI, fun v q => nomatch q⟩
    · rw [q]; exact ⟨_, hTO, fun v q => nomatch q⟩
    · rw [q]; exact ⟨o1, e1, fun v q => by rw [d1] at q; cases q⟩
    · rw [q]; exact ⟨o2, e2, fun v q => by rw [d2] at q; cases q⟩
  keep := fun i h h' st k => by
    obtain ⟨hz, hTI, ⟨x, y, hTO⟩, h1, h2⟩ := st
    exact ⟨k z (by simp) _ hz, k TI (by simp) _ hTI, ⟨x, y, k TO (by simp) _ hTO⟩, h1.at fun o q => k i1 (by simp) o q, h2.at fun o q => k i2 (by simp) o q⟩
  item := by
    intro X hP hw hK hc i pins s σ H E I hf st hg
    subst hP hw hK
    obtain ⟨hz, hTI, ⟨x0, y0, hTO⟩, h1, h2⟩ := st
    obtain ⟨xs, ys, x, y, hqx, hqy, hx, hy⟩ := hg
    obtain ⟨its, rv, p, _⟩ := I.list hqx
    obtain ⟨its2, rv2, p2, _⟩ := I.list hqy
    obtain ⟨u, hu, ru⟩ := rv.get hx
    obtain ⟨u2, hu2, ru2⟩ := rv2.get hy
    have hzl : z < s.heap.objs.size := Heap.lt_size hz
    refine wpAny_pyNext_zip_item D hz hTI hTO h1 h2 p.isList p2.isList (x := u) (y := u2) (by simpa using hu) (by simpa using hu2) fun h' z' TO' h1' h2' hT hsz hk => ?_
    refine ⟨_, rfl, wpAny_letOwnedTupleGo_zip (s := { s with heap := h' }) z' fun h'' z'' sb => ?_⟩
    have hT2 : h''.get? s.heap.objs.size = some { cls := .type "tuple", data := .seq #[u, u2] } := (sb.2 _ (Nat.ne_of_gt hzl)).trans hT
    have new : ObjOk X.prog X.w (upd H s.heap.objs.size (.frz { cls := .type "tuple", data := .seq #[u, u2] } (.tup [x, y]))) h'' s.heap.objs.size (.frz { cls := .type "tuple", data := .seq #[u, u2] } (.tup [x, y])) :=
      ⟨hT2, by show 2 ≤ sizeLine; decide, [u, u2], .cons ru (.cons ru2 .nil), ⟨_, hT2, rfl, _, rfl⟩⟩
    have I1 : Inv X pins σ (upd H s.heap.objs.size (.frz { cls := .type "tuple", data := .seq #[u, u2] } (.tup [x, y]))) { s with heap := h'' } :=
      I.turnedNew (t' := s.toks) (ch := [z, TI, TO, i1, i2]) (fun c o hb q => (sb.2 c (fun q' => hb (by simp [q']))).trans (hk c o (fun q' => hb (by simp [q'])) (fun q' => hb (by simp [q'])) (fun q' => hb (by simp [q'])) (fun q' => hb (by simp [q'])) q)) hf (Nat.le_refl _) new
    refine ⟨.ref s.heap.objs.size, _, I1, rfl, ⟨_, _, x, y, rfl, I.hok.fresh (Nat.le_refl _), rfl, rfl, fun l hl => by rw [I.list_inj hl hqx]; exact hx, fun l hl => by rw [I.list_inj hl hqy]; exact hy⟩, ⟨z'', ?_, ⟨u, u2, ?_⟩, ?_, ?_⟩, fun c hcm => ?_⟩
    · exact (sb.2 _ D.TIz).trans (hk _ _ D.TIz D.TITO D.TIi1 D.TIi2 hTI)
    · exact (sb.2 _ D.TOz).trans TO'
    · exact h1'.at fun o q => (sb.2 _ D.i1z).trans q
    · exact h2'.at fun o q => (sb.2 _ D.i2z).trans q
    · have hlt : c < s.heap.objs.size := by
        have e' : c = z ∨ c = TI ∨ c = TO ∨ c = i1 ∨ c = i2 := by simpa using hcm
        rcases e' with q | q | q | q | q
        · rw [q]; exact hzl
        · rw [q]; exact Heap.lt_size hTI
        · rw [q]; exact Heap.lt_size hTO
        · rw [q]; obtain ⟨_, e1, _⟩ := h1; exact Heap.lt_size e1
        · rw [q]; obtain ⟨_, e2, _⟩ := h2; exact Heap.lt_size e2
      rw [upd_ne (Nat.ne_of_lt hlt)]
      exact (hf c hcm).1
  done := by
    intro X hP hw hK hc i pins s σ H E I hf st hg
    subst hP hw hK
    obtain ⟨hz, hTI, ⟨x0, y0, hTO⟩, h1, h2⟩ := st
    obtain ⟨xs, ys, hqx, hqy, hend⟩ := hg
    obtain ⟨its, rv, p, _⟩ := I.list hqx
    obtain ⟨its2, rv2, p2, _⟩ := I.list hqy
    have l1 := rv.length
    have l2 := rv2.length
    have he : its.toArray[i]? = none ∨ its2.toArray[i]? = none := by
      rcases hend with q | q
      · exact .inl (by simp; omega)
      · exact .inr (by simp; omega)
    exact wpAny_pyNext_zip_end (I.ok.hd hc) D hz hTI hTO h1 h2 p.isList p2.isList he fun h' hk => ⟨rfl, I.turnedL (t' := s.toks) (ch := [z, TI, TO, i1, i2]) (fun c o hb q =>
      hk c o (fun q' => hb (by simp [q'])) (fun q' => hb (by simp [q'])) (fun q' => hb (by simp [q'])) (fun q' => hb (by simp [q'])) q) hf⟩
  self := fun A i s Q E st h => wpAny_pyIter_zip st.1 h
def ItzPT (K : PySem.W.Frag) (a b : Addr) : It :=
  ⟨fun i H => ∃ (xs ys : List V) (x y : V), SqT K H a xs ∧ SqT K H b ys ∧ xs[i]? = some x ∧ ys[i]? = some y,
    fun i H v H' => ∃ T o x y, v = .ref T ∧ H T = none ∧ o.dict = none ∧ H' = upd H T (.frz o (.tup [x, y])) ∧ (∀ xs, SqT K H a xs → xs[i]? = some x) ∧ ∀ ys, SqT K H b ys → ys[i]? = some y,
    fun i H => ∃ xs ys : List V, SqT K H a xs ∧ SqT K H b ys ∧ (xs.length ≤ i ∨ ys.length ≤ i)⟩
theorem turn_zipPT {P : Program} {w : World} {K : PySem.W.Frag} {elts : List Expr} {kk : Nat} {tpos : Pos} {a b z TI TO i1 i2 : Addr} (D : ZipApart z TI TO i1 i2 a b) :
    Turn P w K (.Tuple elts kk tpos) (ItzPT K a b) [z, TI, TO, i1, i2] z (fun i h => IsZip h z TI TO .none ∧ IsPair h TI (.ref i1) (.ref i2) ∧ (∃ x y, IsPair h TO x y) ∧ h.IsTupleIter i1 a i ∧ h.IsTupleIter i2 b i) where
  mem := by simp
  obj := fun i h st c hc => by
    obtain ⟨hz, hTI, ⟨x, y, hTO⟩, ⟨o1, e1, _, d1⟩, ⟨o2, e2, _, d2⟩⟩ := st
    have e' : c = z ∨ c = TI ∨ c = TO ∨ c = i1 ∨ c = i2 := by simpa using hc
    rcases e' with q | q | q | q | q
    · rw [q]; exact ⟨_, hz, fun v q => nomatch q⟩
    · rw [q]; exact ⟨_, hTI, fun v q => nomatch q⟩
    · rw [q]; exact ⟨_, hTO, fun v q => nomatch q⟩
    · rw [q]; exact ⟨o1, e1, fun v q => by rw [d1] at q; cases q⟩
    · rw [q]; exact ⟨o2, e2, fun v q => by rw [d2] at q; cases q⟩
  keep := fun i h h' st k => by
    obtain ⟨hz, hTI, ⟨x, y, hTO⟩, h1, h2⟩ := st
    exact ⟨k z (by simp) _ hz, k TI (by simp) _ hTI, ⟨x, y, k TO (by simp) _ hTO⟩, h1.at fun o q => k i1 (by simp) o q, h2.at fun o q => k i2 (by simp) o q⟩
  item := by
    intro X hP hw hK hc i pins s σ H E I hf st hg
    subst hP hw hK
    obtain ⟨hz, hTI, ⟨x0, y0, hTO⟩, h1, h2⟩ := st
    obtain ⟨xs, ys, x, y, hqx, hqy, hx, hy⟩ := hg
    obtain ⟨its, rv, p, _⟩ := I.tuple hqx
    obtain ⟨its2, rv2, p2, _⟩ := I.tuple hqy
    obtain ⟨u, hu, ru⟩ := rv.get hx
    obtain ⟨u2, hu2, ru2⟩ := rv2.get hy
    have hzl : z < s.heap.objs.size := Heap.lt_size hz
    refine pyNext_zipT_item D hz hTI hTO h1 h2 p p2 (x := u) (y := u2) (by simpa using hu) (by simpa using hu2) fun h' z' TO' h1' h2' hT hsz hk => ?_
    refine ⟨_, rfl, wpAny_letOwnedTupleGo_zip (s := { s with heap := h' }) z' fun h'' z'' sb => ?_⟩
    have hT2 : h''.get? s.heap.objs.size = some { cls := .type "tuple", data := .seq #[u, u2] } := (sb.2 _ (Nat.ne_of_gt hzl)).trans hT
    have new : ObjOk X.prog X.w (upd H s.heap.objs.size (.frz { cls := .type "tuple", data := .seq #[u, u2] } (.tup [x, y]))) h'' s.heap.objs.size (.frz { cls := .type "tuple", data := .seq #[u, u2] } (.tup [x, y])) :=
      ⟨hT2, by show 2 ≤ sizeLine; decide, [u, u2], .cons ru (.cons ru2 .nil), ⟨_, hT2, rfl, _, rfl⟩⟩
    have I1 : Inv X pins σ (upd H s.heap.objs.size (.frz { cls := .type "tuple", data := .seq #[u, u2] } (.tup [x, y]))) { s with heap := h'' } :=
      I.turnedNew (t' := s.toks) (ch := [z, TI, TO, i1, i2]) (fun c o hb q => (sb.2 c (fun q' => hb (by simp [q']))).trans (hk c o (fun q' => hb (by simp [q'])) (fun q' => hb (by simp [q'])) (fun q' => hb (by simp [q'])) (fun q' => hb (by simp [q'])) q)) hf (Nat.le_refl _) new
    refine ⟨.ref s.heap.objs.size, _, I1, rfl, ⟨_, _, x, y, rfl, I.hok.fresh (Nat.le_refl _), rfl, rfl, fun l hl => by rw [I.tuple_inj hl hqx]; exact hx, fun l hl => by rw [I.tuple_inj hl hqy]; exact hy⟩, ⟨z'', ?_, ⟨u, u2, ?_⟩, ?_, ?_⟩, fun c hcm => ?_⟩
    · exact (sb.2 _ D.TIz).trans (hk _ _ D.TIz D.TITO D.TIi1 D.TIi2 hTI)
    · exact (sb.2 _ D.TOz).trans TO'
    · exact h1'.at fun o q => (sb.2 _ D.i1z).trans q
    · exact h2'.at fun o q => (sb.2 _ D.i2z).trans q
    · have hlt : c < s.heap.objs.size := by
        have e' : c = z ∨ c = TI ∨ c = TO ∨ c = i1 ∨ c = i2 := by simpa using hcm
        rcases e' with q | q | q | q | q
        · rw [q]; exact hzl
        · rw [q]; exact Heap.lt_size hTI
        · rw [q]; exact Heap.lt_size hTO
        · rw [q]; obtain ⟨_, e1, _⟩ := h1; exact Heap.lt_size e1
        · rw [q]; obtain ⟨_, e2, _⟩ := h2; exact Heap.lt_size e2
      rw [upd_ne (Nat.ne_of_lt hlt)]
      exact (hf c hcm).1
  done := by
    intro X hP hw hK hc i pins s σ H E I hf st hg
    subst hP hw hK
    obtain ⟨hz, hTI, ⟨x0, y0, hTO⟩, h1, h2⟩ := st
    obtain ⟨xs, ys, hqx, hqy, hend⟩ := hg
    obtain ⟨its, rv, p, _⟩ := I.tuple hqx
    obtain ⟨its2, rv2, p2, _⟩ := I.tuple hqy
    have l1 := rv.length
    have l2 := rv2.length
    have he : its.toArray[i]? = none ∨ its2.toArray[i]? = none := by
      rcases hend with q | q
      · exact .inl (by simp; omega)
      · exact .inr (by simp; omega)
    exact pyNext_zipT_end (I.ok.hd hc) D hz hTI hTO h1 h2 p p2 he fun h' hk => ⟨rfl, I.turnedL (t' := s.toks) (ch := [z, TI, TO, i1, i2]) (fun c o hb q =>
      hk c o (fun q' => hb (by simp [q'])) (fun q' => hb (by simp [q'])) (fun q' => hb (by simp [q'])) (fun q' => hb (by simp [q'])) q) hf⟩
  self := fun A i s Q E st h => wpAny_pyIter_zip st.1 h

def iZipP (K : PySem.W.Frag) (ta : TA) : TI := fun σ H R => ta σ H fun vs H1 => ∃ a b xs ys, vs = [.ref a, .ref b] ∧ ((SqL K H1 a xs ∧ SqL K H1 b ys ∧ R (ItzP K a b) H1) ∨ (SqT K H1 a xs ∧ SqT K H1 b ys ∧ R (ItzPT K a b) H1))
theorem pi_zipP {X : Cx} {e e2 : Expr} {ta : TA} {p pos tpos : Pos} {elts : List Expr} {kk : Nat} (hg : Gl X "zip") (hm : X.mg "zip" = none) (ha : PA X [e, e2] ta)
    (hs : starEach [e, e2] X.env = (false, eval e X.env) :: starEach [e2] X.env := by rfl) (hpl : (backTo pos (starEach [e2] X.env)).any (·.1) = false := by rfl) :
    PI X (.Tuple elts kk tpos) (.Call (.Name "zip" p) [e, e2] [] pos) (iZipP X.K ta) := by
  refine ⟨fun pins s σ H R I h => ?_⟩
  refine Call_ (ld_blt I hg hm PyProof.Rows.boot_zip (PyProof.Rows.callWith_type1 (thn (ha.run pos pins s σ H _ I h) fun us s1 ⟨vs, H1, I1, r1, q1⟩ => ?_) hs hpl))
  obtain ⟨a, b, xs, ys, ex, q1⟩ := q1
  subst ex
  cases r1 with
  | cons r rr =>
    cases rr with
    | cons r' rr =>
      cases rr
      cases r
      cases r'
      have fresh5 : ∀ c, c ∈ [s1.heap.objs.size + 4, s1.heap.objs.size + 2, s1.heap.objs.size + 3, s1.heap.objs.size, s1.heap.objs.size + 1] → FpOk X pins H1 c := fun c hcm => by
        have e' : c = s1.heap.objs.size + 4 ∨ c = s1.heap.objs.size + 2 ∨ c = s1.heap.objs.size + 3 ∨ c = s1.heap.objs.size ∨ c = s1.heap.objs.size + 1 := by simpa using hcm
        have hle : s1.heap.objs.size ≤ c := by
          rcases e' with z | z | z | z | z
          · rw [z]; exact Nat.le_add_right _ _
          · rw [z]; exact Nat.le_add_right _ _
          · rw [z]; exact Nat.le_add_right _ _
          · rw [z]; exact Nat.le_refl _
          · rw [z]; exact Nat.le_add_right _ _
        exact I1.fpOk hle (I1.hok.fresh hle)
      rcases q1 with ⟨hqx, hqy, q⟩ | ⟨hqx, hqy, q⟩
      · obtain ⟨its, rv, p1, _⟩ := I1.list hqx
        obtain ⟨its2, rv2, p2, _⟩ := I1.list hqy
        refine call_zip_2 p1.isList p2.isList fun h' hz hTI hTO h1 h2 hsz hk => wpAny_pyIter_zip hz ?_
        have I2 : Inv X pins σ H1 { s1 with heap := h' } := I1.kept (t' := s1.toks) hk
        exact ⟨s1.heap.objs.size + 4, [s1.heap.objs.size + 4, s1.heap.objs.size + 2, s1.heap.objs.size + 3, s1.heap.objs.size, s1.heap.objs.size + 1], _, _, H1, rfl, I2, turn_zipP (PySem.W.ktu_apart s1.heap.objs.size a b p1.lt p2.lt), ⟨hz, hTI, ⟨_, _, hTO⟩, h1, h2⟩, fresh5, q⟩
      · obtain ⟨its, rv, p1, _⟩ := I1.tuple hqx
        obtain ⟨its2, rv2, p2, _⟩ := I1.tuple hqy
        obtain ⟨o1, ho1, _⟩ := id p1
        obtain ⟨o2, ho2, _⟩ := id p2
        refine call_zipT (show s1.heap.IsTuple a its.toArray from p1) (show s1.heap.IsTuple b its2.toArray from p2) fun h' hz hTI hTO h1 h2 hsz hk => wpAny_pyIter_zip hz ?_
        have I2 : Inv X pins σ H1 { s1 with heap := h' } := I1.kept (t' := s1.toks) hk
        exact ⟨s1.heap.objs.size + 4, [s1.heap.objs.size + 4, s1.heap.objs.size + 2, s1.heap.objs.size + 3, s1.heap.objs.size, s1.heap.objs.size + 1], _, _, H1, rfl, I2, turn_zipPT (PySem.W.ktu_apart s1.heap.objs.size a b (Heap.lt_size ho1) (Heap.lt_size ho2)), ⟨hz, hTI, ⟨_, _, hTO⟩, h1, h2⟩, fresh5, q⟩

end Fw

set_option Elab.async false
set_option linter.all false
set_option maxRecDepth 100000
/-! Fw: readings by data. A value is a datum D; the state S is what the running defs own and change. -/
namespace Fw
open PySem PySem.Spec PyProof.Rows L2

theorem ofString_inj' {a b : String} (h : Str.ofString a = Str.ofString b) : a = b := by
  rw [Str.ofString_eq_toList, Str.ofString_eq_toList] at h
  have h1 : (a.toList.map Char.toNat).toArray = (b.toList.map Char.toNat).toArray := congrArg Str.cps h
  have h2 : a.toList.map Char.toNat = b.toList.map Char.toNat := by simpa using congrArg Array.toList h1
  have h3 : a.toList = b.toList := by
    have inj : ∀ (l m : List Char), l.map Char.toNat = m.map Char.toNat → l = m := by
      intro l
      induction l with
      | nil => intro m e; cases m with
        | nil => rfl
        | cons _ _ => cases e
      | cons c l ih => intro m e; cases m with
        | nil => cases e
        | cons d m =>
          rw [List.map_cons, List.map_cons] at e
          injection e with e1 e2
          rw [ih m e2, Char.toNat_inj.mp e1]
    exact inj _ _ h2
  exact String.toList_inj.mp h3
@[simp] theorem ofString_inj {a b : String} : (Str.ofString a = Str.ofString b) = (a = b) := propext ⟨ofString_inj', fun h => by rw [h]⟩
@[simp] theorem ofString_beq {a b : String} : (Str.ofString a == Str.ofString b) = decide (a = b) := by
  by_cases h : a = b
  · subst h; simp
  · rw [decide_eq_false h]
    exact beq_eq_false_iff_ne.mpr fun e => h (ofString_inj' e)
/-- a datum: what a value stands for; ref: an object by its address alone -/
inductive D where
  | non | bl (b : Bool) | int (i : Int) | str (x : Str) | tup (xs : List D) | lst (xs : List D) | ref (a : Addr) | ty (n : String) | scr (ns : List Int)

mutual
inductive Rep (K : PySem.W.Frag) (H : Hp) : V → D → Prop
  | non : Rep K H .non .non
  | bl (b : Bool) : Rep K H (.bl b) (.bl b)
  | int (i : Int) : Rep K H (.int i) (.int i)
  | str (x : Str) : Rep K H (.str x) (.str x)
  | tup {a : Addr} {xs : List V} {ds : List D} : SqZ K H a xs → Reps K H xs ds → Rep K H (.ref a) (.tup ds)
  | lst {a : Addr} {xs : List V} {ds : List D} : H a = some (.lst xs) → Reps K H xs ds → Rep K H (.ref a) (.lst ds)
  | ref (a : Addr) : Rep K H (.ref a) (.ref a)
  | ty (n : String) : Rep K H (.ty n) (.ty n)
  | scr {a : Addr} {ns : List Int} : SqL K H a (ns.map V.int) → Rep K H (.ref a) (.scr ns)
inductive Reps (K : PySem.W.Frag) (H : Hp) : List V → List D → Prop
  | nil : Reps K H [] []
  | cons {v : V} {vs : List V} {d : D} {ds : List D} : Rep K H v d → Reps K H vs ds → Reps K H (v :: vs) (d :: ds)
end

/-- all but the tables of code objects stay -/
def Ext (H H' : Hp) : Prop := ∀ a o, H a = some o → (∀ ps, o ≠ .tbl ps) → H' a = some o
theorem Ext.refl (H : Hp) : Ext H H := fun _ _ h _ => h
theorem Ext.trans {H H1 H2 : Hp} (a : Ext H H1) (b : Ext H1 H2) : Ext H H2 := fun x o h n => b x o (a x o h n) n
theorem ext_rd {H H' : Hp} {a : Addr} {u : HO} (e : Ext H H') (hu : ∀ ps, u ≠ .tbl ps) (h : Rd H a u) : Rd H' a u := by
  rcases h with h | ⟨o, h⟩
  · exact Or.inl (e a _ h hu)
  · exact Or.inr ⟨o, e a _ h fun ps z => nomatch z⟩
theorem ext_l {K : PySem.W.Frag} {H H' : Hp} {a : Addr} {xs : List V} (e : Ext H H') (h : SqL K H a xs) : SqL K H' a xs := by
  rcases h with h | h
  · exact Or.inl (ext_rd e (fun ps z => nomatch z) h)
  · exact Or.inr h
theorem ext_t {K : PySem.W.Frag} {H H' : Hp} {a : Addr} {xs : List V} (e : Ext H H') (h : SqT K H a xs) : SqT K H' a xs := by
  rcases h with h | h
  · exact Or.inl (ext_rd e (fun ps z => nomatch z) h)
  · exact Or.inr h
theorem ext_z {K : PySem.W.Frag} {H H' : Hp} {a : Addr} {xs : List V} (e : Ext H H') (h : SqZ K H a xs) : SqZ K H' a xs := by
  rcases h with ⟨o, h, d⟩ | h
  · exact .inl ⟨o, e a _ h (fun ps z => nomatch z), d⟩
  · exact .inr h
section
variable {K : PySem.W.Frag} {H H' : Hp}
mutual
theorem Rep.mono (e : Ext H H') : ∀ (d : D) (v : V), Rep K H v d → Rep K H' v d
  | .non, _, h => by cases h; exact .non
  | .bl b, _, h => by cases h; exact .bl _
  | .int i, _, h => by cases h; exact .int _
  | .str x, _, h => by cases h; exact .str _
  | .tup ds, _, h => by cases h with | tup q r => exact .tup (ext_z e q) (Reps.mono e _ _ r)
  | .lst ds, _, h => by cases h with | lst q r => exact .lst (e _ _ q fun ps z => nomatch z) (Reps.mono e _ _ r)
  | .ref a, _, h => by cases h; exact .ref _
  | .ty n, _, h => by cases h; exact .ty _
  | .scr ns, _, h => by cases h with | scr q => exact .scr (ext_l e q)
theorem Reps.mono (e : Ext H H') : ∀ (ds : List D) (vs : List V), Reps K H vs ds → Reps K H' vs ds
  | [], _, h => by cases h; exact .nil
  | d :: ds, _, h => by cases h with | cons a b => exact .cons (Rep.mono e _ _ a) (Reps.mono e _ _ b)
end
theorem Reps.length : ∀ {vs : List V} {ds : List D}, Reps K H vs ds → vs.length = ds.length
  | _, _, .nil => rfl
  | _, _, .cons _ t => by rw [List.length_cons, List.length_cons, Reps.length t]
theorem Reps.get : ∀ {vs : List V} {ds : List D} {i : Nat} {d : D}, Reps K H vs ds → ds[i]? = some d → ∃ v, vs[i]? = some v ∧ Rep K H v d
  | _, _, _, _, .nil, e => by simp at e
  | _, _, 0, _, .cons r _, e => by simp at e; subst e; exact ⟨_, rfl, r⟩
  | _, _, i + 1, d, .cons _ t, e => by
    obtain ⟨v, h1, h2⟩ := Reps.get (i := i) (d := d) t (by simpa using e)
    exact ⟨v, by simpa using h1, h2⟩
theorem Reps.append : ∀ {xs ys : List V} {ds es : List D}, Reps K H xs ds → Reps K H ys es → Reps K H (xs ++ ys) (ds ++ es)
  | _, _, _, _, .nil, s => s
  | _, _, _, _, .cons r t, s => .cons r (Reps.append t s)
theorem Reps.take : ∀ {xs : List V} {ds : List D} (n : Nat), Reps K H xs ds → Reps K H (xs.take n) (ds.take n)
  | _, _, 0, _ => .nil
  | _, _, _ + 1, .nil => .nil
  | _, _, n + 1, .cons r t => .cons r (Reps.take n t)
theorem Reps.drop : ∀ {xs : List V} {ds : List D} (n : Nat), Reps K H xs ds → Reps K H (xs.drop n) (ds.drop n)
  | _, _, 0, r => r
  | _, _, _ + 1, .nil => .nil
  | _, _, n + 1, .cons _ t => Reps.drop n t
theorem Reps.set {d : D} {v : V} (r : Rep K H v d) : ∀ {xs : List V} {ds : List D} (i : Nat), Reps K H xs ds → Reps K H (xs.set i v) (ds.set i d)
  | _, _, _, .nil => .nil
  | _, _, 0, .cons _ t => .cons r t
  | _, _, i + 1, .cons q t => .cons q (Reps.set r i t)
theorem Reps.rep : ∀ {xs : List V} {ds : List D} (n : Nat), Reps K H xs ds → Reps K H (List.replicate n xs).flatten (List.replicate n ds).flatten
  | _, _, 0, _ => .nil
  | _, _, n + 1, r => by
    rw [List.replicate_succ, List.replicate_succ, List.flatten_cons, List.flatten_cons]
    exact r.append (Reps.rep n r)
end

/-- an object that the running defs own -/
inductive OO where
  | lst (xs : List D)
  | dct (kvs : List (Str × D))
  | ins (C : Addr) (fs : List (Str × D))
  | fn (o : Obj) (more : List (Addr × HO))
abbrev trvO : HO := .ext fun _ => True
abbrev S := Addr → Option OO
def supd (s : S) (a : Addr) (o : OO) : S := fun b => if b = a then some o else s b
theorem supd_same {s : S} {a : Addr} {o : OO} : supd s a o a = some o := by unfold supd; rw [if_pos rfl]
theorem supd_ne {s : S} {a b : Addr} {o : OO} (h : b ≠ a) : supd s a o b = s b := by unfold supd; rw [if_neg h]
theorem supd_supd {s : S} {a : Addr} {o u : OO} : supd (supd s a o) a u = supd s a u := by
  funext b; unfold supd; split <;> rfl
theorem supd_self {s : S} {a : Addr} {o : OO} (h : s a = some o) : supd s a o = s := by
  funext b; unfold supd; split
  · rename_i e; rw [e, h]
  · rfl
abbrev S0 : S := fun _ => none
/-- without what is hidden -/
def hide (h : Addr → Bool) (H : Hp) : Hp := fun a => if h a = true then none else H a
theorem hide_ext (h : Addr → Bool) (H : Hp) : ∀ a o, hide h H a = some o → H a = some o := fun a o e => by
  unfold hide at e; split at e
  · cases e
  · exact e
theorem hide_sub (h : Addr → Bool) (H : Hp) : Ext (hide h H) H := fun a o e _ => hide_ext h H a o e
def RepKV (K : PySem.W.Frag) (H : Hp) (kvs : List (Key × V)) (ds : List (Str × D)) : Prop := kvs.map (·.1) = ds.map (fun p => Sum.inr p.1) ∧ Reps K H (kvs.map (·.2)) (ds.map (·.2))
theorem RepKV.mono {K : PySem.W.Frag} {H H' : Hp} {kvs : List (Key × V)} {ds : List (Str × D)} (e : Ext H H') (h : RepKV K H kvs ds) : RepKV K H' kvs ds := ⟨h.1, Reps.mono e _ _ h.2⟩
def RepFs (K : PySem.W.Frag) (H : Hp) (vs : List (Str × V)) (ds : List (Str × D)) : Prop := vs.map (·.1) = ds.map (·.1) ∧ Reps K H (vs.map (·.2)) (ds.map (·.2))
theorem RepFs.mono {K : PySem.W.Frag} {H H' : Hp} {vs : List (Str × V)} {ds : List (Str × D)} (e : Ext H H') (h : RepFs K H vs ds) : RepFs K H' vs ds := ⟨h.1, Reps.mono e _ _ h.2⟩
def RepO (K : PySem.W.Frag) (H : Hp) (o : Option HO) : OO → Prop
  | .lst ds => ∃ xs, o = some (.lst xs) ∧ Reps K H xs ds
  | .dct ds => ∃ kvs, o = some (.dK kvs) ∧ RepKV K H kvs ds
  | .ins C ds => ∃ dx vs, o = some (.ins C dx vs) ∧ Cls K C ∧ (∀ p ∈ ds, NoAttr K C p.1) ∧ RepFs K H vs ds
  | .fn ob more => o = some (.frz ob trvO) ∧ ∀ p ∈ more, (∀ ps, p.2 ≠ .tbl ps) ∧ H p.1 = some p.2
theorem RepO.mono {K : PySem.W.Frag} {H H' : Hp} {o : Option HO} {u : OO} (e : Ext H H') (h : RepO K H o u) : RepO K H' o u := by
  cases u with
  | lst ds => obtain ⟨xs, a, b⟩ := h; exact ⟨xs, a, Reps.mono e _ _ b⟩
  | dct ds => obtain ⟨xs, a, b⟩ := h; exact ⟨xs, a, b.mono e⟩
  | ins C ds => obtain ⟨dx, xs, a, b, c, d⟩ := h; exact ⟨dx, xs, a, b, c, d.mono e⟩
  | fn ob more => exact ⟨h.1, fun p hp => ⟨(h.2 p hp).1, e _ _ (h.2 p hp).2 (h.2 p hp).1⟩⟩
theorem RepO.there {K : PySem.W.Frag} {H : Hp} {o : Option HO} {u : OO} (h : RepO K H o u) : o ≠ none := by
  cases u with
  | lst ds => obtain ⟨xs, a, b⟩ := h; rw [a]; exact fun z => nomatch z
  | dct ds => obtain ⟨xs, a, b⟩ := h; rw [a]; exact fun z => nomatch z
  | ins C ds => obtain ⟨dx, xs, a, b⟩ := h; rw [a]; exact fun z => nomatch z
  | fn ob more => rw [h.1]; exact fun z => nomatch z
/-- the state is held: what is owned is hidden, and stands -/
structure SI (K : PySem.W.Frag) (h : Addr → Bool) (s : S) (H : Hp) : Prop where
  own : ∀ a o, s a = some o → h a = true
  ob : ∀ a o, s a = some o → RepO K (hide h H) (H a) o
  hid : ∀ a, h a = true → H a ≠ none
theorem SI.zero (K : PySem.W.Frag) (H : Hp) : SI K (fun _ => false) S0 H := ⟨fun a o z => (nomatch z), fun a o z => (nomatch z), fun a z => (nomatch z)⟩
/-- from (s, H) to (s', H'): the same is owned, all else is as it was -/
structure Step (K : PySem.W.Frag) (h : Addr → Bool) (s : S) (H : Hp) (s' : S) (H' : Hp) : Prop where
  dom : ∀ a, s a = none → s' a = none
  fr : ∀ a o, s a = none → H a = some o → H' a = some o
  si : SI K h s' H'
section
variable {K : PySem.W.Frag} {h : Addr → Bool} {s s1 s2 : S} {H H1 H2 : Hp}
theorem Step.refl (i : SI K h s H) : Step K h s H s H := ⟨fun _ z => z, fun _ _ _ e => e, i⟩
theorem Step.trans (a : Step K h s H s1 H1) (b : Step K h s1 H1 s2 H2) : Step K h s H s2 H2 :=
  ⟨fun x z => b.dom x (a.dom x z), fun x o z e => b.fr x o (a.dom x z) (a.fr x o z e), b.si⟩
theorem Step.ext (i : SI K h s H) (a : Step K h s H s1 H1) : Ext (hide h H) (hide h H1) := fun x o e _ => by
  unfold hide at e ⊢
  split at e
  · cases e
  · rename_i hx
    rw [if_neg hx]
    refine a.fr x o ?_ e
    cases q : s x with
    | none => rfl
    | some u => exact absurd (i.own x u q) hx
theorem Step.rep (i : SI K h s H) (a : Step K h s H s1 H1) {v : V} {d : D} (r : Rep K (hide h H) v d) : Rep K (hide h H1) v d := Rep.mono (a.ext i) _ _ r
theorem Step.reps (i : SI K h s H) (a : Step K h s H s1 H1) {v : List V} {d : List D} (r : Reps K (hide h H) v d) : Reps K (hide h H1) v d := Reps.mono (a.ext i) _ _ r
/-- a new object -/
theorem Step.new (i : SI K h s H) {p : Addr} (hp : H p = none) (o : HO) : Step K h s H s (upd H p o) := by
  have np : ∀ a u, s a = some u → a ≠ p := fun a u e z => by subst z; exact (i.ob a u e).there hp
  refine ⟨fun _ z => z, fun a u _ e => by rw [upd_ne (ne_of_none e hp)]; exact e, i.own, fun a u e => ?_, fun a ha z => ?_⟩
  rotate_left
  · by_cases e : a = p
    · rw [e, upd_same] at z; cases z
    · rw [upd_ne e] at z; exact i.hid a ha z
  rw [upd_ne (np a u e)]
  refine (i.ob a u e).mono fun b w q _ => ?_
  unfold hide at q ⊢
  split at q
  · cases q
  · rename_i hb
    rw [if_neg hb, upd_ne (ne_of_none q hp)]
    exact q
/-- a new object is seen, if it is not hidden -/
theorem new_free (i : SI K h s H) {p : Addr} {o : HO} (hp : H p = none) : hide h (upd H p o) p = some o := by
  have hh : h p = false := by
    cases e : h p with
    | false => rfl
    | true => exact absurd hp (i.hid p e)
  unfold hide
  rw [hh, if_neg Bool.false_ne_true, upd_same]
end
end Fw

set_option Elab.async false
set_option linter.all false
set_option maxRecDepth 100000
namespace Fw
open PySem PySem.Spec PyProof.Rows L2

abbrev Fr := List (Option D)
/-- the frame's slots by data -/
structure EnvR (K : PySem.W.Frag) (H : Hp) (σ : L2.St) (δ : Fr) : Prop where
  len : σ.length = δ.length
  at_ : ∀ (i : Nat) (d : D), δ[i]? = some (some d) → ∃ v, σ[i]? = some (some v) ∧ Rep K H v d
theorem EnvR.mono {K : PySem.W.Frag} {H H' : Hp} {σ : L2.St} {δ : Fr} (e : Ext H H') (r : EnvR K H σ δ) : EnvR K H' σ δ :=
  ⟨r.len, fun i d q => let ⟨v, a, b⟩ := r.at_ i d q; ⟨v, a, Rep.mono e _ _ b⟩⟩
theorem EnvR.set {K : PySem.W.Frag} {H : Hp} {σ : L2.St} {δ : Fr} {v : V} {d : D} (r : EnvR K H σ δ) (rv : Rep K H v d) (i : Nat) : EnvR K H (σ.set i (some v)) (δ.set i (some d)) := by
  refine ⟨by rw [List.length_set, List.length_set]; exact r.len, fun j e q => ?_⟩
  by_cases hj : i = j
  · subst hj
    rw [List.getElem?_set] at q ⊢
    rw [if_pos rfl] at q ⊢
    rw [r.len]
    split at q
    · cases q
      rename_i hl
      rw [if_pos hl]
      exact ⟨v, rfl, rv⟩
    · cases q
  · rw [List.getElem?_set_ne hj] at q ⊢
    exact r.at_ j e q
/-- forgetting -/
theorem EnvR.clear {K : PySem.W.Frag} {H : Hp} {σ : L2.St} {δ : Fr} (r : EnvR K H σ δ) (i : Nat) : EnvR K H (σ.set i none) (δ.set i none) := by
  refine ⟨by rw [List.length_set, List.length_set]; exact r.len, fun j e q => ?_⟩
  by_cases hj : i = j
  · subst hj
    rw [List.getElem?_set] at q
    rw [if_pos rfl] at q
    split at q
    · cases q
    · cases q
  · rw [List.getElem?_set_ne hj] at q ⊢
    exact r.at_ j e q
theorem EnvR.clear_left {K : PySem.W.Frag} {H : Hp} {σ : L2.St} {δ : Fr} {i : Nat} (r : EnvR K H σ δ) (h : δ[i]? = some none ∨ δ[i]? = none) : EnvR K H (σ.set i none) δ := by
  refine ⟨by rw [List.length_set]; exact r.len, fun j e q => ?_⟩
  by_cases hj : i = j
  · subst hj
    rcases h with h | h
    · rw [h] at q; cases q
    · rw [h] at q; cases q
  · rw [List.getElem?_set_ne hj]
    exact r.at_ j e q

abbrev FE := Fr → S → Option (D × S)
abbrev FT := Fr → S → Option (Bool × S)
abbrev FA := Fr → S → Option (List D × S)
inductive Out where
  | nx (δ : Fr) | rt (d : D) | bk (δ : Fr) | ct (δ : Fr)
abbrev FS := Fr → S → Option (Out × S)

def tD (K : PySem.W.Frag) (f : FE) : TE := fun σ H Q => ∃ (h : Addr → Bool) (s : S) (δ : Fr) (d : D) (s' : S), EnvR K (hide h H) σ δ ∧ SI K h s H ∧ f δ s = some (d, s') ∧
  ∀ v H', Step K h s H s' H' → Rep K (hide h H') v d → Q v H'
def tDT (K : PySem.W.Frag) (f : FT) : TT := fun σ H Q => ∃ (h : Addr → Bool) (s : S) (δ : Fr) (d : Bool) (s' : S), EnvR K (hide h H) σ δ ∧ SI K h s H ∧ f δ s = some (d, s') ∧
  ∀ H', Step K h s H s' H' → Q d H'
def tDA (K : PySem.W.Frag) (f : FA) : TA := fun σ H Q => ∃ (h : Addr → Bool) (s : S) (δ : Fr) (d : List D) (s' : S), EnvR K (hide h H) σ δ ∧ SI K h s H ∧ f δ s = some (d, s') ∧
  ∀ vs H', Step K h s H s' H' → Reps K (hide h H') vs d → Q vs H'
def endR (K : PySem.W.Frag) (h : Addr → Bool) (D : Ends) (H' : Hp) : Out → Prop
  | .nx δ' => ∀ σ', EnvR K (hide h H') σ' δ' → D.nx σ' H'
  | .rt d => ∀ v, Rep K (hide h H') v d → D.rt v H'
  | .bk δ' => ∀ σ', EnvR K (hide h H') σ' δ' → D.bk σ' H'
  | .ct δ' => ∀ σ', EnvR K (hide h H') σ' δ' → D.ct σ' H'
def tDS (K : PySem.W.Frag) (f : FS) : TS := fun D σ H => ∃ (h : Addr → Bool) (s : S) (δ : Fr) (o : Out) (s' : S), EnvR K (hide h H) σ δ ∧ SI K h s H ∧ f δ s = some (o, s') ∧
  ∀ H', Step K h s H s' H' → endR K h D H' o

section
variable {X : Cx} {e a b c : Expr} {t t' : TE}
theorem imp_e (p : PE X e t) (i : ∀ σ H Q, t' σ H Q → t σ H Q) : PE X e t' := ⟨fun pins s σ H Q I h => p.run pins s σ H Q I (i σ H Q h)⟩
theorem imp_t {t t' : TT} (p : PT X e t) (i : ∀ σ H Q, t' σ H Q → t σ H Q) : PT X e t' := ⟨fun pins s σ H Q I h => p.run pins s σ H Q I (i σ H Q h)⟩
theorem imp_w {t t' : TT} (p : PW X e t) (i : ∀ σ H Q, t' σ H Q → t σ H Q) : PW X e t' := ⟨fun wh pins s σ H Q I h => p.run wh pins s σ H Q I (i σ H Q h)⟩
theorem imp_a {es : List Expr} {t t' : TA} (p : PA X es t) (i : ∀ σ H Q, t' σ H Q → t σ H Q) : PA X es t' := ⟨fun pos pins s σ H Q I h => p.run pos pins s σ H Q I (i σ H Q h)⟩
theorem imp_s {st : Stmt} {t t' : TS} (p : PS X st t) (i : ∀ D σ H, t' D σ H → t D σ H) : PS X st t' := ⟨fun pins s σ H D I h => p.run pins s σ H D I (i D σ H h)⟩
theorem imp_ss {st : List Stmt} {t t' : TS} (p : PSs X st t) (i : ∀ D σ H, t' D σ H → t D σ H) : PSs X st t' := ⟨fun pins s σ H D I h => p.run pins s σ H D I (i D σ H h)⟩

/-! ### names, constants -/
def fVar (i : Nat) : FE := fun δ s => match δ[i]? with
  | some (some d) => some (d, s)
  | _ => none
theorem d_var (i : Nat) {x : Str} {pos : Pos} (p : PE X (.Name x pos) (tVar i)) : PE X (.Name x pos) (tD X.K (fVar i)) := imp_e p fun σ H Q ⟨h, s, δ, d, s', er, si, q, w⟩ => by
  unfold fVar at q
  split at q
  · rename_i d' e
    cases q
    obtain ⟨v, ev, rv⟩ := er.at_ i _ e
    exact ⟨v, ev, w v H (Step.refl si) rv⟩
  · cases q
def fC (d : D) : FE := fun _ s => some (d, s)
theorem d_c {v : V} {d : D} (p : PE X e (tC v)) (r : ∀ H, Rep X.K H v d) : PE X e (tD X.K (fC d)) := imp_e p fun σ H Q ⟨h, s, δ, d', s', er, si, q, w⟩ => by
  cases q
  exact w v H (Step.refl si) (r _)
theorem d_int {i j pos} : PE X (.Constant (.int i) j pos) (tD X.K (fC (.int i))) := d_c pe_int fun _ => .int i
theorem d_bl {b j pos} : PE X (.Constant (.bool b) j pos) (tD X.K (fC (.bl b))) := d_c pe_bl fun _ => .bl b
theorem d_non {j pos} : PE X (.Constant .none j pos) (tD X.K (fC .non)) := d_c pe_non fun _ => .non
theorem d_str {x j pos} : PE X (.Constant (.str x) j pos) (tD X.K (fC (.str x))) := d_c pe_str fun _ => .str x

/-! ### arguments, displays -/
variable {es : List Expr} {fe fa fb : FE} {fs : FA}
def fNil : FA := fun _ s => some ([], s)
def fCons (fe : FE) (fs : FA) : FA := fun δ s => (fe δ s).bind fun p => (fs δ p.2).map fun q => (p.1 :: q.1, q.2)
theorem da_nil : PA X [] (tDA X.K fNil) := imp_a pa_nil fun σ H Q ⟨h, s, δ, d', s', er, si, q, w⟩ => by
  cases q
  exact w [] H (Step.refl si) .nil
theorem bind_some {α β : Type} {x : Option α} {f : α → Option β} {z : β} (h : x.bind f = some z) : ∃ y, x = some y ∧ f y = some z := by
  cases x with
  | none => cases h
  | some y => exact ⟨y, rfl, h⟩
theorem map_some {α β : Type} {x : Option α} {f : α → β} {z : β} (h : x.map f = some z) : ∃ y, x = some y ∧ f y = z := by
  cases x with
  | none => cases h
  | some y => exact ⟨y, rfl, Option.some.inj h⟩
theorem da_cons (ha : PE X e (tD X.K fe)) (hr : PA X es (tDA X.K fs)) (hs : starEach (e :: es) X.env = (false, eval e X.env) :: starEach es X.env := by rfl) : PA X (e :: es) (tDA X.K (fCons fe fs)) :=
  imp_a (pa_cons ha hr hs) fun σ H Q ⟨h, s, δ, ds, s', er, si, q, w⟩ => by
  obtain ⟨⟨d, s1⟩, q1, q⟩ := bind_some q
  obtain ⟨⟨ds', s2⟩, q2, q⟩ := map_some q
  cases q
  refine ⟨h, s, δ, d, s1, er, si, q1, fun v H1 st1 r1 => ⟨h, s1, δ, ds', s2, er.mono (st1.ext si), st1.si, q2, fun vs H2 st2 r2 => ?_⟩⟩
  exact w (v :: vs) H2 (st1.trans st2) (.cons (st2.rep st1.si r1) r2)
/-- a size that Python keeps -/
def okLen (n : Nat) : Bool := decide (n ≤ 10000000)
@[simp] theorem okLen_iff (n : Nat) : (okLen n = true) = (n ≤ 10000000) := by unfold okLen; simp
theorem okLen_le {n : Nat} (h : okLen n = true) : n ≤ sizeLine := Nat.le_trans (of_decide_eq_true h) (by decide)
theorem okLen_lt {n : Nat} (h : okLen n = true) : n < sizeLine := Nat.lt_of_le_of_lt (of_decide_eq_true h) (by decide)
def fTup (fs : FA) : FE := fun δ s => (fs δ s).bind fun p => if okLen p.1.length = true then some (.tup p.1, p.2) else none
def fLst (fs : FA) : FE := fun δ s => (fs δ s).bind fun p => if okLen p.1.length = true then some (.lst p.1, p.2) else none
theorem new_tup {K : PySem.W.Frag} {h : Addr → Bool} {s : S} {H : Hp} {p : Addr} {o : Obj} {vs : List V} {ds : List D} (si : SI K h s H) (hp : H p = none) (hd : o.dict = none) (r : Reps K (hide h H) vs ds) : Rep K (hide h (upd H p (.frz o (.tup vs)))) (.ref p) (.tup ds) :=
  .tup (.inl ⟨o, new_free si hp, hd⟩) ((Step.new si hp _).reps si r)
theorem new_lst {K : PySem.W.Frag} {h : Addr → Bool} {s : S} {H : Hp} {p : Addr} {vs : List V} {ds : List D} (si : SI K h s H) (hp : H p = none) (r : Reps K (hide h H) vs ds) : Rep K (hide h (upd H p (.lst vs))) (.ref p) (.lst ds) :=
  .lst (new_free si hp) ((Step.new si hp _).reps si r)
theorem d_tup {x1 pos} (ha : PA X es (tDA X.K fs)) : PE X (.Tuple es x1 pos) (tD X.K (fTup fs)) := imp_e (pe_tupZ ha) fun σ H Q ⟨h, s, δ, ds, s', er, si, q, w⟩ => by
  obtain ⟨⟨xs, s1⟩, q1, q⟩ := bind_some q
  split at q
  · rename_i hl
    cases q
    refine ⟨h, s, δ, xs, _, er, si, q1, fun vs H1 st1 r1 => ⟨?_, fun p o hp hd => ?_⟩⟩
    · rw [r1.length]; exact okLen_le hl
    · exact w _ _ (st1.trans (Step.new st1.si hp _)) (new_tup st1.si hp hd r1)
  · cases q
theorem d_lst {pos} (ha : PA X es (tDA X.K fs)) : PE X (.List es pos) (tD X.K (fLst fs)) := imp_e (pe_lst ha) fun σ H Q ⟨h, s, δ, ds, s', er, si, q, w⟩ => by
  obtain ⟨⟨xs, s1⟩, q1, q⟩ := bind_some q
  split at q
  · rename_i hl
    cases q
    refine ⟨h, s, δ, xs, _, er, si, q1, fun vs H1 st1 r1 => ⟨?_, fun p hp => ?_⟩⟩
    · rw [r1.length]; exact okLen_le hl
    · exact w _ _ (st1.trans (Step.new st1.si hp _)) (new_lst st1.si hp r1)
  · cases q

/-! ### operators -/
abbrev G2 := D → D → S → Option D
def f2 (g : G2) (fa fb : FE) : FE := fun δ s => (fa δ s).bind fun p => (fb δ p.2).bind fun q => (g p.1 q.1 q.2).map fun d => (d, q.2)
/-- what a two-place operation on values is by data -/
def GOp (K : PySem.W.Frag) (r : R2) (g : G2) : Prop := ∀ (h : Addr → Bool) (s : S) (H : Hp) (x y : V) (dx dy d : D) (Q : VK), SI K h s H → Rep K (hide h H) x dx → Rep K (hide h H) y dy → g dx dy s = some d →
  (∀ v H', Step K h s H s H' → Rep K (hide h H') v d → Q v H') → r x y H Q
theorem d_2 {r : R2} {g : G2} (ha : PE X a (tD X.K fa)) (hb : PE X b (tD X.K fb)) (hg : GOp X.K r g) (p : PE X e (tOp r (tD X.K fa) (tD X.K fb))) : PE X e (tD X.K (f2 g fa fb)) := imp_e p fun σ H Q ⟨h, s, δ, d, s', er, si, q, w⟩ => by
  obtain ⟨⟨x, s1⟩, q1, q⟩ := bind_some q
  obtain ⟨⟨y, s2⟩, q2, q⟩ := bind_some q
  obtain ⟨z, q3, q⟩ := map_some q
  cases q
  refine ⟨h, s, δ, x, s1, er, si, q1, fun v H1 st1 r1 => ⟨h, s1, δ, y, s2, er.mono (st1.ext si), st1.si, q2, fun u H2 st2 r2 => ?_⟩⟩
  exact hg h s2 H2 v u x y d Q st2.si (st2.rep st1.si r1) r2 q3 fun z H3 st3 r3 => w z H3 (st1.trans (st2.trans st3)) r3
theorem d_op {op : Operator} {r : R2} {g : G2} {pos : Pos} (ho : OpR X (binaryOp op) r) (hg : GOp X.K r g) (ha : PE X a (tD X.K fa)) (hb : PE X b (tD X.K fb)) : PE X (.BinOp a op b pos) (tD X.K (f2 g fa fb)) := d_2 ha hb hg (pe_op ho ha hb)
theorem d_cmp {op : CmpOp} {r : R2} {g : G2} {pos : Pos} (ho : OpR X (compareOp op) r) (hg : GOp X.K r g) (ha : PE X a (tD X.K fa)) (hb : PE X b (tD X.K fb)) (hm : behindInMarks op b = false) : PE X (.Compare a [op] [b] pos) (tD X.K (f2 g fa fb)) := d_2 ha hb hg (pe_cmpR ho ha hb hm)
/-- a test by a value that is a bool -/
def fT (f : FE) : FT := fun δ s => (f δ s).bind fun p => match p.1 with
  | .bl c => some (c, p.2)
  | _ => none
theorem rep_bl {K : PySem.W.Frag} {H : Hp} {v : V} {c : Bool} (r : Rep K H v (.bl c)) : v = .bl c := by cases r; rfl
theorem tT_of {K : PySem.W.Frag} {f : FE} {σ : L2.St} {H : Hp} {Q : Bool → Hp → Prop} (hq : tDT K (fT f) σ H Q) : tD K f σ H fun x H' => ∃ k, x = .bl k ∧ Q k H' := by
  obtain ⟨h, s, δ, d, s', er, si, q, w⟩ := hq
  obtain ⟨⟨x, s1⟩, q1, q⟩ := bind_some q
  cases x with
  | bl c =>
    cases q
    exact ⟨h, s, δ, _, _, er, si, q1, fun v H1 st1 r1 => ⟨d, rep_bl r1, w H1 st1⟩⟩
  | _ => cases q
theorem dt_cmp {op : CmpOp} {r : R2} {g : G2} {pos : Pos} (ho : OpR X (compareOp op) r) (hg : GOp X.K r g) (ha : PE X a (tD X.K fa)) (hb : PE X b (tD X.K fb)) (hm : behindInMarks op b = false) : PT X (.Compare a [op] [b] pos) (tDT X.K (fT (f2 g fa fb))) :=
  imp_t (pt_cmpR ho ha hb hm) fun σ H Q hq => by
  have hq' := tT_of hq
  obtain ⟨h, s, δ, d, s', er, si, q, w⟩ := hq'
  obtain ⟨⟨x, s1⟩, q1, q⟩ := bind_some q
  obtain ⟨⟨y, s2⟩, q2, q⟩ := bind_some q
  obtain ⟨z, q3, q⟩ := map_some q
  cases q
  refine ⟨h, s, δ, x, s1, er, si, q1, fun v H1 st1 r1 => ⟨h, s1, δ, y, s2, er.mono (st1.ext si), st1.si, q2, fun u H2 st2 r2 => ?_⟩⟩
  exact hg h s2 H2 v u x y d _ st2.si (st2.rep st1.si r1) r2 q3 fun z H3 st3 r3 => w z H3 (st1.trans (st2.trans st3)) r3
/-- any expression whose value is a bool, as a test -/
theorem dt_val (p : PE X e (tD X.K fe)) (he : ∀ whole, isTrue e X.env whole = (do let v ← whole; standAt e.pos; holding [v] (truthy v)) := by intro _; rfl) : PT X e (tDT X.K (fT fe)) :=
  imp_t (pt_val p he) fun σ H Q hq => tT_of hq
end
end Fw

set_option Elab.async false
set_option linter.all false
set_option maxRecDepth 100000
namespace Fw
open PySem PySem.Spec PyProof.Rows L2
section
variable {X : Cx} {e a b c : Expr} {es rest : List Expr} {fe fa fb : FE} {fs : FA} {ta tb : FT} {pos : Pos}

/-! ### and, or, not, if: as values (bools), as tests -/
def fAnd (fa fb : FE) : FE := fun δ s => (fa δ s).bind fun p => match p.1 with
  | .bl c => if c = true then fb δ p.2 else some (.bl false, p.2)
  | _ => none
def fOr (fa fb : FE) : FE := fun δ s => (fa δ s).bind fun p => match p.1 with
  | .bl c => if c = true then some (.bl true, p.2) else fb δ p.2
  | _ => none
def fNot (fa : FE) : FE := fun δ s => (fa δ s).bind fun p => match p.1 with
  | .bl c => some (.bl (!c), p.2)
  | _ => none
def fIf (t : FT) (fa fb : FE) : FE := fun δ s => (t δ s).bind fun p => if p.1 = true then fa δ p.2 else fb δ p.2
def tAndF (t u : FT) : FT := fun δ s => (t δ s).bind fun p => if p.1 = true then u δ p.2 else some (false, p.2)
def tOrF (t u : FT) : FT := fun δ s => (t δ s).bind fun p => if p.1 = true then some (true, p.2) else u δ p.2
def tNotF (t : FT) : FT := fun δ s => (t δ s).map fun p => (!p.1, p.2)
theorem d_one {op} (h : PE X a (tD X.K fa)) : PE X (.BoolOp op [a] pos) (tD X.K fa) := pe_one h
theorem d_and (ha : PE X a (tD X.K fa)) (hb : PE X (.BoolOp .And (b :: rest) pos) (tD X.K fb)) : PE X (.BoolOp .And (a :: b :: rest) pos) (tD X.K (fAnd fa fb)) := imp_e (pe_and ha hb) fun σ H Q ⟨h, s, δ, d, s', er, si, q, w⟩ => by
  obtain ⟨⟨x, s1⟩, q1, q⟩ := bind_some q
  cases x with
  | bl c =>
    refine ⟨h, s, δ, .bl c, s1, er, si, q1, fun v H1 st1 r1 => ⟨c, rep_bl r1, ?_⟩⟩
    cases c with
    | true => exact ⟨h, s1, δ, d, s', er.mono (st1.ext si), st1.si, q, fun v H2 st2 r2 => w v H2 (st1.trans st2) r2⟩
    | false => cases q; exact w _ H1 st1 (.bl false)
  | _ => cases q
theorem d_or (ha : PE X a (tD X.K fa)) (hb : PE X (.BoolOp .Or (b :: rest) pos) (tD X.K fb)) : PE X (.BoolOp .Or (a :: b :: rest) pos) (tD X.K (fOr fa fb)) := imp_e (pe_or ha hb) fun σ H Q ⟨h, s, δ, d, s', er, si, q, w⟩ => by
  obtain ⟨⟨x, s1⟩, q1, q⟩ := bind_some q
  cases x with
  | bl c =>
    refine ⟨h, s, δ, .bl c, s1, er, si, q1, fun v H1 st1 r1 => ⟨c, rep_bl r1, ?_⟩⟩
    cases c with
    | true => cases q; exact w _ H1 st1 (.bl true)
    | false => exact ⟨h, s1, δ, d, s', er.mono (st1.ext si), st1.si, q, fun v H2 st2 r2 => w v H2 (st1.trans st2) r2⟩
  | _ => cases q
theorem d_not (ha : PE X a (tD X.K fa)) : PE X (.UnaryOp .Not a pos) (tD X.K (fNot fa)) := imp_e (pe_not ha) fun σ H Q ⟨h, s, δ, d, s', er, si, q, w⟩ => by
  obtain ⟨⟨x, s1⟩, q1, q⟩ := bind_some q
  cases x with
  | bl c =>
    cases q
    exact ⟨h, s, δ, .bl c, _, er, si, q1, fun v H1 st1 r1 => ⟨c, rep_bl r1, w _ H1 st1 (.bl _)⟩⟩
  | _ => cases q
theorem d_if (hc : PT X c (tDT X.K ta)) (ha : PE X a (tD X.K fa)) (hb : PE X b (tD X.K fb)) : PE X (.IfExp c a b pos) (tD X.K (fIf ta fa fb)) := imp_e (pe_ifExp hc ha hb) fun σ H Q ⟨h, s, δ, d, s', er, si, q, w⟩ => by
  obtain ⟨⟨k, s1⟩, q1, q⟩ := bind_some q
  refine ⟨h, s, δ, k, s1, er, si, q1, fun H1 st1 => ?_⟩
  cases k with
  | true => exact ⟨h, s1, δ, d, s', er.mono (st1.ext si), st1.si, q, fun v H2 st2 r2 => w v H2 (st1.trans st2) r2⟩
  | false => exact ⟨h, s1, δ, d, s', er.mono (st1.ext si), st1.si, q, fun v H2 st2 r2 => w v H2 (st1.trans st2) r2⟩
theorem dt_not (ha : PT X a (tDT X.K ta)) : PT X (.UnaryOp .Not a pos) (tDT X.K (tNotF ta)) := imp_t (pt_not ha) fun σ H Q ⟨h, s, δ, d, s', er, si, q, w⟩ => by
  obtain ⟨⟨k, s1⟩, q1, q⟩ := map_some q
  cases q
  exact ⟨h, s, δ, k, _, er, si, q1, w⟩
theorem dw_and1 (ha : PT X a (tDT X.K ta)) : PW X (.BoolOp .And [a] pos) (tDT X.K ta) := pw_and1 ha
theorem dw_or1 (ha : PT X a (tDT X.K ta)) : PW X (.BoolOp .Or [a] pos) (tDT X.K ta) := pw_or1 ha
theorem dw_and (ha : PT X a (tDT X.K ta)) (hb : PW X (.BoolOp .And (b :: rest) pos) (tDT X.K tb)) : PW X (.BoolOp .And (a :: b :: rest) pos) (tDT X.K (tAndF ta tb)) := imp_w (pw_and ha hb) fun σ H Q ⟨h, s, δ, d, s', er, si, q, w⟩ => by
  obtain ⟨⟨k, s1⟩, q1, q⟩ := bind_some q
  refine ⟨h, s, δ, k, s1, er, si, q1, fun H1 st1 => ?_⟩
  cases k with
  | true => exact ⟨h, s1, δ, d, s', er.mono (st1.ext si), st1.si, q, fun H2 st2 => w H2 (st1.trans st2)⟩
  | false => cases q; exact w H1 st1
theorem dw_or (ha : PT X a (tDT X.K ta)) (hb : PW X (.BoolOp .Or (b :: rest) pos) (tDT X.K tb)) : PW X (.BoolOp .Or (a :: b :: rest) pos) (tDT X.K (tOrF ta tb)) := imp_w (pw_or ha hb) fun σ H Q ⟨h, s, δ, d, s', er, si, q, w⟩ => by
  obtain ⟨⟨k, s1⟩, q1, q⟩ := bind_some q
  refine ⟨h, s, δ, k, s1, er, si, q1, fun H1 st1 => ?_⟩
  cases k with
  | true => cases q; exact w H1 st1
  | false => exact ⟨h, s1, δ, d, s', er.mono (st1.ext si), st1.si, q, fun H2 st2 => w H2 (st1.trans st2)⟩

/-! ### one place -/
abbrev G1 := D → S → Option D
def f1 (g : G1) (fa : FE) : FE := fun δ s => (fa δ s).bind fun p => (g p.1 p.2).map fun d => (d, p.2)
/-- the arguments of a call that makes nothing of the state -/
abbrev GL := List D → S → Option D
def fL (g : GL) (fs : FA) : FE := fun δ s => (fs δ s).bind fun p => (g p.1 p.2).map fun d => (d, p.2)
def GCall (K : PySem.W.Frag) (r : List V → Hp → VK → Prop) (g : GL) : Prop := ∀ (h : Addr → Bool) (s : S) (H : Hp) (vs : List V) (ds : List D) (d : D) (Q : VK), SI K h s H → Reps K (hide h H) vs ds → g ds s = some d →
  (∀ v H', Step K h s H s H' → Rep K (hide h H') v d → Q v H') → r vs H Q
theorem d_L {r : List V → Hp → VK → Prop} {g : GL} (ha : PA X es (tDA X.K fs)) (hg : GCall X.K r g) (p : PE X e (tCB r (tDA X.K fs))) : PE X e (tD X.K (fL g fs)) := imp_e p fun σ H Q ⟨h, s, δ, d, s', er, si, q, w⟩ => by
  obtain ⟨⟨xs, s1⟩, q1, q⟩ := bind_some q
  obtain ⟨z, q3, q⟩ := map_some q
  cases q
  exact ⟨h, s, δ, xs, _, er, si, q1, fun vs H1 st1 r1 => hg h _ H1 vs xs d Q st1.si r1 q3 fun v H2 st2 r2 => w v H2 (st1.trans st2) r2⟩
theorem d_callB {x : Str} {id : String} {r : List V → Hp → VK → Prop} {g : GL} {p : Pos} (hc : CallR X (.builtin id) r) (hg : GCall X.K r g) (hgl : Gl X x) (hm : X.mg x = none) (hv : bootBuiltins x = some (.builtin id)) (ha : PA X (e :: es) (tDA X.K fs)) (hn : x ≠ "__name__" := by decide) (hdb : (x == ("__debug__" : Str)) = false := by decide)
    (he : starEach (e :: es) X.env = (false, eval e X.env) :: starEach es X.env := by rfl) (hpl : (backTo pos (starEach es X.env)).any (·.1) = false := by rfl) : PE X (.Call (.Name x p) (e :: es) [] pos) (tD X.K (fL g fs)) :=
  d_L ha hg (pe_callB hc hgl hm hv ha hn hdb he hpl)
theorem d_callTy {x : Str} {T : String} {r : List V → Hp → VK → Prop} {g : GL} {p : Pos} (hc : CallR X (.type T) r) (hg : GCall X.K r g) (hgl : Gl X x) (hm : X.mg x = none) (hv : bootBuiltins x = some (.type T)) (ha : PA X (e :: es) (tDA X.K fs)) (hn : x ≠ "__name__" := by decide) (hdb : (x == ("__debug__" : Str)) = false := by decide)
    (he : starEach (e :: es) X.env = (false, eval e X.env) :: starEach es X.env := by rfl) (hpl : (backTo pos (starEach es X.env)).any (·.1) = false := by rfl) : PE X (.Call (.Name x p) (e :: es) [] pos) (tD X.K (fL g fs)) :=
  d_L ha hg (pe_callTy hc hgl hm hv ha hn hdb he hpl)

abbrev FD := List D → S → Option (D × S)
/-! ### a def's promise by data -/
def spD (K : PySem.W.Frag) (n : Nat) (g : FD) : Sp := fun vs H Q _ => ∃ (h : Addr → Bool) (s : S) (ds : List D) (d : D) (s' : S), Reps K (hide h H) vs ds ∧ ds.length = n ∧ SI K h s H ∧ g ds s = some (d, s') ∧
  ∀ v H', Step K h s H s' H' → Rep K (hide h H') v d → Q v H'
end
end Fw

set_option Elab.async false
set_option linter.all false
set_option maxRecDepth 100000
namespace Fw
open PySem PySem.Spec PyProof.Rows L2
section
variable {X : Cx} {e a b c : Expr} {es rest : List Expr} {fe fa fb : FE} {fs : FA} {ta tb : FT} {pos : Pos} {st : Stmt} {sts : List Stmt} {f1 f2 : FS}

/-! ### calls of the program's defs -/
def fCall (n : Nat) (g : FD) (fs : FA) : FE := fun δ s => (fs δ s).bind fun p => if p.1.length = n then g p.1 p.2 else none
theorem tcall_of {K : PySem.W.Frag} {n : Nat} {g : FD} {σ : L2.St} {H : Hp} {Q : VK} {E : XK} (hq : tD K (fCall n g fs) σ H Q) : tCall (spD K n g) [] E (tDA K fs) σ H Q := by
  obtain ⟨h, s, δ, d, s', er, si, q, w⟩ := hq
  obtain ⟨⟨xs, s1⟩, q1, q⟩ := bind_some q
  split at q
  · rename_i hl
    refine ⟨h, s, δ, xs, s1, er, si, q1, fun vs H1 st1 r1 => ?_⟩
    refine ⟨h, s1, xs, d, s', by rw [List.append_nil]; exact r1, hl, st1.si, q, fun v H2 st2 r2 => w v H2 (st1.trans st2) r2⟩
  · cases q
theorem d_call {k n : Nat} {f : Addr} {fd : FuncData} {ps : List Str} {g : FD} {x : Str} {p : Pos} (F : FnOk X.prog X.w X.K X.mg X.base CX0 k f fd ps (spD X.K n g)) (hr : Room k X.A) (hg : Gl X x) (hm : X.mg x = some (.ref f)) (hk : PySem.W.keepIn X.K (.ref f) = true) (hb : Binds X.K fd ps [])
    (ha : PA X (e :: es) (tDA X.K fs)) (hdb : (x == ("__debug__" : Str)) = false := by decide) (he : starEach (e :: es) X.env = (false, eval e X.env) :: starEach es X.env := by rfl) (hpl : (backTo pos (starEach es X.env)).any (·.1) = false := by rfl) :
    PE X (.Call (.Name x p) (e :: es) [] pos) (tD X.K (fCall n g fs)) := imp_e (pe_call F hr hg hm hk hb .nil pass0 ha hdb he hpl) fun _ _ _ h => tcall_of h
theorem d_call0 {k n : Nat} {f : Addr} {fd : FuncData} {ps : List Str} {g : FD} {x : Str} {p : Pos} (F : FnOk X.prog X.w X.K X.mg X.base CX0 k f fd ps (spD X.K n g)) (hr : Room k X.A) (hg : Gl X x) (hm : X.mg x = some (.ref f)) (hk : PySem.W.keepIn X.K (.ref f) = true) (hb : Binds X.K fd ps [])
    (hdb : (x == ("__debug__" : Str)) = false := by decide) : PE X (.Call (.Name x p) [] [] pos) (tD X.K (fCall n g fNil)) := imp_e (pe_call0 F hr hg hm hk hb .nil pass0 hdb) fun σ H Q hq => by
  have hq' := tcall_of (E := E0) hq
  obtain ⟨h, s, δ, ds, s', er, si, q, w⟩ := hq'
  cases q
  exact w [] H (Step.refl si) .nil

/-! ### blocks -/
def fNx : FS := fun δ s => some (.nx δ, s)
def fSeq (f g : FS) : FS := fun δ s => (f δ s).bind fun p => match p.1 with
  | .nx δ' => g δ' p.2
  | .rt d => some (.rt d, p.2)
  | .bk δ' => some (.bk δ', p.2)
  | .ct δ' => some (.ct δ', p.2)
theorem endR_step {K : PySem.W.Frag} {h : Addr → Bool} {D : Ends} {s0 s1 s2 : S} {H0 H1 : Hp} {o : Out} (st : Step K h s0 H0 s1 H1) (w : ∀ H', Step K h s0 H0 s2 H' → endR K h D H' o) : ∀ H', Step K h s1 H1 s2 H' → endR K h D H' o := fun H' st2 => w H' (st.trans st2)
theorem dss_nil : PSs X [] (tDS X.K fNx) := imp_ss pss_nil fun D σ H ⟨h, s, δ, o, s', er, si, q, w⟩ => by
  cases q
  exact w H (Step.refl si) σ er
theorem dss_one (h1 : PS X st (tDS X.K f1)) : PSs X [st] (tDS X.K f1) := pss_one h1
theorem dss_cons (h1 : PS X st (tDS X.K f1)) (h2 : PSs X sts (tDS X.K f2)) : PSs X (st :: sts) (tDS X.K (fSeq f1 f2)) := imp_ss (pss_cons h1 h2) fun D σ H ⟨h, s, δ, o, s', er, si, q, w⟩ => by
  obtain ⟨⟨o1, s1⟩, q1, q⟩ := bind_some q
  refine ⟨h, s, δ, o1, s1, er, si, q1, fun H1 st1 => ?_⟩
  cases o1 with
  | nx δ1 => exact fun σ1 er1 => ⟨h, s1, δ1, o, s', er1, st1.si, q, endR_step st1 w⟩
  | rt d => cases q; exact w H1 st1
  | bk δ1 => cases q; exact w H1 st1
  | ct δ1 => cases q; exact w H1 st1
def fRet (fe : FE) : FS := fun δ s => (fe δ s).map fun p => (.rt p.1, p.2)
theorem ds_ret (he : PE X e (tD X.K fe)) : PS X (.Return (some e) pos) (tDS X.K (fRet fe)) := imp_s (ps_ret he) fun D σ H ⟨h, s, δ, o, s', er, si, q, w⟩ => by
  obtain ⟨⟨d, s1⟩, q1, q⟩ := map_some q
  cases q
  exact ⟨h, s, δ, d, _, er, si, q1, fun v H1 st1 r1 => w H1 st1 v r1⟩
theorem ds_retN : PS X (.Return none pos) (tDS X.K (fRet (fC .non))) := imp_s ps_retN fun D σ H ⟨h, s, δ, o, s', er, si, q, w⟩ => by
  cases q
  exact w H (Step.refl si) .non .non
def fDrop (fe : FE) : FS := fun δ s => (fe δ s).map fun p => (.nx δ, p.2)
theorem ds_expr (he : PE X e (tD X.K fe)) (hs : swapsWith e none pos.line X.env = pure false := by rfl) : PS X (.Expr e pos) (tDS X.K (fDrop fe)) := imp_s (ps_expr he hs) fun D σ H ⟨h, s, δ, o, s', er, si, q, w⟩ => by
  obtain ⟨⟨d, s1⟩, q1, q⟩ := map_some q
  cases q
  exact ⟨h, s, δ, d, _, er, si, q1, fun v H1 st1 r1 => w H1 st1 σ (er.mono (st1.ext si))⟩
def fIfS (t : FT) (f g : FS) : FS := fun δ s => (t δ s).bind fun p => if p.1 = true then f δ p.2 else g δ p.2
theorem ds_if {p q' : List Stmt} (hc : PT X c (tDT X.K ta)) (ha : PSs X p (tDS X.K f1)) (hb : PSs X q' (tDS X.K f2)) : PS X (.If c p q' pos) (tDS X.K (fIfS ta f1 f2)) := imp_s (ps_if hc ha hb) fun D σ H ⟨h, s, δ, o, s', er, si, q, w⟩ => by
  obtain ⟨⟨k, s1⟩, q1, q⟩ := bind_some q
  refine ⟨h, s, δ, k, s1, er, si, q1, fun H1 st1 => ?_⟩
  cases k with
  | true => exact ⟨h, s1, δ, o, s', er.mono (st1.ext si), st1.si, q, endR_step st1 w⟩
  | false => exact ⟨h, s1, δ, o, s', er.mono (st1.ext si), st1.si, q, endR_step st1 w⟩
/-- what is never come to -/
def fNever : FS := fun _ _ => none
theorem ds_never : PS X st (tDS X.K fNever) := imp_s ps_never fun D σ H ⟨h, s, δ, o, s', er, si, q, w⟩ => by cases q
theorem dss_never : PSs X sts (tDS X.K fNever) := imp_ss pss_never fun D σ H ⟨h, s, δ, o, s', er, si, q, w⟩ => by cases q
theorem ds_pass : PS X (.Pass pos) (tDS X.K fNx) := imp_s ps_pass fun D σ H ⟨h, s, δ, o, s', er, si, q, w⟩ => by
  cases q
  exact w H (Step.refl si) σ er
theorem ds_break : PS X (.Break pos) (tDS X.K fun δ s => some (.bk δ, s)) := imp_s ps_break fun D σ H ⟨h, s, δ, o, s', er, si, q, w⟩ => by
  cases q
  exact w H (Step.refl si) σ er
theorem ds_cont : PS X (.Continue pos) (tDS X.K fun δ s => some (.ct δ, s)) := imp_s ps_continue fun D σ H ⟨h, s, δ, o, s', er, si, q, w⟩ => by
  cases q
  exact w H (Step.refl si) σ er

/-! ### stores to names -/
def fSet (i : Nat) (fe : FE) : FS := fun δ s => (fe δ s).map fun p => (.nx (δ.set i (some p.1)), p.2)
theorem ds_setT {i : Nat} {te : TE} (p : PS X st (tAsg te (gName i))) (he : ∀ σ H Q, tD X.K fe σ H Q → te σ H Q) : PS X st (tDS X.K (fSet i fe)) := imp_s p fun D σ H ⟨h, s, δ, o, s', er, si, q, w⟩ => by
  obtain ⟨⟨d, s1⟩, q1, q⟩ := map_some q
  cases q
  exact he _ _ _ ⟨h, s, δ, d, _, er, si, q1, fun v H1 st1 r1 => w H1 st1 _ ((er.mono (st1.ext si)).set r1 i)⟩
theorem ds_set {i : Nat} {x : Str} {pos' : Pos} (hN : X.N.Nodup) (hi : X.N[i]? = some x) (hx : Loc X.env.scope x) (he : PE X e (tD X.K fe)) (hs : swapsWith e (some (.Name x pos')) pos.line X.env = pure false := by rfl) (hf : X.fn x = true ∨ X.env.scope.names.lookup x = some .local := by first | exact .inl rfl | exact .inr rfl | assumption) :
    PS X (.Assign [.Name x pos'] e pos) (tDS X.K (fSet i fe)) := ds_setT (ps_set hN hi hx he hs hf) fun _ _ _ h => h
def fPar (i j : Nat) (fs : FA) : FS := fun δ s => (fs δ s).bind fun p => match p.1 with
  | [x, y] => some (.nx ((δ.set i (some x)).set j (some y)), p.2)
  | _ => none
theorem reps2 {K : PySem.W.Frag} {H : Hp} {vs : List V} {x y : D} (r : Reps K H vs [x, y]) : ∃ v u, vs = [v, u] ∧ Rep K H v x ∧ Rep K H u y := by
  cases r with
  | cons a r => cases r with
    | cons b r => cases r; exact ⟨_, _, rfl, a, b⟩
theorem reps1 {K : PySem.W.Frag} {H : Hp} {vs : List V} {x : D} (r : Reps K H vs [x]) : ∃ v, vs = [v] ∧ Rep K H v x := by
  cases r with
  | cons a r => cases r; exact ⟨_, rfl, a⟩
theorem reps3 {K : PySem.W.Frag} {H : Hp} {vs : List V} {x y z : D} (r : Reps K H vs [x, y, z]) : ∃ v u w, vs = [v, u, w] ∧ Rep K H v x ∧ Rep K H u y ∧ Rep K H w z := by
  cases r with
  | cons a r =>
    obtain ⟨u, w, rfl, b, c⟩ := reps2 r
    exact ⟨_, _, _, rfl, a, b, c⟩
theorem ds_par {i j : Nat} (p : PS X st (tPar i j (tDA X.K fs))) : PS X st (tDS X.K (fPar i j fs)) := imp_s p fun D σ H ⟨h, s, δ, o, s', er, si, q, w⟩ => by
  obtain ⟨⟨ds, s1⟩, q1, q⟩ := bind_some q
  split at q
  · cases q
    refine ⟨h, s, δ, _, _, er, si, q1, fun vs H1 st1 r1 => ?_⟩
    rename_i x y e'
    obtain rfl : ds = [x, y] := e'
    obtain ⟨v, u, rfl, ra, rb⟩ := reps2 r1
    exact ⟨v, u, rfl, w H1 st1 _ (((er.mono (st1.ext si)).set ra i).set rb j)⟩
  · cases q
def fPar3 (i j l : Nat) (fs : FA) : FS := fun δ s => (fs δ s).bind fun p => match p.1 with
  | [x, y, z] => some (.nx (((δ.set i (some x)).set j (some y)).set l (some z)), p.2)
  | _ => none
theorem ds_par3 {i j l : Nat} (p : PS X st (tPar3 i j l (tDA X.K fs))) : PS X st (tDS X.K (fPar3 i j l fs)) := imp_s p fun D σ H ⟨h, s, δ, o, s', er, si, q, w⟩ => by
  obtain ⟨⟨ds, s1⟩, q1, q⟩ := bind_some q
  split at q
  · cases q
    refine ⟨h, s, δ, _, _, er, si, q1, fun vs H1 st1 r1 => ?_⟩
    rename_i x y z e'
    obtain rfl : ds = [x, y, z] := e'
    obtain ⟨v, u, w', rfl, ra, rb, rc⟩ := reps3 r1
    exact ⟨v, u, w', rfl, w H1 st1 _ ((((er.mono (st1.ext si)).set ra i).set rb j).set rc l)⟩
  · cases q

/-! ### targets -/
abbrev FG := D → Fr → Option Fr
/-- a target by data; vs: slots that its stores keep within -/
def GT (K : PySem.W.Frag) (g : TG) (ft : FG) (vs : List Nat) : Prop := ∀ (H0 : Hp) (v : V) (σ : L2.St) (H : Hp) (d : D) (δ δ' : Fr) (Q : L2.St → Hp → Prop), Ext H0 H → EnvR K H0 σ δ → Rep K H0 v d → ft d δ = some δ' →
  (∀ σ', EnvR K H0 σ' δ' → wipe σ' vs = wipe σ vs → Q σ' H) → g v σ H Q
@[simp] def gtName (i : Nat) : FG := fun d δ => some (δ.set i (some d))
theorem set_wipe {σ : L2.St} {i : Nat} {x : Option V} : ∀ {vs : List Nat}, i ∈ vs → wipe (σ.set i x) vs = wipe σ vs
  | [], h => by cases h
  | v :: vs, h => by
    unfold wipe
    by_cases hv : i = v
    · subst hv
      by_cases hm : i ∈ vs
      · rw [set_wipe hm]
      · have q : ∀ (us : List Nat), i ∉ us → wipe (σ.set i x) us = (wipe σ us).set i x := by
          intro us
          induction us with
          | nil => intro _; rfl
          | cons u us ih =>
            intro hu
            unfold wipe
            rw [ih (fun z => hu (List.mem_cons_of_mem _ z)), List.set_comm _ _ (fun z => hu (by rw [z]; exact List.mem_cons_self))]
        rw [q vs hm, List.set_set]
    · rw [set_wipe ((List.mem_cons.mp h).resolve_left hv)]
theorem gt_name {K : PySem.W.Frag} {i : Nat} {vs : List Nat} (h : i ∈ vs) : GT K (gName i) (gtName i) vs := by
  intro H0 v σ H d δ δ' Q ex er r q w
  cases q
  exact w _ (er.set r i) (set_wipe h)
@[simp] def gtPair (i j : Nat) : FG := fun d δ => match d with
  | .tup [x, y] => some ((δ.set i (some x)).set j (some y))
  | _ => none
theorem gt_pair {K : PySem.W.Frag} {i j : Nat} {vs : List Nat} (h : i ∈ vs) (h' : j ∈ vs) : GT K (gTup K 2 (gCons (gName i) (gCons (gName j) gNil))) (gtPair i j) vs := by
  intro H0 v σ H d δ δ' Q ex er r q w
  unfold gtPair at q
  split at q
  · rename_i x y
    cases q
    cases r with
    | tup hq rs =>
      rename_i a xs
      obtain ⟨v1, v2, rfl, r1, r2⟩ := reps2 rs
      refine ⟨a, [v1, v2], rfl, (ext_z ex hq).sq, rfl, v1, [v2], rfl, v2, [], rfl, rfl, ?_⟩
      exact w _ ((er.set r1 i).set r2 j) (by rw [set_wipe h', set_wipe h])
  · cases q
@[simp] def gtTri (i j k : Nat) : FG := fun d δ => match d with
  | .tup [x, y, z] => some (((δ.set i (some x)).set j (some y)).set k (some z))
  | _ => none
theorem gt_tri {K : PySem.W.Frag} {i j k : Nat} {vs : List Nat} (h : i ∈ vs) (h' : j ∈ vs) (h2 : k ∈ vs) : GT K (gTup K 3 (gCons (gName i) (gCons (gName j) (gCons (gName k) gNil)))) (gtTri i j k) vs := by
  intro H0 v σ H d δ δ' Q ex er r q w
  unfold gtTri at q
  split at q
  · rename_i x y z
    cases q
    cases r with
    | tup hq rs =>
      rename_i a xs
      obtain ⟨v1, v2, v3, rfl, r1, r2, r3⟩ := reps3 rs
      refine ⟨a, [v1, v2, v3], rfl, (ext_z ex hq).sq, rfl, v1, [v2, v3], rfl, v2, [v3], rfl, v3, [], rfl, rfl, ?_⟩
      exact w _ (((er.set r1 i).set r2 j).set r3 k) (by rw [set_wipe h2, set_wipe h', set_wipe h])
  · cases q
/-- target = expression -/
def fAsg (ft : FG) (fe : FE) : FS := fun δ s => (fe δ s).bind fun p => (ft p.1 δ).map fun δ' => (.nx δ', p.2)
theorem ds_asg {tg : Expr} {g : TG} {ft : FG} {vs : List Nat} (he : PE X e (tD X.K fe)) (hg : PG X tg g) (gt : GT X.K g ft vs) (hs : swapsWithSole [tg] e pos.line X.env = pure false := by rfl) (hw : swappedStores [tg] e X.env = pure none := by rfl)
    (h1 : (assignEach [tg] X.env).map (·.2) = [assign tg X.env] := by rfl) : PS X (.Assign [tg] e pos) (tDS X.K (fAsg ft fe)) := imp_s (ps_asg he hg hs hw h1) fun D σ H ⟨h, s, δ, o, s', er, si, q, w⟩ => by
  obtain ⟨⟨d, s1⟩, q1, q⟩ := bind_some q
  obtain ⟨δ1, q2, q⟩ := map_some q
  cases q
  exact ⟨h, s, δ, d, _, er, si, q1, fun v H1 st1 r1 => gt (hide h H1) v σ H1 d δ δ1 _ (hide_sub h H1) (er.mono (st1.ext si)) r1 q2 fun σ' er' _ => w H1 st1 σ' er'⟩
end
end Fw

set_option Elab.async false
set_option linter.all false
set_option maxRecDepth 100000
namespace Fw
open PySem PySem.Spec PyProof.Rows L2

/-- from (h, s, H) to (h', s', H'): some more may be hidden -/
structure StepX (K : PySem.W.Frag) (h : Addr → Bool) (s : S) (H : Hp) (h' : Addr → Bool) (s' : S) (H' : Hp) : Prop where
  le : ∀ a, h a = true → h' a = true
  new : ∀ a, h' a = true → h a = true ∨ H a = none
  dom : ∀ a, s a = none → s' a = none
  fr : ∀ a o, s a = none → H a = some o → H' a = some o
  si : SI K h' s' H'
section
variable {K : PySem.W.Frag} {h h' : Addr → Bool} {s s1 s2 : S} {H H1 H2 : Hp}
theorem StepX.of (a : Step K h s H s1 H1) : StepX K h s H h s1 H1 := ⟨fun _ z => z, fun _ z => .inl z, a.dom, a.fr, a.si⟩
theorem StepX.trans (a : StepX K h s H h' s1 H1) (b : Step K h' s1 H1 s2 H2) : StepX K h s H h' s2 H2 :=
  ⟨a.le, a.new, fun x z => b.dom x (a.dom x z), fun x o z e => b.fr x o (a.dom x z) (a.fr x o z e), b.si⟩
theorem StepX.ext (i : SI K h s H) (a : StepX K h s H h' s1 H1) : Ext (hide h H) (hide h' H1) := fun x o e _ => by
  unfold hide at e ⊢
  split at e
  · cases e
  · rename_i hx
    have hx' : ¬ h' x = true := fun z => by
      rcases a.new x z with z | z
      · exact hx z
      · rw [z] at e; cases e
    rw [if_neg hx']
    refine a.fr x o ?_ e
    cases q : s x with
    | none => rfl
    | some u => exact absurd (i.own x u q) hx
/-- what is hidden more is forgotten -/
theorem StepX.back (i : SI K h s H) (a : StepX K h s H h' s1 H1) : Step K h s H s1 H1 := by
  refine ⟨a.dom, a.fr, fun x o e => ?_, fun x o e => (a.si.ob x o e).mono fun y u q _ => ?_, fun x z => a.si.hid x (a.le x z)⟩
  · cases q : s x with
    | none => rw [a.dom x q] at e; cases e
    | some u => exact i.own x u q
  · unfold hide at q ⊢
    split at q
    · cases q
    · rename_i hy
      rw [if_neg fun z => hy (a.le y z)]
      exact q
end

/-! ### what a loop or a comprehension goes over -/
abbrev FI := FA
/-- J yields the data ds, from (s, H) on -/
def IterD (K : PySem.W.Frag) (h : Addr → Bool) (J : It) (s : S) (H : Hp) (ds : List D) : Prop := ∀ h' s2 H2, StepX K h s H h' s2 H2 → ∀ i : Nat,
  (∀ d, ds[i]? = some d → J.go i H2 ∧ ∀ x H3, J.yld i H2 x H3 → Step K h' s2 H2 s2 H3 ∧ Rep K (hide h' H3) x d) ∧ (ds.length ≤ i → J.stop i H2)
def tDI (K : PySem.W.Frag) (f : FI) : TI := fun σ H R => ∃ (h : Addr → Bool) (s : S) (δ : Fr) (ds : List D) (s' : S), EnvR K (hide h H) σ δ ∧ SI K h s H ∧ f δ s = some (ds, s') ∧
  ∀ J H', Step K h s H s' H' → IterD K h J s' H' ds → R J H'
section
variable {X : Cx} {tg iter elt : Expr} {fi : FI} {ft : FG} {fb : FS} {fe : FE} {tt : FT} {pos : Pos} {vs : List Nat} {g : TG}
theorem imp_i {wi wi' : TI} (p : PI X tg iter wi) (i : ∀ σ H R, wi' σ H R → wi σ H R) : PI X tg iter wi' := ⟨fun pins s σ H R I h => p.run pins s σ H R I (i σ H R h)⟩

def loopF (ft : FG) (fb : FS) : List D → Fr → S → Option (Out × S)
  | [], δ, s => some (.nx δ, s)
  | d :: ds, δ, s => (ft d δ).bind fun δ1 => (fb δ1 s).bind fun p => match p.1 with
    | .nx δ2 => loopF ft fb ds δ2 p.2
    | .ct δ2 => loopF ft fb ds δ2 p.2
    | .bk δ2 => some (.nx δ2, p.2)
    | .rt d => some (.rt d, p.2)
def fFor (fi : FI) (ft : FG) (fb : FS) : FS := fun δ s => (fi δ s).bind fun p => loopF ft fb p.1 δ p.2
theorem ds_for {body : List Stmt} (hp : PassesOwn (model X.prog X.w) X.A X.env X.xe) (hc : X.calm = true) (hi : PI X tg iter (tDI X.K fi)) (hg : PG X tg g) (gt : GT X.K g ft vs) (hb : PSs X body (tDS X.K fb))
    (hs : ∀ x, foldedSetIterable iter X.env x = pure x := by intro _; rfl) : PS X (.For tg iter body [] pos) (tDS X.K (fFor fi ft fb)) := imp_s (ps_for hp hc hi hg hb hs) fun D σ H ⟨h, s, δ, o, s', er, si, q, w⟩ => by
  obtain ⟨⟨ds, s1⟩, q1, q⟩ := bind_some q
  refine ⟨h, s, δ, ds, s1, er, si, q1, fun J H1 st1 it => ?_⟩
  refine ⟨fun i m σ2 H2 => ∃ s2 δ2, m = ds.length - i ∧ i ≤ ds.length ∧ Step X.K h s1 H1 s2 H2 ∧ EnvR X.K (hide h H2) σ2 δ2 ∧ loopF ft fb (ds.drop i) δ2 s2 = some (o, s'), ⟨_, s1, δ, rfl, Nat.zero_le _, Step.refl st1.si, er.mono (st1.ext si), q⟩, ?_⟩
  rintro i m σ2 H2 ⟨s2, δ2, rfl, hi', st2, er2, q2⟩
  by_cases hlt : i < ds.length
  · have e1 : ds[i]? = some ds[i] := List.getElem?_eq_getElem hlt
    rw [List.drop_eq_getElem_cons hlt] at q2
    obtain ⟨δ3, q3, q2⟩ := bind_some (show (ft ds[i] δ2).bind _ = some (o, s') from q2)
    obtain ⟨⟨o4, s4⟩, q4, q2⟩ := bind_some q2
    obtain ⟨go, yl⟩ := (it h s2 H2 (StepX.of st2) i).1 _ e1
    refine .inr ⟨go, fun σ' H' => (∃ m', m' < ds.length - i ∧ ∃ s2 δ2, m' = ds.length - (i + 1) ∧ i + 1 ≤ ds.length ∧ Step X.K h s1 H1 s2 H' ∧ EnvR X.K (hide h H') σ' δ2 ∧ loopF ft fb (ds.drop (i + 1)) δ2 s2 = some (o, s')), fun σ' H' z => z, fun x H3 y => ?_⟩
    obtain ⟨st3, r3⟩ := yl x H3 y
    refine gt (hide h H3) x σ2 H3 _ δ2 δ3 _ (hide_sub h H3) (er2.mono (st3.ext st2.si)) r3 q3 fun σ3 er3 _ => ?_
    refine ⟨h, s2, δ3, o4, s4, er3, st3.si, q4, fun H4 st4 => ?_⟩
    have st14 : Step X.K h s1 H1 s4 H4 := st2.trans (st3.trans st4)
    cases o4 with
    | nx δ4 => exact fun σ' er' => ⟨_, by omega, s4, δ4, rfl, hlt, st14, er', q2⟩
    | ct δ4 => exact fun σ' er' => ⟨_, by omega, s4, δ4, rfl, hlt, st14, er', q2⟩
    | bk δ4 => cases q2; exact w H4 (st1.trans st14)
    | rt d => cases q2; exact w H4 (st1.trans st14)
  · have e : i = ds.length := by omega
    subst e
    rw [List.drop_length] at q2
    cases q2
    exact .inl ⟨(it h _ H2 (StepX.of st2) ds.length).2 (Nat.le_refl _), w H2 (st1.trans st2) σ2 er2⟩

@[simp] def wipeD (δ : Fr) : List Nat → Fr
  | [] => δ
  | v :: vs => (wipeD δ vs).set v none
theorem EnvR.wipe {K : PySem.W.Frag} {H : Hp} {σ : L2.St} {δ : Fr} (r : EnvR K H σ δ) : ∀ vs : List Nat, EnvR K H (wipe σ vs) (wipeD δ vs)
  | [] => r
  | v :: vs => (EnvR.wipe r vs).clear v
def compL (ft : FG) (tt : FT) (fe : FE) : List D → Fr → S → Option (List D × S)
  | [], _, s => some ([], s)
  | d :: ds, δ, s => (ft d δ).bind fun δ1 => (tt δ1 s).bind fun p => if p.1 = true then (fe δ1 p.2).bind fun q => (compL ft tt fe ds δ q.2).map fun r => (q.1 :: r.1, r.2) else compL ft tt fe ds δ p.2
def fComp (vs : List Nat) (fi : FI) (ft : FG) (tt : FT) (fe : FE) : FE := fun δ s => (fi δ s).bind fun p => if okLen p.1.length = true then (compL ft tt fe p.1 (wipeD δ vs) p.2).map fun q => (.lst q.1, q.2) else none
theorem lc_of {K : PySem.W.Frag} (gt : GT K g ft vs) {σ : L2.St} {H : Hp} {Q : VK} (hq : tD K (fComp vs fi ft tt fe) σ H Q) : tLc (tDI K fi) g (tDT K tt) (tD K fe) vs σ H Q := by
  obtain ⟨h, s, δ, d, s', er, si, q, w⟩ := hq
  obtain ⟨⟨ds, s1⟩, q1, q⟩ := bind_some q
  split at q
  rotate_left
  · cases q
  rename_i hl
  obtain ⟨⟨out, sf⟩, qc, q'⟩ := map_some q
  cases q'
  refine ⟨h, s, δ, ds, s1, er, si, q1, fun J H1 st1 it D hD => ?_⟩
  have i1 := st1.si
  -- the new list is hidden while it grows
  let h' : Addr → Bool := fun a => h a || decide (a = D)
  have hh' : h' D = true := by simp [h']
  have x0 : StepX K h s1 H1 h' s1 (upd H1 D (.lst [])) := by
    refine ⟨fun a z => by simp [h', z], fun a z => ?_, fun _ z => z, fun a o _ z => by rw [upd_ne (ne_of_none z hD)]; exact z, fun a o z => ?_, fun a o z => ?_, fun a z => ?_⟩
    · by_cases e : a = D
      · exact .inr (by rw [e]; exact hD)
      · exact .inl (by simpa [h', e] using z)
    · have := i1.own a o z
      simp [h', this]
    · have ob := i1.ob a o z
      have ne : a ≠ D := fun e => ob.there (by rw [e]; exact hD)
      rw [upd_ne ne]
      refine ob.mono fun b u q _ => ?_
      unfold hide at q ⊢
      split at q
      · cases q
      · rename_i hb
        have nb : b ≠ D := ne_of_none q hD
        rw [if_neg (by simp [h', hb, nb]), upd_ne nb]
        exact q
    · by_cases e : a = D
      · rw [e, upd_same]; exact fun z => nomatch z
      · rw [upd_ne e]
        exact i1.hid a (by simpa [h', e] using z)
  refine ⟨fun i m H2 => ∃ s2 acc accD rest, m = ds.length - i ∧ i ≤ ds.length ∧ StepX K h s1 H1 h' s2 H2 ∧ H2 D = some (.lst acc) ∧ Reps K (hide h' H2) acc accD ∧ acc.length ≤ i ∧ compL ft tt fe (ds.drop i) (wipeD δ vs) s2 = some (rest, sf) ∧ accD ++ rest = out,
    ⟨_, s1, [], [], out, rfl, Nat.zero_le _, x0, upd_same, .nil, Nat.le_refl _, qc, rfl⟩, ?_⟩
  rintro i m H2 ⟨s2, acc, accD, rest, rfl, hi', x2, hD2, ra, hal, q2, eo⟩
  have hsD : ∀ {s : S} {H : Hp}, StepX K h s1 H1 h' s H → s D = none := fun x => x.dom D (by
    cases e : s1 D with
    | none => rfl
    | some u => exact absurd hD ((i1.ob D u e).there))
  by_cases hlt : i < ds.length
  · have e1 : ds[i]? = some ds[i] := List.getElem?_eq_getElem hlt
    rw [List.drop_eq_getElem_cons hlt] at q2
    obtain ⟨δ3, q3, q2⟩ := bind_some (show (ft ds[i] (wipeD δ vs)).bind _ = some (rest, sf) from q2)
    obtain ⟨⟨k, s4⟩, q4, q2⟩ := bind_some q2
    obtain ⟨go, yl⟩ := (it h' s2 H2 x2 i).1 _ e1
    refine .inr ⟨go, fun H' => (∃ m', m' < ds.length - i ∧ ∃ s2 acc accD rest, m' = ds.length - (i + 1) ∧ i + 1 ≤ ds.length ∧ StepX K h s1 H1 h' s2 H' ∧ H' D = some (.lst acc) ∧ Reps K (hide h' H') acc accD ∧ acc.length ≤ i + 1 ∧ compL ft tt fe (ds.drop (i + 1)) (wipeD δ vs) s2 = some (rest, sf) ∧ accD ++ rest = out), fun H' z => z, fun x H3 y => ?_⟩
    obtain ⟨st3, r3⟩ := yl x H3 y
    have er3 : EnvR K (hide h' H3) (wipe σ vs) (wipeD δ vs) := ((er.wipe vs).mono (st1.ext si)).mono ((x2.trans st3).ext i1)
    refine gt (hide h' H3) x (wipe σ vs) H3 _ _ δ3 _ (hide_sub h' H3) er3 r3 q3 fun σ3 er4 hw => ⟨hw.trans ?_, ?_⟩
    · have ww : ∀ (us : List Nat) (σ : L2.St) (v : Nat), v ∈ us → (wipe σ us).set v none = wipe σ us := by
        intro us
        induction us with
        | nil => intro σ v hv; cases hv
        | cons u us ih =>
          intro σ v hv
          unfold wipe
          by_cases e : v = u
          · subst e; rw [List.set_set]
          · rw [List.set_comm _ _ (Ne.symm e), ih σ v ((List.mem_cons.mp hv).resolve_left e)]
      have : ∀ (us : List Nat), (∀ v ∈ us, v ∈ vs) → wipe (wipe σ vs) us = wipe σ vs := by
        intro us
        induction us with
        | nil => intro _; rfl
        | cons u us ih =>
          intro hu
          show (wipe (wipe σ vs) us).set u none = wipe σ vs
          rw [ih fun v hv => hu v (List.mem_cons_of_mem _ hv)]
          exact ww vs σ u (hu u List.mem_cons_self)
      exact this vs fun v hv => hv
    · refine ⟨h', s2, δ3, k, s4, er4, st3.si, q4, fun H4 st4 => ?_⟩
      have x4 : StepX K h s1 H1 h' s4 H4 := (x2.trans st3).trans st4
      have hD4 : H4 D = some (.lst acc) := st4.fr D _ (hsD (x2.trans st3)) (st3.fr D _ (hsD x2) hD2)
      have ra4 : Reps K (hide h' H4) acc accD := st4.reps st3.si (st3.reps x2.si ra)
      cases k with
      | false =>
        rw [if_neg Bool.false_ne_true] at q2
        refine iteF ?_
        exact ⟨_, by omega, s4, acc, accD, rest, rfl, hlt, x4, hD4, ra4, by omega, q2, eo⟩
      | true =>
        rw [if_pos rfl] at q2
        refine iteT ?_
        obtain ⟨⟨z, s5⟩, q5, q2⟩ := bind_some q2
        obtain ⟨⟨rest', sf'⟩, q6, q2⟩ := map_some q2
        cases q2
        refine ⟨h', s4, δ3, z, s5, er4.mono (st4.ext st3.si), st4.si, q5, fun v H5 st5 r5 => ?_⟩
        have x5 : StepX K h s1 H1 h' s5 H5 := x4.trans st5
        have hD5 : H5 D = some (.lst acc) := st5.fr D _ (hsD x4) hD4
        have ra5 : Reps K (hide h' H5) acc accD := st5.reps st4.si ra4
        have hid5 : ∀ o, hide h' (upd H5 D o) = hide h' H5 := fun o => by
          funext b
          unfold hide
          by_cases e : b = D
          · rw [e, hh', if_pos rfl, if_pos rfl]
          · rw [upd_ne e]
        refine ⟨acc, hD5, Nat.lt_of_le_of_lt (Nat.le_trans hal hi') (okLen_lt hl), ?_⟩
        refine ⟨_, by omega, s5, acc ++ [v], accD ++ [z], rest', rfl, hlt, ?_, upd_same, ?_, by simp only [List.length_append, List.length_singleton]; omega, q6, by rw [← eo, List.append_assoc]; rfl⟩
        · refine ⟨x5.le, x5.new, x5.dom, fun a o z e => ?_, x5.si.own, fun a o z => ?_, fun a z => ?_⟩
          · rw [upd_ne (ne_of_none e hD)]; exact x5.fr a o z e
          · have ob := x5.si.ob a o z
            have ne : a ≠ D := fun e => by rw [e, hsD x5] at z; cases z
            rw [upd_ne ne, hid5]
            exact ob
          · by_cases e : a = D
            · rw [e, upd_same]; exact fun z => nomatch z
            · rw [upd_ne e]; exact x5.si.hid a z
        · rw [hid5]
          exact ra5.append (.cons r5 .nil)
  · have e : i = ds.length := by omega
    subst e
    rw [List.drop_length] at q2
    cases q2
    rw [List.append_nil] at eo
    subst eo
    have stb := x2.back i1
    refine .inl ⟨(it h' _ H2 x2 ds.length).2 (Nat.le_refl _), w _ H2 (st1.trans stb) (.lst ?_ (Reps.mono ?_ _ _ ra))⟩
    · have hn : h D = false := by
        cases e : h D with
        | false => rfl
        | true => exact absurd hD (i1.hid D e)
      unfold hide
      rw [hn, if_neg Bool.false_ne_true]
      exact hD2
    · intro b u z _
      unfold hide at z ⊢
      split at z
      · cases z
      · rename_i hb
        rw [if_neg fun y => hb (x2.le b y)]
        exact z
theorem d_lc {ifs : List Expr} {scope : Scope} {own : List (Str × Nat)} (hc : X.calm = true) (hN : X.N.Nodup) (hi : PI X tg iter (tDI X.K fi)) (ok : BlkOk X.N X.env.scope scope own) (gt : GT X.K g ft (own.map (·.2)))
    (hg : ∀ (s : Shared) (H : Hp) (C : Addr) (cl : List (Str × Addr)) (fp : List Addr), PG (X.blk s H scope (compEnvC scope cl C X.env) fp) tg g) (ht : ∀ (s : Shared) (H : Hp) (C : Addr) (cl : List (Str × Addr)) (fp : List Addr), PTs (X.blk s H scope (compEnvC scope cl C X.env) fp) ifs (tDT X.K tt))
    (he : ∀ (s : Shared) (H : Hp) (C : Addr) (cl : List (Str × Addr)) (fp : List Addr), PE (X.blk s H scope (compEnvC scope cl C X.env) fp) elt (tD X.K fe)) (hs : ∀ x, foldedSetIterable iter X.env x = pure x := by intro _; rfl) :
    PE X (.ListComp elt [⟨tg, iter, ifs, 0⟩] scope pos) (tD X.K (fComp (own.map (·.2)) fi ft tt fe)) := imp_e (pe_lc hc hN hi ok hg ht he hs) fun σ H Q hq => lc_of gt hq
theorem ds_setLc {i : Nat} {y : Str} {py spos : Pos} {ifs : List Expr} {scope : Scope} {own : List (Str × Nat)} (hc : X.calm = true) (hN : X.N.Nodup) (hy : X.N[i]? = some y) (hyl : X.env.scope.names.lookup y = some .local)
    (hsw : swapsWith (.ListComp elt [⟨tg, iter, ifs, 0⟩] scope pos) (some (.Name y py)) spos.line X.env = pure true) (hi : PI X tg iter (tDI X.K fi)) (ok : BlkOk X.N X.env.scope scope own) (gt : GT X.K g ft (own.map (·.2)))
    (hg : ∀ (s : Shared) (H : Hp) (C : Addr) (cl : List (Str × Addr)) (fp : List Addr), PG (X.blk s H scope (compEnvC scope cl C X.env) fp) tg g) (ht : ∀ (s : Shared) (H : Hp) (C : Addr) (cl : List (Str × Addr)) (fp : List Addr), PTs (X.blk s H scope (compEnvC scope cl C X.env) fp) ifs (tDT X.K tt))
    (he : ∀ (s : Shared) (H : Hp) (C : Addr) (cl : List (Str × Addr)) (fp : List Addr), PE (X.blk s H scope (compEnvC scope cl C X.env) fp) elt (tD X.K fe)) (hs : ∀ x, foldedSetIterable iter X.env x = pure x := by intro _; rfl) :
    PS X (.Assign [.Name y py] (.ListComp elt [⟨tg, iter, ifs, 0⟩] scope pos) spos) (tDS X.K (fSet i (fComp (own.map (·.2)) fi ft tt fe))) :=
  ds_setT (ps_setLc hc hN hy hyl hsw hi ok hg ht he hs) fun σ H Q hq => lc_of gt hq
def tTrue : FT := fun _ s => some (true, s)
theorem dts_nil : PTs X [] (tDT X.K tTrue) := ⟨fun pins s σ H Q I hq => by
  obtain ⟨h, s, δ, d, s', er, si, q, w⟩ := hq
  cases q
  exact (pts_nil (X := X)).run pins _ σ H Q I (w H (Step.refl si))⟩
theorem dts_one {c : Expr} (h : PT X c (tDT X.K tt)) : PTs X [c] (tDT X.K tt) := pts_one h
end
end Fw

set_option Elab.async false
set_option linter.all false
set_option maxRecDepth 100000
namespace Fw
open PySem PySem.Spec PyProof.Rows L2
end Fw

set_option Elab.async false
set_option linter.all false
set_option maxRecDepth 100000
namespace Fw
open PySem PySem.Spec PyProof.Rows L2

/-! ### data by themselves -/
mutual
def toPy : D → Option PyData
  | .non => some .none
  | .bl b => some (.bool b)
  | .int i => some (.int i)
  | .str x => some (.str x)
  | .tup ds => (toPys ds).map .tuple
  | .lst ds => (toPys ds).map .list
  | .ref _ => none
  | .ty _ => none
  | .scr _ => none
def toPys : List D → Option (List PyData)
  | [] => some []
  | d :: ds => (toPy d).bind fun p => (toPys ds).map fun ps => p :: ps
end
section
variable {K : PySem.W.Frag} {H : Hp}
mutual
theorem rep_dp : ∀ (d : D) (v : V) (p : PyData), Rep K H v d → toPy d = some p → Dp K H v p
  | .non, _, _, h, e => by cases h; cases (show some PyData.none = some _ from e); exact .non
  | .bl b, _, _, h, e => by cases h; cases (show some (PyData.bool b) = some _ from e); exact .bl _
  | .int i, _, _, h, e => by cases h; cases (show some (PyData.int i) = some _ from e); exact .int _
  | .str x, _, _, h, e => by cases h; cases (show some (PyData.str x) = some _ from e); exact .str _
  | .tup ds, _, _, h, e => by
    cases h with
    | tup q r =>
      obtain ⟨ps, e1, e2⟩ := map_some (show (toPys ds).map PyData.tuple = some _ from e)
      subst e2
      exact .tup q.sq (rep_dps ds _ _ r e1)
  | .lst ds, _, _, h, e => by
    cases h with
    | lst q r =>
      obtain ⟨ps, e1, e2⟩ := map_some (show (toPys ds).map PyData.list = some _ from e)
      subst e2
      exact .lst (SqL.of q) (rep_dps ds _ _ r e1)
  | .ref _, _, _, _, e => by cases (show none = some _ from e)
  | .ty _, _, _, _, e => by cases (show none = some _ from e)
  | .scr _, _, _, _, e => by cases (show none = some _ from e)
theorem rep_dps : ∀ (ds : List D) (vs : List V) (ps : List PyData), Reps K H vs ds → toPys ds = some ps → DpAll K H vs ps
  | [], _, _, h, e => by cases h; cases (show some [] = some _ from e); exact .nil
  | d :: ds, _, _, h, e => by
    cases h with
    | cons a b =>
      obtain ⟨p, e1, e2⟩ := bind_some (show (toPy d).bind _ = some _ from e)
      obtain ⟨ps, e3, e4⟩ := map_some e2
      subst e4
      exact .cons (rep_dp d _ _ a e1) (rep_dps ds _ _ b e3)
end
end
section
variable {K : PySem.W.Frag} {h : Addr → Bool} {H : Hp}
theorem Rep.un {v : V} {d : D} (r : Rep K (hide h H) v d) : Rep K H v d := Rep.mono (hide_sub h H) _ _ r
theorem Reps.un {v : List V} {d : List D} (r : Reps K (hide h H) v d) : Reps K H v d := Reps.mono (hide_sub h H) _ _ r
theorem rep_int {v : V} {i : Int} (r : Rep K H v (.int i)) : v = .int i := by cases r; rfl
theorem rep_str {v : V} {i : Str} (r : Rep K H v (.str i)) : v = .str i := by cases r; rfl
theorem rep_non {v : V} (r : Rep K H v .non) : v = .non := by cases r; rfl
theorem rep_ty {v : V} {n : String} (r : Rep K H v (.ty n)) : v = .ty n := by cases r; rfl
theorem rep_ref {v : V} {a : Addr} (r : Rep K H v (.ref a)) : v = .ref a := by cases r; rfl
theorem rep_tupZ {v : V} {ds : List D} (r : Rep K H v (.tup ds)) : ∃ a xs, v = .ref a ∧ SqZ K H a xs ∧ Reps K H xs ds := by cases r with | tup q r => exact ⟨_, _, rfl, q, r⟩
theorem rep_tup {v : V} {ds : List D} (r : Rep K H v (.tup ds)) : ∃ a xs, v = .ref a ∧ SqT K H a xs ∧ Reps K H xs ds := by cases r with | tup q r => exact ⟨_, _, rfl, q.sq, r⟩
theorem sqz_un {a : Addr} {xs : List V} (q : SqZ K (hide h H) a xs) : SqZ K H a xs := ext_z (hide_sub h H) q
theorem rep_lst {v : V} {ds : List D} (r : Rep K H v (.lst ds)) : ∃ a xs, v = .ref a ∧ H a = some (.lst xs) ∧ Reps K H xs ds := by cases r with | lst q r => exact ⟨_, _, rfl, q, r⟩
theorem rep_scr {v : V} {ns : List Int} (r : Rep K H v (.scr ns)) : ∃ a, v = .ref a ∧ SqL K H a (ns.map V.int) := by cases r with | scr q => exact ⟨_, rfl, q⟩
theorem len_zero {xs : List V} {ds : List D} (r : Reps K H xs ds) : xs = [] ↔ ds = [] := by
  have e := r.length
  constructor
  · intro z; rw [z] at e; exact List.eq_nil_of_length_eq_zero e.symm
  · intro z; rw [z] at e; exact List.eq_nil_of_length_eq_zero e
theorem sqt_un {a : Addr} {xs : List V} (q : SqT K (hide h H) a xs) : SqT K H a xs := ext_t (hide_sub h H) q
end

/-! ### + - * // % ** and signs -/
@[simp] def smallI (i : Int) : Bool := decide (-(2 ^ 64) < i) && decide (i < 2 ^ 64)
theorem smallI_ok {i : Int} (h : smallI i = true) : -(2 ^ 64) < i ∧ i < 2 ^ 64 := by
  unfold smallI at h
  rw [Bool.and_eq_true] at h
  exact ⟨of_decide_eq_true h.1, of_decide_eq_true h.2⟩
@[simp] def dAdd : G2 := fun x y _ => match x, y with
  | .int a, .int b => some (.int (a + b))
  | .str a, .str b => if okLen (a.length + b.length) = true then some (.str (a ++ b)) else none
  | .tup a, .tup b => if okLen (a.length + b.length) = true then some (.tup (a ++ b)) else none
  | .lst a, .lst b => if okLen (a.length + b.length) = true then some (.lst (a ++ b)) else none
  | _, _ => none
def rAddA (K : PySem.W.Frag) : R2 := fun x y H Q => (∃ i j, x = .int i ∧ y = .int j ∧ Q (.int (i + j)) H) ∨ ((∃ i j, x = .str i ∧ y = .str j ∧ i.length + j.length ≤ sizeLine ∧ Q (.str (i ++ j)) H) ∨ (rCatZ K x y H Q ∨ rCat x y H Q))
section
variable {X : Cx}
theorem op_addA : OpR X (binaryOp .Add) (rAddA X.K) := OpR.or op_add (OpR.or op_add_str (OpR.or op_catZ op_cat))
theorem g_add {K : PySem.W.Frag} : GOp K (rAddA K) dAdd := by
  intro h s H x y dx dy d Q si rx ry q w
  unfold dAdd at q
  split at q
  · cases q
    exact .inl ⟨_, _, rep_int rx, rep_int ry, w _ H (Step.refl si) (.int _)⟩
  · split at q
    · rename_i hl
      cases q
      exact .inr (.inl ⟨_, _, rep_str rx, rep_str ry, okLen_le hl, w _ H (Step.refl si) (.str _)⟩)
    · cases q
  · split at q
    · rename_i hl
      cases q
      obtain ⟨a, xs, rfl, qa, ra⟩ := rep_tupZ rx
      obtain ⟨b, ys, rfl, qb, rb⟩ := rep_tupZ ry
      refine .inr (.inr (.inl ⟨a, b, xs, ys, rfl, rfl, (sqz_un qa).sq, (sqz_un qb).sq, by rw [ra.length, rb.length]; exact okLen_le hl, fun e => ?_, fun _ e => ?_, fun _ _ p o hp hd => ?_⟩))
      · rw [(len_zero ra).mp e] at w
        exact w _ H (Step.refl si) (.tup qb rb)
      · rw [(len_zero rb).mp e, List.append_nil] at w
        exact w _ H (Step.refl si) (.tup qa ra)
      · exact w _ _ (Step.new si hp _) (new_tup si hp hd (ra.append rb))
    · cases q
  · split at q
    · rename_i hl
      cases q
      obtain ⟨a, xs, rfl, qa, ra⟩ := rep_lst rx
      obtain ⟨b, ys, rfl, qb, rb⟩ := rep_lst ry
      exact .inr (.inr (.inr ⟨a, b, xs, ys, rfl, rfl, hide_ext _ _ _ _ qa, hide_ext _ _ _ _ qb, by rw [ra.length, rb.length]; exact okLen_le hl, fun p hp => w _ _ (Step.new si hp _) (new_lst si hp (ra.append rb))⟩))
    · cases q
  · cases q
@[simp] def dSub : G2 := fun x y _ => match x, y with
  | .int a, .int b => some (.int (a - b))
  | _, _ => none
theorem g_sub {K : PySem.W.Frag} : GOp K (rI0 fun i j => .int (i - j)) dSub := by
  intro h s H x y dx dy d Q si rx ry q w
  unfold dSub at q
  split at q
  · cases q
    exact ⟨_, _, rep_int rx, rep_int ry, w _ H (Step.refl si) (.int _)⟩
  · cases q
@[simp] def dMul : G2 := fun x y _ => match x, y with
  | .int a, .int b => if (smallI a || smallI b) = true then some (.int (a * b)) else none
  | .tup a, .int k => if (decide (a.length ≤ 1000) && (decide (-1000 ≤ k) && decide (k ≤ 1000))) = true then some (.tup (List.replicate k.toNat a).flatten) else none
  | .lst a, .int k => if (decide (a.length ≤ 1000) && (decide (-1000 ≤ k) && decide (k ≤ 1000))) = true then some (.lst (List.replicate k.toNat a).flatten) else none
  | _, _ => none
def rMulA (K : PySem.W.Frag) : R2 := fun x y H Q => rI CMul (fun i j => .int (i * j)) x y H Q ∨ (rRepZ K x y H Q ∨ rRep x y H Q)
theorem op_mulA : OpR X (binaryOp .Mult) (rMulA X.K) := OpR.or op_mul (OpR.or op_repZ op_rep)
theorem g_mul {K : PySem.W.Frag} : GOp K (rMulA K) dMul := by
  intro h s H x y dx dy d Q si rx ry q w
  unfold dMul at q
  split at q
  · split at q
    · rename_i hl
      cases q
      refine .inl ⟨_, _, rep_int rx, rep_int ry, ?_, w _ H (Step.refl si) (.int _)⟩
      rw [Bool.or_eq_true] at hl
      exact hl.imp smallI_ok smallI_ok
    · cases q
  · split at q
    · rename_i a k hl
      cases q
      simp only [Bool.and_eq_true, decide_eq_true_eq] at hl
      obtain ⟨p0, xs, rfl, qa, ra⟩ := rep_tupZ rx
      refine .inr (.inl ⟨p0, k, xs, rfl, rep_int ry, (sqz_un qa).sq, hl.2.1, hl.2.2, by rw [ra.length]; exact hl.1, fun e => ?_, fun e e2 p o hp hd => ?_⟩)
      · have ee : (List.replicate k.toNat a).flatten = a := by
          rcases e with e | e
          · have := (len_zero ra).mp e
            subst this
            simp
          · subst e
            simp
        rw [ee] at w
        exact w _ H (Step.refl si) (.tup qa ra)
      · exact w _ _ (Step.new si hp _) (new_tup si hp hd (Reps.rep _ ra))
    · cases q
  · split at q
    · rename_i a k hl
      cases q
      simp only [Bool.and_eq_true, decide_eq_true_eq] at hl
      obtain ⟨p0, xs, rfl, qa, ra⟩ := rep_lst rx
      have hz : xs.length * k.toNat ≤ sizeLine := by
        rw [ra.length, sizeLine_eq]
        have a1 : a.length * k.toNat ≤ 1000 * 1000 := Nat.mul_le_mul hl.1 (by omega)
        omega
      exact .inr (.inr ⟨p0, k, xs, rfl, rep_int ry, hide_ext _ _ _ _ qa, by omega, by omega, hz, fun p hp => w _ _ (Step.new si hp _) (new_lst si hp (Reps.rep _ ra))⟩)
    · cases q
  · cases q
@[simp] def dDiv : G2 := fun x y _ => match x, y with
  | .int a, .int b => if (decide (0 < b) && decide (b < 1073741824)) = true then some (.int (a / b)) else none
  | _, _ => none
theorem g_div {K : PySem.W.Frag} : GOp K (rI CDiv fun i j => .int (i / j)) dDiv := by
  intro h s H x y dx dy d Q si rx ry q w
  unfold dDiv at q
  split at q
  · split at q
    · rename_i hl
      cases q
      simp only [Bool.and_eq_true, decide_eq_true_eq] at hl
      exact ⟨_, _, rep_int rx, rep_int ry, hl, w _ H (Step.refl si) (.int _)⟩
    · cases q
  · cases q
@[simp] def dMod : G2 := fun x y _ => match x, y with
  | .int a, .int b => if decide (0 < b) = true then some (.int (a % b)) else none
  | _, _ => none
theorem g_mod {K : PySem.W.Frag} : GOp K (rI (fun _ j => 0 < j) fun i j => .int (i % j)) dMod := by
  intro h s H x y dx dy d Q si rx ry q w
  unfold dMod at q
  split at q
  · split at q
    · rename_i hl
      cases q
      exact ⟨_, _, rep_int rx, rep_int ry, of_decide_eq_true hl, w _ H (Step.refl si) (.int _)⟩
    · cases q
  · cases q
@[simp] def dPow : G2 := fun x y _ => match x, y with
  | .int a, .int b => if (decide (0 ≤ b) && (decide (b ≤ 1000000) && decide (a.natAbs < 2 ^ 64))) = true then some (.int (a ^ b.toNat)) else none
  | _, _ => none
theorem g_pow {K : PySem.W.Frag} : GOp K (rI CPow fun i j => .int (i ^ j.toNat)) dPow := by
  intro h s H x y dx dy d Q si rx ry q w
  unfold dPow at q
  split at q
  · split at q
    · rename_i hl
      cases q
      simp only [Bool.and_eq_true, decide_eq_true_eq] at hl
      exact ⟨_, _, rep_int rx, rep_int ry, hl, w _ H (Step.refl si) (.int _)⟩
    · cases q
  · cases q
def fNeg (fa : FE) : FE := f1 (fun x _ => match x with
  | .int i => some (.int (-i))
  | _ => none) fa
theorem d_neg {a : Expr} {fa : FE} {pos : Pos} (ha : PE X a (tD X.K fa)) : PE X (.UnaryOp .USub a pos) (tD X.K (fNeg fa)) := imp_e (pe_un un_neg ha) fun σ H Q ⟨h, s, δ, d, s', er, si, q, w⟩ => by
  obtain ⟨⟨x, s1⟩, q1, q⟩ := bind_some q
  obtain ⟨z, q2, q⟩ := map_some q
  cases q
  dsimp only at q2
  split at q2
  · cases q2
    exact ⟨h, s, δ, _, _, er, si, q1, fun v H1 st1 r1 => ⟨_, rep_int r1, w _ H1 st1 (.int _)⟩⟩
  · cases q2

/-! ### comparisons -/
@[simp] def scalD : D → D → Option Bool
  | .non, .non => some true
  | .non, .int _ => some false
  | .int _, .non => some false
  | .non, .bl _ => some false
  | .bl _, .non => some false
  | .non, .str _ => some false
  | .str _, .non => some false
  | .int a, .int b => some (decide (a = b))
  | .bl a, .bl b => some (decide (a = b))
  | .str a, .str b => some (decide (a = b))
  | .int _, .str _ => some false
  | .str _, .int _ => some false
  | .bl _, .str _ => some false
  | .str _, .bl _ => some false
  | _, _ => none
def deepD (x y : D) : Option Bool := match toPy x, toPy y with
  | some p, some q => if (SeqAt.shaped p && SeqAt.shaped q) = true then some (PyData.eqv p q) else none
  | _, _ => none
@[simp] def eqD (x y : D) : Option Bool := match scalD x y with
  | some b => some b
  | none => deepD x y
@[simp] def dEq (x y : D) (_ : S) : Option D := (eqD x y).map .bl
@[simp] def dNe (x y : D) (_ : S) : Option D := (eqD x y).map fun b => .bl (!b)
theorem scal_ok {K : PySem.W.Frag} {H : Hp} {x y : V} {dx dy : D} {b : Bool} (rx : Rep K H x dx) (ry : Rep K H y dy) (q : scalD dx dy = some b) : scal x y = true ∧ decide (x = y) = b := by
  cases rx <;> cases ry <;> first
    | (cases (show none = some _ from q))
    | (cases (show some _ = some _ from q); exact ⟨rfl, by first | rfl | (simp)⟩)
theorem eqD_cases {x y : D} {b : Bool} (q : eqD x y = some b) : scalD x y = some b ∨ deepD x y = some b := by
  unfold eqD at q
  split at q
  · rename_i e; exact .inl (by rw [e, q])
  · exact .inr q
theorem deepD_ok {K : PySem.W.Frag} {H : Hp} {x y : V} {dx dy : D} {b : Bool} (rx : Rep K H x dx) (ry : Rep K H y dy) (q : deepD dx dy = some b) : ∃ p r, Dp K H x p ∧ Dp K H y r ∧ SeqAt.shaped p = true ∧ SeqAt.shaped r = true ∧ PyData.eqv p r = b := by
  unfold deepD at q
  split at q
  · rename_i p r e1 e2
    split at q
    · rename_i hs
      cases q
      rw [Bool.and_eq_true] at hs
      exact ⟨p, r, rep_dp _ _ _ rx e1, rep_dp _ _ _ ry e2, hs.1, hs.2, rfl⟩
    · cases q
  · cases q
def rEqA (K : PySem.W.Frag) : R2 := fun x y H Q => rEq x y H Q ∨ rEqD K x y H Q
def rNeA (K : PySem.W.Frag) : R2 := fun x y H Q => rNe x y H Q ∨ rNeD K x y H Q
theorem op_eqA (hu : X.A.units + 64 < cLine) : OpR X (compareOp .Eq) (rEqA X.K) := OpR.or op_eq (op_eqD hu)
theorem op_neA (hu : X.A.units + 64 < cLine) : OpR X (compareOp .NotEq) (rNeA X.K) := OpR.or op_ne (op_neD hu)
theorem g_eq {K : PySem.W.Frag} : GOp K (rEqA K) dEq := by
  intro h s H x y dx dy d Q si rx ry q w
  obtain ⟨b, qq, e⟩ := map_some q
  subst e
  rcases eqD_cases qq with q | q
  · obtain ⟨q1, q2⟩ := scal_ok rx ry q
    exact .inl ⟨q1, by rw [q2]; exact w _ H (Step.refl si) (.bl b)⟩
  · obtain ⟨p, r, a1, a2, a3, a4, a5⟩ := deepD_ok rx.un ry.un q
    exact .inr ⟨p, r, a1, a2, a3, a4, by rw [a5]; exact w _ H (Step.refl si) (.bl b)⟩
theorem g_ne {K : PySem.W.Frag} : GOp K (rNeA K) dNe := by
  intro h s H x y dx dy d Q si rx ry q w
  obtain ⟨b, qq, e⟩ := map_some q
  subst e
  rcases eqD_cases qq with q | q
  · obtain ⟨q1, q2⟩ := scal_ok rx ry q
    exact .inl ⟨q1, by rw [q2]; exact w _ H (Step.refl si) (.bl _)⟩
  · obtain ⟨p, r, a1, a2, a3, a4, a5⟩ := deepD_ok rx.un ry.un q
    exact .inr ⟨p, r, a1, a2, a3, a4, by rw [a5]; exact w _ H (Step.refl si) (.bl _)⟩
@[simp] def dCmpI (f : Int → Int → Bool) : G2 := fun x y _ => match x, y with
  | .int a, .int b => some (.bl (f a b))
  | _, _ => none
theorem g_cmpI {K : PySem.W.Frag} {f : Int → Int → Bool} : GOp K (rI0 fun i j => .bl (f i j)) (dCmpI f) := by
  intro h s H x y dx dy d Q si rx ry q w
  unfold dCmpI at q
  split at q
  · cases q
    exact ⟨_, _, rep_int rx, rep_int ry, w _ H (Step.refl si) (.bl _)⟩
  · cases q
abbrev dLt : G2 := dCmpI fun i j => decide (i < j)
abbrev dLe : G2 := dCmpI fun i j => decide (i ≤ j)
abbrev dGt : G2 := dCmpI fun i j => decide (j < i)
abbrev dGe : G2 := dCmpI fun i j => decide (j ≤ i)
/-- flat data -/
@[simp] def flatD : D → Bool
  | .non => true
  | .bl _ => true
  | .int _ => true
  | .str _ => true
  | _ => false
@[simp] def eqF : D → D → Bool
  | .non, .non => true
  | .bl a, .bl b => a == b
  | .bl a, .int b => (if a then 1 else 0) == b
  | .int a, .bl b => a == (if b then 1 else 0)
  | .int a, .int b => a == b
  | .str a, .str b => a == b
  | _, _ => false
theorem flat_ok {K : PySem.W.Frag} {H : Hp} {v : V} {d : D} (r : Rep K H v d) (f : flatD d = true) : flatV v = true := by
  cases r <;> first | rfl | (cases (show false = true from f))
theorem eqF_ok {K : PySem.W.Frag} {H : Hp} {x y : V} {dx dy : D} (rx : Rep K H x dx) (ry : Rep K H y dy) (fx : flatD dx = true) (fy : flatD dy = true) : eqV x y = eqF dx dy := by
  cases rx <;> cases ry <;> first | rfl | (cases (show false = true from fx)) | (cases (show false = true from fy))
theorem flats_ok {K : PySem.W.Frag} {H : Hp} : ∀ {vs : List V} {ds : List D}, Reps K H vs ds → ds.all flatD = true → vs.all flatV = true
  | _, _, .nil, _ => rfl
  | _, _, .cons r t, f => by
    rw [List.all_cons, Bool.and_eq_true] at f
    rw [List.all_cons, flat_ok r f.1, flats_ok t f.2]
    rfl
theorem any_ok {K : PySem.W.Frag} {H : Hp} {x : V} {dx : D} (rx : Rep K H x dx) (fx : flatD dx = true) : ∀ {vs : List V} {ds : List D}, Reps K H vs ds → ds.all flatD = true → vs.any (fun y => eqV y x) = ds.any fun y => eqF y dx
  | _, _, .nil, _ => rfl
  | _, _, .cons r t, f => by
    rw [List.all_cons, Bool.and_eq_true] at f
    rw [List.any_cons, List.any_cons, eqF_ok r rx f.1 fx, any_ok rx fx t f.2]
@[simp] def itemsD : D → Option (List D)
  | .tup ds => some ds
  | .lst ds => some ds
  | _ => none
def dIn (x y : D) (_ : S) : Option D := (itemsD y).bind fun ds => if (flatD x && ds.all flatD) = true then some (.bl (ds.any fun z => eqF z x)) else none
def dNotIn (x y : D) (_ : S) : Option D := (itemsD y).bind fun ds => if (flatD x && ds.all flatD) = true then some (.bl (!ds.any fun z => eqF z x)) else none
@[simp] theorem dIn_tup_str (x : Str) (ds : List D) (s : S) : dIn (.str x) (.tup ds) s = if ds.all flatD = true then some (.bl (ds.any fun z => eqF z (.str x))) else none := rfl
@[simp] theorem dIn_tup_int (x : Int) (ds : List D) (s : S) : dIn (.int x) (.tup ds) s = if ds.all flatD = true then some (.bl (ds.any fun z => eqF z (.int x))) else none := rfl
@[simp] theorem dIn_tup_bl (x : Bool) (ds : List D) (s : S) : dIn (.bl x) (.tup ds) s = if ds.all flatD = true then some (.bl (ds.any fun z => eqF z (.bl x))) else none := rfl
@[simp] theorem dIn_lst_str (x : Str) (ds : List D) (s : S) : dIn (.str x) (.lst ds) s = if ds.all flatD = true then some (.bl (ds.any fun z => eqF z (.str x))) else none := rfl
@[simp] theorem dIn_lst_int (x : Int) (ds : List D) (s : S) : dIn (.int x) (.lst ds) s = if ds.all flatD = true then some (.bl (ds.any fun z => eqF z (.int x))) else none := rfl
@[simp] theorem dIn_lst_bl (x : Bool) (ds : List D) (s : S) : dIn (.bl x) (.lst ds) s = if ds.all flatD = true then some (.bl (ds.any fun z => eqF z (.bl x))) else none := rfl
@[simp] theorem dNotIn_tup_str (x : Str) (ds : List D) (s : S) : dNotIn (.str x) (.tup ds) s = if ds.all flatD = true then some (.bl (!ds.any fun z => eqF z (.str x))) else none := rfl
@[simp] theorem dNotIn_tup_int (x : Int) (ds : List D) (s : S) : dNotIn (.int x) (.tup ds) s = if ds.all flatD = true then some (.bl (!ds.any fun z => eqF z (.int x))) else none := rfl
@[simp] theorem dNotIn_tup_bl (x : Bool) (ds : List D) (s : S) : dNotIn (.bl x) (.tup ds) s = if ds.all flatD = true then some (.bl (!ds.any fun z => eqF z (.bl x))) else none := rfl
@[simp] theorem dNotIn_lst_str (x : Str) (ds : List D) (s : S) : dNotIn (.str x) (.lst ds) s = if ds.all flatD = true then some (.bl (!ds.any fun z => eqF z (.str x))) else none := rfl
@[simp] theorem dNotIn_lst_int (x : Int) (ds : List D) (s : S) : dNotIn (.int x) (.lst ds) s = if ds.all flatD = true then some (.bl (!ds.any fun z => eqF z (.int x))) else none := rfl
@[simp] theorem dNotIn_lst_bl (x : Bool) (ds : List D) (s : S) : dNotIn (.bl x) (.lst ds) s = if ds.all flatD = true then some (.bl (!ds.any fun z => eqF z (.bl x))) else none := rfl
theorem items_ok {K : PySem.W.Frag} {H : Hp} {v : V} {d : D} {ds : List D} (r : Rep K H v d) (q : itemsD d = some ds) : ∃ p xs, v = .ref p ∧ (SqL K H p xs ∨ SqT K H p xs) ∧ Reps K H xs ds := by
  cases d with
  | tup es =>
    cases (show some es = some ds from q)
    obtain ⟨a, xs, e, q1, q2⟩ := rep_tup r
    exact ⟨a, xs, e, .inr q1, q2⟩
  | lst es =>
    cases (show some es = some ds from q)
    obtain ⟨a, xs, e, q1, q2⟩ := rep_lst r
    exact ⟨a, xs, e, .inl (SqL.of q1), q2⟩
  | _ => cases (show none = some ds from q)
theorem g_in {K : PySem.W.Frag} : GOp K (rIn K false) dIn := by
  intro h s H x y dx dy d Q si rx ry q w
  obtain ⟨ds, q1, q⟩ := bind_some q
  split at q
  · rename_i hf
    cases q
    rw [Bool.and_eq_true] at hf
    obtain ⟨p, xs, rfl, qs, rs⟩ := items_ok ry.un q1
    refine ⟨p, xs, rfl, qs, flat_ok rx hf.1, flats_ok rs hf.2, ?_⟩
    rw [if_neg Bool.false_ne_true, show inV x xs = _ from any_ok rx.un hf.1 rs hf.2]
    exact w _ H (Step.refl si) (.bl _)
  · cases q
theorem g_notIn {K : PySem.W.Frag} : GOp K (rIn K true) dNotIn := by
  intro h s H x y dx dy d Q si rx ry q w
  obtain ⟨ds, q1, q⟩ := bind_some q
  split at q
  · rename_i hf
    cases q
    rw [Bool.and_eq_true] at hf
    obtain ⟨p, xs, rfl, qs, rs⟩ := items_ok ry.un q1
    refine ⟨p, xs, rfl, qs, flat_ok rx hf.1, flats_ok rs hf.2, ?_⟩
    rw [if_pos rfl, show inV x xs = _ from any_ok rx.un hf.1 rs hf.2]
    exact w _ H (Step.refl si) (.bl _)
  · cases q
/-- is None; is True, is False -/
@[simp] def isND : D → Bool
  | .non => true
  | _ => false
theorem isN_ok {K : PySem.W.Frag} {H : Hp} {v : V} {d : D} (r : Rep K H v d) : decide (v = .non) = isND d := by
  cases r <;> first | rfl | (exact decide_eq_false (fun z => nomatch z))
@[simp] def dIs (neg : Bool) : G2 := fun x y _ => match x, y with
  | x, .non => some (.bl (if neg then !isND x else isND x))
  | .bl a, .bl b => some (.bl (if neg then !decide (a = b) else decide (a = b)))
  | _, _ => none
def rIsA : R2 := fun x y H Q => (y = .non ∧ Q (.bl (decide (x = .non))) H) ∨ rIsB x y H Q
def rIsNotA : R2 := fun x y H Q => (y = .non ∧ Q (.bl (!decide (x = .non))) H) ∨ rNotB x y H Q
theorem op_isA : OpR X (compareOp .Is) rIsA := OpR.or op_isN op_isBl
theorem op_isNotA : OpR X (compareOp .IsNot) rIsNotA := OpR.or op_notN op_notBl
theorem g_is {K : PySem.W.Frag} : GOp K rIsA (dIs false) := by
  intro h s H x y dx dy d Q si rx ry q w
  unfold dIs at q
  split at q
  · cases q
    exact .inl ⟨rep_non ry, by rw [isN_ok rx]; exact w _ H (Step.refl si) (.bl _)⟩
  · cases q
    exact .inr ⟨_, _, rep_bl rx, rep_bl ry, w _ H (Step.refl si) (.bl _)⟩
  · cases q
theorem g_isNot {K : PySem.W.Frag} : GOp K rIsNotA (dIs true) := by
  intro h s H x y dx dy d Q si rx ry q w
  unfold dIs at q
  split at q
  · cases q
    exact .inl ⟨rep_non ry, by rw [isN_ok rx]; exact w _ H (Step.refl si) (.bl _)⟩
  · cases q
    exact .inr ⟨_, _, rep_bl rx, rep_bl ry, w _ H (Step.refl si) (.bl _)⟩
  · cases q
end
end Fw

set_option Elab.async false
set_option linter.all false
set_option maxRecDepth 100000
namespace Fw
open PySem PySem.Spec PyProof.Rows L2

/-! ### items -/
theorem atI_cast {α : Type} (xs : List α) (n : Nat) : L2.atI xs (n : Int) = xs[n]? := by
  unfold L2.atI ixN
  rw [if_pos (Int.natCast_nonneg n)]
  by_cases h : n < xs.length
  · rw [if_pos (by omega)]; rfl
  · rw [if_neg (by omega), List.getElem?_eq_none (by omega)]; rfl
@[simp] theorem atI_ofNat {α : Type} (xs : List α) (n : Nat) : L2.atI xs (no_index (@OfNat.ofNat Int n _)) = xs[n]? := atI_cast xs n
@[simp] theorem ixN_ofNat (m n : Nat) : ixN m (no_index (@OfNat.ofNat Int n _)) = if n < m then some n else none := by
  show ixN m (n : Int) = _
  unfold ixN
  rw [if_pos (Int.natCast_nonneg n)]
  by_cases h : n < m
  · rw [if_pos (by omega), if_pos h]; rfl
  · rw [if_neg (by omega), if_neg h]

theorem Reps.atI {K : PySem.W.Frag} {H : Hp} {xs : List V} {ds : List D} {i : Int} {d : D} (r : Reps K H xs ds) (q : atI ds i = some d) : ∃ v, L2.atI xs i = some v ∧ Rep K H v d := by
  unfold L2.atI at q ⊢
  obtain ⟨j, q1, q2⟩ := bind_some q
  rw [r.length, q1]
  exact r.get q2
@[simp] def dIx : G2 := fun x y s => match x, y with
  | .tup ds, .int i => atI ds i
  | .lst ds, .int i => atI ds i
  | .scr ns, .int i => (atI ns i).map .int
  | .str z, .int i => if okLen z.length = true then (atI z.cps.toList i).map fun c => .str ⟨#[c]⟩ else none
  | .ref a, .int i => match s a with
    | some (.lst ds) => atI ds i
    | _ => none
  | _, _ => none
theorem atI_map {α β : Type} (f : α → β) (xs : List α) (i : Int) : L2.atI (xs.map f) i = (L2.atI xs i).map f := by
  unfold L2.atI
  rw [List.length_map]
  cases ixN xs.length i with
  | none => rfl
  | some j => show (xs.map f)[j]? = (xs[j]?).map f; rw [List.getElem?_map]
section
variable {X : Cx} {e a b c : Expr} {es : List Expr} {fe fa fb : FE} {fs : FA} {pos : Pos}
theorem g_ix {K : PySem.W.Frag} : GOp K (rIx K) dIx := by
  intro h s H x y dx dy d Q si rx ry q w
  unfold dIx at q
  split at q
  · obtain ⟨p, xs, rfl, q1, q2⟩ := rep_tup rx
    obtain ⟨v, e1, r1⟩ := q2.atI q
    exact .inr (.inl ⟨p, xs, _, v, rfl, rep_int ry, sqt_un q1, e1, w _ H (Step.refl si) r1⟩)
  · obtain ⟨p, xs, rfl, q1, q2⟩ := rep_lst rx
    obtain ⟨v, e1, r1⟩ := q2.atI q
    exact .inl ⟨p, xs, _, v, rfl, rep_int ry, SqL.of (hide_ext _ _ _ _ q1), e1, w _ H (Step.refl si) r1⟩
  · obtain ⟨p, rfl, q1⟩ := rep_scr rx
    obtain ⟨n, e1, e2⟩ := map_some q
    subst e2
    refine .inl ⟨p, _, _, .int n, rfl, rep_int ry, ext_l (hide_sub _ _) q1, ?_, w _ H (Step.refl si) (.int n)⟩
    rw [atI_map, e1]
    rfl
  · split at q
    · rename_i hl
      obtain ⟨c, e1, e2⟩ := map_some q
      subst e2
      exact .inr (.inr ⟨_, _, c, rep_str rx, rep_int ry, okLen_le hl, e1, w _ H (Step.refl si) (.str _)⟩)
    · cases q
  · split at q
    · rename_i ds e
      obtain ⟨xs, e2, r2⟩ := si.ob _ _ e
      obtain ⟨v, e1, r1⟩ := r2.atI q
      exact .inl ⟨_, xs, _, v, rep_ref rx, rep_int ry, SqL.of e2, e1, w _ H (Step.refl si) r1⟩
    · cases q
  · cases q
theorem d_ix (ha : PE X a (tD X.K fa)) (hb : PE X b (tD X.K fb)) (hs : PlainIx b) : PE X (.Subscript a b pos) (tD X.K (f2 dIx fa fb)) := d_2 ha hb g_ix (pe_ix ix_seq ha hb hs)

/-! ### slices -/
abbrev FO := Fr → S → Option (Option Int × S)
def tDO (K : PySem.W.Frag) (f : FO) : TO := fun σ H Q => ∃ (h : Addr → Bool) (s : S) (δ : Fr) (d : Option Int) (s' : S), EnvR K (hide h H) σ δ ∧ SI K h s H ∧ f δ s = some (d, s') ∧
  ∀ H', Step K h s H s' H' → Q d H'
def fNo : FO := fun _ s => some (none, s)
def fYes (fe : FE) : FO := fun δ s => (fe δ s).bind fun p => match p.1 with
  | .int i => some (some i, p.2)
  | _ => none
theorem imp_o {oe : Option Expr} {t t' : TO} (p : PO X oe t) (i : ∀ σ H Q, t' σ H Q → t σ H Q) : PO X oe t' := ⟨fun pins s σ H Q I h => p.run pins s σ H Q I (i σ H Q h)⟩
theorem do_no : PO X none (tDO X.K fNo) := imp_o po_none fun σ H Q ⟨h, s, δ, d, s', er, si, q, w⟩ => by
  cases q
  exact w H (Step.refl si)
theorem do_yes (he : PE X e (tD X.K fe)) : PO X (some e) (tDO X.K (fYes fe)) := imp_o (po_some he) fun σ H Q ⟨h, s, δ, d, s', er, si, q, w⟩ => by
  obtain ⟨⟨x, s1⟩, q1, q⟩ := bind_some q
  cases x with
  | int i =>
    cases q
    exact ⟨h, s, δ, _, _, er, si, q1, fun v H1 st1 r1 => ⟨i, rep_int r1, w H1 st1⟩⟩
  | _ => cases q
def cutD (xs : List D) (lo hi : Option Int) : List D := (xs.drop (HT.sIx xs.length 0 lo)).take (HT.sIx xs.length xs.length hi - HT.sIx xs.length 0 lo)
theorem Reps.cut {K : PySem.W.Frag} {H : Hp} {xs : List V} {ds : List D} (r : Reps K H xs ds) (lo hi : Option Int) : Reps K H (cutV xs lo hi) (cutD ds lo hi) := by
  unfold cutV cutD
  rw [r.length]
  exact (r.drop _).take _
theorem cut_whole {K : PySem.W.Frag} {H : Hp} {xs : List V} {ds : List D} (r : Reps K H xs ds) {l u : Option Int} (hw : HT.sIx xs.length 0 l = 0 ∧ HT.sIx xs.length xs.length u = xs.length) : cutD ds l u = ds := by
  unfold cutD
  rw [← r.length, hw.1, hw.2, List.drop_zero]
  exact List.take_of_length_le (by rw [r.length]; exact Nat.le_refl _)
def fSlice (fe : FE) (fl fh : FO) : FE := fun δ s => (fe δ s).bind fun p => (fl δ p.2).bind fun l => (fh δ l.2).bind fun u => match p.1 with
  | .tup ds => some (.tup (cutD ds l.1 u.1), u.2)
  | .lst ds => some (.lst (cutD ds l.1 u.1), u.2)
  | _ => none
theorem d_slice {lo hi : Option Expr} {fl fh : FO} {p2 : Pos} (he : PE X e (tD X.K fe)) (hl : PO X lo (tDO X.K fl)) (hu : PO X hi (tDO X.K fh)) : PE X (.Subscript e (.Slice lo hi none p2) pos) (tD X.K (fSlice fe fl fh)) :=
  imp_e (pe_slice (SlR.or sl_tupZ sl_list) he hl hu) fun σ H Q ⟨h, s, δ, d, s', er, si, q, w⟩ => by
  obtain ⟨⟨x, s1⟩, q1, q⟩ := bind_some q
  obtain ⟨⟨l, s2⟩, q2, q⟩ := bind_some q
  obtain ⟨⟨u, s3⟩, q3, q⟩ := bind_some q
  refine ⟨h, s, δ, x, s1, er, si, q1, fun v H1 st1 r1 => ⟨h, s1, δ, l, s2, er.mono (st1.ext si), st1.si, q2, fun H2 st2 => ⟨h, s2, δ, u, s3, (er.mono (st1.ext si)).mono (st2.ext st1.si), st2.si, q3, fun H3 st3 => ?_⟩⟩⟩
  have st : Step X.K h s H s3 H3 := st1.trans (st2.trans st3)
  have r3 := st3.rep st2.si (st2.rep st1.si r1)
  dsimp only at q
  split at q
  · cases q
    obtain ⟨p, xs, rfl, q1, rs⟩ := rep_tupZ r3
    refine .inl ⟨p, xs, rfl, (sqz_un q1).sq, fun hw => ?_, fun _ p' o hp hd => w _ _ (st.trans (Step.new st.si hp _)) (new_tup st.si hp hd (rs.cut l u))⟩
    rw [cut_whole rs hw] at w
    exact w _ H3 st (.tup q1 rs)
  · cases q
    obtain ⟨p, xs, rfl, q1, rs⟩ := rep_lst r3
    exact .inr ⟨p, xs, rfl, SqL.of (hide_ext _ _ _ _ q1), fun p' hp => w _ _ (st.trans (Step.new st.si hp _)) (new_lst st.si hp (rs.cut l u))⟩
  · cases q

/-! ### built-in calls -/
@[simp] def dLen : GL := fun ds s => match ds with
  | [.tup xs] => some (.int (xs.length : Nat))
  | [.lst xs] => some (.int (xs.length : Nat))
  | [.scr xs] => some (.int (xs.length : Nat))
  | [.str z] => if okLen z.length = true then some (.int (z.length : Nat)) else none
  | [.ref a] => match s a with
    | some (.lst xs) => some (.int (xs.length : Nat))
    | _ => none
  | _ => none
theorem g_len {K : PySem.W.Frag} : GCall K (fun xs H Q => ∃ x n, xs = [x] ∧ LenV K x H n ∧ Q (.int n) H) dLen := by
  intro h s H vs ds d Q si rs q w
  unfold dLen at q
  split at q
  · cases q
    obtain ⟨v, rfl, r⟩ := reps1 rs
    obtain ⟨p, xs, rfl, q1, q2⟩ := rep_tup r
    exact ⟨_, _, rfl, .inr ⟨xs, sqt_un q1, rfl⟩, by rw [q2.length]; exact w _ H (Step.refl si) (.int _)⟩
  · cases q
    obtain ⟨v, rfl, r⟩ := reps1 rs
    obtain ⟨p, xs, rfl, q1, q2⟩ := rep_lst r
    exact ⟨_, _, rfl, .inl ⟨xs, SqL.of (hide_ext _ _ _ _ q1), rfl⟩, by rw [q2.length]; exact w _ H (Step.refl si) (.int _)⟩
  · cases q
    obtain ⟨v, rfl, r⟩ := reps1 rs
    obtain ⟨p, rfl, q1⟩ := rep_scr r
    exact ⟨_, _, rfl, .inl ⟨_, ext_l (hide_sub _ _) q1, rfl⟩, by rw [List.length_map]; exact w _ H (Step.refl si) (.int _)⟩
  · split at q
    · rename_i hl
      cases q
      obtain ⟨v, rfl, r⟩ := reps1 rs
      cases rep_str r
      exact ⟨_, _, rfl, ⟨okLen_le hl, rfl⟩, w _ H (Step.refl si) (.int _)⟩
    · cases q
  · split at q
    · rename_i e
      cases q
      obtain ⟨v, rfl, r⟩ := reps1 rs
      cases rep_ref r
      obtain ⟨xs, e2, r2⟩ := si.ob _ _ e
      exact ⟨_, _, rfl, .inl ⟨xs, SqL.of e2, rfl⟩, by rw [r2.length]; exact w _ H (Step.refl si) (.int _)⟩
    · cases q
  · cases q
@[simp] def dInt : GL := fun ds _ => match ds with
  | [.int i] => some (.int i)
  | [.bl k] => some (.int (if k then 1 else 0))
  | _ => none
theorem g_int {K : PySem.W.Frag} : GCall K (fun xs H Q => (∃ i, xs = [.int i] ∧ Q (.int i) H) ∨ ∃ k, xs = [.bl k] ∧ Q (.int (if k then 1 else 0)) H) dInt := by
  intro h s H vs ds d Q si rs q w
  unfold dInt at q
  split at q
  · cases q
    obtain ⟨v, rfl, r⟩ := reps1 rs
    cases rep_int r
    exact .inl ⟨_, rfl, w _ H (Step.refl si) (.int _)⟩
  · cases q
    obtain ⟨v, rfl, r⟩ := reps1 rs
    cases rep_bl r
    exact .inr ⟨_, rfl, w _ H (Step.refl si) (.int _)⟩
  · cases q
@[simp] def dTuple : GL := fun ds s => match ds with
  | [.tup xs] => some (.tup xs)
  | [.lst xs] => some (.tup xs)
  | [.ref a] => match s a with
    | some (.lst xs) => some (.tup xs)
    | _ => none
  | _ => none
theorem g_tuple {K : PySem.W.Frag} : GCall K (fun xs H Q => ∃ p ys, xs = [.ref p] ∧ ((SqL K H p ys ∧ NewZ H ys Q) ∨ (SqT K H p ys ∧ Q (.ref p) H))) dTuple := by
  intro h s H vs ds d Q si rs q w
  unfold dTuple at q
  split at q
  · cases q
    obtain ⟨v, rfl, r⟩ := reps1 rs
    obtain ⟨p, xs, rfl, q1, q2⟩ := rep_tupZ r
    exact ⟨p, xs, rfl, .inr ⟨(sqz_un q1).sq, w _ H (Step.refl si) (.tup q1 q2)⟩⟩
  · cases q
    obtain ⟨v, rfl, r⟩ := reps1 rs
    obtain ⟨p, xs, rfl, q1, q2⟩ := rep_lst r
    exact ⟨p, xs, rfl, .inl ⟨SqL.of (hide_ext _ _ _ _ q1), fun l o hl hd => w _ _ (Step.new si hl _) (new_tup si hl hd q2)⟩⟩
  · split at q
    · rename_i e
      cases q
      obtain ⟨v, rfl, r⟩ := reps1 rs
      cases rep_ref r
      obtain ⟨xs, e2, r2⟩ := si.ob _ _ e
      exact ⟨_, _, rfl, .inl ⟨SqL.of e2, fun l o hl hd => w _ _ (Step.new si hl _) (new_tup si hl hd r2)⟩⟩
    · cases q
  · cases q
@[simp] def dList : GL := fun ds s => match ds with
  | [.tup xs] => some (.lst xs)
  | [.lst xs] => some (.lst xs)
  | [.ref a] => match s a with
    | some (.lst xs) => some (.lst xs)
    | _ => none
  | _ => none
theorem g_list {K : PySem.W.Frag} : GCall K (fun xs H Q => ∃ p ys, xs = [.ref p] ∧ (SqL K H p ys ∨ SqT K H p ys) ∧ ∀ l, H l = none → Q (.ref l) (upd H l (.lst ys))) dList := by
  intro h s H vs ds d Q si rs q w
  unfold dList at q
  split at q
  · cases q
    obtain ⟨v, rfl, r⟩ := reps1 rs
    obtain ⟨p, xs, rfl, q1, q2⟩ := rep_tup r
    exact ⟨p, xs, rfl, .inr (sqt_un q1), fun l hl => w _ _ (Step.new si hl _) (new_lst si hl q2)⟩
  · cases q
    obtain ⟨v, rfl, r⟩ := reps1 rs
    obtain ⟨p, xs, rfl, q1, q2⟩ := rep_lst r
    exact ⟨p, xs, rfl, .inl (SqL.of (hide_ext _ _ _ _ q1)), fun l hl => w _ _ (Step.new si hl _) (new_lst si hl q2)⟩
  · split at q
    · rename_i e
      cases q
      obtain ⟨v, rfl, r⟩ := reps1 rs
      cases rep_ref r
      obtain ⟨xs, e2, r2⟩ := si.ob _ _ e
      exact ⟨_, _, rfl, .inl (SqL.of e2), fun l hl => w _ _ (Step.new si hl _) (new_lst si hl r2)⟩
    · cases q
  · cases q
@[simp] def intsD : List D → Option (List Int)
  | [] => some []
  | .int i :: r => (intsD r).map fun is => i :: is
  | _ => none
theorem intsD_ok {K : PySem.W.Frag} {H : Hp} : ∀ {ds : List D} {xs : List V} {is : List Int}, Reps K H xs ds → intsD ds = some is → xs = is.map V.int
  | [], _, _, r, e => by cases r; cases (show some [] = some _ from e); rfl
  | .int i :: ds, _, _, r, e => by
    cases r with
    | cons a t =>
      obtain ⟨js, e1, e2⟩ := map_some (show (intsD ds).map _ = some _ from e)
      subst e2
      rw [rep_int a, intsD_ok t e1]
      rfl
  | .non :: _, _, _, _, e => by cases (show none = some _ from e)
  | .bl _ :: _, _, _, _, e => by cases (show none = some _ from e)
  | .str _ :: _, _, _, _, e => by cases (show none = some _ from e)
  | .tup _ :: _, _, _, _, e => by cases (show none = some _ from e)
  | .lst _ :: _, _, _, _, e => by cases (show none = some _ from e)
  | .ref _ :: _, _, _, _, e => by cases (show none = some _ from e)
  | .ty _ :: _, _, _, _, e => by cases (show none = some _ from e)
  | .scr _ :: _, _, _, _, e => by cases (show none = some _ from e)
@[simp] def blsD : List D → Option (List Bool)
  | [] => some []
  | .bl i :: r => (blsD r).map fun is => i :: is
  | _ => none
theorem blsD_ok {K : PySem.W.Frag} {H : Hp} : ∀ {ds : List D} {xs : List V} {is : List Bool}, Reps K H xs ds → blsD ds = some is → xs = is.map V.bl
  | [], _, _, r, e => by cases r; cases (show some [] = some _ from e); rfl
  | .bl i :: ds, _, _, r, e => by
    cases r with
    | cons a t =>
      obtain ⟨js, e1, e2⟩ := map_some (show (blsD ds).map _ = some _ from e)
      subst e2
      rw [rep_bl a, blsD_ok t e1]
      rfl
  | .non :: _, _, _, _, e => by cases (show none = some _ from e)
  | .int _ :: _, _, _, _, e => by cases (show none = some _ from e)
  | .str _ :: _, _, _, _, e => by cases (show none = some _ from e)
  | .tup _ :: _, _, _, _, e => by cases (show none = some _ from e)
  | .lst _ :: _, _, _, _, e => by cases (show none = some _ from e)
  | .ref _ :: _, _, _, _, e => by cases (show none = some _ from e)
  | .ty _ :: _, _, _, _, e => by cases (show none = some _ from e)
  | .scr _ :: _, _, _, _, e => by cases (show none = some _ from e)
@[simp] def dSum : GL := fun ds _ => match ds with
  | [.lst xs] => (intsD xs).map fun is => .int is.sum
  | _ => none
theorem g_sum {K : PySem.W.Frag} : GCall K (rSum K) dSum := by
  intro h s H vs ds d Q si rs q w
  unfold dSum at q
  split at q
  · obtain ⟨is, e1, e2⟩ := map_some q
    subst e2
    obtain ⟨v, rfl, r⟩ := reps1 rs
    obtain ⟨p, xs, rfl, q1, q2⟩ := rep_lst r
    exact ⟨p, is, rfl, by rw [← intsD_ok q2 e1]; exact SqL.of (hide_ext _ _ _ _ q1), w _ H (Step.refl si) (.int _)⟩
  · cases q
@[simp] def dAll : GL := fun ds _ => match ds with
  | [.lst xs] => (blsD xs).map fun is => .bl (is.all id)
  | _ => none
@[simp] def dAny : GL := fun ds _ => match ds with
  | [.lst xs] => (blsD xs).map fun is => .bl (is.any id)
  | _ => none
theorem g_all {K : PySem.W.Frag} : GCall K (rAll K) dAll := by
  intro h s H vs ds d Q si rs q w
  unfold dAll at q
  split at q
  · obtain ⟨is, e1, e2⟩ := map_some q
    subst e2
    obtain ⟨v, rfl, r⟩ := reps1 rs
    obtain ⟨p, xs, rfl, q1, q2⟩ := rep_lst r
    exact ⟨p, is, rfl, by rw [← blsD_ok q2 e1]; exact SqL.of (hide_ext _ _ _ _ q1), w _ H (Step.refl si) (.bl _)⟩
  · cases q
theorem g_any {K : PySem.W.Frag} : GCall K (rAny K) dAny := by
  intro h s H vs ds d Q si rs q w
  unfold dAny at q
  split at q
  · obtain ⟨is, e1, e2⟩ := map_some q
    subst e2
    obtain ⟨v, rfl, r⟩ := reps1 rs
    obtain ⟨p, xs, rfl, q1, q2⟩ := rep_lst r
    exact ⟨p, is, rfl, by rw [← blsD_ok q2 e1]; exact SqL.of (hide_ext _ _ _ _ q1), w _ H (Step.refl si) (.bl _)⟩
  · cases q

/-! ### isinstance -/
def tyD : D → Option String
  | .non => some "NoneType"
  | .bl _ => some "bool"
  | .int _ => some "int"
  | .str _ => some "str"
  | .tup _ => some "tuple"
  | .lst _ => some "list"
  | _ => none
theorem tyD_ok {K : PySem.W.Frag} {H : Hp} {v : V} {d : D} {n : String} (r : Rep K H v d) (e : tyD d = some n) : TyX K H v (.type n) := by
  cases r with
  | non => cases (show some _ = some _ from e); exact .base .non
  | bl b => cases (show some _ = some _ from e); exact .base (.bl b)
  | int b => cases (show some _ = some _ from e); exact .base (.int b)
  | str b => cases (show some _ = some _ from e); exact .base (.str b)
  | tup q r =>
    cases (show some _ = some _ from e)
    rcases q.sq with (q | ⟨o, q⟩) | ⟨o, its, n, q, c, _⟩
    · exact .base (.tup q)
    · exact .fTuple q
    · exact .kTuple q c
  | lst q r => cases (show some _ = some _ from e); exact .base (.lst q)
  | _ => cases (show none = some _ from e)
/-- of these types alone -/
inductive Ty5 where
  | int | bool | str | tuple | list
def Ty5.name : Ty5 → String
  | .int => "int" | .bool => "bool" | .str => "str" | .tuple => "tuple" | .list => "list"
@[simp] def isD : D → Ty5 → Option Bool
  | .non, _ => some false
  | .bl _, .int => some true
  | .bl _, .bool => some true
  | .bl _, _ => some false
  | .int _, .int => some true
  | .int _, _ => some false
  | .str _, .str => some true
  | .str _, _ => some false
  | .tup _, .tuple => some true
  | .tup _, _ => some false
  | .lst _, .list => some true
  | .lst _, _ => some false
  | _, _ => none
theorem isD_ok {K : PySem.W.Frag} {d : D} {t : Ty5} {b : Bool} (e : isD d t = some b) : ∃ n, tyD d = some n ∧ PySem.W.kitOne K (.type n) (.type t.name) = some b := by
  cases d <;> cases t <;> first
    | (cases (show none = some _ from e))
    | (cases (show some _ = some _ from e); exact ⟨_, rfl, kit_ty (by decide +kernel)⟩)
def dIsI (t : Ty5) : GL := fun ds _ => match ds with
  | [x, .ty _] => (isD x t).map .bl
  | _ => none
def fIsI (t : Ty5) (fa : FE) : FE := fun δ s => (fa δ s).bind fun p => (isD p.1 t).map fun b => (.bl b, p.2)
theorem d_isI {t : Ty5} {p p2 : Pos} {T : Str} (hg : Gl X "isinstance") (hm : X.mg "isinstance" = none) (ha : PE X a (tD X.K fa)) (hgT : Gl X T) (hmT : X.mg T = none) (hT : bootBuiltins T = some (.type t.name)) (hn : T ≠ "__name__" := by decide) (hdT : (T == ("__debug__" : Str)) = false := by decide)
    (he : starEach [a, .Name T p2] X.env = (false, eval a X.env) :: starEach [.Name T p2] X.env := by rfl) (he2 : starEach [.Name T p2] X.env = (false, eval (.Name T p2) X.env) :: starEach [] X.env := by rfl) (hpl : (backTo pos (starEach [.Name T p2] X.env)).any (·.1) = false := by rfl) :
    PE X (.Call (.Name "isinstance" p) [a, .Name T p2] [] pos) (tD X.K (fIsI t fa)) :=
  imp_e (pe_callB call_isi hg hm (by decide +kernel) (pa_cons ha (pa_cons (pe_bltn (v := .ty t.name) (pos := p2) hgT hmT hT rfl hn hdT) pa_nil he2) he) (by decide) (by decide) he hpl) fun σ H Q ⟨h, s, δ, d, s', er, si, q, w⟩ => by
  obtain ⟨⟨x, s1⟩, q1, q⟩ := bind_some q
  obtain ⟨b, q2, q⟩ := map_some q
  cases q
  refine ⟨h, s, δ, x, _, er, si, q1, fun v H1 st1 r1 => ?_⟩
  obtain ⟨n, e1, e2⟩ := isD_ok (K := X.K) q2
  exact ⟨v, _, .type n, .type t.name, b, rfl, .ty _, tyD_ok r1.un e1, e2, w _ H1 st1 (.bl b)⟩
def fIsI2 (t u : Ty5) (fa : FE) : FE := fun δ s => (fa δ s).bind fun p => (isD p.1 t).bind fun b => (isD p.1 u).map fun b' => (.bl (b || b'), p.2)
theorem d_isI2 {t u : Ty5} {p p2 p3 p4 : Pos} {k : Nat} {T U : Str} (hg : Gl X "isinstance") (hm : X.mg "isinstance" = none) (ha : PE X a (tD X.K fa)) (hgT : Gl X T) (hmT : X.mg T = none) (hT : bootBuiltins T = some (.type t.name)) (hgU : Gl X U) (hmU : X.mg U = none) (hU : bootBuiltins U = some (.type u.name))
    (hn : T ≠ "__name__" := by decide) (hdT : (T == ("__debug__" : Str)) = false := by decide) (hnU : U ≠ "__name__" := by decide) (hdU : (U == ("__debug__" : Str)) = false := by decide)
    (he : starEach [a, .Tuple [.Name T p2, .Name U p3] k p4] X.env = (false, eval a X.env) :: starEach [.Tuple [.Name T p2, .Name U p3] k p4] X.env := by rfl)
    (he2 : starEach [.Tuple [.Name T p2, .Name U p3] k p4] X.env = (false, eval (.Tuple [.Name T p2, .Name U p3] k p4) X.env) :: starEach [] X.env := by rfl)
    (he3 : starEach [.Name T p2, .Name U p3] X.env = (false, eval (.Name T p2) X.env) :: starEach [.Name U p3] X.env := by rfl) (he4 : starEach [.Name U p3] X.env = (false, eval (.Name U p3) X.env) :: starEach [] X.env := by rfl)
    (hpl : (backTo pos (starEach [.Tuple [.Name T p2, .Name U p3] k p4] X.env)).any (·.1) = false := by rfl) :
    PE X (.Call (.Name "isinstance" p) [a, .Tuple [.Name T p2, .Name U p3] k p4] [] pos) (tD X.K (fIsI2 t u fa)) :=
  imp_e (pe_callB call_isiT hg hm (by decide +kernel) (pa_cons ha (pa_cons (pe_tup (pa_cons (pe_bltn (v := .ty t.name) (pos := p2) hgT hmT hT rfl hn hdT) (pa_cons (pe_bltn (v := .ty u.name) (pos := p3) hgU hmU hU rfl hnU hdU) pa_nil he4) he3)) pa_nil he2) he) (by decide) (by decide) he hpl) fun σ H Q ⟨h, s, δ, d, s', er, si, q, w⟩ => by
  obtain ⟨⟨x, s1⟩, q1, q⟩ := bind_some q
  obtain ⟨b, q2, q⟩ := bind_some q
  obtain ⟨b', q3, q⟩ := map_some q
  cases q
  refine ⟨h, s, δ, x, _, er, si, q1, fun v H1 st1 r1 => ⟨by show 2 ≤ sizeLine; decide, fun tp htp => ?_⟩⟩
  obtain ⟨n, e1, e2⟩ := isD_ok (K := X.K) q2
  obtain ⟨n', e1', e3⟩ := isD_ok (K := X.K) q3
  rw [e1] at e1'
  cases e1'
  refine ⟨v, tp, [.ty t.name, .ty u.name], .type n, [.type t.name, .type u.name], b || b', rfl, upd_same, .cons (.ty _) (.cons (.ty _) .nil), tyD_ok (Rep.mono (fun a o z _ => by rw [upd_ne (ne_of_none z htp)]; exact z) _ _ r1.un) e1, ?_, w _ _ (st1.trans (Step.new st1.si htp _)) (.bl _)⟩
  refine kitAny_cons e2 (fun eb => kitAny_cons e3 (fun eb' => ?_) fun eb' => ?_) fun eb => ?_
  · rw [eb, eb']; exact kitAny_nil
  · rw [eb']; exact Bool.or_true _
  · rw [eb]; rfl
end
end Fw

set_option Elab.async false
set_option linter.all false
set_option maxRecDepth 100000
namespace Fw
open PySem PySem.Spec PyProof.Rows L2
section
variable {X : Cx} {tg e a b c : Expr} {es : List Expr} {fe fa fb : FE} {fs : FA} {pos p : Pos}

/-! ### iteration -/
theorem iter_tup {K : PySem.W.Frag} {h : Addr → Bool} {s : S} {H : Hp} {p : Addr} {xs : List V} {ds : List D} (si : SI K h s H) (q : SqT K (hide h H) p xs) (r : Reps K (hide h H) xs ds) : IterD K h (Itt K p) s H ds := by
  intro h' s2 H2 x i
  have q2 : SqT K H2 p xs := sqt_un (ext_t (x.ext si) q)
  refine ⟨fun d e => ?_, fun hl => ⟨xs, q2, by rw [r.length]; exact hl⟩⟩
  obtain ⟨v, e1, r1⟩ := r.get e
  refine ⟨⟨xs, v, q2, e1⟩, fun y H3 hy => ?_⟩
  obtain ⟨rfl, hy⟩ := hy
  have := hy xs q2
  rw [e1] at this
  cases this
  exact ⟨Step.refl x.si, Rep.mono (x.ext si) _ _ r1⟩
theorem iter_lst {K : PySem.W.Frag} {h : Addr → Bool} {s : S} {H : Hp} {p : Addr} {xs : List V} {ds : List D} (si : SI K h s H) (q : hide h H p = some (.lst xs)) (r : Reps K (hide h H) xs ds) : IterD K h (Itl K p) s H ds := by
  intro h' s2 H2 x i
  have q2 : SqL K H2 p xs := SqL.of (hide_ext _ _ _ _ (x.ext si _ _ q fun ps z => nomatch z))
  refine ⟨fun d e => ?_, fun hl => ⟨xs, q2, by rw [r.length]; exact hl⟩⟩
  obtain ⟨v, e1, r1⟩ := r.get e
  refine ⟨⟨xs, v, q2, e1⟩, fun y H3 hy => ?_⟩
  obtain ⟨rfl, hy⟩ := hy
  have := hy xs q2
  rw [e1] at this
  cases this
  exact ⟨Step.refl x.si, Rep.mono (x.ext si) _ _ r1⟩
def fItems (fe : FE) : FI := fun δ s => (fe δ s).bind fun p => (itemsD p.1).map fun ds => (ds, p.2)
theorem di_items (he : PE X e (tD X.K fe)) : PI X tg e (tDI X.K (fItems fe)) := ⟨fun pins s0 σ H R I hq => by
  obtain ⟨h, s, δ, ds, s', er, si, q, w⟩ := hq
  obtain ⟨⟨x, s1⟩, q1, q⟩ := bind_some q
  obtain ⟨es, q2, q⟩ := map_some q
  cases q
  cases x with
  | tup es' =>
    cases (show some es' = some _ from q2)
    refine (pi_tup (tg := tg) he).run pins s0 σ H R I ⟨h, s, δ, _, _, er, si, q1, fun v H1 st1 r1 => ?_⟩
    obtain ⟨a, xs, rfl, qa, ra⟩ := rep_tup r1
    exact ⟨a, rfl, ⟨xs, sqt_un qa⟩, w _ H1 st1 (iter_tup st1.si qa ra)⟩
  | lst es' =>
    cases (show some es' = some _ from q2)
    refine (pi_list (tg := tg) he).run pins s0 σ H R I ⟨h, s, δ, _, _, er, si, q1, fun v H1 st1 r1 => ?_⟩
    obtain ⟨a, xs, rfl, qa, ra⟩ := rep_lst r1
    exact ⟨a, rfl, ⟨xs, SqL.of (hide_ext _ _ _ _ qa)⟩, w _ H1 st1 (iter_lst st1.si qa ra)⟩
  | _ => cases (show none = some _ from q2)⟩
/-- lo, lo + 1, .. -/
def rangeD (lo : Int) (n : Nat) : List D := (List.range n).map fun i => .int (lo + (i : Nat))
theorem rangeD_get {lo : Int} {n i : Nat} : (rangeD lo n)[i]? = if i < n then some (.int (lo + i)) else none := by
  unfold rangeD
  rw [List.getElem?_map]
  by_cases h : i < n
  · rw [List.getElem?_range h, if_pos h]; rfl
  · rw [if_neg h, List.getElem?_eq_none (by rw [List.length_range]; omega)]; rfl
@[simp] theorem rangeD_length (lo : Int) (n : Nat) : (rangeD lo n).length = n := by
  unfold rangeD
  rw [List.length_map, List.length_range]
theorem iter_range {K : PySem.W.Frag} {h : Addr → Bool} {s : S} {H : Hp} {lo : Int} {n : Nat} : IterD K h (Itr lo n) s H (rangeD lo n) := by
  intro h' s2 H2 x i
  refine ⟨fun d e => ?_, fun hl => by rw [rangeD_length] at hl; exact hl⟩
  rw [rangeD_get] at e
  split at e
  · rename_i hi
    cases e
    refine ⟨hi, fun y H3 hy => ?_⟩
    obtain ⟨rfl, rfl⟩ := hy
    exact ⟨Step.refl x.si, .int _⟩
  · cases e
def okR (i : Int) : Bool := decide (-10000000 ≤ i) && decide (i ≤ 10000000)
@[simp] theorem okR_iff (i : Int) : (okR i = true) = (-10000000 ≤ i ∧ i ≤ 10000000) := by unfold okR; simp
theorem okR_ok {i : Int} (h : okR i = true) : -(2 ^ 62) ≤ i ∧ i < 2 ^ 62 := by
  unfold okR at h
  rw [Bool.and_eq_true, decide_eq_true_eq, decide_eq_true_eq] at h
  omega
def fRange (fs : FA) : FI := fun δ s => (fs δ s).bind fun p => match p.1 with
  | [.int j] => if okR j = true then some (rangeD 0 j.toNat, p.2) else none
  | _ => none
def fRange2 (fs : FA) : FI := fun δ s => (fs δ s).bind fun p => match p.1 with
  | [.int i, .int j] => if (okR i && okR j) = true then some (rangeD i (j - i).toNat, p.2) else none
  | _ => none
theorem di_range {q : Pos} (hg : Gl X "range") (hm : X.mg "range" = none) (ha : PA X [a] (tDA X.K fs)) (hs : starEach [a] X.env = [(false, eval a X.env)] := by rfl) : PI X tg (.Call (.Name "range" q) [a] [] pos) (tDI X.K (fRange fs)) :=
  imp_i (pi_range1 hg hm ha hs) fun σ H R ⟨h, s, δ, ds, s', er, si, q, w⟩ => by
  obtain ⟨⟨xs, s1⟩, q1, q⟩ := bind_some q
  dsimp only at q
  split at q
  · split at q
    · rename_i hr
      cases q
      refine ⟨h, s, δ, _, _, er, si, q1, fun vs H1 st1 r1 => ?_⟩
      obtain ⟨v, rfl, r⟩ := reps1 r1
      cases rep_int r
      obtain ⟨b1, b2⟩ := okR_ok hr
      exact ⟨_, rfl, b1, b2, w _ H1 st1 iter_range⟩
    · cases q
  · cases q
theorem di_range2 {q : Pos} (hg : Gl X "range") (hm : X.mg "range" = none) (ha : PA X [a, b] (tDA X.K fs)) (hs : starEach [a, b] X.env = [(false, eval a X.env), (false, eval b X.env)] := by rfl) (hs2 : starEach [b] X.env = [(false, eval b X.env)] := by rfl) :
    PI X tg (.Call (.Name "range" q) [a, b] [] pos) (tDI X.K (fRange2 fs)) :=
  imp_i (pi_range2 hg hm ha hs hs2) fun σ H R ⟨h, s, δ, ds, s', er, si, q, w⟩ => by
  obtain ⟨⟨xs, s1⟩, q1, q⟩ := bind_some q
  dsimp only at q
  split at q
  · split at q
    · rename_i hr
      cases q
      rw [Bool.and_eq_true] at hr
      refine ⟨h, s, δ, _, _, er, si, q1, fun vs H1 st1 r1 => ?_⟩
      obtain ⟨v, u, rfl, r, r'⟩ := reps2 r1
      cases rep_int r
      cases rep_int r'
      obtain ⟨b1, b2⟩ := okR_ok hr.1
      obtain ⟨b3, b4⟩ := okR_ok hr.2
      exact ⟨_, _, rfl, ⟨b1, b2, b3, b4⟩, w _ H1 st1 iter_range⟩
    · cases q
  · cases q
/-- zip of two tuples, of two lists -/
@[simp] def zipD : List D → List D → List D
  | x :: xs, y :: ys => .tup [x, y] :: zipD xs ys
  | _, _ => []
theorem zipD_get : ∀ {xs ys : List D} {i : Nat} {d : D}, (zipD xs ys)[i]? = some d → ∃ x y, xs[i]? = some x ∧ ys[i]? = some y ∧ d = .tup [x, y]
  | x :: xs, y :: ys, 0, d, e => by
    have e' : (D.tup [x, y]) = d := Option.some.inj (by simpa [zipD] using e)
    exact ⟨x, y, rfl, rfl, e'.symm⟩
  | x :: xs, y :: ys, i + 1, d, e => by
    obtain ⟨x', y', a, b, c⟩ := zipD_get (xs := xs) (ys := ys) (i := i) (by simpa [zipD] using e)
    exact ⟨x', y', by simpa using a, by simpa using b, c⟩
  | [], ys, i, d, e => by simp [zipD] at e
  | x :: xs, [], i, d, e => by simp [zipD] at e
theorem zipD_length : ∀ xs ys : List D, (zipD xs ys).length = min xs.length ys.length
  | [], ys => by simp [zipD]
  | x :: xs, [] => by simp [zipD]
  | x :: xs, y :: ys => by
    have := zipD_length xs ys
    simp only [zipD, List.length_cons, this]
    omega
theorem pair_new {K : PySem.W.Frag} {h : Addr → Bool} {s : S} {H : Hp} {T : Addr} {o : Obj} {x y : V} {dx dy : D} (si : SI K h s H) (hT : H T = none) (hd : o.dict = none) (rx : Rep K (hide h H) x dx) (ry : Rep K (hide h H) y dy) :
    Step K h s H s (upd H T (.frz o (.tup [x, y]))) ∧ Rep K (hide h (upd H T (.frz o (.tup [x, y])))) (.ref T) (.tup [dx, dy]) :=
  ⟨Step.new si hT _, new_tup si hT hd (.cons rx (.cons ry .nil))⟩
theorem iter_zipT {K : PySem.W.Frag} {h : Addr → Bool} {s : S} {H : Hp} {p q : Addr} {xs ys : List V} {ds es : List D} (si : SI K h s H) (qa : SqT K (hide h H) p xs) (ra : Reps K (hide h H) xs ds) (qb : SqT K (hide h H) q ys) (rb : Reps K (hide h H) ys es) : IterD K h (ItzPT K p q) s H (zipD ds es) := by
  intro h' s2 H2 x i
  have q1 : SqT K H2 p xs := sqt_un (ext_t (x.ext si) qa)
  have q2 : SqT K H2 q ys := sqt_un (ext_t (x.ext si) qb)
  refine ⟨fun d e => ?_, fun hl => ⟨xs, ys, q1, q2, by rw [zipD_length] at hl; rw [ra.length, rb.length]; omega⟩⟩
  obtain ⟨dx, dy, ex, ey, rfl⟩ := zipD_get e
  obtain ⟨vx, ex', rx⟩ := ra.get ex
  obtain ⟨vy, ey', ry⟩ := rb.get ey
  refine ⟨⟨xs, ys, vx, vy, q1, q2, ex', ey'⟩, fun z H3 hy => ?_⟩
  obtain ⟨T, o, u1, u2, rfl, hT, hd, rfl, h1, h2⟩ := hy
  have a1 := h1 xs q1
  have a2 := h2 ys q2
  rw [ex'] at a1; cases a1
  rw [ey'] at a2; cases a2
  exact pair_new x.si hT hd (Rep.mono (x.ext si) _ _ rx) (Rep.mono (x.ext si) _ _ ry)
theorem iter_zipL {K : PySem.W.Frag} {h : Addr → Bool} {s : S} {H : Hp} {p q : Addr} {xs ys : List V} {ds es : List D} (si : SI K h s H) (qa : hide h H p = some (.lst xs)) (ra : Reps K (hide h H) xs ds) (qb : hide h H q = some (.lst ys)) (rb : Reps K (hide h H) ys es) : IterD K h (ItzP K p q) s H (zipD ds es) := by
  intro h' s2 H2 x i
  have q1 : SqL K H2 p xs := SqL.of (hide_ext _ _ _ _ (x.ext si _ _ qa fun ps z => nomatch z))
  have q2 : SqL K H2 q ys := SqL.of (hide_ext _ _ _ _ (x.ext si _ _ qb fun ps z => nomatch z))
  refine ⟨fun d e => ?_, fun hl => ⟨xs, ys, q1, q2, by rw [zipD_length] at hl; rw [ra.length, rb.length]; omega⟩⟩
  obtain ⟨dx, dy, ex, ey, rfl⟩ := zipD_get e
  obtain ⟨vx, ex', rx⟩ := ra.get ex
  obtain ⟨vy, ey', ry⟩ := rb.get ey
  refine ⟨⟨xs, ys, vx, vy, q1, q2, ex', ey'⟩, fun z H3 hy => ?_⟩
  obtain ⟨T, o, u1, u2, rfl, hT, hd, rfl, h1, h2⟩ := hy
  have a1 := h1 xs q1
  have a2 := h2 ys q2
  rw [ex'] at a1; cases a1
  rw [ey'] at a2; cases a2
  exact pair_new x.si hT hd (Rep.mono (x.ext si) _ _ rx) (Rep.mono (x.ext si) _ _ ry)
def fZip (fs : FA) : FI := fun δ s => (fs δ s).bind fun p => match p.1 with
  | [.tup xs, .tup ys] => some (zipD xs ys, p.2)
  | [.lst xs, .lst ys] => some (zipD xs ys, p.2)
  | _ => none
theorem di_zip {q tpos : Pos} {elts : List Expr} {kk : Nat} (hg : Gl X "zip") (hm : X.mg "zip" = none) (ha : PA X [a, b] (tDA X.K fs)) (hs : starEach [a, b] X.env = (false, eval a X.env) :: starEach [b] X.env := by rfl) (hpl : (backTo pos (starEach [b] X.env)).any (·.1) = false := by rfl) :
    PI X (.Tuple elts kk tpos) (.Call (.Name "zip" q) [a, b] [] pos) (tDI X.K (fZip fs)) :=
  imp_i (pi_zipP hg hm ha hs hpl) fun σ H R ⟨h, s, δ, ds, s', er, si, q, w⟩ => by
  obtain ⟨⟨xs, s1⟩, q1, q⟩ := bind_some q
  dsimp only at q
  split at q
  · cases q
    refine ⟨h, s, δ, _, _, er, si, q1, fun vs H1 st1 r1 => ?_⟩
    obtain ⟨v, u, rfl, r, r'⟩ := reps2 r1
    obtain ⟨p1, ys, rfl, qa, ra⟩ := rep_tup r
    obtain ⟨p2, zs, rfl, qb, rb⟩ := rep_tup r'
    exact ⟨p1, p2, ys, zs, rfl, .inr ⟨sqt_un qa, sqt_un qb, w _ H1 st1 (iter_zipT st1.si qa ra qb rb)⟩⟩
  · cases q
    refine ⟨h, s, δ, _, _, er, si, q1, fun vs H1 st1 r1 => ?_⟩
    obtain ⟨v, u, rfl, r, r'⟩ := reps2 r1
    obtain ⟨p1, ys, rfl, qa, ra⟩ := rep_lst r
    obtain ⟨p2, zs, rfl, qb, rb⟩ := rep_lst r'
    exact ⟨p1, p2, ys, zs, rfl, .inl ⟨SqL.of (hide_ext _ _ _ _ qa), SqL.of (hide_ext _ _ _ _ qb), w _ H1 st1 (iter_zipL st1.si qa ra qb rb)⟩⟩
  · cases q

/-! ### a def of the text -/
@[simp] def startD (n : Nat) (ds : List D) : Fr := ds.map some ++ List.replicate (n - ds.length) none
def fBody (n : Nat) (f : FS) : FD := fun ds s => (f (startD n ds) s).bind fun p => match p.1 with
  | .rt d => some (d, p.2)
  | .nx _ => some (.non, p.2)
  | _ => none
theorem env_start {K : PySem.W.Frag} {H : Hp} {N : List Str} {vs : List V} {ds : List D} (r : Reps K H vs ds) : EnvR K H (L2.start N vs) (startD N.length ds) := by
  unfold L2.start startD
  rw [r.length]
  refine ⟨by simp [r.length], fun i d e => ?_⟩
  by_cases hi : i < ds.length
  · rw [List.getElem?_append_left (by simpa using hi), List.getElem?_map] at e
    rw [List.getElem?_append_left (by simpa [r.length] using hi), List.getElem?_map]
    cases e2 : ds[i]? with
    | none => rw [e2] at e; cases e
    | some d' =>
      rw [e2] at e
      cases (show some (some d') = some (some d) from e)
      obtain ⟨v, e3, r3⟩ := r.get e2
      exact ⟨v, by rw [e3]; rfl, r3⟩
  · rw [List.getElem?_append_right (by simpa using Nat.le_of_not_lt hi)] at e
    rw [List.getElem?_replicate] at e
    split at e <;> cases e
theorem okD {P : Program} {w : World} {K : PySem.W.Frag} {mg : Str → Option Value} {base : Heap} {x qual : Str} {st : Stmt} {f : Addr} {fd : FuncData} {N ps : List Str} {k : Nat} {g : FD} (F : Fun K x qual st f fd) (S : FnScope N ps (defScope st))
    (hb : ∀ (cdv : Value) (A : Around) (outer : List Env) (s : Shared) (H : Hp) (E : XK), Room k (A.deeper (envOfC qual (defScope st) s.heap.objs.size f cdv)) →
      ∃ fb, PSs (cxOf CX0 P w K mg base N qual (defScope st) f cdv A outer s H E).nox (defBody st) (tDS K fb) ∧ ∀ ds s d s', ds.length = ps.length → g ds s = some (d, s') → fBody N.length fb ds s = some (d, s')) :
    FnOk P w K mg base CX0 (k + 1) f fd ps (spD K ps.length g) := by
  refine F.ok S (fun vs H Q E h => ?_) (fun cdv A outer s H vs Q E hr h => ?_)
  · obtain ⟨h', s, ds, d, s', r, hl, _⟩ := h
    rw [r.length, hl]
  · obtain ⟨fb, p, hg⟩ := hb cdv A outer s H E hr
    refine ⟨_, p, ?_⟩
    obtain ⟨h', s, ds, d, s', r, hl, si, q, w⟩ := h
    obtain ⟨⟨o, s1⟩, q1, q⟩ := bind_some (hg ds s d s' hl q)
    refine ⟨h', s, startD N.length ds, o, s1, env_start r, si, q1, fun H' st => ?_⟩
    cases o with
    | rt d' => cases q; exact fun v rv => w v H' st rv
    | nx δ' => cases q; exact fun σ' _ => w .non H' st .non
    | bk δ' => cases q
    | ct δ' => cases q
/-- a promise in other words -/
theorem FnOk.to {P : Program} {w : World} {K : PySem.W.Frag} {mg : Str → Option Value} {base : Heap} {f : Addr} {fd : FuncData} {ps : List Str} {k n : Nat} {g g' : FD} (F : FnOk P w K mg base CX0 k f fd ps (spD K n g))
    (i : ∀ ds s d s', ds.length = n → g' ds s = some (d, s') → g ds s = some (d, s')) : FnOk P w K mg base CX0 k f fd ps (spD K n g') :=
  F.imp fun vs H Q E ⟨h', s, ds, d, s', r, hl, si, q, w⟩ => ⟨h', s, ds, d, s', r, hl, si, i ds s d s' hl q, w⟩
end
end Fw

set_option Elab.async false
set_option linter.all false
set_option maxRecDepth 100000
namespace Fw
open PySem PySem.Spec PyProof.Rows L2
section
variable {X : Cx} {tg e a b c o i v : Expr} {es : List Expr} {fe fa fb fc fo fi fv : FE} {fs : FA} {pos p pos' : Pos}

/-! ### a op b op' c -/
def fChain (g g' : G2) (fa fb fc : FE) : FE := fun δ s => (fa δ s).bind fun p => (fb δ p.2).bind fun q => (g p.1 q.1 q.2).bind fun k => match k with
  | .bl k => if k = true then (fc δ q.2).bind fun r => (g' q.1 r.1 r.2).map fun d => (d, r.2) else some (.bl false, q.2)
  | _ => none
theorem chain_of {K : PySem.W.Frag} {r r' : R2} {g g' : G2} (hg : GOp K r g) (hg' : GOp K r' g') {σ : L2.St} {H : Hp} {Q : VK} (hq : tD K (fChain g g' fa fb fc) σ H Q) : tChain r r' (tD K fa) (tD K fb) (tD K fc) σ H Q := by
  obtain ⟨h, s, δ, d, s', er, si, q, w⟩ := hq
  obtain ⟨⟨x, s1⟩, q1, q⟩ := bind_some q
  obtain ⟨⟨y, s2⟩, q2, q⟩ := bind_some q
  obtain ⟨z, q3, q⟩ := bind_some q
  refine ⟨h, s, δ, x, s1, er, si, q1, fun v H1 st1 r1 => ⟨h, s1, δ, y, s2, er.mono (st1.ext si), st1.si, q2, fun u H2 st2 r2 => ?_⟩⟩
  refine hg h s2 H2 v u x y z _ st2.si (st2.rep st1.si r1) r2 q3 fun zv H3 st3 r3 => ?_
  cases z with
  | bl k =>
    refine ⟨k, rep_bl r3, ?_⟩
    have st : Step K h s H s2 H3 := st1.trans (st2.trans st3)
    cases k with
    | true =>
      obtain ⟨⟨t, s4⟩, q4, q⟩ := bind_some (show (fc δ s2).bind _ = some (d, s') from q)
      obtain ⟨d', q5, q⟩ := map_some q
      cases q
      refine iteT ⟨h, s2, δ, t, _, er.mono (st.ext si), st3.si, q4, fun v' H4 st4 r4 => ?_⟩
      exact hg' h _ H4 u v' y t d Q st4.si (st4.rep st3.si (st3.rep st2.si r2)) r4 q5 fun z' H5 st5 r5 => w z' H5 (st.trans (st4.trans st5)) r5
    | false =>
      cases q
      exact iteF (w _ H3 st (.bl false))
  | _ => cases q
theorem d_chain {op op' : CmpOp} {r r' : R2} {g g' : G2} (ho : OpR X (compareOp op) r) (ho' : OpR X (compareOp op') r') (hg : GOp X.K r g) (hg' : GOp X.K r' g') (ha : PE X a (tD X.K fa)) (hb : PE X b (tD X.K fb)) (hc : PE X c (tD X.K fc))
    (hm : lastMarks [op, op'] [b, c] = false := by with_unfolding_all rfl) : PE X (.Compare a [op, op'] [b, c] pos) (tD X.K (fChain g g' fa fb fc)) := imp_e (pe_chain ho ho' ha hb hc hm) fun σ H Q hq => chain_of hg hg' hq
theorem dt_chain {op op' : CmpOp} {r r' : R2} {g g' : G2} (ho : OpR X (compareOp op) r) (ho' : OpR X (compareOp op') r') (hg : GOp X.K r g) (hg' : GOp X.K r' g') (ha : PE X a (tD X.K fa)) (hb : PE X b (tD X.K fb)) (hc : PE X c (tD X.K fc))
    (hm : lastMarks [op, op'] [b, c] = false := by with_unfolding_all rfl) : PT X (.Compare a [op, op'] [b, c] pos) (tDT X.K (fT (fChain g g' fa fb fc))) := imp_t (pt_chain ho ho' ha hb hc hm) fun σ H Q hq => chain_of hg hg' (tT_of hq)

/-! ### truth -/
@[simp] def truD : D → Option Bool
  | .non => some false
  | .bl b => some b
  | .int i => some (i != 0)
  | .tup xs => some (!xs.isEmpty)
  | .lst xs => some (!xs.isEmpty)
  | _ => none
def fTru (f : FE) : FT := fun δ s => (f δ s).bind fun p => (truD p.1).map fun k => (k, p.2)
theorem tru_ok' {K : PySem.W.Frag} {H : Hp} {v : V} {d : D} {k : Bool} (r : Rep K H v d) (q : truD d = some k) : TruV K v H k := by
  cases r with
  | non => cases (show some _ = some _ from q); rfl
  | bl b => cases (show some _ = some _ from q); rfl
  | int i => cases (show some _ = some _ from q); rfl
  | tup a r =>
    cases (show some _ = some _ from q)
    exact .inr (.inl ⟨_, a.sq, by cases r <;> rfl⟩)
  | lst a r =>
    cases (show some _ = some _ from q)
    exact .inl ⟨_, SqL.of a, by cases r <;> rfl⟩
  | _ => cases (show none = some _ from q)
theorem dt_tru (ha : PE X a (tD X.K fa)) (he : ∀ whole, isTrue a X.env whole = (do let v ← whole; standAt a.pos; holding [v] (truthy v)) := by intro _; rfl) : PT X a (tDT X.K (fTru fa)) := imp_t (pt_truth ha he) fun σ H Q ⟨h, s, δ, d, s', er, si, q, w⟩ => by
  obtain ⟨⟨x, s1⟩, q1, q⟩ := bind_some q
  obtain ⟨k, q2, q⟩ := map_some q
  cases q
  exact ⟨h, s, δ, x, _, er, si, q1, fun v H1 st1 r1 => ⟨_, tru_ok' r1.un q2, w H1 st1⟩⟩

/-! ### stores to what is owned -/
theorem SI.putL {K : PySem.W.Frag} {h : Addr → Bool} {s : S} {H : Hp} {a : Addr} {u : OO} {o : HO} {w : OO} (si : SI K h s H) (e : s a = some u) (r : RepO K (hide h H) (some o) w) : Step K h s H (supd s a w) (upd H a o) := by
  have ha : h a = true := si.own a u e
  have hid : hide h (upd H a o) = hide h H := by
    funext b
    unfold hide
    by_cases z : b = a
    · rw [z, ha, if_pos rfl, if_pos rfl]
    · rw [upd_ne z]
  refine ⟨fun b z => ?_, fun b u' z q => ?_, fun b u' z => ?_, fun b u' z => ?_, fun b z => ?_⟩
  · by_cases q : b = a
    · rw [q, e] at z; cases z
    · rw [supd_ne q]; exact z
  · have q' : b ≠ a := fun t => by rw [t, e] at z; cases z
    rw [upd_ne q']; exact q
  · by_cases q : b = a
    · rw [q]; exact ha
    · rw [supd_ne q] at z; exact si.own b u' z
  · rw [hid]
    by_cases q : b = a
    · rw [q, supd_same] at z
      cases z
      rw [q, upd_same]
      exact r
    · rw [supd_ne q] at z
      rw [upd_ne q]
      exact si.ob b u' z
  · by_cases q : b = a
    · rw [q, upd_same]; exact fun z => nomatch z
    · rw [upd_ne q]; exact si.hid b z
/-- o[i] = v at an owned list -/
def fPutIx (fv fo fi : FE) : FS := fun δ s => (fv δ s).bind fun v => (fo δ v.2).bind fun o => (fi δ o.2).bind fun i => match o.1, i.1 with
  | .ref a, .int k => match i.2 a with
    | some (.lst ds) => (ixN ds.length k).map fun j => (.nx δ, supd i.2 a (.lst (ds.set j v.1)))
    | _ => none
  | _, _ => none
theorem ds_putIx (hv : PE X v (tD X.K fv)) (ho : PE X o (tD X.K fo)) (hi : PE X i (tD X.K fi))
    (ha : ∀ v, assign (.Subscript o i pos) X.env v = (holding [v] (eval o X.env) >>= fun x => holding [v, x] (eval i X.env) >>= fun y => standAt pos >>= fun _ => holding [v, x, y] (setItem x y v) >>= fun _ => release [v, x, y] []) := by intro _; rfl) (hs : swapsWithSole [.Subscript o i pos] v pos'.line X.env = pure false := by rfl) (hw : swappedStores [.Subscript o i pos] v X.env = pure none := by rfl)
    (h1 : (assignEach [.Subscript o i pos] X.env).map (·.2) = [assign (.Subscript o i pos) X.env] := by rfl) : PS X (.Assign [.Subscript o i pos] v pos') (tDS X.K (fPutIx fv fo fi)) :=
  imp_s (ps_asg hv (pg_sub ho hi set_list ha) hs hw h1) fun D σ H ⟨h, s, δ, out, s', er, si, q, w⟩ => by
  obtain ⟨⟨dv, s1⟩, q1, q⟩ := bind_some q
  obtain ⟨⟨d_o, s2⟩, q2, q⟩ := bind_some q
  obtain ⟨⟨di, s3⟩, q3, q⟩ := bind_some q
  refine ⟨h, s, δ, dv, s1, er, si, q1, fun vv H1 st1 r1 => ⟨h, s1, δ, d_o, s2, er.mono (st1.ext si), st1.si, q2, fun vo H2 st2 r2 => ⟨h, s2, δ, di, s3, (er.mono (st1.ext si)).mono (st2.ext st1.si), st2.si, q3, fun vi H3 st3 r3 => ?_⟩⟩⟩
  dsimp only at q
  split at q
  · split at q
    · rename_i ds e
      obtain ⟨j, q4, q⟩ := map_some q
      cases q
      obtain ⟨xs, e2, rx⟩ := st3.si.ob _ _ e
      have st : Step X.K h s H s3 H3 := st1.trans (st2.trans st3)
      have rv : Rep X.K (hide h H3) vv dv := st3.rep st2.si (st2.rep st1.si r1)
      refine ⟨_, xs, _, j, rep_ref (st3.rep st2.si r2), rep_int r3, e2, by rw [rx.length]; exact q4, ?_⟩
      have st4 := st3.si.putL (o := .lst (xs.set j vv)) (w := .lst (ds.set j dv)) e ⟨_, rfl, rx.set rv j⟩
      exact w _ (st.trans st4) σ (er.mono ((st.trans st4).ext si))
    · cases q
  · cases q
/-- l.append(v) -/
def fApp (fo fv : FE) : FE := fun δ s => (fo δ s).bind fun o => match o.1 with
  | .ref a => match o.2 a with
    | some (.lst _) => (fv δ o.2).bind fun v => match v.2 a with
      | some (.lst ds) => if okLen ds.length = true then some (.non, supd v.2 a (.lst (ds ++ [v.1]))) else none
      | _ => none
    | _ => none
  | _ => none
/-- d[k] of an owned dict -/
@[simp] def dGet : G2 := fun x y s => match x, y with
  | .ref a, .str k => match s a with
    | some (.dct kvs) => kvs.lookup k
    | _ => none
  | _, _ => none
theorem repkv_get {K : PySem.W.Frag} {H : Hp} {k : Str} {d : D} : ∀ {kvs : List (Key × V)} {ds : List (Str × D)}, RepKV K H kvs ds → ds.lookup k = some d → ∃ v, valV kvs (Sum.inr k) = some v ∧ Rep K H v d
  | [], [], _, e => by cases e
  | [], _ :: _, r, _ => by cases r.1
  | _ :: _, [], r, _ => by cases r.1
  | (k1, v1) :: kvs, (k2, d2) :: ds, r, e => by
    obtain ⟨r1, r2⟩ := r
    have e1 : k1 = Sum.inr k2 ∧ kvs.map (·.1) = ds.map fun p => Sum.inr p.1 := by simpa using r1
    cases r2 with
    | cons a t =>
      rw [List.lookup_cons] at e
      by_cases hk : k = k2
      · subst hk
        rw [beq_self_eq_true] at e
        cases e
        exact ⟨v1, valV_pos (p := (k1, v1)) e1.1, a⟩
      · have hb : (k == k2) = false := beq_eq_false_iff_ne.mpr hk
        rw [hb] at e
        obtain ⟨v, e3, r3⟩ := repkv_get ⟨e1.2, t⟩ e
        exact ⟨v, by rw [valV_neg (p := (k1, v1)) (by rw [e1.1]; exact fun z => hk (Sum.inr.inj z).symm)]; exact e3, r3⟩
theorem d_dget (hu : X.A.units + 1 < cLine) (ho : PE X o (tD X.K fo)) (hi : PE X i (tD X.K fi)) (hs : NoSl i) : PE X (.Subscript o i pos) (tD X.K (f2 dGet fo fi)) := imp_e (pe_dget hu ho hi hs) fun σ H Q ⟨h, s, δ, d, s', er, si, q, w⟩ => by
  obtain ⟨⟨x, s1⟩, q1, q⟩ := bind_some q
  obtain ⟨⟨y, s2⟩, q2, q⟩ := bind_some q
  obtain ⟨z, q3, q⟩ := map_some q
  cases q
  cases x with
  | ref a =>
    cases y with
    | str k =>
      refine ⟨h, s, δ, _, s1, er, si, q1, fun v H1 st1 r1 => ⟨h, s1, δ, _, _, er.mono (st1.ext si), st1.si, q2, fun u H2 st2 r2 => ?_⟩⟩
      unfold dGet at q3
      dsimp only at q3
      split at q3
      · rename_i kvs e
        obtain ⟨es, e2, rk⟩ := st2.si.ob _ _ e
        obtain ⟨vv, e3, r3⟩ := repkv_get rk q3
        refine ⟨a, vv, rep_ref (st2.rep st1.si r1), ?_, w _ H2 (st1.trans st2) r3⟩
        rw [rep_str r2, ← e3]
        exact DGet.k (k := Sum.inr k) e2
      · cases q3
    | _ => cases q3
  | _ => cases q3
def putD (kvs : List (Str × D)) (k : Str) (v : D) : List (Str × D) := if (kvs.any fun kv => decide (kv.1 = k)) = true then kvs.map (fun kv => if kv.1 = k then (kv.1, v) else kv) else kvs ++ [(k, v)]
theorem inr_dec (a b : Str) : decide ((Sum.inr a : Key) = Sum.inr b) = decide (a = b) := key_rr a b
theorem repkv_put {K : PySem.W.Frag} {H : Hp} {k : Str} {v : V} {d : D} (rv : Rep K H v d) {kvs : List (Key × V)} {ds : List (Str × D)} (r : RepKV K H kvs ds) : RepKV K H (putK kvs (Sum.inr k) v) (putD ds k d) := by
  have hany : ∀ {kvs : List (Key × V)} {ds : List (Str × D)}, RepKV K H kvs ds → (kvs.any fun kv => decide (kv.1 = Sum.inr k)) = ds.any fun kv => decide (kv.1 = k) := by
    intro kvs
    induction kvs with
    | nil => intro ds r; cases ds with
      | nil => rfl
      | cons _ _ => cases r.1
    | cons p kvs ih => intro ds r; cases ds with
      | nil => cases r.1
      | cons q ds =>
        obtain ⟨r1, r2⟩ := r
        have e1 : p.1 = Sum.inr q.1 ∧ kvs.map (·.1) = ds.map fun p => Sum.inr p.1 := by simpa using r1
        cases r2 with
        | cons a t => rw [List.any_cons, List.any_cons, ih ⟨e1.2, t⟩, e1.1, inr_dec]
  have hmap : ∀ {kvs : List (Key × V)} {ds : List (Str × D)}, RepKV K H kvs ds → RepKV K H (kvs.map fun kv => if kv.1 = Sum.inr k then (kv.1, v) else kv) (ds.map fun kv => if kv.1 = k then (kv.1, d) else kv) := by
    intro kvs
    induction kvs with
    | nil => intro ds r; cases ds with
      | nil => exact r
      | cons _ _ => cases r.1
    | cons p kvs ih => intro ds r; cases ds with
      | nil => cases r.1
      | cons q ds =>
        obtain ⟨r1, r2⟩ := r
        have e1 : p.1 = Sum.inr q.1 ∧ kvs.map (·.1) = ds.map fun p => Sum.inr p.1 := by simpa using r1
        cases r2 with
        | cons a t =>
          have ih' := ih ⟨e1.2, t⟩
          rw [List.map_cons, List.map_cons]
          by_cases hk : q.1 = k
          · rw [if_pos hk, if_pos (by rw [e1.1, hk])]
            exact ⟨by simpa [e1.1] using ih'.1, .cons rv ih'.2⟩
          · rw [if_neg hk, if_neg (by rw [e1.1]; exact fun z => hk (Sum.inr.inj z))]
            exact ⟨by simpa [e1.1] using ih'.1, .cons a ih'.2⟩
  unfold putK putD
  rw [hany r]
  split
  · exact hmap r
  · exact ⟨by simp [r.1], by simpa using r.2.append (.cons rv .nil)⟩
/-- d[k] = v at an owned dict -/
def fPutD (fv fo fi : FE) : FS := fun δ s => (fv δ s).bind fun v => (fo δ v.2).bind fun o => (fi δ o.2).bind fun i => match o.1, i.1 with
  | .ref a, .str k => match i.2 a with
    | some (.dct kvs) => if okLen kvs.length = true then some (.nx δ, supd i.2 a (.dct (putD kvs k v.1))) else none
    | _ => none
  | _, _ => none
theorem ds_putD (hu : X.A.units + 1 < cLine) (hv : PE X v (tD X.K fv)) (ho : PE X o (tD X.K fo)) (hi : PE X i (tD X.K fi)) (hs : swapsWith v (some (.Subscript o i pos')) pos.line X.env = pure false := by rfl) : PS X (.Assign [.Subscript o i pos'] v pos) (tDS X.K (fPutD fv fo fi)) :=
  imp_s (ps_dput hu ho hi hv hs) fun D σ H ⟨h, s, δ, out, s', er, si, q, w⟩ => by
  obtain ⟨⟨dv, s1⟩, q1, q⟩ := bind_some q
  obtain ⟨⟨d_o, s2⟩, q2, q⟩ := bind_some q
  obtain ⟨⟨di, s3⟩, q3, q⟩ := bind_some q
  refine ⟨h, s, δ, dv, s1, er, si, q1, fun vv H1 st1 r1 => ⟨h, s1, δ, d_o, s2, er.mono (st1.ext si), st1.si, q2, fun vo H2 st2 r2 => ⟨h, s2, δ, di, s3, (er.mono (st1.ext si)).mono (st2.ext st1.si), st2.si, q3, fun vi H3 st3 r3 => ?_⟩⟩⟩
  dsimp only at q
  cases d_o with
  | ref a =>
    cases di with
    | str k =>
      dsimp only at q
      split at q
      · rename_i kvs e
        split at q
        · rename_i hl
          cases q
          obtain ⟨es, e2, rk⟩ := st3.si.ob _ _ e
          have st : Step X.K h s H s3 H3 := st1.trans (st2.trans st3)
          have rv : Rep X.K (hide h H3) vv dv := st3.rep st2.si (st2.rep st1.si r1)
          have hln : es.length = kvs.length := by have := congrArg List.length rk.1; simpa using this
          have st4 := st3.si.putL (o := .dK (putK es (Sum.inr k) vv)) (w := .dct (putD kvs k dv)) e ⟨_, rfl, repkv_put rv rk⟩
          refine ⟨a, _, rep_ref (st3.rep st2.si r2), by rw [rep_str r3]; exact DPut.k (k := Sum.inr k) e2 (by rw [hln]; exact okLen_lt hl), ?_⟩
          exact w _ (st.trans st4) σ (er.mono ((st.trans st4).ext si))
        · cases q
      · cases q
    | _ => cases q
  | _ => cases q

/-! ### a def that is known -/
structure Kn (P : Program) (w : World) (K : PySem.W.Frag) (mg : Str → Option Value) (base : Heap) (x : Str) (n k : Nat) (g : FD) : Prop where
  ex : ∃ (f : Addr) (fd : FuncData) (ps : List Str), FnOk P w K mg base CX0 k f fd ps (spD K n g) ∧ Binds K fd ps [] ∧ PySem.W.keepIn K (.ref f) = true ∧ mg x = some (.ref f)
theorem Kn.mono {P : Program} {w : World} {K : PySem.W.Frag} {mg : Str → Option Value} {base : Heap} {x : Str} {n j k : Nat} {g : FD} (F : Kn P w K mg base x n j g) (h : j ≤ k) : Kn P w K mg base x n k g :=
  let ⟨f, fd, ps, a, b, c, d⟩ := F.ex; ⟨f, fd, ps, a.mono h, b, c, d⟩
theorem Kn.to {P : Program} {w : World} {K : PySem.W.Frag} {mg : Str → Option Value} {base : Heap} {x : Str} {n k : Nat} {g g' : FD} (F : Kn P w K mg base x n k g) (i : ∀ ds s d s', ds.length = n → g' ds s = some (d, s') → g ds s = some (d, s')) : Kn P w K mg base x n k g' :=
  let ⟨f, fd, ps, a, b, c, d⟩ := F.ex; ⟨f, fd, ps, Fw.FnOk.to a i, b, c, d⟩
theorem d_kn {x : Str} {n k : Nat} {g : FD} (F : Kn X.prog X.w X.K X.mg X.base x n k g) (hr : Room k X.A) (hg : Gl X x) (ha : PA X (e :: es) (tDA X.K fs)) (hdb : (x == ("__debug__" : Str)) = false := by decide)
    (he : starEach (e :: es) X.env = (false, eval e X.env) :: starEach es X.env := by rfl) (hpl : (backTo pos (starEach es X.env)).any (·.1) = false := by rfl) : PE X (.Call (.Name x p) (e :: es) [] pos) (tD X.K (fCall n g fs)) :=
  let ⟨f, fd, ps, a, b, c, d⟩ := F.ex; d_call a hr hg d c b ha hdb he hpl
theorem d_kn0 {x : Str} {n k : Nat} {g : FD} (F : Kn X.prog X.w X.K X.mg X.base x n k g) (hr : Room k X.A) (hg : Gl X x) (hdb : (x == ("__debug__" : Str)) = false := by decide) : PE X (.Call (.Name x p) [] [] pos) (tD X.K (fCall n g fNil)) :=
  let ⟨f, fd, ps, a, b, c, d⟩ := F.ex; d_call0 a hr hg d c b hdb
/-- the built-in names that the text leaves alone -/
structure Bi (mg : Str → Option Value) : Prop where
  all : ∀ x ∈ (["len", "int", "str", "tuple", "list", "sum", "all", "any", "isinstance", "range", "zip", "enumerate", "sorted", "set", "min", "max", "super", "bool"] : List String), mg (Str.ofString x) = none
theorem Bi.get {mg : Str → Option Value} (B : Bi mg) (x : String) (h : x ∈ (["len", "int", "str", "tuple", "list", "sum", "all", "any", "isinstance", "range", "zip", "enumerate", "sorted", "set", "min", "max", "super", "bool"] : List String) := by decide) : mg (Str.ofString x) = none := B.all x h
end
end Fw

set_option Elab.async false
set_option linter.all false
set_option maxRecDepth 100000
namespace Fw
open PySem PySem.Spec PyProof.Rows L2
section
variable {X : Cx} {tg e a b c o i v : Expr} {es : List Expr} {fe fa fb fc fo fi fv : FE} {fs : FA} {pos p pos' : Pos}

/-! ### {k: v, ..}[i], the keys texts -/
theorem StepX.hideNew {K : PySem.W.Frag} {h : Addr → Bool} {s : S} {H : Hp} (i : SI K h s H) {p : Addr} (hp : H p = none) (o : HO) : StepX K h s H (fun a => h a || decide (a = p)) s (upd H p o) := by
  refine ⟨fun a z => by simp [z], fun a z => ?_, fun _ z => z, fun a u _ z => by rw [upd_ne (ne_of_none z hp)]; exact z, fun a u z => ?_, fun a u z => ?_, fun a z => ?_⟩
  · by_cases e : a = p
    · exact .inr (by rw [e]; exact hp)
    · exact .inl (by simpa [e] using z)
  · have := i.own a u z
    simp [this]
  · have ob := i.ob a u z
    have ne : a ≠ p := fun e => ob.there (by rw [e]; exact hp)
    rw [upd_ne ne]
    refine ob.mono fun b w q _ => ?_
    unfold hide at q ⊢
    split at q
    · cases q
    · rename_i hb
      have nb : b ≠ p := ne_of_none q hp
      rw [if_neg (by simp [hb, nb]), upd_ne nb]
      exact q
  · by_cases e : a = p
    · rw [e, upd_same]; exact fun z => nomatch z
    · rw [upd_ne e]
      exact i.hid a (by simpa [e] using z)
theorem hide_upd {h : Addr → Bool} {H : Hp} {p : Addr} {o : HO} (hp : h p = true) : hide h (upd H p o) = hide h H := by
  funext b
  unfold hide
  by_cases e : b = p
  · rw [e, hp, if_pos rfl, if_pos rfl]
  · rw [upd_ne e]
/-- a hidden thing that nobody owns is written -/
theorem StepX.put {K : PySem.W.Frag} {h h' : Addr → Bool} {s s' : S} {H H' : Hp} (x : StepX K h s H h' s' H') {p : Addr} (hh : h' p = true) (hp : H p = none) (hs : s' p = none) (o : HO) : StepX K h s H h' s' (upd H' p o) := by
  refine ⟨x.le, x.new, x.dom, fun a u z e => ?_, x.si.own, fun a u z => ?_, fun a z => ?_⟩
  · rw [upd_ne (ne_of_none e hp)]; exact x.fr a u z e
  · have ob := x.si.ob a u z
    have ne : a ≠ p := fun e => by rw [e, hs] at z; cases z
    rw [upd_ne ne, hide_upd hh]
    exact ob
  · by_cases e : a = p
    · rw [e, upd_same]; exact fun z => nomatch z
    · rw [upd_ne e]; exact x.si.hid a z
structure DP (X : Cx) (pos : Pos) (keys : List (Option Expr)) (values : List Expr) (ks : List Str) (fs : FA) : Prop where
  ex : ∃ trs, PPs X pos keys values trs ∧ keys.length = ks.length ∧ ∀ σ H Q, (∃ (h : Addr → Bool) (s : S) (δ : Fr) (ds : List D) (s' : S), EnvR X.K (hide h H) σ δ ∧ SI X.K h s H ∧ fs δ s = some (ds, s') ∧
    ∀ vs H', Step X.K h s H s' H' → Reps X.K (hide h H') vs ds → vs.length = ks.length → Q ((ks.map V.str).zip vs) H') → tPairs trs σ H Q
theorem dp_nil : DP X pos [] [] [] fNil := ⟨[], pps_nil, rfl, fun σ H Q ⟨h, s, δ, ds, s', er, si, q, w⟩ => by
  cases q
  exact w [] H (Step.refl si) .nil rfl⟩
theorem dp_cons {x : Str} {j : Nat} {p2 : Pos} {ks : List (Option Expr)} {vs : List Expr} {xs : List Str} (hv : PE X v (tD X.K fv)) (hr : DP X pos ks vs xs fs) : DP X pos (some (.Constant (.str x) j p2) :: ks) (v :: vs) (x :: xs) (fCons fv fs) := by
  obtain ⟨trs, h1, h2, h3⟩ := hr.ex
  refine ⟨(tC (.str x), tD X.K fv) :: trs, pps_cons pe_str hv h1, by simp [h2], fun σ H Q ⟨h, s, δ, ds, s', er, si, q, w⟩ => ?_⟩
  obtain ⟨⟨d, s1⟩, q1, q⟩ := bind_some q
  obtain ⟨⟨ds', s2⟩, q2, q⟩ := map_some q
  cases q
  refine ⟨h, s, δ, d, s1, er, si, q1, fun v H1 st1 r1 => ?_⟩
  refine h3 σ H1 _ ⟨h, s1, δ, ds', _, er.mono (st1.ext si), st1.si, q2, fun vs H2 st2 r2 hl => ?_⟩
  exact w (v :: vs) H2 (st1.trans st2) (.cons (st2.rep st1.si r1) r2) (by simp [hl])
theorem merge_new : ∀ (more kvs : List (Key × V)), ((kvs ++ more).map (·.1)).Nodup → mergeK kvs more = kvs ++ more
  | [], kvs, _ => by rw [List.append_nil]; rfl
  | (k, v) :: more, kvs, h => by
    have hn : valV kvs k = none := by
      cases e : valV kvs k with
      | none => rfl
      | some u =>
        exfalso
        have : ∃ p ∈ kvs, p.1 = k := by
          unfold valV at e
          cases q : kvs.find? (fun kv => decide (kv.1 = k)) with
          | none => rw [q] at e; cases e
          | some p =>
            have e3 := List.find?_some q
            exact ⟨p, List.mem_of_find?_eq_some q, by simpa using e3⟩
        obtain ⟨p, hp, e2⟩ := this
        rw [List.map_append, List.nodup_append] at h
        exact h.2.2 p.1 (List.mem_map_of_mem hp) k (by simp) e2
    show mergeK (putK kvs k v) more = _
    rw [putK_new v hn, merge_new more (kvs ++ [(k, v)]) (by rw [List.append_assoc]; exact h), List.append_assoc]
    rfl
@[simp] def lkD : List Str → List D → Str → Option D
  | k :: ks, d :: ds, x => if k = x then some d else lkD ks ds x
  | _, _, _ => none
theorem lkD_ok {K : PySem.W.Frag} {H : Hp} {x : Str} {d : D} : ∀ {ks : List Str} {ds : List D} {vs : List V}, Reps K H vs ds → lkD ks ds x = some d → ∃ v, valV ((ks.zip vs).map fun p => ((Sum.inr p.1 : Key), p.2)) (Sum.inr x) = some v ∧ Rep K H v d
  | k :: ks, _ :: ds, _, .cons a t, e => by
    unfold lkD at e
    by_cases hk : k = x
    · rw [if_pos hk] at e
      cases e
      exact ⟨_, valV_pos (by rw [hk]), a⟩
    · rw [if_neg hk] at e
      obtain ⟨v, e1, r1⟩ := lkD_ok t e
      exact ⟨v, by rw [List.zip_cons_cons, List.map_cons, valV_neg (fun z => hk (Sum.inr.inj z))]; exact e1, r1⟩
  | [], _, _, _, e => by simp [lkD] at e
  | _ :: _, [], _, _, e => by simp [lkD] at e
def fDictIx (ks : List Str) (fs : FA) (fi : FE) : FE := fun δ s => (fs δ s).bind fun p => (fi δ p.2).bind fun q => match q.1 with
  | .str x => (lkD ks p.1 x).map fun d => (d, q.2)
  | _ => none
theorem d_dictIx {p2 : Pos} {keys : List (Option Expr)} {values : List Expr} {ks : List Str} (hu : X.A.units + 1 < cLine) (hd : DP X p2 keys values ks fs) (hi : PE X i (tD X.K fi)) (hs : NoSl i)
    (hall : keys.all (·.isSome) = true := by rfl) (hl : keys.length = values.length := by rfl) (h0 : keys ≠ [] := by exact fun z => nomatch z) (h15 : keys.length ≤ 15 := by decide) (nd : ks.Nodup := by decide +kernel) :
    PE X (.Subscript (.Dict keys values p2) i pos) (tD X.K (fDictIx ks fs fi)) := by
  obtain ⟨trs, h1, h2, h3⟩ := hd.ex
  refine imp_e (pe_dget hu (pe_disp h1 hall hl h0 h15) hi hs) fun σ H Q ⟨h, s, δ, d, s', er, si, q, w⟩ => ?_
  obtain ⟨⟨ds, s1⟩, q1, q⟩ := bind_some q
  obtain ⟨⟨y, s2⟩, q2, q⟩ := bind_some q
  intro p hp
  have x0 := StepX.hideNew si hp (.dK [])
  have hh : (fun a => h a || decide (a = p)) p = true := by simp
  refine h3 σ _ _ ⟨_, s, δ, ds, s1, er.mono (x0.ext si), x0.si, q1, fun vs H1 st1 r1 hvl => ?_⟩
  have x1 := x0.trans st1
  have hsp : ∀ {s2 : S} {H1 : Hp}, StepX X.K h s H (fun a => h a || decide (a = p)) s2 H1 → s2 p = none := fun x => x.dom p (by
    cases e : s p with
    | none => rfl
    | some u => exact absurd hp ((si.ob p u e).there))
  have hp1 : H1 p = some (.dK []) := st1.fr p _ (hsp x0) upd_same
  refine ⟨hp1, (ks.zip vs).map (fun p => ((Sum.inr p.1 : Key), p.2)), ?_, ?_, ?_⟩
  · rw [List.map_map, List.zip_map_left]
    rfl
  · rw [List.length_map, List.length_zip, hvl]
    omega
  have hm : mergeK [] ((ks.zip vs).map fun p => ((Sum.inr p.1 : Key), p.2)) = (ks.zip vs).map fun p => ((Sum.inr p.1 : Key), p.2) := by
    refine merge_new _ [] ?_
    rw [List.nil_append, List.map_map]
    have e1 : (ks.zip vs).map ((fun x => x.1) ∘ fun p => ((Sum.inr p.1 : Key), p.2)) = ks.map fun k => (Sum.inr k : Key) := by
      have : ((fun x => x.1) ∘ fun (p : Str × V) => ((Sum.inr p.1 : Key), p.2)) = (fun k => (Sum.inr k : Key)) ∘ Prod.fst := rfl
      rw [this, ← List.map_map, List.map_fst_zip (by omega)]
    rw [e1]
    exact List.Pairwise.map _ (fun a b h e => h (Sum.inr.inj e)) nd
  rw [hm]
  have x2 := x1.put hh hp (hsp x1) (.dK ((ks.zip vs).map fun p => ((Sum.inr p.1 : Key), p.2)))
  refine ⟨_, s1, δ, y, s2, er.mono (x2.ext si), x2.si, q2, fun u H2 st2 r2 => ?_⟩
  have x3 := x2.trans st2
  cases y with
  | str x =>
    obtain ⟨z, q3, q⟩ := map_some (show (lkD ks ds x).map _ = some (d, s') from q)
    cases q
    have rs2 : Reps X.K (hide (fun a => h a || decide (a = p)) H2) vs ds := st2.reps x2.si (by rw [hide_upd hh]; exact r1)
    obtain ⟨vv, e3, r3⟩ := lkD_ok rs2 q3
    refine ⟨p, vv, rfl, ?_, ?_⟩
    · rw [rep_str r2, ← e3]
      exact DGet.k (k := Sum.inr x) (st2.fr p _ (hsp x2) upd_same)
    · have stb := x3.back si
      refine w vv H2 stb (Rep.mono (fun b o z _ => ?_) _ _ r3)
      unfold hide at z ⊢
      split at z
      · cases z
      · rename_i hb
        rw [if_neg (fun t => hb (by simp [t]))]
        exact z
  | _ => cases q

/-! ### l.append(v) of an owned list, as a statement -/
theorem d_app {apos : Pos} (h : PE X (.Call (.Attribute o "append" apos) [v] [] pos) (tBM X.K "list" rAppend (tD X.K fo) (tDA X.K (fCons fv fNil)))) : PE X (.Call (.Attribute o "append" apos) [v] [] pos) (tD X.K (fApp fo fv)) := imp_e h fun σ H Q ⟨h, s, δ, d, s', er, si, q, w⟩ => by
  obtain ⟨⟨x, s1⟩, q1, q⟩ := bind_some q
  cases x with
  | ref a =>
    dsimp only at q
    split at q
    · rename_i ds0 e0
      obtain ⟨⟨y, s2⟩, q2, q⟩ := bind_some q
      dsimp only at q
      split at q
      · rename_i ds e
        split at q
        · rename_i hl
          cases q
          refine ⟨h, s, δ, _, s1, er, si, q1, fun v H1 st1 r1 => ?_⟩
          cases rep_ref r1
          obtain ⟨xs0, e00, _⟩ := st1.si.ob _ _ e0
          refine ⟨Or.inl ⟨rfl, _, Or.inl (Or.inl e00)⟩, h, s1, δ, [y], s2, er.mono (st1.ext si), st1.si, ?_, fun vs H2 st2 r2 => ?_⟩
          · show (fv δ s1).bind _ = _
            rw [q2]
            rfl
          · obtain ⟨u, rfl, r⟩ := reps1 r2
            obtain ⟨xs, e2, rx⟩ := st2.si.ob _ _ e
            refine ⟨a, xs, u, rfl, rfl, e2, by rw [rx.length]; exact okLen_lt hl, ?_⟩
            have st3 := st2.si.putL (o := .lst (xs ++ [u])) (w := .lst (ds ++ [y])) e ⟨_, rfl, rx.append (.cons r .nil)⟩
            exact w .non _ (st1.trans (st2.trans st3)) .non
        · cases q
      · cases q
    · cases q
  | _ => cases q

theorem kn_of {P : Program} {w : World} {K : PySem.W.Frag} {mg : Str → Option Value} {base : Heap} {x qual : Str} {st : Stmt} {f : Addr} {fd : FuncData} {N ps : List Str} {k : Nat} {fb : FS} (F : Fun K x qual st f fd) (hm : mg x = some (.ref f)) (S : FnScope N ps (defScope st)) (bi : Binds K fd ps [])
    (hb : ∀ (cdv : Value) (A : Around) (outer : List Env) (s : Shared) (H : Hp) (E : XK), Room k (A.deeper (envOfC qual (defScope st) s.heap.objs.size f cdv)) → PSs (cxOf CX0 P w K mg base N qual (defScope st) f cdv A outer s H E).nox (defBody st) (tDS K fb)) :
    Kn P w K mg base x ps.length (k + 1) (fBody N.length fb) :=
  ⟨f, fd, ps, okD F S fun cdv A outer s H E hr => ⟨fb, hb cdv A outer s H E hr, fun _ _ _ _ _ q => q⟩, bi, F.kp, hm⟩
end
end Fw

set_option Elab.async false
set_option linter.all false
set_option maxRecDepth 100000
/-! Fw11: how the readings reckon: each step waits for what stands ahead of it. -/
namespace Fw
open PySem PySem.Spec PyProof.Rows L2
variable {fe fa fb fc fo fi fv : FE} {fs : FA} {t u tt : FT} {f g : FS} {gi : FI} {ft : FG} {δ δ' : Fr} {s s' : S} {d x y : D} {ds xs : List D} {i j l n : Nat}
/-- a value and the state -/
def kR (s : S) : Option D → Option (D × S) | some d => some (d, s) | none => none
@[simp] theorem kR_s : kR s (some d) = some (d, s) := rfl
@[simp] theorem kR_n : kR s none = none := rfl
def kRB (s : S) : Option Bool → Option (D × S) | some d => some (.bl d, s) | none => none
@[simp] theorem kRB_s {b : Bool} : kRB s (some b) = some (.bl b, s) := rfl
theorem map_kR (o : Option D) : (o.map fun d => (d, s)) = kR s o := by cases o <;> rfl

def kVar (s : S) : Option (Option D) → Option (D × S) | some (some d) => some (d, s) | _ => none
@[simp] theorem kVar_s : kVar s (some (some d)) = some (d, s) := rfl
@[simp] theorem fVar_e : fVar i δ s = kVar s δ[i]? := by unfold fVar kVar; split <;> first | rfl | (split <;> simp_all) | simp_all
@[simp] theorem fC_e : fC d δ s = some (d, s) := rfl
@[simp] theorem fNil_e : fNil δ s = some ([], s) := rfl
def kCons' (x : D) : Option (List D × S) → Option (List D × S) | some (xs, s) => some (x :: xs, s) | none => none
@[simp] theorem kCons'_s : kCons' x (some (xs, s)) = some (x :: xs, s) := rfl
def kCons (fs : FA) (δ : Fr) : Option (D × S) → Option (List D × S) | some (x, s) => kCons' x (fs δ s) | none => none
@[simp] theorem kCons_s : kCons fs δ (some (x, s)) = kCons' x (fs δ s) := rfl
@[simp] theorem fCons_e : fCons fe fs δ s = kCons fs δ (fe δ s) := by
  unfold fCons kCons
  cases fe δ s with
  | none => rfl
  | some p => show (fs δ p.2).map _ = kCons' p.1 (fs δ p.2); cases fs δ p.2 <;> rfl
def kTup : Option (List D × S) → Option (D × S) | some (xs, s) => if okLen xs.length = true then some (.tup xs, s) else none | none => none
@[simp] theorem kTup_s : kTup (some (xs, s)) = if okLen xs.length = true then some (.tup xs, s) else none := rfl
@[simp] theorem fTup_e : fTup fs δ s = kTup (fs δ s) := by unfold fTup kTup; cases fs δ s <;> rfl
def kLst : Option (List D × S) → Option (D × S) | some (xs, s) => if okLen xs.length = true then some (.lst xs, s) else none | none => none
@[simp] theorem kLst_s : kLst (some (xs, s)) = if okLen xs.length = true then some (.lst xs, s) else none := rfl
@[simp] theorem fLst_e : fLst fs δ s = kLst (fs δ s) := by unfold fLst kLst; cases fs δ s <;> rfl
def k2' (g : G2) (x : D) : Option (D × S) → Option (D × S) | some (y, s) => kR s (g x y s) | none => none
@[simp] theorem k2'_s {g : G2} : k2' g x (some (y, s)) = kR s (g x y s) := rfl
def k2 (g : G2) (fb : FE) (δ : Fr) : Option (D × S) → Option (D × S) | some (x, s) => k2' g x (fb δ s) | none => none
@[simp] theorem k2_s {g : G2} : k2 g fb δ (some (x, s)) = k2' g x (fb δ s) := rfl
@[simp] theorem f2_e {g : G2} : f2 g fa fb δ s = k2 g fb δ (fa δ s) := by
  unfold f2 k2
  cases fa δ s with
  | none => rfl
  | some p => show (fb δ p.2).bind _ = k2' g p.1 (fb δ p.2); cases fb δ p.2 with
    | none => rfl
    | some q => exact map_kR _
def kT : Option (D × S) → Option (Bool × S) | some (.bl c, s) => some (c, s) | _ => none
@[simp] theorem kT_s {c : Bool} : kT (some (.bl c, s)) = some (c, s) := rfl
@[simp] theorem fT_e : fT fe δ s = kT (fe δ s) := by
  unfold fT
  rcases fe δ s with _ | ⟨p, s1⟩
  · rfl
  · cases p <;> rfl
def kAnd (fb : FE) (δ : Fr) : Option (D × S) → Option (D × S) | some (.bl true, s) => fb δ s | some (.bl false, s) => some (.bl false, s) | _ => none
@[simp] theorem kAnd_t : kAnd fb δ (some (.bl true, s)) = fb δ s := rfl
@[simp] theorem kAnd_f : kAnd fb δ (some (.bl false, s)) = some (.bl false, s) := rfl
@[simp] theorem fAnd_e : fAnd fa fb δ s = kAnd fb δ (fa δ s) := by
  unfold fAnd
  rcases fa δ s with _ | ⟨p, s1⟩
  · rfl
  · cases p with
    | bl c => cases c <;> rfl
    | _ => rfl
def kOr (fb : FE) (δ : Fr) : Option (D × S) → Option (D × S) | some (.bl true, s) => some (.bl true, s) | some (.bl false, s) => fb δ s | _ => none
@[simp] theorem kOr_t : kOr fb δ (some (.bl true, s)) = some (.bl true, s) := rfl
@[simp] theorem kOr_f : kOr fb δ (some (.bl false, s)) = fb δ s := rfl
@[simp] theorem fOr_e : fOr fa fb δ s = kOr fb δ (fa δ s) := by
  unfold fOr
  rcases fa δ s with _ | ⟨p, s1⟩
  · rfl
  · cases p with
    | bl c => cases c <;> rfl
    | _ => rfl
def kNot : Option (D × S) → Option (D × S) | some (.bl c, s) => some (.bl (!c), s) | _ => none
@[simp] theorem kNot_s {c : Bool} : kNot (some (.bl c, s)) = some (.bl (!c), s) := rfl
@[simp] theorem fNot_e : fNot fa δ s = kNot (fa δ s) := by
  unfold fNot
  rcases fa δ s with _ | ⟨p, s1⟩
  · rfl
  · cases p <;> rfl
def kIf (fa fb : FE) (δ : Fr) : Option (Bool × S) → Option (D × S) | some (true, s) => fa δ s | some (false, s) => fb δ s | none => none
@[simp] theorem kIf_t : kIf fa fb δ (some (true, s)) = fa δ s := rfl
@[simp] theorem kIf_f : kIf fa fb δ (some (false, s)) = fb δ s := rfl
@[simp] theorem fIf_e : fIf t fa fb δ s = kIf fa fb δ (t δ s) := by
  unfold fIf
  rcases t δ s with _ | ⟨c, s1⟩
  · rfl
  · cases c <;> rfl
def kAndT (u : FT) (δ : Fr) : Option (Bool × S) → Option (Bool × S) | some (true, s) => u δ s | some (false, s) => some (false, s) | none => none
@[simp] theorem kAndT_t : kAndT u δ (some (true, s)) = u δ s := rfl
@[simp] theorem kAndT_f : kAndT u δ (some (false, s)) = some (false, s) := rfl
@[simp] theorem tAndF_e : tAndF t u δ s = kAndT u δ (t δ s) := by
  unfold tAndF
  rcases t δ s with _ | ⟨c, s1⟩
  · rfl
  · cases c <;> rfl
def kOrT (u : FT) (δ : Fr) : Option (Bool × S) → Option (Bool × S) | some (true, s) => some (true, s) | some (false, s) => u δ s | none => none
@[simp] theorem kOrT_t : kOrT u δ (some (true, s)) = some (true, s) := rfl
@[simp] theorem kOrT_f : kOrT u δ (some (false, s)) = u δ s := rfl
@[simp] theorem tOrF_e : tOrF t u δ s = kOrT u δ (t δ s) := by
  unfold tOrF
  rcases t δ s with _ | ⟨c, s1⟩
  · rfl
  · cases c <;> rfl
def kNotT : Option (Bool × S) → Option (Bool × S) | some (c, s) => some (!c, s) | none => none
@[simp] theorem kNotT_s {c : Bool} : kNotT (some (c, s)) = some (!c, s) := rfl
@[simp] theorem tNotF_e : tNotF t δ s = kNotT (t δ s) := by unfold tNotF; rcases t δ s with _ | ⟨c, s1⟩ <;> rfl
@[simp] theorem tTrue_e : tTrue δ s = some (true, s) := rfl
def kL (g : GL) : Option (List D × S) → Option (D × S) | some (xs, s) => kR s (g xs s) | none => none
@[simp] theorem kL_s {g : GL} : kL g (some (xs, s)) = kR s (g xs s) := rfl
@[simp] theorem fL_e {g : GL} : fL g fs δ s = kL g (fs δ s) := by
  unfold fL
  rcases fs δ s with _ | ⟨c, s1⟩
  · rfl
  · exact map_kR _
def kCall (n : Nat) (g : FD) : Option (List D × S) → Option (D × S) | some (xs, s) => if xs.length = n then g xs s else none | none => none
@[simp] theorem kCall_s {g : FD} : kCall n g (some (xs, s)) = if xs.length = n then g xs s else none := rfl
@[simp] theorem fCall_e {g : FD} : fCall n g fs δ s = kCall n g (fs δ s) := by unfold fCall; rcases fs δ s with _ | ⟨c, s1⟩ <;> rfl

/-! ### statements -/
@[simp] theorem fNx_e : fNx δ s = some (.nx δ, s) := rfl
def kSeq (g : FS) : Option (Out × S) → Option (Out × S) | some (.nx δ, s) => g δ s | some (.rt d, s) => some (.rt d, s) | some (.bk δ, s) => some (.bk δ, s) | some (.ct δ, s) => some (.ct δ, s) | none => none
@[simp] theorem kSeq_nx : kSeq g (some (.nx δ, s)) = g δ s := rfl
@[simp] theorem kSeq_rt : kSeq g (some (.rt d, s)) = some (.rt d, s) := rfl
@[simp] theorem kSeq_bk : kSeq g (some (.bk δ, s)) = some (.bk δ, s) := rfl
@[simp] theorem kSeq_ct : kSeq g (some (.ct δ, s)) = some (.ct δ, s) := rfl
@[simp] theorem fSeq_e : fSeq f g δ s = kSeq g (f δ s) := by
  unfold fSeq
  rcases f δ s with _ | ⟨o, s1⟩
  · rfl
  · cases o <;> rfl
def kRet : Option (D × S) → Option (Out × S) | some (d, s) => some (.rt d, s) | none => none
@[simp] theorem kRet_s : kRet (some (d, s)) = some (.rt d, s) := rfl
@[simp] theorem fRet_e : fRet fe δ s = kRet (fe δ s) := by unfold fRet; rcases fe δ s with _ | ⟨c, s1⟩ <;> rfl
def kDrop (δ : Fr) : Option (D × S) → Option (Out × S) | some (_, s) => some (.nx δ, s) | none => none
@[simp] theorem kDrop_s : kDrop δ (some (d, s)) = some (.nx δ, s) := rfl
@[simp] theorem fDrop_e : fDrop fe δ s = kDrop δ (fe δ s) := by unfold fDrop; rcases fe δ s with _ | ⟨c, s1⟩ <;> rfl
def kIfS (f g : FS) (δ : Fr) : Option (Bool × S) → Option (Out × S) | some (true, s) => f δ s | some (false, s) => g δ s | none => none
@[simp] theorem kIfS_t : kIfS f g δ (some (true, s)) = f δ s := rfl
@[simp] theorem kIfS_f : kIfS f g δ (some (false, s)) = g δ s := rfl
@[simp] theorem fIfS_e : fIfS t f g δ s = kIfS f g δ (t δ s) := by
  unfold fIfS
  rcases t δ s with _ | ⟨c, s1⟩
  · rfl
  · cases c <;> rfl
def kSet (i : Nat) (δ : Fr) : Option (D × S) → Option (Out × S) | some (d, s) => some (.nx (δ.set i (some d)), s) | none => none
@[simp] theorem kSet_s : kSet i δ (some (d, s)) = some (.nx (δ.set i (some d)), s) := rfl
@[simp] theorem fSet_e : fSet i fe δ s = kSet i δ (fe δ s) := by unfold fSet; rcases fe δ s with _ | ⟨c, s1⟩ <;> rfl
def kPar (i j : Nat) (δ : Fr) : Option (List D × S) → Option (Out × S) | some ([x, y], s) => some (.nx ((δ.set i (some x)).set j (some y)), s) | _ => none
@[simp] theorem kPar_s : kPar i j δ (some ([x, y], s)) = some (.nx ((δ.set i (some x)).set j (some y)), s) := rfl
@[simp] theorem fPar_e : fPar i j fs δ s = kPar i j δ (fs δ s) := by
  unfold fPar
  rcases fs δ s with _ | ⟨c, s1⟩
  · rfl
  · show (match c with | [x, y] => _ | _ => _) = _
    split <;> rename_i h <;> first | rfl | (unfold kPar; split <;> simp_all)
def kPar3 (i j l : Nat) (δ : Fr) : Option (List D × S) → Option (Out × S) | some ([x, y, z], s) => some (.nx (((δ.set i (some x)).set j (some y)).set l (some z)), s) | _ => none
@[simp] theorem kPar3_s {z : D} : kPar3 i j l δ (some ([x, y, z], s)) = some (.nx (((δ.set i (some x)).set j (some y)).set l (some z)), s) := rfl
@[simp] theorem fPar3_e : fPar3 i j l fs δ s = kPar3 i j l δ (fs δ s) := by
  unfold fPar3
  rcases fs δ s with _ | ⟨c, s1⟩
  · rfl
  · show (match c with | [x, y, z] => _ | _ => _) = _
    split <;> rename_i h <;> first | rfl | (unfold kPar3; split <;> simp_all)
def kAsg' (s : S) : Option Fr → Option (Out × S) | some δ => some (.nx δ, s) | none => none
@[simp] theorem kAsg'_s : kAsg' s (some δ) = some (.nx δ, s) := rfl
def kAsg (ft : FG) (δ : Fr) : Option (D × S) → Option (Out × S) | some (d, s) => kAsg' s (ft d δ) | none => none
@[simp] theorem kAsg_s : kAsg ft δ (some (d, s)) = kAsg' s (ft d δ) := rfl
@[simp] theorem fAsg_e : fAsg ft fe δ s = kAsg ft δ (fe δ s) := by
  unfold fAsg
  rcases fe δ s with _ | ⟨c, s1⟩
  · rfl
  · show (ft c δ).map _ = kAsg' s1 (ft c δ); cases ft c δ <;> rfl
def kItems : Option (D × S) → Option (List D × S) | some (.tup ds, s) => some (ds, s) | some (.lst ds, s) => some (ds, s) | _ => none
@[simp] theorem kItems_t : kItems (some (.tup ds, s)) = some (ds, s) := rfl
@[simp] theorem kItems_l : kItems (some (.lst ds, s)) = some (ds, s) := rfl
@[simp] theorem fItems_e : fItems fe δ s = kItems (fe δ s) := by
  unfold fItems
  rcases fe δ s with _ | ⟨c, s1⟩
  · rfl
  · cases c <;> rfl
def kFor (ft : FG) (fb : FS) (δ : Fr) : Option (List D × S) → Option (Out × S) | some (ds, s) => loopF ft fb ds δ s | none => none
@[simp] theorem kFor_s : kFor ft g δ (some (ds, s)) = loopF ft g ds δ s := rfl
@[simp] theorem fFor_e : fFor gi ft g δ s = kFor ft g δ (gi δ s) := by unfold fFor; rcases gi δ s with _ | ⟨c, s1⟩ <;> rfl
@[simp] theorem loopF_nil : loopF ft g [] δ s = some (.nx δ, s) := rfl
def kLoop2 (ft : FG) (fb : FS) (ds : List D) : Option (Out × S) → Option (Out × S) | some (.nx δ, s) => loopF ft fb ds δ s | some (.ct δ, s) => loopF ft fb ds δ s | some (.bk δ, s) => some (.nx δ, s) | some (.rt d, s) => some (.rt d, s) | none => none
@[simp] theorem kLoop2_nx : kLoop2 ft g ds (some (.nx δ, s)) = loopF ft g ds δ s := rfl
@[simp] theorem kLoop2_ct : kLoop2 ft g ds (some (.ct δ, s)) = loopF ft g ds δ s := rfl
@[simp] theorem kLoop2_bk : kLoop2 ft g ds (some (.bk δ, s)) = some (.nx δ, s) := rfl
@[simp] theorem kLoop2_rt : kLoop2 ft g ds (some (.rt d, s)) = some (.rt d, s) := rfl
def kLoop (ft : FG) (fb : FS) (ds : List D) (s : S) : Option Fr → Option (Out × S) | some δ => kLoop2 ft fb ds (fb δ s) | none => none
@[simp] theorem kLoop_s : kLoop ft g ds s (some δ) = kLoop2 ft g ds (g δ s) := rfl
theorem loopF_cons : loopF ft g (d :: ds) δ s = kLoop ft g ds s (ft d δ) := by
  rw [loopF]
  cases ft d δ with
  | none => rfl
  | some δ1 => show (g δ1 s).bind _ = kLoop2 ft g ds (g δ1 s); rcases g δ1 s with _ | ⟨o, s1⟩
               · rfl
               · cases o <;> rfl
def kCompR : Option (List D × S) → Option (D × S) | some (r, s) => some (.lst r, s) | none => none
@[simp] theorem kCompR_s : kCompR (some (ds, s)) = some (.lst ds, s) := rfl
def kComp (vs : List Nat) (ft : FG) (tt : FT) (fe : FE) (δ : Fr) : Option (List D × S) → Option (D × S) | some (ds, s) => if okLen ds.length = true then kCompR (compL ft tt fe ds (wipeD δ vs) s) else none | none => none
@[simp] theorem kComp_s {vs : List Nat} : kComp vs ft tt fe δ (some (ds, s)) = if okLen ds.length = true then kCompR (compL ft tt fe ds (wipeD δ vs) s) else none := rfl
@[simp] theorem fComp_e {vs : List Nat} : fComp vs gi ft tt fe δ s = kComp vs ft tt fe δ (gi δ s) := by
  unfold fComp
  rcases gi δ s with _ | ⟨c, s1⟩
  · rfl
  · show (if okLen c.length = true then (compL ft tt fe c (wipeD δ vs) s1).map _ else none) = if okLen c.length = true then kCompR (compL ft tt fe c (wipeD δ vs) s1) else none
    cases compL ft tt fe c (wipeD δ vs) s1 <;> rfl
@[simp] theorem compL_nil : compL ft tt fe [] δ s = some ([], s) := rfl
def kRange : Option (List D × S) → Option (List D × S) | some ([.int j], s) => if okR j = true then some (rangeD 0 j.toNat, s) else none | _ => none
@[simp] theorem kRange_s {j : Int} : kRange (some ([.int j], s)) = if okR j = true then some (rangeD 0 j.toNat, s) else none := rfl
@[simp] theorem fRange_e : fRange fs δ s = kRange (fs δ s) := by
  unfold fRange
  rcases fs δ s with _ | ⟨c, s1⟩
  · rfl
  · show (match c with | [.int j] => _ | _ => _) = _
    split <;> rename_i h <;> first | rfl | (unfold kRange; split <;> simp_all)
def kRange2 : Option (List D × S) → Option (List D × S) | some ([.int i, .int j], s) => if (okR i && okR j) = true then some (rangeD i (j - i).toNat, s) else none | _ => none
@[simp] theorem kRange2_s {i j : Int} : kRange2 (some ([.int i, .int j], s)) = if (okR i && okR j) = true then some (rangeD i (j - i).toNat, s) else none := rfl
@[simp] theorem fRange2_e : fRange2 fs δ s = kRange2 (fs δ s) := by
  unfold fRange2
  rcases fs δ s with _ | ⟨c, s1⟩
  · rfl
  · show (match c with | [.int i, .int j] => _ | _ => _) = _
    split <;> rename_i h <;> first | rfl | (unfold kRange2; split <;> simp_all)
def kZip : Option (List D × S) → Option (List D × S) | some ([.tup xs, .tup ys], s) => some (zipD xs ys, s) | some ([.lst xs, .lst ys], s) => some (zipD xs ys, s) | _ => none
@[simp] theorem kZip_t {ys : List D} : kZip (some ([.tup xs, .tup ys], s)) = some (zipD xs ys, s) := rfl
@[simp] theorem kZip_l {ys : List D} : kZip (some ([.lst xs, .lst ys], s)) = some (zipD xs ys, s) := rfl
@[simp] theorem fZip_e : fZip fs δ s = kZip (fs δ s) := by
  unfold fZip
  rcases fs δ s with _ | ⟨c, s1⟩
  · rfl
  · show (match c with | [.tup xs, .tup ys] => _ | [.lst xs, .lst ys] => _ | _ => _) = _
    split <;> rename_i h <;> first | rfl | (unfold kZip; split <;> simp_all)
def kIsI (t : Ty5) : Option (D × S) → Option (D × S) | some (x, s) => kRB s (isD x t) | none => none
@[simp] theorem kIsI_s {t : Ty5} : kIsI t (some (x, s)) = kRB s (isD x t) := rfl
@[simp] theorem fIsI_e {t : Ty5} : fIsI t fa δ s = kIsI t (fa δ s) := by
  unfold fIsI
  rcases fa δ s with _ | ⟨c, s1⟩
  · rfl
  · show (isD c t).map _ = kRB s1 (isD c t); cases isD c t <;> rfl
def kRB2 (s : S) : Option Bool → Option Bool → Option (D × S) | some a, some b => some (.bl (a || b), s) | _, _ => none
@[simp] theorem kRB2_s {a b : Bool} : kRB2 s (some a) (some b) = some (.bl (a || b), s) := rfl
def kIsI2 (t u : Ty5) : Option (D × S) → Option (D × S) | some (x, s) => kRB2 s (isD x t) (isD x u) | none => none
@[simp] theorem kIsI2_s {t u : Ty5} : kIsI2 t u (some (x, s)) = kRB2 s (isD x t) (isD x u) := rfl
@[simp] theorem fIsI2_e {t u : Ty5} : fIsI2 t u fa δ s = kIsI2 t u (fa δ s) := by
  unfold fIsI2
  rcases fa δ s with _ | ⟨c, s1⟩
  · rfl
  · show ((isD c t).bind fun b => (isD c u).map _) = kRB2 s1 (isD c t) (isD c u); cases isD c t <;> cases isD c u <;> rfl
def kChain3 (g' : G2) (y : D) : Option (D × S) → Option (D × S) | some (z, s) => kR s (g' y z s) | none => none
@[simp] theorem kChain3_s {g' : G2} : kChain3 g' y (some (x, s)) = kR s (g' y x s) := rfl
def kChain2 (g' : G2) (fc : FE) (δ : Fr) (y : D) (s : S) : Option D → Option (D × S) | some (.bl true) => kChain3 g' y (fc δ s) | some (.bl false) => some (.bl false, s) | _ => none
@[simp] theorem kChain2_t {g' : G2} : kChain2 g' fc δ y s (some (.bl true)) = kChain3 g' y (fc δ s) := rfl
@[simp] theorem kChain2_f {g' : G2} : kChain2 g' fc δ y s (some (.bl false)) = some (.bl false, s) := rfl
def kChain1 (g g' : G2) (fc : FE) (δ : Fr) (x : D) : Option (D × S) → Option (D × S) | some (y, s) => kChain2 g' fc δ y s (g x y s) | none => none
@[simp] theorem kChain1_s {g g' : G2} : kChain1 g g' fc δ x (some (y, s)) = kChain2 g' fc δ y s (g x y s) := rfl
def kChain (g g' : G2) (fb fc : FE) (δ : Fr) : Option (D × S) → Option (D × S) | some (x, s) => kChain1 g g' fc δ x (fb δ s) | none => none
@[simp] theorem kChain_s {g g' : G2} : kChain g g' fb fc δ (some (x, s)) = kChain1 g g' fc δ x (fb δ s) := rfl
@[simp] theorem fChain_e {g g' : G2} : fChain g g' fa fb fc δ s = kChain g g' fb fc δ (fa δ s) := by
  unfold fChain
  rcases fa δ s with _ | ⟨x, s1⟩
  · rfl
  · show (fb δ s1).bind _ = kChain1 g g' fc δ x (fb δ s1)
    rcases fb δ s1 with _ | ⟨y, s2⟩
    · rfl
    · show (g x y s2).bind _ = kChain2 g' fc δ y s2 (g x y s2)
      rcases g x y s2 with _ | z
      · rfl
      · cases z with
        | bl k => cases k with
          | true => show (fc δ s2).bind _ = kChain3 g' y (fc δ s2); rcases fc δ s2 with _ | ⟨z, s3⟩
                    · rfl
                    · exact map_kR _
          | false => rfl
        | _ => rfl
def kTru' (s : S) : Option Bool → Option (Bool × S) | some k => some (k, s) | none => none
@[simp] theorem kTru'_s {b : Bool} : kTru' s (some b) = some (b, s) := rfl
def kTru : Option (D × S) → Option (Bool × S) | some (x, s) => kTru' s (truD x) | none => none
@[simp] theorem kTru_s : kTru (some (x, s)) = kTru' s (truD x) := rfl
@[simp] theorem fTru_e : fTru fa δ s = kTru (fa δ s) := by
  unfold fTru
  rcases fa δ s with _ | ⟨c, s1⟩
  · rfl
  · show (truD c).map _ = kTru' s1 (truD c); cases truD c <;> rfl
def kPutIx4 (δ : Fr) (s : S) (a : Addr) (ds : List D) (v : D) : Option Nat → Option (Out × S) | some j => some (.nx δ, supd s a (.lst (ds.set j v))) | none => none
@[simp] theorem kPutIx4_s {a : Addr} : kPutIx4 δ s a ds x (some j) = some (.nx δ, supd s a (.lst (ds.set j x))) := rfl
def kPutIx3 (δ : Fr) (s : S) (a : Addr) (k : Int) (v : D) : Option OO → Option (Out × S) | some (.lst ds) => kPutIx4 δ s a ds v (ixN ds.length k) | _ => none
@[simp] theorem kPutIx3_s {a : Addr} {k : Int} : kPutIx3 δ s a k x (some (.lst ds)) = kPutIx4 δ s a ds x (ixN ds.length k) := rfl
def kPutIx2 (δ : Fr) (v o : D) : Option (D × S) → Option (Out × S) | some (.int k, s) => (match o with | .ref a => kPutIx3 δ s a k v (s a) | _ => none) | _ => none
@[simp] theorem kPutIx2_s {a : Addr} {k : Int} : kPutIx2 δ x (.ref a) (some (.int k, s)) = kPutIx3 δ s a k x (s a) := rfl
def kPutIx1 (fi : FE) (δ : Fr) (v : D) : Option (D × S) → Option (Out × S) | some (o, s) => kPutIx2 δ v o (fi δ s) | none => none
@[simp] theorem kPutIx1_s : kPutIx1 fi δ x (some (y, s)) = kPutIx2 δ x y (fi δ s) := rfl
def kPutIx (fo fi : FE) (δ : Fr) : Option (D × S) → Option (Out × S) | some (v, s) => kPutIx1 fi δ v (fo δ s) | none => none
@[simp] theorem kPutIx_s : kPutIx fo fi δ (some (x, s)) = kPutIx1 fi δ x (fo δ s) := rfl
@[simp] theorem fPutIx_e : fPutIx fv fo fi δ s = kPutIx fo fi δ (fv δ s) := by
  unfold fPutIx
  rcases fv δ s with _ | ⟨v, s1⟩
  · rfl
  · show (fo δ s1).bind _ = kPutIx1 fi δ v (fo δ s1)
    rcases fo δ s1 with _ | ⟨o, s2⟩
    · rfl
    · show (fi δ s2).bind _ = kPutIx2 δ v o (fi δ s2)
      rcases fi δ s2 with _ | ⟨i, s3⟩
      · rfl
      · cases o <;> cases i <;> first | rfl | skip
        rename_i a k
        show (match s3 a with | some (.lst ds) => _ | _ => _) = kPutIx3 δ s3 a k v (s3 a)
        rcases s3 a with _ | w
        · rfl
        · cases w with
          | lst ds => show (ixN ds.length k).map _ = kPutIx4 δ s3 a ds v (ixN ds.length k); cases ixN ds.length k <;> rfl
          | _ => rfl
def kPutD3 (δ : Fr) (s : S) (a : Addr) (k : Str) (v : D) : Option OO → Option (Out × S) | some (.dct kvs) => if okLen kvs.length = true then some (.nx δ, supd s a (.dct (putD kvs k v))) else none | _ => none
@[simp] theorem kPutD3_s {a : Addr} {k : Str} {kvs : List (Str × D)} : kPutD3 δ s a k x (some (.dct kvs)) = if okLen kvs.length = true then some (.nx δ, supd s a (.dct (putD kvs k x))) else none := rfl
def kPutD2 (δ : Fr) (v o : D) : Option (D × S) → Option (Out × S) | some (.str k, s) => (match o with | .ref a => kPutD3 δ s a k v (s a) | _ => none) | _ => none
@[simp] theorem kPutD2_s {a : Addr} {k : Str} : kPutD2 δ x (.ref a) (some (.str k, s)) = kPutD3 δ s a k x (s a) := rfl
def kPutD1 (fi : FE) (δ : Fr) (v : D) : Option (D × S) → Option (Out × S) | some (o, s) => kPutD2 δ v o (fi δ s) | none => none
@[simp] theorem kPutD1_s : kPutD1 fi δ x (some (y, s)) = kPutD2 δ x y (fi δ s) := rfl
def kPutD (fo fi : FE) (δ : Fr) : Option (D × S) → Option (Out × S) | some (v, s) => kPutD1 fi δ v (fo δ s) | none => none
@[simp] theorem kPutD_s : kPutD fo fi δ (some (x, s)) = kPutD1 fi δ x (fo δ s) := rfl
@[simp] theorem fPutD_e : fPutD fv fo fi δ s = kPutD fo fi δ (fv δ s) := by
  unfold fPutD
  rcases fv δ s with _ | ⟨v, s1⟩
  · rfl
  · show (fo δ s1).bind _ = kPutD1 fi δ v (fo δ s1)
    rcases fo δ s1 with _ | ⟨o, s2⟩
    · rfl
    · show (fi δ s2).bind _ = kPutD2 δ v o (fi δ s2)
      rcases fi δ s2 with _ | ⟨i, s3⟩
      · rfl
      · cases o <;> cases i <;> first | rfl | skip
def kDict2 (ks : List Str) (ds : List D) : Option (D × S) → Option (D × S) | some (.str x, s) => kR s (lkD ks ds x) | _ => none
@[simp] theorem kDict2_s {ks : List Str} {z : Str} : kDict2 ks ds (some (.str z, s)) = kR s (lkD ks ds z) := rfl
def kDict (ks : List Str) (fi : FE) (δ : Fr) : Option (List D × S) → Option (D × S) | some (ds, s) => kDict2 ks ds (fi δ s) | none => none
@[simp] theorem kDict_s {ks : List Str} : kDict ks fi δ (some (ds, s)) = kDict2 ks ds (fi δ s) := rfl
@[simp] theorem fDictIx_e {ks : List Str} : fDictIx ks fs fi δ s = kDict ks fi δ (fs δ s) := by
  unfold fDictIx
  rcases fs δ s with _ | ⟨ds, s1⟩
  · rfl
  · show (fi δ s1).bind _ = kDict2 ks ds (fi δ s1)
    rcases fi δ s1 with _ | ⟨x, s2⟩
    · rfl
    · cases x with
      | str z => exact map_kR _
      | _ => rfl
def kNeg : Option (D × S) → Option (D × S) | some (.int i, s) => some (.int (-i), s) | _ => none
@[simp] theorem kNeg_s {i : Int} : kNeg (some (.int i, s)) = some (.int (-i), s) := rfl
@[simp] theorem fNeg_e : fNeg fa δ s = kNeg (fa δ s) := by
  unfold fNeg f1
  rcases fa δ s with _ | ⟨c, s1⟩
  · rfl
  · cases c <;> rfl
def kYes : Option (D × S) → Option (Option Int × S) | some (.int i, s) => some (some i, s) | _ => none
@[simp] theorem kYes_s {i : Int} : kYes (some (.int i, s)) = some (some i, s) := rfl
@[simp] theorem fYes_e : fYes fe δ s = kYes (fe δ s) := by
  unfold fYes
  rcases fe δ s with _ | ⟨c, s1⟩
  · rfl
  · cases c <;> rfl
@[simp] theorem fNo_e : fNo δ s = some (none, s) := rfl
def kSl2 (x : D) (lo : Option Int) : Option (Option Int × S) → Option (D × S) | some (hi, s) => (match x with | .tup ds => some (.tup (cutD ds lo hi), s) | .lst ds => some (.lst (cutD ds lo hi), s) | _ => none) | none => none
@[simp] theorem kSl2_t {lo hi : Option Int} : kSl2 (.tup ds) lo (some (hi, s)) = some (.tup (cutD ds lo hi), s) := rfl
@[simp] theorem kSl2_l {lo hi : Option Int} : kSl2 (.lst ds) lo (some (hi, s)) = some (.lst (cutD ds lo hi), s) := rfl
def kSl1 (fh : FO) (δ : Fr) (x : D) : Option (Option Int × S) → Option (D × S) | some (lo, s) => kSl2 x lo (fh δ s) | none => none
@[simp] theorem kSl1_s {fh : FO} {lo : Option Int} : kSl1 fh δ x (some (lo, s)) = kSl2 x lo (fh δ s) := rfl
def kSl (fl fh : FO) (δ : Fr) : Option (D × S) → Option (D × S) | some (x, s) => kSl1 fh δ x (fl δ s) | none => none
@[simp] theorem kSl_s {fl fh : FO} : kSl fl fh δ (some (x, s)) = kSl1 fh δ x (fl δ s) := rfl
@[simp] theorem fSlice_e {fl fh : FO} : fSlice fe fl fh δ s = kSl fl fh δ (fe δ s) := by
  unfold fSlice
  rcases fe δ s with _ | ⟨x, s1⟩
  · rfl
  · show (fl δ s1).bind _ = kSl1 fh δ x (fl δ s1)
    rcases fl δ s1 with _ | ⟨lo, s2⟩
    · rfl
    · show (fh δ s2).bind _ = kSl2 x lo (fh δ s2)
      rcases fh δ s2 with _ | ⟨hi, s3⟩
      · rfl
      · cases x <;> rfl
def kApp3 (a : Addr) (v : D) (s : S) : Option OO → Option (D × S) | some (.lst ds) => if okLen ds.length = true then some (.non, supd s a (.lst (ds ++ [v]))) else none | _ => none
@[simp] theorem kApp3_s {a : Addr} : kApp3 a x s (some (.lst ds)) = if okLen ds.length = true then some (.non, supd s a (.lst (ds ++ [x]))) else none := rfl
def kApp2 (a : Addr) : Option (D × S) → Option (D × S) | some (v, s) => kApp3 a v s (s a) | none => none
@[simp] theorem kApp2_s {a : Addr} : kApp2 a (some (x, s)) = kApp3 a x s (s a) := rfl
def kApp1 (fv : FE) (δ : Fr) (a : Addr) (s : S) : Option OO → Option (D × S) | some (.lst _) => kApp2 a (fv δ s) | _ => none
@[simp] theorem kApp1_s {a : Addr} : kApp1 fv δ a s (some (.lst ds)) = kApp2 a (fv δ s) := rfl
def kApp (fv : FE) (δ : Fr) : Option (D × S) → Option (D × S) | some (.ref a, s) => kApp1 fv δ a s (s a) | _ => none
@[simp] theorem kApp_s {a : Addr} : kApp fv δ (some (.ref a, s)) = kApp1 fv δ a s (s a) := rfl
@[simp] theorem fApp_e : fApp fo fv δ s = kApp fv δ (fo δ s) := by
  unfold fApp
  rcases fo δ s with _ | ⟨o, s1⟩
  · rfl
  · cases o <;> first | rfl | skip
    rename_i a
    show (match s1 a with | some (.lst _) => _ | _ => _) = kApp1 fv δ a s1 (s1 a)
    rcases s1 a with _ | w
    · rfl
    · cases w with
      | lst ds =>
        show (fv δ s1).bind _ = kApp2 a (fv δ s1)
        rcases fv δ s1 with _ | ⟨v, s2⟩
        · rfl
        · show (match s2 a with | some (.lst ds) => _ | _ => _) = kApp3 a v s2 (s2 a)
          rcases s2 a with _ | w2
          · rfl
          · cases w2 <;> rfl
      | _ => rfl
def kBody : Option (Out × S) → Option (D × S) | some (.rt d, s) => some (d, s) | some (.nx _, s) => some (.non, s) | _ => none
@[simp] theorem kBody_rt : kBody (some (.rt d, s)) = some (d, s) := rfl
@[simp] theorem kBody_nx : kBody (some (.nx δ, s)) = some (.non, s) := rfl
@[simp] theorem fBody_e : fBody n f ds s = kBody (f (startD n ds) s) := by
  unfold fBody
  rcases f (startD n ds) s with _ | ⟨o, s1⟩
  · rfl
  · cases o <;> rfl
end Fw

set_option Elab.async false
set_option linter.all false
set_option maxRecDepth 100000
namespace Fw
open PySem PySem.Spec PyProof.Rows L2
section
variable {X : Cx} {tg e a b c o i v : Expr} {es : List Expr} {fe fa fb fc fo fi fv : FE} {fs : FA} {pos p pos' tpos npos : Pos}
def kPutDN (δ : Fr) (y : D) (o : D) : Option (D × S) → Option (Out × S) | some (.str k, s) => (match o with | .ref a => kPutD3 δ s a k y (s a) | _ => none) | _ => none
@[simp] theorem kPutDN_s {δ : Fr} {y : D} {s : S} {a : Addr} {k : Str} : kPutDN δ y (.ref a) (some (.str k, s)) = kPutD3 δ s a k y (s a) := rfl
def kAsgND2 (fi : FE) (δ : Fr) (y : D) : Option (D × S) → Option (Out × S) | some (o, s) => kPutDN δ y o (fi δ s) | none => none
@[simp] theorem kAsgND2_s {δ : Fr} {y o : D} {s : S} : kAsgND2 fi δ y (some (o, s)) = kPutDN δ y o (fi δ s) := rfl
def kAsgND (j : Nat) (fo fi : FE) (δ : Fr) : Option (D × S) → Option (Out × S) | some (.tup [x, y], s) => kAsgND2 fi (δ.set j (some x)) y (fo (δ.set j (some x)) s) | _ => none
@[simp] theorem kAsgND_s {δ : Fr} {x y : D} {s : S} {j : Nat} : kAsgND j fo fi δ (some (.tup [x, y], s)) = kAsgND2 fi (δ.set j (some x)) y (fo (δ.set j (some x)) s) := rfl
/-- x, o[i] = e: a name and an item of an owned dict -/
def fAsgND (j : Nat) (fe fo fi : FE) : FS := fun δ s => kAsgND j fo fi δ (fe δ s)
@[simp] theorem fAsgND_e {δ : Fr} {s : S} {j : Nat} : fAsgND j fe fo fi δ s = kAsgND j fo fi δ (fe δ s) := rfl
theorem ds_asgND {j k : Nat} {x : Str} (hu : X.A.units + 1 < cLine) (hN : X.N.Nodup) (hj : X.N[j]? = some x) (hx : Loc X.env.scope x) (he : PE X e (tD X.K fe)) (ho : PE X o (tD X.K fo)) (hi : PE X i (tD X.K fi))
    (hf : X.fn x = true ∨ X.env.scope.names.lookup x = some .local := by first | exact .inl rfl | exact .inr rfl | assumption) (hc : X.calm = true := by rfl)
    (ha : ∀ v, assign (.Subscript o i pos) X.env v = (holding [v] (eval o X.env) >>= fun x => holding [v, x] (eval i X.env) >>= fun y => standAt pos >>= fun _ => holding [v, x, y] (setItem x y v) >>= fun _ => release [v, x, y] []) := by intro _; rfl)
    (hn : (assignEach [.Name x npos, .Subscript o i pos] X.env).length = 2 := by rfl) (hst : (assignEach [.Name x npos, .Subscript o i pos] X.env).findIdx? (·.1) = none := by rfl)
    (h2 : (assignEach [.Name x npos, .Subscript o i pos] X.env).map (·.2) = assign (.Name x npos) X.env :: (assignEach [.Subscript o i pos] X.env).map (·.2) := by rfl) (h3 : (assignEach [.Subscript o i pos] X.env).map (·.2) = assign (.Subscript o i pos) X.env :: (assignEach [] X.env).map (·.2) := by rfl)
    (hs : swapsWithSole [.Tuple [.Name x npos, .Subscript o i pos] k tpos] e pos'.line X.env = pure false := by rfl) (hw : swappedStores [.Tuple [.Name x npos, .Subscript o i pos] k tpos] e X.env = pure none := by rfl)
    (h1 : (assignEach [.Tuple [.Name x npos, .Subscript o i pos] k tpos] X.env).map (·.2) = [assign (.Tuple [.Name x npos, .Subscript o i pos] k tpos) X.env] := by rfl) :
    PS X (.Assign [.Tuple [.Name x npos, .Subscript o i pos] k tpos] e pos') (tDS X.K (fAsgND j fe fo fi)) :=
  imp_s (ps_asg he (pg_tup hc (pgs_cons (pg_name hN hj hx hf) (pgs_cons (pg_sub ho hi (set_dict hu) ha) pgs_nil h3) h2) hn hst) hs hw h1) fun D σ H ⟨h, s, δ, out, s', er, si, q, w⟩ => by
  unfold fAsgND at q
  cases q1 : fe δ s with
  | none => rw [q1] at q; cases q
  | some p =>
    obtain ⟨d, s1⟩ := p
    rw [q1] at q
    refine ⟨h, s, δ, d, s1, er, si, q1, fun vv H1 st1 r1 => ?_⟩
    unfold kAsgND at q
    split at q
    rotate_left
    · cases q
    rename_i dx dy s1' e1
    cases e1
    cases r1 with
    | tup hq rs =>
      rename_i t xs
      obtain ⟨v1, v2, rfl, r1, r2⟩ := reps2 rs
      refine ⟨t, [v1, v2], rfl, sqt_un hq.sq, rfl, v1, [v2], rfl, v2, [], rfl, ?_⟩
      have er1 := (er.mono (st1.ext si)).set r1 j
      unfold kAsgND2 at q
      cases q2 : fo (δ.set j (some dx)) s1 with
      | none => rw [q2] at q; cases q
      | some po =>
        obtain ⟨d_o, s2⟩ := po
        rw [q2] at q
        refine ⟨h, s1, _, d_o, s2, er1, st1.si, q2, fun vo H2 st2 r3 => ?_⟩
        cases q3 : fi (δ.set j (some dx)) s2 with
        | none =>
          have q' : kPutDN (δ.set j (some dx)) dy d_o (fi (δ.set j (some dx)) s2) = some (out, s') := q
          rw [q3] at q'; cases q'
        | some pi =>
          obtain ⟨di, s3⟩ := pi
          have q' : kPutDN (δ.set j (some dx)) dy d_o (fi (δ.set j (some dx)) s2) = some (out, s') := q
          rw [q3] at q'
          refine ⟨h, s2, _, di, s3, er1.mono (st2.ext st1.si), st2.si, q3, fun vi H3 st3 r4 => ?_⟩
          cases d_o with
          | ref a =>
            cases di with
            | str kk =>
              have q2' : kPutD3 (δ.set j (some dx)) s3 a kk dy (s3 a) = some (out, s') := q'
              unfold kPutD3 at q2'
              split at q2'
              · rename_i kvs e
                split at q2'
                · rename_i hl
                  cases q2'
                  obtain ⟨es, e2, rk⟩ := st3.si.ob _ _ e
                  have st : Step X.K h s H s3 H3 := st1.trans (st2.trans st3)
                  have rv : Rep X.K (hide h H3) v2 dy := st3.rep st2.si (st2.rep st1.si r2)
                  have hln : es.length = kvs.length := by have := congrArg List.length rk.1; simpa using this
                  have st4 := st3.si.putL (o := .dK (putK es (Sum.inr kk) v2)) (w := .dct (putD kvs kk dy)) e ⟨_, rfl, repkv_put rv rk⟩
                  refine ⟨a, _, rep_ref (st3.rep st2.si r3), by rw [rep_str r4]; exact DPut.k (k := Sum.inr kk) e2 (by rw [hln]; exact okLen_lt hl), rfl, ?_⟩
                  exact w _ (st.trans st4) _ (er1.mono ((st2.trans (st3.trans st4)).ext st1.si))
                · cases q2'
              · cases q2'
            | _ => cases q'
          | _ => cases di <;> cases q'
end
end Fw

set_option Elab.async false
set_option linter.all false
set_option maxRecDepth 100000
namespace Fw
open PySem PySem.Spec PyProof.Rows L2

/-! ### the row of draws -/
def rowO (ns : List Int) (i sd r : Int) : OO := .lst [.scr ns, .int i, .int sd, .int r]
def IsRow (s : S) (a : Addr) : Prop := ∃ ns i sd r, s a = some (rowO ns i sd r) ∧ 0 ≤ i
def RowTo (s : S) (a : Addr) (s' : S) : Prop := ∃ ns i sd r, s' = supd s a (rowO ns i sd r) ∧ 0 ≤ i
theorem RowTo.is {s s' : S} {a : Addr} (h : RowTo s a s') : IsRow s' a := by
  obtain ⟨ns, i, sd, r, rfl, hi⟩ := h
  exact ⟨ns, i, sd, r, supd_same, hi⟩
theorem RowTo.trans {s s1 s2 : S} {a : Addr} (h : RowTo s a s1) (h' : RowTo s1 a s2) : RowTo s a s2 := by
  obtain ⟨ns, i, sd, r, rfl, hi⟩ := h
  obtain ⟨ns', i', sd', r', rfl, hi'⟩ := h'
  exact ⟨ns', i', sd', r', supd_supd, hi'⟩
theorem RowTo.refl {s : S} {a : Addr} (h : IsRow s a) : RowTo s a s := by
  obtain ⟨ns, i, sd, r, hs, hi⟩ := h
  exact ⟨ns, i, sd, r, (supd_self hs).symm, hi⟩
def P_taken (g : FD) : Prop := ∀ (a : Addr) (s : S) (m : Int), IsRow s a → 0 < m → m < 1073741824 → ∃ v s', g [.ref a, .int m] s = some (.int v, s') ∧ RowTo s a s' ∧ 0 ≤ v ∧ v < m
def P_pick (g : FD) : Prop := ∀ (a : Addr) (s : S) (x : D) (ds : List D), itemsD x = some ds → IsRow s a → ds ≠ [] → ds.length ≤ 10000000 → ∃ d s', g [.ref a, x] s = some (d, s') ∧ RowTo s a s' ∧ d ∈ ds

theorem atI_of {α : Type} {xs : List α} {i : Int} (h0 : 0 ≤ i) (h1 : i < xs.length) : ∃ v, L2.atI xs i = some v ∧ v ∈ xs := by
  have hi : i.toNat < xs.length := by omega
  refine ⟨xs[i.toNat], ?_, List.getElem_mem hi⟩
  unfold L2.atI ixN
  rw [if_pos h0, if_pos h1]
  show xs[i.toNat]? = _
  exact List.getElem?_eq_getElem hi

/-- a comprehension whose elements are made one by one -/
theorem compL_ex {ft : FG} {fe : FE} {δ : Fr} (I : S → Prop) (Pv : D → Prop) : ∀ (ds : List D) (s : S), I s → (∀ d ∈ ds, ∃ δ1, ft d δ = some δ1 ∧ ∀ s, I s → ∃ v s', fe δ1 s = some (v, s') ∧ I s' ∧ Pv v) →
    ∃ vs s', compL ft tTrue fe ds δ s = some (vs, s') ∧ I s' ∧ vs.length = ds.length ∧ ∀ v ∈ vs, Pv v
  | [], s, hs, _ => ⟨[], s, rfl, hs, rfl, fun _ h => nomatch h⟩
  | d :: ds, s, hs, h => by
    obtain ⟨δ1, e1, h1⟩ := h d List.mem_cons_self
    obtain ⟨v, s1, e2, i1, pv⟩ := h1 s hs
    obtain ⟨vs, s2, e3, i2, hl, hv⟩ := compL_ex I Pv ds s1 i1 fun d hd => h d (List.mem_cons_of_mem _ hd)
    refine ⟨v :: vs, s2, ?_, i2, by simp [hl], fun x hx => ?_⟩
    · simp [compL, e1, e2, e3]
    · rcases List.mem_cons.mp hx with rfl | hx
      · exact pv
      · exact hv x hx
/-- a comprehension that filters and makes nothing of the state -/
theorem compL_pure {ft : FG} {tt : FT} {fe : FE} {δ : Fr} {s : S} (b : D → Bool) (f : D → D) : ∀ (ds : List D), (∀ d ∈ ds, ∃ δ1, ft d δ = some δ1 ∧ tt δ1 s = some (b d, s) ∧ (b d = true → fe δ1 s = some (f d, s))) →
    compL ft tt fe ds δ s = some ((ds.filter b).map f, s)
  | [], _ => rfl
  | d :: ds, h => by
    obtain ⟨δ1, e1, e2, e3⟩ := h d List.mem_cons_self
    have ih := compL_pure b f ds fun d hd => h d (List.mem_cons_of_mem _ hd)
    cases hb : b d with
    | true => simp [compL, e1, e2, e3 hb, ih, hb]
    | false => simp [compL, e1, e2, ih, hb]
theorem compL_map {ft : FG} {fe : FE} {δ : Fr} {s : S} (f : D → D) (ds : List D) (h : ∀ d ∈ ds, ∃ δ1, ft d δ = some δ1 ∧ fe δ1 s = some (f d, s)) : compL ft tTrue fe ds δ s = some (ds.map f, s) := by
  have := compL_pure (ft := ft) (tt := tTrue) (fe := fe) (δ := δ) (s := s) (fun _ => true) f ds fun d hd => by
    obtain ⟨δ1, e1, e2⟩ := h d hd
    exact ⟨δ1, e1, rfl, fun _ => e2⟩
  rw [this, List.filter_eq_self.mpr fun _ _ => rfl]
end Fw

set_option Elab.async false
set_option linter.all false
set_option maxRecDepth 100000
namespace Fw
open PySem PySem.Spec PyProof.Rows L2
/-! ### texts as strings -/
@[simp] theorem strOk_ofString (x : String) : PyData.strOk (Str.ofString x) = true := by
  rw [Str.ofString_eq_toList]
  unfold PyData.strOk
  rw [Array.all_eq_true]
  intro i hi
  have hi' : i < x.toList.length := by simpa using hi
  have e : (x.toList.map Char.toNat).toArray[i] = (x.toList[i]).toNat := by simp
  show decide ((x.toList.map Char.toNat).toArray[i] < 0x110000) = true
  rw [e]
  refine decide_eq_true ?_
  have h := (x.toList[i]).valid
  rcases h with h | h
  · have h2 : (x.toList[i]).toNat < 0xd800 := h
    omega
  · exact h.2
@[simp] def strD (x : String) : D := .str (Str.ofString x)
theorem strs_flat (ws : List String) : (ws.map strD).all flatD = true := by
  induction ws with
  | nil => rfl
  | cons x ws ih => rw [List.map_cons, List.all_cons, ih]; rfl
theorem eqF_str (x y : String) : eqF (strD x) (strD y) = decide (y = x) := by
  show (Str.ofString x == Str.ofString y) = _
  by_cases h : y = x
  · subst h; simp
  · rw [decide_eq_false h]
    exact beq_eq_false_iff_ne.mpr fun e => h (ofString_inj' e).symm
theorem strs_any (ws : List String) (y : String) : ((ws.map strD).any fun z => eqF z (strD y)) = decide (y ∈ ws) := by
  induction ws with
  | nil => rfl
  | cons x ws ih =>
    rw [List.map_cons, List.any_cons, ih, eqF_str]
    by_cases h : y = x
    · simp [h]
    · simp [h]
@[simp high] theorem dIn_strs (y : String) (ws : List String) (s : S) : dIn (.str (Str.ofString y)) (.tup (ws.map strD)) s = some (.bl (decide (y ∈ ws))) := by
  show (if (flatD (strD y) && (ws.map strD).all flatD) = true then some (D.bl ((ws.map strD).any fun z => eqF z (strD y))) else none) = _
  rw [strs_flat, strs_any]
  rfl
@[simp high] theorem dNotIn_strs (y : String) (ws : List String) (s : S) : dNotIn (.str (Str.ofString y)) (.tup (ws.map strD)) s = some (.bl (!decide (y ∈ ws))) := by
  show (if (flatD (strD y) && (ws.map strD).all flatD) = true then some (D.bl (!(ws.map strD).any fun z => eqF z (strD y))) else none) = _
  rw [strs_flat, strs_any]
  rfl
def P_into (g : FD) : Prop := ∀ (ws : List String) (a b c : Bool) (s : S), g [.tup (ws.map strD), .bl a, .bl b, .bl c] s = some (.bl (a || ((!b || decide ("straight" ∈ ws)) && (!c || decide ("under" ∈ ws)))), s)
def wordsL : List String := ["ends seen", "ifs", "marks", "prints", "prints seen", "splits", "steps seen", "stops", "straight", "tells", "under", "whiles"]
def lotsL : List (List String) := [["ends seen", "splits"], ["ends seen", "whiles"], ["ifs", "prints", "prints seen"], ["ifs", "steps seen"], ["ifs", "stops"], ["ifs", "under"], ["marks"], ["prints", "prints seen", "whiles"], ["prints seen", "tells"], ["steps seen", "whiles"], ["stops", "whiles"], ["straight"], ["under", "whiles"]]
def lotD (l : List String) : D := .tup (l.map strD)

/-! ### programs -/
inductive Sm where
  | sum (x : Nat) (ts : List Nat) (n : Nat)
  | ite (x : Nat) (p q : List Sm)
  | times (n : Nat) (b : List Sm)
  | whl (x : Nat) (b : List Sm)
  | print (x : Nat)
  | stop
  | split (x y : Nat)
  | keep (t : Bool) (x y : Nat)
  | fetch (t : Bool) (x y : Nat)
/-- a sort or a table by whether it is secret -/
def sortD (t : Bool) : D := strD (if t then "secret" else "open")
def natD (n : Nat) : D := .int (n : Int)
mutual
def smD : Sm → D
  | .sum x ts n => .tup [strD "sum", natD x, .tup (ts.map natD), natD n]
  | .ite x p q => .tup [strD "if", natD x, .tup (smsD p), .tup (smsD q)]
  | .times n b => .tup [strD "times", natD n, .tup (smsD b)]
  | .whl x b => .tup [strD "while", natD x, .tup (smsD b)]
  | .print x => .tup [strD "print", natD x]
  | .stop => .tup [strD "stop"]
  | .split x y => .tup [strD "split", natD x, natD y]
  | .keep t x y => .tup [strD "keep", sortD t, natD x, natD y]
  | .fetch t x y => .tup [strD "fetch", sortD t, natD x, natD y]
def smsD : List Sm → List D
  | [] => []
  | a :: b => smD a :: smsD b
end
theorem smsD_map : ∀ b : List Sm, smsD b = b.map smD
  | [] => rfl
  | a :: b => by rw [smsD, smsD_map b]; rfl
mutual
/-- of m names, with at most d of if, times, while within one another, inner bodies of at most 4 -/
def smOk (m : Nat) : Nat → Sm → Prop
  | _, .sum x ts n => x < m ∧ ts.length ≤ 2 ∧ (∀ t ∈ ts, t < m) ∧ n ≤ 9
  | d, .ite x p q => x < m ∧ p.length ≤ 4 ∧ q.length ≤ 4 ∧ 0 < d ∧ smsOk m (d - 1) p ∧ smsOk m (d - 1) q
  | d, .times n b => n ≤ 3 ∧ b.length ≤ 4 ∧ 0 < d ∧ smsOk m (d - 1) b
  | d, .whl x b => x < m ∧ b.length ≤ 4 ∧ 0 < d ∧ smsOk m (d - 1) b
  | _, .print x => x < m
  | _, .stop => True
  | _, .split x y => x < m ∧ y < m
  | _, .keep _ x y => x < m ∧ y < m
  | _, .fetch _ x y => x < m ∧ y < m
def smsOk (m : Nat) : Nat → List Sm → Prop
  | _, [] => True
  | d, a :: b => smOk m d a ∧ smsOk m d b
end
theorem smsOk_iff {m d : Nat} : ∀ {b : List Sm}, smsOk m d b ↔ ∀ a ∈ b, smOk m d a
  | [] => by simp [smsOk]
  | a :: b => by rw [smsOk, smsOk_iff (b := b)]; simp
end Fw

set_option Elab.async false
set_option linter.all false
set_option maxRecDepth 100000
namespace Fw
open PySem PySem.Spec PyProof.Rows L2
/-- the body of a lot -/
def toldM (l : List String) : List Sm :=
  let up := Sm.sum 0 [] 1
  let down := Sm.sum 1 [] 0
  if l = ["marks"] then [up, .keep false 1 0]
  else if l = ["straight"] then [.sum 0 [1] 0]
  else if l = ["ends seen", "splits"] then [.split 1 1]
  else if l = ["prints seen", "tells"] then [.print 1]
  else if l = ["ifs", "prints", "prints seen"] then [.ite 1 [.print 0] []]
  else if l = ["ifs", "steps seen"] then [.ite 1 [down] []]
  else if l = ["ifs", "stops"] then [.ite 1 [.stop] [], up]
  else if l = ["ifs", "under"] then [.ite 1 [up] []]
  else if l = ["ends seen", "whiles"] then [.whl 1 []]
  else if l = ["prints", "prints seen", "whiles"] then [.whl 1 [.print 0, down]]
  else if l = ["steps seen", "whiles"] then [.whl 1 [down]]
  else if l = ["stops", "whiles"] then [.whl 1 [.stop], up]
  else [.whl 1 [up, down]]
def bodyD (b : List Sm) : D := .tup (smsD b)
def P_told (g : FD) : Prop := ∀ l ∈ lotsL, ∀ s, g [lotD l] s = some (bodyD (toldM l), s)

/-! ### the checker -/
def intoM (ws : List String) (sec src und : Bool) : Bool := sec || ((!src || decide ("straight" ∈ ws)) && (!und || decide ("under" ∈ ws)))
def hid (so : List Bool) (x : Nat) : Bool := so.getD x false
def standsM (ws : List String) (so : List Bool) (und : Bool) : Sm → Bool
  | .sum x ts _ => intoM ws (hid so x) (ts.any (hid so)) und
  | .ite x _ _ => !hid so x || decide ("ifs" ∈ ws)
  | .times _ _ => true
  | .whl x _ => !(hid so x || und) || decide ("whiles" ∈ ws)
  | .print x => (!hid so x || decide ("tells" ∈ ws)) && (!und || decide ("prints" ∈ ws))
  | .stop => !und || decide ("stops" ∈ ws)
  | .split x y => ((!hid so y && !und) || decide ("splits" ∈ ws)) && intoM ws (hid so x) (hid so y) und
  | .keep t x y => (t || (!hid so x || decide ("marks" ∈ ws))) && intoM ws t (hid so y) und
  | .fetch t x y => intoM ws (hid so x) (t || hid so y) und
mutual
def faultM (ws : List String) (so : List Bool) : Bool → Sm → Option (List Nat)
  | und, .ite x p q => if standsM ws so und (.ite x p q) then
      match faultsM ws so (und || hid so x) 0 p with
      | some z => some (0 :: z)
      | none => (faultsM ws so (und || hid so x) 0 q).map fun z => 1 :: z
    else some []
  | und, .times n b => if standsM ws so und (.times n b) then faultsM ws so und 0 b else some []
  | und, .whl x b => if standsM ws so und (.whl x b) then faultsM ws so (und || hid so x) 0 b else some []
  | und, .sum x ts n => if standsM ws so und (.sum x ts n) then none else some []
  | und, .print x => if standsM ws so und (.print x) then none else some []
  | und, .stop => if standsM ws so und .stop then none else some []
  | und, .split x y => if standsM ws so und (.split x y) then none else some []
  | und, .keep t x y => if standsM ws so und (.keep t x y) then none else some []
  | und, .fetch t x y => if standsM ws so und (.fetch t x y) then none else some []
def faultsM (ws : List String) (so : List Bool) : Bool → Nat → List Sm → Option (List Nat)
  | _, _, [] => none
  | und, k, a :: b => match faultM ws so und a with
    | some z => some (k :: z)
    | none => faultsM ws so und (k + 1) b
end
def placeD : Option (List Nat) → D
  | none => .non
  | some z => .tup (z.map natD)
def sortsD (so : List Bool) : D := .tup (so.map sortD)
def P_stands (g : FD) : Prop := ∀ (ws : List String) (so : List Bool) (a : Sm) (d : Nat) (und : Bool) (s : S), so.length ≤ 1000 → smOk so.length d a → g [.tup (ws.map strD), sortsD so, smD a, .bl und] s = some (.bl (standsM ws so und a), s)
def P_check (d : Nat) (g : FD) : Prop := ∀ (ws : List String) (so : List Bool) (b : List Sm) (und : Bool) (s : S), so.length ≤ 1000 → b.length ≤ 1000 → smsOk so.length d b → g [.tup (ws.map strD), sortsD so, bodyD b, .bl und] s = some (placeD (faultsM ws so und 0 b), s)
end Fw

set_option Elab.async false
set_option linter.all false
set_option maxRecDepth 100000
namespace Fw
open PySem PySem.Spec PyProof.Rows L2
theorem set_get {δ : Fr} {i : Nat} {x : Option D} (h : i < δ.length) : (δ.set i x)[i]? = some x := by
  rw [List.getElem?_set]
  simp [h]
theorem compL_so {δ : Fr} {i : Nat} {s : S} (so : List Bool) (h : i < δ.length) : compL (gtName i) tTrue (f2 dEq (fVar i) (fC (.str (Str.ofString "secret")))) (so.map sortD) δ s = some (so.map D.bl, s) := by
  induction so with
  | nil => rfl
  | cons b so ih =>
    have e1 : f2 dEq (fVar i) (fC (.str (Str.ofString "secret"))) (δ.set i (some (sortD b))) s = some (.bl b, s) := by
      cases b <;> simp [set_get h, sortD]
    rw [List.map_cons, List.map_cons, compL]
    show (f2 dEq (fVar i) (fC (.str (Str.ofString "secret"))) (δ.set i (some (sortD b))) s).bind _ = _
    rw [e1]
    show (compL _ _ _ _ δ s).map _ = _
    rw [ih]
    rfl
theorem hid_get {so : List Bool} {x : Nat} (h : x < so.length) : L2.atI (so.map D.bl) (x : Int) = some (.bl (hid so x)) := by
  rw [atI_cast, List.getElem?_map, List.getElem?_eq_getElem h]
  unfold hid
  rw [List.getD_eq_getElem?_getD, List.getElem?_eq_getElem h]
  rfl
theorem compL_hid {δ : Fr} {i j : Nat} {s : S} {so : List Bool} : ∀ (ts : List Nat), (∀ t ∈ ts, t < so.length) → δ[j]? = some (some (.lst (so.map D.bl))) → i < δ.length → i ≠ j →
    compL (gtName i) tTrue (f2 dIx (fVar j) (fVar i)) (ts.map natD) δ s = some ((ts.map (hid so)).map D.bl, s)
  | [], _, _, _, _ => rfl
  | t :: ts, ht, hj, hi, hij => by
    have ih := compL_hid (s := s) ts (fun t h => ht t (List.mem_cons_of_mem _ h)) hj hi hij
    have e1 : f2 dIx (fVar j) (fVar i) (δ.set i (some (natD t))) s = some (.bl (hid so t), s) := by
      have hj2 : (δ.set i (some (D.int (t : Nat))))[j]? = some (some (.lst (so.map D.bl))) := by rw [List.getElem?_set_ne hij]; exact hj
      unfold natD
      simp only [f2_e, fVar_e, hj2, set_get hi, kVar_s, k2_s, k2'_s, dIx, hid_get (ht t List.mem_cons_self), kR_s]
    rw [List.map_cons, List.map_cons, compL]
    show (f2 dIx (fVar j) (fVar i) (δ.set i (some (natD t))) s).bind _ = _
    rw [e1]
    show (compL _ _ _ _ δ s).map _ = _
    rw [ih]
    rfl
theorem bls_flat (bs : List Bool) : (bs.map D.bl).all flatD = true := by
  induction bs with
  | nil => rfl
  | cons b bs ih => rw [List.map_cons, List.all_cons, ih]; rfl
theorem bls_any (bs : List Bool) : ((bs.map D.bl).any fun z => eqF z (.bl true)) = bs.any id := by
  induction bs with
  | nil => rfl
  | cons b bs ih =>
    rw [List.map_cons, List.any_cons, List.any_cons, ih]
    cases b <;> rfl
@[simp high] theorem dIn_bls (bs : List Bool) (s : S) : dIn (.bl true) (.lst (bs.map D.bl)) s = some (.bl (bs.any id)) := by
  show (if (bs.map D.bl).all flatD = true then some (D.bl ((bs.map D.bl).any fun z => eqF z (.bl true))) else none) = _
  rw [bls_flat, bls_any]
  rfl
@[simp] theorem str_add_s_if : Str.ofString "if" ++ Str.ofString "s" = Str.ofString "ifs" := by decide +kernel
@[simp] theorem str_add_s_while : Str.ofString "while" ++ Str.ofString "s" = Str.ofString "whiles" := by decide +kernel
@[simp] theorem str_len_if : (Str.ofString "if").length = 2 := by decide +kernel
@[simp] theorem str_len_while : (Str.ofString "while").length = 5 := by decide +kernel
@[simp] theorem str_len_s : (Str.ofString "s").length = 1 := by decide +kernel
end Fw

set_option Elab.async false
set_option linter.all false
set_option maxRecDepth 100000
namespace Fw
open PySem PySem.Spec PyProof.Rows L2
theorem rangeD_zero (lo : Int) : rangeD lo 0 = [] := rfl
theorem rangeD_succ (lo : Int) (n : Nat) : rangeD lo (n + 1) = .int lo :: rangeD (lo + 1) n := by
  unfold rangeD
  rw [List.range_succ_eq_map, List.map_cons, List.map_map]
  congr 1
  · simp
  · apply List.map_congr_left
    intro i _
    simp only [Function.comp, Nat.succ_eq_add_one]
    congr 1
    omega
@[simp] theorem rangeD_1 (lo : Int) : rangeD lo 1 = [.int lo] := by rw [rangeD_succ, rangeD_zero]
@[simp] theorem rangeD_2 (lo : Int) : rangeD lo 2 = [.int lo, .int (lo + 1)] := by rw [rangeD_succ, rangeD_1]
/-- a loop by an invariant: I by the turn; Rt what it may return -/
theorem loopF_inv {ft : FG} {fb : FS} (I : Nat → Fr → S → Prop) (Rt : D → S → Prop) : ∀ (ds : List D) (k : Nat) (δ : Fr) (s : S), I k δ s →
    (∀ i d δ s, ds[i]? = some d → I (k + i) δ s → ∃ δ1, ft d δ = some δ1 ∧ ((∃ δ2 s2, fb δ1 s = some (.nx δ2, s2) ∧ I (k + i + 1) δ2 s2) ∨ (∃ d s2, fb δ1 s = some (.rt d, s2) ∧ Rt d s2))) →
    (∃ δ' s', loopF ft fb ds δ s = some (.nx δ', s') ∧ I (k + ds.length) δ' s') ∨ (∃ d s', loopF ft fb ds δ s = some (.rt d, s') ∧ Rt d s')
  | [], k, δ, s, h0, _ => .inl ⟨δ, s, rfl, h0⟩
  | d :: ds, k, δ, s, h0, hs => by
    obtain ⟨δ1, e1, h⟩ := hs 0 d δ s rfl h0
    rw [loopF_cons, e1, kLoop_s]
    rcases h with ⟨δ2, s2, e2, i2⟩ | ⟨r, s2, e2, r2⟩
    · rw [e2, kLoop2_nx]
      have := loopF_inv I Rt ds (k + 1) δ2 s2 (by simpa using i2) fun i d δ s hd hi => by
        have := hs (i + 1) d δ s (by simpa using hd) (by have : k + (i + 1) = k + 1 + i := by omega
                                                         rw [this]; exact hi)
        have e : k + (i + 1) + 1 = k + 1 + i + 1 := by omega
        rw [e] at this
        exact this
      rw [show k + (d :: ds).length = k + 1 + ds.length by simp; omega]
      exact this
    · rw [e2, kLoop2_rt]
      exact .inr ⟨r, s2, rfl, r2⟩
/-- .. as a def's loop, with what follows -/
theorem kSeq_loop {ft : FG} {fb g : FS} {ds : List D} {δ : Fr} {s : S} {r : Option (D × S)} (I : Nat → Fr → S → Prop) (Rt : D → S → Prop) (h0 : I 0 δ s)
    (hs : ∀ i d δ s, ds[i]? = some d → I i δ s → ∃ δ1, ft d δ = some δ1 ∧ ((∃ δ2 s2, fb δ1 s = some (.nx δ2, s2) ∧ I (i + 1) δ2 s2) ∨ (∃ d s2, fb δ1 s = some (.rt d, s2) ∧ Rt d s2)))
    (h1 : ∀ δ s, I ds.length δ s → kBody (g δ s) = r) (h2 : ∀ d s, Rt d s → some (d, s) = r) : kBody (kSeq g (loopF ft fb ds δ s)) = r := by
  rcases loopF_inv I Rt ds 0 δ s h0 (by simpa using hs) with ⟨δ', s', e, i⟩ | ⟨d, s', e, i⟩
  · rw [e, kSeq_nx]
    exact h1 δ' s' (by simpa using i)
  · rw [e, kSeq_rt, kBody_rt]
    exact h2 d s' i
theorem smsD_length (b : List Sm) : (smsD b).length = b.length := by rw [smsD_map, List.length_map]
theorem smsD_get {b : List Sm} {i : Nat} {a : Sm} (h : b[i]? = some a) : L2.atI (smsD b) (i : Int) = some (smD a) := by
  rw [atI_cast, smsD_map, List.getElem?_map, h]
  rfl
theorem so_get {so : List Bool} {x : Nat} (h : x < so.length) : L2.atI (so.map sortD) (x : Int) = some (sortD (hid so x)) := by
  rw [atI_cast, List.getElem?_map, List.getElem?_eq_getElem h]
  unfold hid
  rw [List.getD_eq_getElem?_getD, List.getElem?_eq_getElem h]
  rfl
theorem drop_get {α : Type} {b : List α} {i : Nat} {a : α} (h : b[i]? = some a) : b.drop i = a :: b.drop (i + 1) := by
  obtain ⟨hi, e⟩ := List.getElem?_eq_some_iff.mp h
  rw [← e]
  exact List.drop_eq_getElem_cons hi
@[simp] theorem rep1 {α : Type} (l : List α) : (List.replicate 1 l).flatten = l := by simp
@[simp] theorem placeD_n : placeD none = .non := rfl
@[simp] theorem placeD_s (z : List Nat) : placeD (some z) = .tup (z.map natD) := rfl
mutual
/-- places are short -/
theorem fault_len {ws : List String} {so : List Bool} {m : Nat} : ∀ (d : Nat) (a : Sm) (und : Bool) (z : List Nat), smOk m d a → faultM ws so und a = some z → z.length ≤ 2 * d + 1
  | d, .ite x p q, und, z, ok, e => by
    obtain ⟨_, _, _, hd, ok1, ok2⟩ := ok
    rw [faultM] at e
    split at e
    · cases e1 : faultsM ws so (und || hid so x) 0 p with
      | some y =>
        rw [e1] at e
        cases e
        have := faults_len (d - 1) p (und || hid so x) 0 y ok1 e1
        simp; omega
      | none =>
        rw [e1] at e
        obtain ⟨y, e2, e3⟩ := map_some e
        subst e3
        have := faults_len (d - 1) q (und || hid so x) 0 y ok2 e2
        simp; omega
    · cases e; simp
  | d, .times n b, und, z, ok, e => by
    obtain ⟨_, _, hd, ok1⟩ := ok
    rw [faultM] at e
    split at e
    · have := faults_len (d - 1) b und 0 z ok1 e
      omega
    · cases e; simp
  | d, .whl n b, und, z, ok, e => by
    obtain ⟨_, _, hd, ok1⟩ := ok
    rw [faultM] at e
    split at e
    · have := faults_len (d - 1) b _ 0 z ok1 e
      omega
    · cases e; simp
  | d, .sum _ _ _, und, z, ok, e => by rw [faultM] at e; split at e <;> cases e; simp
  | d, .print _, und, z, ok, e => by rw [faultM] at e; split at e <;> cases e; simp
  | d, .stop, und, z, ok, e => by rw [faultM] at e; split at e <;> cases e; simp
  | d, .split _ _, und, z, ok, e => by rw [faultM] at e; split at e <;> cases e; simp
  | d, .keep _ _ _, und, z, ok, e => by rw [faultM] at e; split at e <;> cases e; simp
  | d, .fetch _ _ _, und, z, ok, e => by rw [faultM] at e; split at e <;> cases e; simp
theorem faults_len {ws : List String} {so : List Bool} {m : Nat} : ∀ (d : Nat) (b : List Sm) (und : Bool) (k : Nat) (z : List Nat), smsOk m d b → faultsM ws so und k b = some z → z.length ≤ 2 * d + 2
  | d, [], und, k, z, ok, e => by rw [faultsM] at e; cases e
  | d, a :: b, und, k, z, ok, e => by
    rw [faultsM] at e
    cases e1 : faultM ws so und a with
    | some y =>
      rw [e1] at e
      cases e
      have := fault_len d a und y ok.1 e1
      simp; omega
    | none =>
      rw [e1] at e
      exact faults_len d b und (k + 1) z ok.2 e
end
end Fw

set_option Elab.async false
set_option linter.all false
set_option maxRecDepth 100000
namespace Fw
open PySem PySem.Spec PyProof.Rows L2
theorem takenN {g : FD} (h : P_taken g) (a : Addr) (s : S) (m : Nat) (hr : IsRow s a) (h0 : 0 < m) (h1 : m ≤ 10000000) : ∃ (v : Nat) (s' : S), g [.ref a, .int (m : Nat)] s = some (.int (v : Nat), s') ∧ RowTo s a s' ∧ v < m := by
  obtain ⟨v, s', e, rt, v0, v1⟩ := h a s (m : Nat) hr (by omega) (by omega)
  refine ⟨v.toNat, s', ?_, rt, by omega⟩
  rw [e]
  congr 3
  omega
theorem compL_draw {fe : FE} {i : Nat} {δ : Fr} {a : Addr} (Pv : D → Prop) (ds : List D) (s : S) (hr : IsRow s a) (h : ∀ d ∈ ds, ∀ s, IsRow s a → ∃ v s', fe (δ.set i (some d)) s = some (v, s') ∧ RowTo s a s' ∧ Pv v) :
    ∃ vs s', compL (gtName i) tTrue fe ds δ s = some (vs, s') ∧ RowTo s a s' ∧ vs.length = ds.length ∧ ∀ v ∈ vs, Pv v := by
  refine compL_ex (fun s' => RowTo s a s') Pv ds s (RowTo.refl hr) fun d hd => ⟨_, rfl, fun s1 h1 => ?_⟩
  obtain ⟨v, s', e, rt, pv⟩ := h d hd s1 h1.is
  exact ⟨v, s', e, h1.trans rt, pv⟩
theorem nats_of {vs : List D} {m : Nat} (h : ∀ v ∈ vs, ∃ n : Nat, v = .int (n : Int) ∧ n < m) : ∃ ts : List Nat, vs = ts.map natD ∧ ∀ t ∈ ts, t < m := by
  induction vs with
  | nil => exact ⟨[], rfl, fun _ h => nomatch h⟩
  | cons v vs ih =>
    obtain ⟨n, e, hn⟩ := h v List.mem_cons_self
    obtain ⟨ts, e2, ht⟩ := ih fun v hv => h v (List.mem_cons_of_mem _ hv)
    refine ⟨n :: ts, by rw [e, e2]; rfl, fun t h => ?_⟩
    rcases List.mem_cons.mp h with rfl | h
    · exact hn
    · exact ht t h
theorem sms_of {vs : List D} {m d : Nat} (h : ∀ v ∈ vs, ∃ n : Sm, v = smD n ∧ smOk m d n) : ∃ ts : List Sm, vs = smsD ts ∧ smsOk m d ts ∧ ts.length = vs.length := by
  induction vs with
  | nil => exact ⟨[], rfl, trivial, rfl⟩
  | cons v vs ih =>
    obtain ⟨n, e, hn⟩ := h v List.mem_cons_self
    obtain ⟨ts, e2, ht, hl⟩ := ih fun v hv => h v (List.mem_cons_of_mem _ hv)
    exact ⟨n :: ts, by rw [e, e2]; rfl, ⟨hn, ht⟩, by simp [hl]⟩
theorem bools_of {vs : List D} (h : ∀ v ∈ vs, ∃ n : Bool, v = sortD n) : ∃ ts : List Bool, vs = ts.map sortD := by
  induction vs with
  | nil => exact ⟨[], rfl⟩
  | cons v vs ih =>
    obtain ⟨n, e⟩ := h v List.mem_cons_self
    obtain ⟨ts, e2⟩ := ih fun v hv => h v (List.mem_cons_of_mem _ hv)
    exact ⟨n :: ts, by rw [e, e2]; rfl⟩
def P_statement (d : Nat) (g : FD) : Prop := ∀ (a : Addr) (s : S) (m : Nat), IsRow s a → 0 < m → m ≤ 1000 → ∃ (st : Sm) (s' : S), g [.ref a, .int (m : Nat), .int (d : Nat)] s = some (smD st, s') ∧ RowTo s a s' ∧ smOk m d st
def P_sorts (g : FD) : Prop := ∀ (a : Addr) (s : S), IsRow s a → ∃ (so : List Bool) (s' : S), g [.ref a] s = some (sortsD so, s') ∧ RowTo s a s' ∧ 2 ≤ so.length ∧ so.length ≤ 4
end Fw

set_option Elab.async false
set_option linter.all false
set_option maxRecDepth 100000
namespace Fw
open PySem PySem.Spec PyProof.Rows L2
theorem stands_ext {ws : List String} {so so' : List Bool} {m d : Nat} {und : Bool} (h : ∀ x, x < m → hid so x = hid so' x) (a : Sm) (ok : smOk m d a) : standsM ws so und a = standsM ws so' und a := by
  cases a with
  | sum x ts n =>
    obtain ⟨h1, _, h3, _⟩ := ok
    have e : ts.any (hid so) = ts.any (hid so') := by
      clear h1
      induction ts with
      | nil => rfl
      | cons t ts ih => rw [List.any_cons, List.any_cons, h t (h3 t List.mem_cons_self), ih (by simp at *; omega) fun t ht => h3 t (List.mem_cons_of_mem _ ht)]
    simp only [standsM, h x h1, e]
  | ite x p q => simp only [standsM, h x ok.1]
  | times n b => rfl
  | whl x b => simp only [standsM, h x ok.1]
  | print x => simp only [standsM, h x ok]
  | stop => rfl
  | split x y => simp only [standsM, h x ok.1, h y ok.2]
  | keep t x y => simp only [standsM, h x ok.1, h y ok.2]
  | fetch t x y => simp only [standsM, h x ok.1, h y ok.2]
mutual
theorem fault_ext {ws : List String} {so so' : List Bool} {m : Nat} (h : ∀ x, x < m → hid so x = hid so' x) : ∀ (d : Nat) (a : Sm) (und : Bool), smOk m d a → faultM ws so und a = faultM ws so' und a
  | d, .ite x p q, und, ok => by
    rw [faultM, faultM, stands_ext h _ ok, h x ok.1, faults_ext h (d - 1) p _ 0 ok.2.2.2.2.1, faults_ext h (d - 1) q _ 0 ok.2.2.2.2.2]
  | d, .times n b, und, ok => by rw [faultM, faultM, stands_ext h _ ok, faults_ext h (d - 1) b _ 0 ok.2.2.2]
  | d, .whl x b, und, ok => by rw [faultM, faultM, stands_ext h _ ok, h x ok.1, faults_ext h (d - 1) b _ 0 ok.2.2.2]
  | d, .sum x ts n, und, ok => by rw [faultM, faultM, stands_ext h _ ok]
  | d, .print x, und, ok => by rw [faultM, faultM, stands_ext h _ ok]
  | d, .stop, und, ok => by rw [faultM, faultM, stands_ext h _ ok]
  | d, .split x y, und, ok => by rw [faultM, faultM, stands_ext h _ ok]
  | d, .keep t x y, und, ok => by rw [faultM, faultM, stands_ext h _ ok]
  | d, .fetch t x y, und, ok => by rw [faultM, faultM, stands_ext h _ ok]
theorem faults_ext {ws : List String} {so so' : List Bool} {m : Nat} (h : ∀ x, x < m → hid so x = hid so' x) : ∀ (d : Nat) (b : List Sm) (und : Bool) (k : Nat), smsOk m d b → faultsM ws so und k b = faultsM ws so' und k b
  | d, [], und, k, ok => by rw [faultsM, faultsM]
  | d, a :: b, und, k, ok => by rw [faultsM, faultsM, fault_ext h d a und ok.1, faults_ext h d b und (k + 1) ok.2]
end
mutual
theorem smOk_mono {m m' : Nat} (h : m ≤ m') : ∀ (d : Nat) (a : Sm), smOk m d a → smOk m' d a
  | d, .ite x p q, ok => ⟨by have := ok.1; omega, ok.2.1, ok.2.2.1, ok.2.2.2.1, smsOk_mono h _ p ok.2.2.2.2.1, smsOk_mono h _ q ok.2.2.2.2.2⟩
  | d, .times n b, ok => ⟨ok.1, ok.2.1, ok.2.2.1, smsOk_mono h _ b ok.2.2.2⟩
  | d, .whl x b, ok => ⟨by have := ok.1; omega, ok.2.1, ok.2.2.1, smsOk_mono h _ b ok.2.2.2⟩
  | d, .sum x ts n, ok => ⟨by have := ok.1; omega, ok.2.1, fun t ht => by have := ok.2.2.1 t ht; omega, ok.2.2.2⟩
  | d, .print x, ok => by have q : x < m := ok; exact (by omega : x < m')
  | d, .stop, ok => trivial
  | d, .split x y, ok => ⟨by have := ok.1; omega, by have := ok.2; omega⟩
  | d, .keep t x y, ok => ⟨by have := ok.1; omega, by have := ok.2; omega⟩
  | d, .fetch t x y, ok => ⟨by have := ok.1; omega, by have := ok.2; omega⟩
theorem smsOk_mono {m m' : Nat} (h : m ≤ m') : ∀ (d : Nat) (b : List Sm), smsOk m d b → smsOk m' d b
  | d, [], ok => trivial
  | d, a :: b, ok => ⟨smOk_mono h d a ok.1, smsOk_mono h d b ok.2⟩
end
theorem faults_append {ws : List String} {so : List Bool} {und : Bool} : ∀ (b c : List Sm) (k : Nat), faultsM ws so und k b = none → faultsM ws so und k (b ++ c) = faultsM ws so und (k + b.length) c
  | [], c, k, _ => rfl
  | a :: b, c, k, h => by
    rw [List.cons_append, faultsM]
    rw [faultsM] at h
    cases e : faultM ws so und a with
    | some z => rw [e] at h; cases h
    | none =>
      rw [e] at h
      show faultsM ws so und (k + 1) (b ++ c) = _
      rw [faults_append b c (k + 1) h, List.length_cons]
      congr 1
      omega
theorem faults_shift {ws : List String} {so : List Bool} {und : Bool} : ∀ (b : List Sm) (k j : Nat), faultsM ws so und k b = none → faultsM ws so und j b = none
  | [], k, j, _ => rfl
  | a :: b, k, j, h => by
    rw [faultsM] at h ⊢
    cases e : faultM ws so und a with
    | some z => rw [e] at h; cases h
    | none => rw [e] at h; exact faults_shift b (k + 1) (j + 1) h
theorem smsD_append (b c : List Sm) : smsD (b ++ c) = smsD b ++ smsD c := by rw [smsD_map, smsD_map, smsD_map, List.map_append]
theorem told_ok {l : List String} (h : l ∈ lotsL) : smsOk 2 2 (toldM l) ∧ (toldM l).length ≤ 2 := by
  simp only [lotsL, List.mem_cons, List.mem_nil_iff, or_false] at h
  rcases h with rfl | rfl | rfl | rfl | rfl | rfl | rfl | rfl | rfl | rfl | rfl | rfl | rfl <;> simp [toldM, smsOk, smOk]
theorem seq_then {g : FS} {o : Option (Out × S)} {R : Option (D × S) → Prop} (Inv : Fr → S → Prop) (h1 : ∃ δ s, o = some (.nx δ, s) ∧ Inv δ s) (h2 : ∀ δ s, Inv δ s → R (kBody (g δ s))) : R (kBody (kSeq g o)) := by
  obtain ⟨δ, s, rfl, hi⟩ := h1
  exact h2 δ s hi
theorem kSeq_loopR {ft : FG} {fb g : FS} {ds : List D} {δ : Fr} {s : S} {R : Option (D × S) → Prop} (I : Nat → Fr → S → Prop) (h0 : I 0 δ s)
    (hs : ∀ i d δ s, ds[i]? = some d → I i δ s → ∃ δ1, ft d δ = some δ1 ∧ ∃ δ2 s2, fb δ1 s = some (.nx δ2, s2) ∧ I (i + 1) δ2 s2)
    (h1 : ∀ δ s, I ds.length δ s → R (kBody (g δ s))) : R (kBody (kSeq g (loopF ft fb ds δ s))) := by
  rcases loopF_inv I (fun _ _ => False) ds 0 δ s h0 (fun i d δ s hd hi => by
    obtain ⟨δ1, e1, δ2, s2, e2, i2⟩ := hs i d δ s hd (by simpa using hi)
    exact ⟨δ1, e1, .inl ⟨δ2, s2, e2, by simpa using i2⟩⟩) with ⟨δ', s', e, i⟩ | ⟨d, s', e, i⟩
  · rw [e, kSeq_nx]
    exact h1 δ' s' (by simpa using i)
  · exact i.elim
def P_program (g : FD) : Prop := ∀ (a : Addr) (s : S) (ws : List String), IsRow s a → ∃ (so : List Bool) (b : List Sm) (s' : S), g [.ref a, .tup (ws.map strD)] s = some (.tup [sortsD so, bodyD b], s') ∧ RowTo s a s' ∧ 2 ≤ so.length ∧ so.length ≤ 4 ∧ b.length ≤ 7 ∧ smsOk so.length 2 b ∧ faultsM ws so false 0 b = none
def natsD (ns : List Nat) : D := .tup (ns.map natD)
def P_start (g : FD) : Prop := ∀ (a : Addr) (s : S) (so : List Bool), IsRow s a → so.length ≤ 1000 → ∃ (ns : List Nat) (s' : S), g [.ref a, sortsD so] s = some (natsD ns, s') ∧ RowTo s a s' ∧ ns.length = so.length ∧ ∀ n ∈ ns, n < 10
theorem cut_pre (ds : List D) (k : Nat) : cutD ds none (some (k : Int)) = ds.take k := by
  unfold cutD
  rw [HT.sIx_none, HT.sIx_nat, List.drop_zero, Nat.sub_zero]
  by_cases h : k ≤ ds.length
  · rw [Nat.min_eq_left h]
  · rw [Nat.min_eq_right (by omega), List.take_of_length_le (Nat.le_refl _), List.take_of_length_le (by omega)]
theorem cut_suf (ds : List D) (k : Nat) : cutD ds (some (k : Int)) none = ds.drop k := by
  unfold cutD
  rw [HT.sIx_none, HT.sIx_nat]
  by_cases h : k ≤ ds.length
  · rw [Nat.min_eq_left h, List.take_of_length_le (by rw [List.length_drop]; exact Nat.le_refl _)]
  · rw [Nat.min_eq_right (by omega), List.drop_length, List.drop_eq_nil_of_le (by omega)]
    simp
@[simp] theorem cut_pre' (ds : List D) (k : Nat) : cutD ds none (some (no_index (@OfNat.ofNat Int k _))) = ds.take k := cut_pre ds k
@[simp] theorem cut_suf' (ds : List D) (k : Nat) : cutD ds (some (no_index (@OfNat.ofNat Int k _))) none = ds.drop k := cut_suf ds k
theorem hid_two (k : Nat) (so : List Bool) (x : Nat) (h : x < 2) : hid [false, true] x = hid ([false, true] ++ so.take k) x := by
  match x, h with
  | 0, _ => rfl
  | 1, _ => rfl
end Fw

set_option Elab.async false
set_option linter.all false
set_option maxRecDepth 100000
/-! Mx: what a run does, by plain data. -/
namespace Fw
open PySem PySem.Spec PyProof.Rows L2
structure Wd where
  nums : List Nat
  op : List Nat
  sec : List Nat
  prints : List Nat
  steps : Nat
  rounds : Nat
inductive How where
  | stops | breaks | goes
def howS : Option How → String
  | none => "ends"
  | some .stops => "stops"
  | some .breaks => "breaks"
  | some .goes => "goes on"
def num (w : Wd) (x : Nat) : Nat := w.nums.getD x 0
def tab (w : Wd) (t : Bool) : List Nat := if t then w.sec else w.op
def setN (w : Wd) (x v : Nat) : Wd := { w with nums := w.nums.set x v }
def setT (w : Wd) (t : Bool) (i v : Nat) : Wd := if t then { w with sec := w.sec.set i v } else { w with op := w.op.set i v }
def bump (w : Wd) : Wd := { w with steps := w.steps + 1 }
def sumN (w : Wd) : List Nat → Nat
  | [] => 0
  | t :: ts => num w t + sumN w ts
def timesM (f : Wd → Wd × Option How) : Nat → Wd → Wd × Option How
  | 0, w => (w, none)
  | k + 1, w => match f w with
    | (w', none) => timesM f k w'
    | (w', some h) => (w', some h)
def whileM (x : Nat) (f : Wd → Wd × Option How) : Nat → Wd → Wd × Option How
  | 0, w => (w, none)
  | k + 1, w => if num w x = 0 then (w, none) else if w.rounds = 60 then (w, some .goes) else match f { w with rounds := w.rounds + 1 } with
    | (w', none) => whileM x f k w'
    | (w', some h) => (w', some h)
mutual
def exM : Sm → Wd → Wd × Option How
  | .sum x ts n, w => (setN w x ((n + sumN w ts) % 10), none)
  | .ite x p q, w => if num w x = 0 then exsM q w else exsM p w
  | .times n b, w => timesM (fun w => exsM b w) n w
  | .whl x b, w => whileM x (fun w => exsM b w) 99 w
  | .print x, w => ({ w with prints := w.prints ++ [num w x] }, none)
  | .stop, w => (w, some .stops)
  | .split x y, w => if num w y = 0 then (w, some .breaks) else (setN w x (9 / num w y), none)
  | .keep t x y, w => (setT w t (num w x) (num w y), none)
  | .fetch t x y, w => (setN w x ((tab w t).getD (num w y) 0), none)
def exsM : List Sm → Wd → Wd × Option How
  | [], w => (w, none)
  | a :: b, w => match exM a (bump w) with
    | (w', none) => exsM b w'
    | (w', some h) => (w', some h)
end
structure WOk (m : Nat) (w : Wd) : Prop where
  nl : w.nums.length = m
  nv : ∀ n ∈ w.nums, n < 10
  ol : w.op.length = 10
  ov : ∀ n ∈ w.op, n < 10
  sl : w.sec.length = 10
  sv : ∀ n ∈ w.sec, n < 10
  pl : w.prints.length ≤ w.steps
  pv : ∀ n ∈ w.prints, n < 10
  rl : w.rounds ≤ 60
theorem getD_lt {l : List Nat} (h : ∀ n ∈ l, n < 10) (i : Nat) : l.getD i 0 < 10 := by
  rw [List.getD_eq_getElem?_getD]
  cases e : l[i]? with
  | none => simp
  | some v =>
    have := h v (List.mem_of_getElem? e)
    simpa using this
theorem set_lt {l : List Nat} (h : ∀ n ∈ l, n < 10) (i : Nat) {v : Nat} (hv : v < 10) : ∀ n ∈ l.set i v, n < 10 := fun n hn => by
  rcases List.mem_or_eq_of_mem_set hn with hn | rfl
  · exact h n hn
  · exact hv
section
variable {m : Nat} {w : Wd}
theorem WOk.num (h : WOk m w) (x : Nat) : num w x < 10 := getD_lt h.nv x
theorem WOk.setN (h : WOk m w) (x : Nat) {v : Nat} (hv : v < 10) : WOk m (setN w x v) := ⟨by simp [Fw.setN, h.nl], set_lt h.nv x hv, h.ol, h.ov, h.sl, h.sv, h.pl, h.pv, h.rl⟩
theorem WOk.setT (h : WOk m w) (t : Bool) (i : Nat) {v : Nat} (hv : v < 10) : WOk m (setT w t i v) := by
  cases t
  · exact ⟨h.nl, h.nv, by simp [Fw.setT, h.ol], set_lt h.ov i hv, h.sl, h.sv, h.pl, h.pv, h.rl⟩
  · exact ⟨h.nl, h.nv, h.ol, h.ov, by simp [Fw.setT, h.sl], set_lt h.sv i hv, h.pl, h.pv, h.rl⟩
theorem WOk.bump (h : WOk m w) : WOk m (bump w) := ⟨h.nl, h.nv, h.ol, h.ov, h.sl, h.sv, Nat.le_succ_of_le h.pl, h.pv, h.rl⟩
theorem WOk.round (h : WOk m w) (hr : w.rounds ≠ 60) : WOk m { w with rounds := w.rounds + 1 } := ⟨h.nl, h.nv, h.ol, h.ov, h.sl, h.sv, h.pl, h.pv, by have := h.rl; show w.rounds + 1 ≤ 60; omega⟩
end
/-- steps at most, of a statement, d of if, times, while within one another -/
def cst : Nat → Nat
  | 0 => 1
  | d + 1 => 1 + 396 * cst d
theorem cst_pos : ∀ d, 1 ≤ cst d
  | 0 => Nat.le_refl _
  | d + 1 => by show 1 ≤ 1 + 396 * cst d; omega
/-- what a run of f keeps: c steps at most, the rounds grow -/
structure Keeps (m c : Nat) (w w' : Wd) : Prop where
  ok : WOk m w'
  st : w'.steps ≤ w.steps + c
  rd : w.rounds ≤ w'.rounds
theorem timesM_ok {m c : Nat} {f : Wd → Wd × Option How} (hf : ∀ w, WOk m w → Keeps m c w (f w).1) : ∀ (k : Nat) (w : Wd), WOk m w → Keeps m (k * c) w (timesM f k w).1
  | 0, w, h => ⟨h, by simp [timesM], Nat.le_refl _⟩
  | k + 1, w, h => by
    have h1 := hf w h
    rw [timesM]
    cases e : f w with
    | mk w' o =>
      rw [e] at h1
      cases o with
      | none =>
        have h2 := timesM_ok hf k w' h1.ok
        refine ⟨h2.ok, ?_, Nat.le_trans h1.rd h2.rd⟩
        have a1 := h1.st; have a2 := h2.st
        show (timesM f k w').1.steps ≤ _
        rw [Nat.succ_mul]; simp only at a1; omega
      | some hh =>
        refine ⟨h1.ok, ?_, h1.rd⟩
        have a1 := h1.st
        show w'.steps ≤ _
        rw [Nat.succ_mul]; simp only at a1; omega
theorem cst_s (e : Nat) : cst (e + 1) = 1 + 396 * cst e := rfl
theorem whileM_ok {m c x : Nat} {f : Wd → Wd × Option How} (hf : ∀ w, WOk m w → Keeps m c w (f w).1) : ∀ (k : Nat) (w : Wd), WOk m w → Keeps m (k * c) w (whileM x f k w).1
  | 0, w, h => ⟨h, by simp [whileM], Nat.le_refl _⟩
  | k + 1, w, h => by
    rw [whileM]
    split
    · exact ⟨h, Nat.le_add_right _ _, Nat.le_refl _⟩
    · split
      · exact ⟨h, Nat.le_add_right _ _, Nat.le_refl _⟩
      · rename_i hr
        have h1 := hf _ (h.round hr)
        cases e : f { w with rounds := w.rounds + 1 } with
        | mk w' o =>
          rw [e] at h1
          have a1 := h1.st; have a3 := h1.rd
          simp only at a1 a3
          cases o with
          | none =>
            have h2 := whileM_ok (x := x) hf k w' h1.ok
            refine ⟨h2.ok, ?_, ?_⟩
            · have a2 := h2.st
              show (whileM x f k w').1.steps ≤ _
              rw [Nat.succ_mul]; omega
            · have := h2.rd
              show w.rounds ≤ (whileM x f k w').1.rounds
              omega
          | some hh =>
            refine ⟨h1.ok, ?_, by show w.rounds ≤ w'.rounds; omega⟩
            show w'.steps ≤ _
            rw [Nat.succ_mul]; omega
theorem Keeps.mono {m c c' : Nat} {w w' : Wd} (h : Keeps m c w w') (hc : c ≤ c') : Keeps m c' w w' := ⟨h.ok, by have := h.st; omega, h.rd⟩
mutual
theorem exM_ok {m : Nat} : ∀ (d : Nat) (a : Sm) (w : Wd), smOk m d a → WOk m w → w.prints.length < w.steps → Keeps m (cst d - 1) w (exM a w).1
  | d, .sum x ts n, w, ok, h, hp => ⟨h.setN x (Nat.mod_lt _ (by omega)), Nat.le_add_right _ _, Nat.le_refl _⟩
  | d, .ite x p q, w, ok, h, hp => by
    obtain ⟨_, h1, hq, hd, okp, okq⟩ := ok
    obtain ⟨e, rfl⟩ : ∃ e, d = e + 1 := ⟨d - 1, by omega⟩
    have c1 : cst (e + 1) - 1 = 396 * cst e := by rw [cst_s]; omega
    rw [exM, c1]
    split
    · exact (exsM_ok e q w okq h).mono (by have := Nat.mul_le_mul_right (cst e) hq; omega)
    · exact (exsM_ok e p w okp h).mono (by have := Nat.mul_le_mul_right (cst e) h1; omega)
  | d, .times n b, w, ok, h, hp => by
    obtain ⟨hn, hb, hd, okb⟩ := ok
    obtain ⟨e, rfl⟩ : ∃ e, d = e + 1 := ⟨d - 1, by omega⟩
    have c1 : cst (e + 1) - 1 = 396 * cst e := by rw [cst_s]; omega
    rw [exM, c1]
    refine (timesM_ok (fun w hw => exsM_ok e b w okb hw) n w h).mono ?_
    have a1 := Nat.mul_le_mul_right (cst e) hb
    have a2 := Nat.mul_le_mul hn a1
    omega
  | d, .whl x b, w, ok, h, hp => by
    obtain ⟨hn, hb, hd, okb⟩ := ok
    obtain ⟨e, rfl⟩ : ∃ e, d = e + 1 := ⟨d - 1, by omega⟩
    have c1 : cst (e + 1) - 1 = 396 * cst e := by rw [cst_s]; omega
    rw [exM, c1]
    refine (whileM_ok (fun w hw => exsM_ok e b w okb hw) 99 w h).mono ?_
    have a1 := Nat.mul_le_mul_right (cst e) hb
    have a2 := Nat.mul_le_mul_left 99 a1
    omega
  | d, .print x, w, ok, h, hp => by
    refine ⟨⟨h.nl, h.nv, h.ol, h.ov, h.sl, h.sv, ?_, ?_, h.rl⟩, Nat.le_add_right _ _, Nat.le_refl _⟩
    · show (w.prints ++ [num w x]).length ≤ w.steps
      rw [List.length_append]; exact hp
    · intro n hn
      rcases List.mem_append.mp hn with hn | hn
      · exact h.pv n hn
      · rw [List.mem_singleton.mp hn]; exact h.num x
  | d, .stop, w, ok, h, hp => ⟨h, Nat.le_add_right _ _, Nat.le_refl _⟩
  | d, .split x y, w, ok, h, hp => by
    rw [exM]
    split
    · exact ⟨h, Nat.le_add_right _ _, Nat.le_refl _⟩
    · refine ⟨h.setN x ?_, Nat.le_add_right _ _, Nat.le_refl _⟩
      have : 9 / num w y ≤ 9 := Nat.div_le_self _ _
      omega
  | d, .keep t x y, w, ok, h, hp => ⟨h.setT t _ (h.num y), by cases t <;> exact Nat.le_add_right _ _, by cases t <;> exact Nat.le_refl _⟩
  | d, .fetch t x y, w, ok, h, hp => by
    refine ⟨h.setN x ?_, Nat.le_add_right _ _, Nat.le_refl _⟩
    cases t
    · exact getD_lt h.ov _
    · exact getD_lt h.sv _
theorem exsM_ok {m : Nat} : ∀ (d : Nat) (b : List Sm) (w : Wd), smsOk m d b → WOk m w → Keeps m (b.length * cst d) w (exsM b w).1
  | d, [], w, ok, h => ⟨h, by simp [exsM], Nat.le_refl _⟩
  | d, a :: b, w, ok, h => by
    have h1 := exM_ok d a (bump w) ok.1 h.bump (Nat.lt_succ_of_le h.pl)
    have hc := cst_pos d
    rw [exsM]
    cases e : exM a (bump w) with
    | mk w' o =>
      rw [e] at h1
      have a1 := h1.st; have a3 := h1.rd
      simp only [bump] at a1 a3
      have a4 : (a :: b).length * cst d = b.length * cst d + cst d := by rw [List.length_cons, Nat.succ_mul]
      cases o with
      | none =>
        have h2 := exsM_ok d b w' ok.2 h1.ok
        have a2 := h2.st; have a5 := h2.rd
        exact ⟨h2.ok, by show (exsM b w').1.steps ≤ _; omega, by show w.rounds ≤ (exsM b w').1.rounds; omega⟩
      | some hh => exact ⟨h1.ok, by show w'.steps ≤ _; omega, a3⟩
end
end Fw

set_option Elab.async false
set_option linter.all false
set_option maxRecDepth 100000
namespace Fw
open PySem PySem.Spec PyProof.Rows L2
def plainN : Nat → D → Prop
  | 0, d => match d with
    | .int _ => True
    | .str _ => True
    | _ => False
  | n + 1, d => match d with
    | .int _ => True
    | .str _ => True
    | .tup ds => ds.length ≤ 10000000 ∧ ∀ d ∈ ds, plainN n d
    | _ => False
def P_alike (n : Nat) (g : FD) : Prop := ∀ (d : D) (s : S), plainN n d → g [d, d] s = some (.bl true, s)
end Fw

set_option Elab.async false
set_option linter.all false
set_option maxRecDepth 100000
namespace Fw
open PySem PySem.Spec PyProof.Rows L2

/-! ### what a def makes and keeps for itself -/
structure Grow (K : PySem.W.Frag) (h : Addr → Bool) (s : S) (H : Hp) (h' : Addr → Bool) (s' : S) (H' : Hp) : Prop where
  le : ∀ a, h a = true → h' a = true
  new : ∀ a, h' a = true → h a = true ∨ H a = none
  dom : ∀ a, s a = none → H a ≠ none → s' a = none
  fr : ∀ a o, s a = none → H a = some o → H' a = some o
  si : SI K h' s' H'
section
variable {K : PySem.W.Frag} {h h1 h2 : Addr → Bool} {s s1 s2 : S} {H H1 H2 : Hp}
theorem Grow.of (a : Step K h s H s1 H1) : Grow K h s H h s1 H1 := ⟨fun _ z => z, fun _ z => .inl z, fun a' z _ => a.dom a' z, a.fr, a.si⟩
theorem Grow.stays (i : SI K h s H) (g : Grow K h s H h1 s1 H1) (a : Addr) (z : H a ≠ none) : H1 a ≠ none := by
  cases e : s a with
  | none =>
    cases q : H a with
    | none => exact absurd q z
    | some o => rw [g.fr a o e q]; exact fun z => nomatch z
  | some u => exact g.si.hid a (g.le a (i.own a u e))
theorem Grow.back (i : SI K h s H) (g : Grow K h s H h1 s1 H1) {a : Addr} (z : H1 a = none) : H a = none := by
  cases e : H a with
  | none => rfl
  | some o => exact absurd z (g.stays i a (by rw [e]; exact fun z => nomatch z))
theorem Grow.trans (i : SI K h s H) (a : Grow K h s H h1 s1 H1) (b : Grow K h1 s1 H1 h2 s2 H2) : Grow K h s H h2 s2 H2 :=
  ⟨fun x z => b.le x (a.le x z), fun x z => (b.new x z).elim (a.new x) fun q => .inr (a.back i q), fun x z q => b.dom x (a.dom x z q) (a.stays i x q), fun x o z q => b.fr x o (a.dom x z (by rw [q]; exact fun z => nomatch z)) (a.fr x o z q), b.si⟩
theorem Grow.ext (i : SI K h s H) (a : Grow K h s H h1 s1 H1) : Ext (hide h H) (hide h1 H1) := fun x o e _ => by
  unfold hide at e ⊢
  split at e
  · cases e
  · rename_i hx
    have hx1 : ¬ h1 x = true := fun z => (a.new x z).elim hx fun q => by rw [q] at e; cases e
    rw [if_neg hx1]
    refine a.fr x o ?_ e
    cases q : s x with
    | none => rfl
    | some u => exact absurd (i.own x u q) hx
theorem Grow.alloc (i : SI K h s H) {p : Addr} (hp : H p = none) (o : HO) (u : OO) (r : RepO K (hide h H) (some o) u) : Grow K h s H (fun a => h a || decide (a = p)) (supd s p u) (upd H p o) := by
  have hx : Ext (hide h H) (hide (fun a => h a || decide (a = p)) (upd H p o)) := fun b w q _ => by
    unfold hide at q ⊢
    split at q
    · cases q
    · rename_i hb
      have nb : b ≠ p := ne_of_none q hp
      rw [if_neg (by simp [hb, nb]), upd_ne nb]
      exact q
  refine ⟨fun a z => by simp [z], fun a z => ?_, fun a z q => ?_, fun a u z e => by rw [upd_ne (ne_of_none e hp)]; exact e, ⟨fun a u z => ?_, fun a u z => ?_, fun a z => ?_⟩⟩
  · by_cases e : a = p
    · exact .inr (by rw [e]; exact hp)
    · exact .inl (by simpa [e] using z)
  · rw [supd_ne (fun e => q (by rw [e]; exact hp))]
    exact z
  · by_cases e : a = p
    · simp [e]
    · rw [supd_ne e] at z
      simp [i.own a u z]
  · by_cases e : a = p
    · subst e
      rw [supd_same] at z
      cases z
      rw [upd_same]
      exact r.mono hx
    · rw [supd_ne e] at z
      rw [upd_ne e]
      exact (i.ob a u z).mono hx
  · by_cases e : a = p
    · rw [e, upd_same]; exact fun z => nomatch z
    · rw [upd_ne e]
      exact i.hid a (by simpa [e] using z)
/-- what was made is let go -/
def keepS (s s2 : S) : S := fun a => if s a = none then none else s2 a
theorem Grow.done (i : SI K h s H) (a : Grow K h s H h1 s1 H1) (b : Step K h1 s1 H1 s2 H2) : Step K h s H (keepS s s2) H2 ∧ Ext (hide h1 H2) (hide h H2) := by
  have hx : Ext (hide h1 H2) (hide h H2) := fun x o e _ => by
    unfold hide at e ⊢
    split at e
    · cases e
    · rename_i hx
      rw [if_neg fun z => hx (a.le x z)]
      exact e
  refine ⟨⟨fun x z => by unfold keepS; rw [if_pos z], fun x o z q => b.fr x o (a.dom x z (by rw [q]; exact fun z => nomatch z)) (a.fr x o z q), ⟨fun x o z => ?_, fun x o z => ?_, fun x z => b.si.hid x (a.le x z)⟩⟩, hx⟩
  · unfold keepS at z
    split at z
    · cases z
    · rename_i hn
      cases e : s x with
      | none => exact absurd e hn
      | some u => exact i.own x u e
  · unfold keepS at z
    split at z
    · cases z
    · exact (b.si.ob x o z).mono hx
end

abbrev FOw := Fr → S → Option (OO × S)
/-- an expression whose value nobody else has -/
def tO (K : PySem.W.Frag) (f : FOw) : TE := fun σ H Q => ∃ (h : Addr → Bool) (s : S) (δ : Fr) (u : OO) (s1 : S), EnvR K (hide h H) σ δ ∧ SI K h s H ∧ f δ s = some (u, s1) ∧
  ∀ p h' H', H p = none → Grow K h s H h' (supd s1 p u) H' → Q (.ref p) H'
section
variable {X : Cx} {e a b c o i v : Expr} {es : List Expr} {fe fa fb : FE} {fs : FA} {pos p pos' : Pos}
def oLst (fs : FA) : FOw := fun δ s => (fs δ s).bind fun p => if okLen p.1.length = true then some (.lst p.1, p.2) else none
theorem o_lst (ha : PA X es (tDA X.K fs)) : PE X (.List es pos) (tO X.K (oLst fs)) := imp_e (pe_lst ha) fun σ H Q ⟨h, s, δ, u, s', er, si, q, w⟩ => by
  obtain ⟨⟨xs, s1⟩, q1, q⟩ := bind_some q
  split at q
  · rename_i hl
    cases q
    refine ⟨h, s, δ, xs, _, er, si, q1, fun vs H1 st1 r1 => ⟨?_, fun p hp => ?_⟩⟩
    · rw [r1.length]; exact okLen_le hl
    · exact w p _ _ ((Grow.of st1).back si hp) ((Grow.of st1).trans si (Grow.alloc st1.si hp _ _ ⟨vs, rfl, r1⟩))
  · cases q
/-- list(t) -/
def oList (fs : FA) : FOw := fun δ s => (fs δ s).bind fun p => match p.1 with
  | [.tup ds] => some (.lst ds, p.2)
  | [.lst ds] => some (.lst ds, p.2)
  | _ => none
theorem o_list {r : List V → Hp → VK → Prop} (hr : r = fun xs H Q => ∃ p ys, xs = [V.ref p] ∧ (SqL X.K H p ys ∨ SqT X.K H p ys) ∧ ∀ l, H l = none → Q (V.ref l) (upd H l (HO.lst ys)))
    (pe : PE X e (tCB r (tDA X.K fs))) : PE X e (tO X.K (oList fs)) := imp_e pe fun σ H Q ⟨h, s, δ, u, s', er, si, q, w⟩ => by
  subst hr
  obtain ⟨⟨xs, s1⟩, q1, q⟩ := bind_some q
  refine ⟨h, s, δ, xs, s1, er, si, q1, fun vs H1 st1 r1 => ?_⟩
  dsimp only at q
  split at q
  · cases q
    obtain ⟨v, rfl, r⟩ := reps1 r1
    obtain ⟨p, xs, rfl, q1, q2⟩ := rep_tup r
    exact ⟨p, xs, rfl, .inr (sqt_un q1), fun l hl => w l _ _ ((Grow.of st1).back si hl) ((Grow.of st1).trans si (Grow.alloc st1.si hl _ _ ⟨xs, rfl, q2⟩))⟩
  · cases q
    obtain ⟨v, rfl, r⟩ := reps1 r1
    obtain ⟨p, xs, rfl, q1, q2⟩ := rep_lst r
    exact ⟨p, xs, rfl, .inl (SqL.of (hide_ext _ _ _ _ q1)), fun l hl => w l _ _ ((Grow.of st1).back si hl) ((Grow.of st1).trans si (Grow.alloc st1.si hl _ _ ⟨xs, rfl, q2⟩))⟩
  · cases q
/-- l * k -/
def oRep (fa fb : FE) : FOw := fun δ s => (fa δ s).bind fun p => (fb δ p.2).bind fun q => match p.1, q.1 with
  | .lst a, .int k => if (decide (a.length ≤ 1000) && (decide (-1000 ≤ k) && decide (k ≤ 1000))) = true then some (.lst (List.replicate k.toNat a).flatten, q.2) else none
  | _, _ => none
theorem o_rep (ha : PE X a (tD X.K fa)) (hb : PE X b (tD X.K fb)) : PE X (.BinOp a .Mult b pos) (tO X.K (oRep fa fb)) := imp_e (pe_op op_rep ha hb) fun σ H Q ⟨h, s, δ, u, s', er, si, q, w⟩ => by
  obtain ⟨⟨x, s1⟩, q1, q⟩ := bind_some q
  obtain ⟨⟨y, s2⟩, q2, q⟩ := bind_some q
  refine ⟨h, s, δ, x, s1, er, si, q1, fun vx H1 st1 rx => ⟨h, s1, δ, y, s2, er.mono (st1.ext si), st1.si, q2, fun vy H2 st2 ry => ?_⟩⟩
  dsimp only at q
  split at q
  · split at q
    · rename_i xs k e0 hl
      cases q
      simp only [Bool.and_eq_true, decide_eq_true_eq] at hl
      obtain ⟨p0, ys, rfl, qa, ra⟩ := rep_lst (st2.rep st1.si rx)
      have hz : ys.length * k.toNat ≤ sizeLine := by
        rw [ra.length, sizeLine_eq]
        have a1 : xs.length * k.toNat ≤ 1000 * 1000 := Nat.mul_le_mul hl.1 (by omega)
        omega
      have st := st1.trans st2
      exact ⟨p0, k, ys, rfl, rep_int ry, hide_ext _ _ _ _ qa, by omega, by omega, hz, fun p hp => w p _ _ ((Grow.of st).back si hp) ((Grow.of st).trans si (Grow.alloc st.si hp _ _ ⟨_, rfl, Reps.rep _ ra⟩))⟩
    · cases q
  · cases q

/-! ### a dict of one's own -/
def Free (s : S) (as : List Addr) : Prop := as.Nodup ∧ ∀ a ∈ as, s a = none
theorem Free.tail {s : S} {a : Addr} {as : List Addr} {u : OO} (f : Free s (a :: as)) : Free (supd s a u) as := by
  obtain ⟨f1, f2⟩ := f
  rw [List.nodup_cons] at f1
  exact ⟨f1.2, fun b hb => by rw [supd_ne (fun e => f1.1 (by rw [← e]; exact hb))]; exact f2 b (List.mem_cons_of_mem _ hb)⟩
theorem Free.cons {s : S} {a : Addr} {as : List Addr} {u : OO} (h : s a = none) (f : Free (supd s a u) as) : Free s (a :: as) := by
  have hn : ∀ b ∈ as, b ≠ a := fun b hb e => by
    have := f.2 b hb
    rw [e, supd_same] at this
    cases this
  refine ⟨List.nodup_cons.mpr ⟨fun e => hn a e rfl, f.1⟩, fun b hb => ?_⟩
  rcases List.mem_cons.mp hb with rfl | hb
  · exact h
  · have := f.2 b hb
    rwa [supd_ne (hn b hb)] at this
abbrev FP := List Addr → Fr → S → Option (List D × S)
/-- the values of a display, some of them made for it alone -/
structure DO (X : Cx) (pos : Pos) (keys : List (Option Expr)) (values : List Expr) (ks : List Str) (n : Nat) (P : Fr → S → Prop) (f : FP) : Prop where
  ex : ∃ trs, PPs X pos keys values trs ∧ keys.length = ks.length ∧ ∀ σ H Q, (∃ (h : Addr → Bool) (s : S) (δ : Fr), EnvR X.K (hide h H) σ δ ∧ SI X.K h s H ∧ P δ s ∧
    ∀ as ds s' vs h' H', as.length = n → Free s as → (∀ a ∈ as, H a = none) → f as δ s = some (ds, s') → Grow X.K h s H h' s' H' → Reps X.K (hide h' H') vs ds → vs.length = ks.length → Q ((ks.map V.str).zip vs) H') → tPairs trs σ H Q
def pNil : FP := fun as _ s => match as with
  | [] => some ([], s)
  | _ => none
theorem do_nil : DO X pos [] [] [] 0 (fun _ _ => True) pNil := ⟨[], pps_nil, rfl, fun σ H Q ⟨h, s, δ, er, si, ok, w⟩ =>
  w [] [] s [] h H rfl ⟨.nil, fun _ z => nomatch z⟩ (fun _ z => nomatch z) rfl (Grow.of (Step.refl si)) .nil rfl⟩
def pCons (fv : FE) (f : FP) : FP := fun as δ s => (fv δ s).bind fun p => (f as δ p.2).map fun q => (p.1 :: q.1, q.2)
def pOwn (fo : FOw) (f : FP) : FP := fun as δ s => match as with
  | a :: as => (fo δ s).bind fun p => (f as δ (supd p.2 a p.1)).map fun q => (.ref a :: q.1, q.2)
  | [] => none
def qCons (fv : FE) (P : Fr → S → Prop) : Fr → S → Prop := fun δ s => ∃ d s1, fv δ s = some (d, s1) ∧ P δ s1 ∧ ∀ a, s1 a = none → s a = none
def qOwn (fo : FOw) (P : Fr → S → Prop) : Fr → S → Prop := fun δ s => ∃ u s1, fo δ s = some (u, s1) ∧ (∀ a, s1 a = none → P δ (supd s1 a u)) ∧ (∀ a, s1 a = none ↔ s a = none)
theorem Free.of {s s1 : S} {as : List Addr} (f : Free s1 as) (h : ∀ a, s1 a = none → s a = none) : Free s as := ⟨f.1, fun a ha => h a (f.2 a ha)⟩
theorem none_of {K : PySem.W.Frag} {h : Addr → Bool} {s : S} {H : Hp} (i : SI K h s H) {a : Addr} (z : H a = none) : s a = none := by
  cases e : s a with
  | none => rfl
  | some u => exact absurd z (i.ob a u e).there
theorem do_cons {x : Str} {j n : Nat} {p2 : Pos} {ks : List (Option Expr)} {vs : List Expr} {xs : List Str} {P : Fr → S → Prop} {f : FP} (hv : PE X v (tD X.K fv)) (hr : DO X pos ks vs xs n P f) : DO X pos (some (.Constant (.str x) j p2) :: ks) (v :: vs) (x :: xs) n (qCons fv P) (pCons fv f) := by
  obtain ⟨trs, h1, h2, h3⟩ := hr.ex
  refine ⟨(tC (.str x), tD X.K fv) :: trs, pps_cons pe_str hv h1, by simp [h2], fun σ H Q ⟨h, s, δ, er, si, ⟨d, s1, q1, ok, hd⟩, w⟩ => ?_⟩
  refine ⟨h, s, δ, d, s1, er, si, q1, fun v H1 st1 r1 => ?_⟩
  refine h3 σ H1 _ ⟨h, s1, δ, er.mono (st1.ext si), st1.si, ok, fun as ds s' vs h' H' hl fr hn e g r hvl => ?_⟩
  have g1 := Grow.of st1
  exact w as (d :: ds) s' (v :: vs) h' H' hl (fr.of hd) (fun a ha => g1.back si (hn a ha)) (by unfold pCons; rw [q1]; show (f as δ s1).map _ = _; rw [e]; rfl) (g1.trans si g) (.cons (Rep.mono (g.ext st1.si) _ _ r1) r) (by simp [hvl])
theorem do_own {x : Str} {j n : Nat} {p2 : Pos} {ks : List (Option Expr)} {vs : List Expr} {xs : List Str} {P : Fr → S → Prop} {f : FP} {fo : FOw} (hv : PE X v (tO X.K fo)) (hr : DO X pos ks vs xs n P f) : DO X pos (some (.Constant (.str x) j p2) :: ks) (v :: vs) (x :: xs) (n + 1) (qOwn fo P) (pOwn fo f) := by
  obtain ⟨trs, h1, h2, h3⟩ := hr.ex
  refine ⟨(tC (.str x), tO X.K fo) :: trs, pps_cons pe_str hv h1, by simp [h2], fun σ H Q ⟨h, s, δ, er, si, ⟨u, s1, q1, ok, hd⟩, w⟩ => ?_⟩
  refine ⟨h, s, δ, u, s1, er, si, q1, fun a h1 H1 ha g1 => ?_⟩
  have sa : s a = none := none_of si ha
  have s1a : s1 a = none := (hd a).mpr sa
  refine h3 σ H1 _ ⟨h1, _, δ, er.mono (g1.ext si), g1.si, ok a s1a, fun as ds s' vs h' H' hl fr hn e g r hvl => ?_⟩
  refine w (a :: as) (.ref a :: ds) s' (.ref a :: vs) h' H' (by simp [hl]) ((fr.cons s1a).of fun b z => (hd b).mp z) (fun b hb => ?_) (by unfold pOwn; rw [q1]; show (f as δ (supd s1 a u)).map _ = _; rw [e]; rfl) (g1.trans si g) (.cons (.ref a) r) (by simp [hvl])
  rcases List.mem_cons.mp hb with rfl | hb
  · exact ha
  · exact g1.back si (hn b hb)

/-! ### a block that begins with a thing of its own -/
def GoodL (i : Nat) (fo : FOw) (rest : FS) (δ : Fr) (s : S) (d : D) : Prop :=
  (∃ a, s a = none) ∧ ∃ u, fo δ s = some (u, s) ∧ ∀ a, s a = none → ∃ s2, rest (δ.set i (some (.ref a))) (supd s a u) = some (.rt d, s2) ∧ keepS s s2 = s
open Classical in
noncomputable def fOwnL (i : Nat) (fo : FOw) (rest : FS) : FS := fun δ s => if h : ∃ d, GoodL i fo rest δ s d then some (.rt h.choose, s) else none
theorem fOwnL_eq {i : Nat} {fo : FOw} {rest : FS} {δ : Fr} {s : S} {d : D} (g : GoodL i fo rest δ s d) : fOwnL i fo rest δ s = some (.rt d, s) := by
  have h : ∃ d, GoodL i fo rest δ s d := ⟨d, g⟩
  have e : h.choose = d := by
    obtain ⟨⟨a, ha⟩, u, e1, q⟩ := g
    obtain ⟨_, u', e1', q'⟩ := h.choose_spec
    rw [e1] at e1'
    cases e1'
    obtain ⟨s2, e2, _⟩ := q a ha
    obtain ⟨s3, e3, _⟩ := q' a ha
    rw [e2] at e3
    injection e3 with e3
    injection e3 with e3
    injection e3 with e3
    exact e3.symm
  unfold fOwnL
  rw [dif_pos h, e]
theorem dss_ownL {st : Stmt} {sts : List Stmt} {i : Nat} {fo : FOw} {rest : FS} (h1 : PS X st (tAsg (tO X.K fo) (gName i))) (h2 : PSs X sts (tDS X.K rest)) : PSs X (st :: sts) (tDS X.K (fOwnL i fo rest)) := imp_ss (pss_cons h1 h2) fun D σ H ⟨h, s, δ, o, s', er, si, q, w⟩ => by
  unfold fOwnL at q
  split at q
  · rename_i hg
    cases q
    obtain ⟨_, u, e1, q⟩ := hg.choose_spec
    refine ⟨h, s, δ, u, s, er, si, e1, fun p h' H' hp g => ?_⟩
    obtain ⟨s2, e2, ek⟩ := q p (none_of si hp)
    refine ⟨h', _, _, _, s2, (er.mono (g.ext si)).set (.ref p) i, g.si, e2, fun H2 st2 v r => ?_⟩
    obtain ⟨a1, a2⟩ := g.done si st2
    rw [ek] at a1
    exact w H2 a1 v (Rep.mono a2 _ _ r)
  · cases q
def GoodD (i n : Nat) (ks : List Str) (P : Fr → S → Prop) (f : FP) (rest : FS) (δ : Fr) (s : S) (d : D) : Prop :=
  (∃ a as, as.length = n ∧ Free s (a :: as)) ∧ (∀ a, s a = none → P δ (supd s a (.dct []))) ∧ ∀ a as, as.length = n → Free s (a :: as) → ∃ ds s' s2, f as δ (supd s a (.dct [])) = some (ds, s') ∧ s' a = some (.dct []) ∧
    rest (δ.set i (some (.ref a))) (supd s' a (.dct (ks.zip ds))) = some (.rt d, s2) ∧ keepS s s2 = s
open Classical in
noncomputable def fOwnD (i n : Nat) (ks : List Str) (P : Fr → S → Prop) (f : FP) (rest : FS) : FS := fun δ s => if h : ∃ d, GoodD i n ks P f rest δ s d then some (.rt h.choose, s) else none
theorem fOwnD_eq {i n : Nat} {ks : List Str} {P : Fr → S → Prop} {f : FP} {rest : FS} {δ : Fr} {s : S} {d : D} (g : GoodD i n ks P f rest δ s d) : fOwnD i n ks P f rest δ s = some (.rt d, s) := by
  have h : ∃ d, GoodD i n ks P f rest δ s d := ⟨d, g⟩
  have e : h.choose = d := by
    obtain ⟨⟨a, as, hl, hf⟩, _, q⟩ := g
    obtain ⟨_, _, q'⟩ := h.choose_spec
    obtain ⟨ds, s1, s2, e1, _, e2, _⟩ := q a as hl hf
    obtain ⟨ds', s1', s3, e1', _, e3, _⟩ := q' a as hl hf
    rw [e1] at e1'
    cases e1'
    rw [e2] at e3
    injection e3 with e3
    injection e3 with e3
    injection e3 with e3
    exact e3.symm
  unfold fOwnD
  rw [dif_pos h, e]
theorem dss_ownD {sts : List Stmt} {i n : Nat} {x : Str} {p2 : Pos} {keys : List (Option Expr)} {values : List Expr} {ks : List Str} {P : Fr → S → Prop} {f : FP} {rest : FS} (hN : X.N.Nodup) (hi : X.N[i]? = some x) (hx : Loc X.env.scope x)
    (hd : DO X p2 keys values ks n P f) (h2 : PSs X sts (tDS X.K rest)) (hall : keys.all (·.isSome) = true := by rfl) (hl : keys.length = values.length := by rfl) (h0 : keys ≠ [] := by exact fun z => nomatch z) (h15 : keys.length ≤ 15 := by decide) (nd : ks.Nodup := by decide +kernel)
    (hs : swapsWith (.Dict keys values p2) (some (.Name x pos')) pos.line X.env = pure false := by rfl) (hf : X.fn x = true ∨ X.env.scope.names.lookup x = some .local := by first | exact .inl rfl | exact .inr rfl | assumption) :
    PSs X (.Assign [.Name x pos'] (.Dict keys values p2) pos :: sts) (tDS X.K (fOwnD i n ks P f rest)) := by
  obtain ⟨trs, t1, t2, t3⟩ := hd.ex
  refine imp_ss (pss_cons (ps_set hN hi hx (pe_disp t1 hall hl h0 h15) hs hf) h2) fun D σ H ⟨h, s, δ, o, s', er, si, q, w⟩ => ?_
  unfold fOwnD at q
  split at q
  rotate_left
  · cases q
  rename_i hg
  cases q
  obtain ⟨_, ok, q⟩ := hg.choose_spec
  intro p hp
  have g0 := Grow.alloc si hp (.dK []) (.dct []) ⟨[], rfl, rfl, .nil⟩
  have sp := none_of si hp
  refine t3 σ _ _ ⟨_, _, δ, er.mono (g0.ext si), g0.si, ok p sp, fun as ds s1 vs h' H' hln fr hn e g r hvl => ?_⟩
  have gg := g0.trans si g
  have fr' : Free s (p :: as) := fr.cons sp
  obtain ⟨ds', s1', s2, e1, e2, e3, ek⟩ := q p as hln fr'
  rw [e] at e1
  cases e1
  obtain ⟨kv0, k1, k2, k3⟩ := gg.si.ob p _ e2
  have hk0 : kv0 = [] := by
    cases kv0 with
    | nil => rfl
    | cons _ _ => cases k2
  subst hk0
  refine ⟨k1, (ks.zip vs).map (fun p => ((Sum.inr p.1 : Key), p.2)), ?_, ?_, ?_⟩
  · rw [List.map_map, List.zip_map_left]
    rfl
  · rw [List.length_map, List.length_zip, hvl]
    omega
  have hm : mergeK [] ((ks.zip vs).map fun p => ((Sum.inr p.1 : Key), p.2)) = (ks.zip vs).map fun p => ((Sum.inr p.1 : Key), p.2) := by
    refine merge_new _ [] ?_
    rw [List.nil_append, List.map_map]
    have e1 : (ks.zip vs).map ((fun x => x.1) ∘ fun p => ((Sum.inr p.1 : Key), p.2)) = ks.map fun k => (Sum.inr k : Key) := by
      have : ((fun x => x.1) ∘ fun (p : Str × V) => ((Sum.inr p.1 : Key), p.2)) = (fun k => (Sum.inr k : Key)) ∘ Prod.fst := rfl
      rw [this, ← List.map_map, List.map_fst_zip (by omega)]
    rw [e1]
    exact List.Pairwise.map _ (fun a b h e => h (Sum.inr.inj e)) nd
  rw [hm]
  have hdl : ds.length = ks.length := by rw [← r.length]; exact hvl
  have hkv : RepKV X.K (hide h' H') ((ks.zip vs).map fun p => ((Sum.inr p.1 : Key), p.2)) (ks.zip ds) := by
    refine ⟨?_, ?_⟩
    · rw [List.map_map]
      have a1 : (ks.zip vs).map ((fun x => x.1) ∘ fun p => ((Sum.inr p.1 : Key), p.2)) = ks.map fun k => (Sum.inr k : Key) := by
        have : ((fun x => x.1) ∘ fun (p : Str × V) => ((Sum.inr p.1 : Key), p.2)) = (fun k => (Sum.inr k : Key)) ∘ Prod.fst := rfl
        rw [this, ← List.map_map, List.map_fst_zip (by omega)]
      have a2 : (ks.zip ds).map (fun p => (Sum.inr p.1 : Key)) = ks.map fun k => (Sum.inr k : Key) := by
        have : (fun (p : Str × Fw.D) => (Sum.inr p.1 : Key)) = (fun k => (Sum.inr k : Key)) ∘ Prod.fst := rfl
        rw [this, ← List.map_map, List.map_fst_zip (by omega)]
      rw [a1, a2]
    · rw [List.map_map]
      have a1 : (ks.zip vs).map ((fun x => x.2) ∘ fun p => ((Sum.inr p.1 : Key), p.2)) = vs := by
        have : ((fun x => x.2) ∘ fun (p : Str × V) => ((Sum.inr p.1 : Key), p.2)) = Prod.snd := rfl
        rw [this, List.map_snd_zip (by omega)]
      rw [a1, List.map_snd_zip (by omega)]
      exact r
  have st4 := gg.si.putL (o := .dK ((ks.zip vs).map fun p => ((Sum.inr p.1 : Key), p.2))) (w := .dct (ks.zip ds)) e2 ⟨_, rfl, hkv⟩
  have g4 := gg.trans si (Grow.of st4)
  refine ⟨h', _, _, _, s2, (er.mono (g4.ext si)).set (.ref p) i, g4.si, e3, fun H2 st2 v r => ?_⟩
  obtain ⟨a1, a2⟩ := g4.done si st2
  rw [ek] at a1
  exact w H2 a1 v (Rep.mono a2 _ _ r)
end
end Fw

set_option Elab.async false
set_option linter.all false
set_option maxRecDepth 100000
namespace Fw
open PySem PySem.Spec PyProof.Rows L2
/-- the addresses of a world: the dict and its four lists -/
structure WC where
  a : Addr
  n : Addr
  o : Addr
  e : Addr
  p : Addr
  na : n ≠ a
  oa : o ≠ a
  ea : e ≠ a
  pa : p ≠ a
  on : o ≠ n
  en : e ≠ n
  pn : p ≠ n
  eo : e ≠ o
  po : p ≠ o
  pe : p ≠ e
def worldL (c : WC) (st rd : Nat) (h : String) : List (Str × D) :=
  [(Str.ofString "numbers", .ref c.n), (Str.ofString "open", .ref c.o), (Str.ofString "secret", .ref c.e), (Str.ofString "prints", .ref c.p), (Str.ofString "steps", .int st), (Str.ofString "rounds", .int rd), (Str.ofString "how", .str (Str.ofString h))]
def wst (s0 : S) (c : WC) (w : Wd) (h : String) : S := fun b =>
  if b = c.a then some (.dct (worldL c w.steps w.rounds h)) else if b = c.n then some (.lst (w.nums.map natD)) else if b = c.o then some (.lst (w.op.map natD)) else if b = c.e then some (.lst (w.sec.map natD)) else if b = c.p then some (.lst (w.prints.map natD)) else s0 b
section
variable {s0 : S} {c : WC} {w : Wd} {h : String}
@[simp] theorem wst_a : wst s0 c w h c.a = some (.dct (worldL c w.steps w.rounds h)) := by simp [wst]
@[simp] theorem wst_n : wst s0 c w h c.n = some (.lst (w.nums.map natD)) := by simp [wst, c.na]
@[simp] theorem wst_o : wst s0 c w h c.o = some (.lst (w.op.map natD)) := by simp [wst, c.oa, c.on]
@[simp] theorem wst_e : wst s0 c w h c.e = some (.lst (w.sec.map natD)) := by simp [wst, c.ea, c.en, c.eo]
@[simp] theorem wst_p : wst s0 c w h c.p = some (.lst (w.prints.map natD)) := by simp [wst, c.pa, c.pn, c.po, c.pe]
theorem supd_a {st rd : Nat} {h' : String} : supd (wst s0 c w h) c.a (.dct (worldL c st rd h')) = wst s0 c { w with steps := st, rounds := rd } h' := by
  funext b; unfold supd wst
  by_cases q : b = c.a
  · simp [q]
  · simp [q]
theorem supd_n {l : List Nat} : supd (wst s0 c w h) c.n (.lst (l.map natD)) = wst s0 c { w with nums := l } h := by
  funext b; unfold supd wst
  by_cases q : b = c.n
  · simp [q, c.na]
  · simp [q]
theorem supd_o {l : List Nat} : supd (wst s0 c w h) c.o (.lst (l.map natD)) = wst s0 c { w with op := l } h := by
  funext b; unfold supd wst
  by_cases q : b = c.o
  · simp [q, c.oa, c.on]
  · simp [q]
theorem supd_e {l : List Nat} : supd (wst s0 c w h) c.e (.lst (l.map natD)) = wst s0 c { w with sec := l } h := by
  funext b; unfold supd wst
  by_cases q : b = c.e
  · simp [q, c.ea, c.en, c.eo]
  · simp [q]
theorem supd_p {l : List Nat} : supd (wst s0 c w h) c.p (.lst (l.map natD)) = wst s0 c { w with prints := l } h := by
  funext b; unfold supd wst
  by_cases q : b = c.p
  · simp [q, c.pa, c.pn, c.po, c.pe]
  · simp [q]
@[simp] theorem wl_numbers {st rd : Nat} : (worldL c st rd h).lookup (Str.ofString "numbers") = some (.ref c.n) := by simp [worldL]
@[simp] theorem wl_open {st rd : Nat} : (worldL c st rd h).lookup (Str.ofString "open") = some (.ref c.o) := by simp [worldL, List.lookup_cons]
@[simp] theorem wl_secret {st rd : Nat} : (worldL c st rd h).lookup (Str.ofString "secret") = some (.ref c.e) := by simp [worldL, List.lookup_cons]
@[simp] theorem wl_prints {st rd : Nat} : (worldL c st rd h).lookup (Str.ofString "prints") = some (.ref c.p) := by simp [worldL, List.lookup_cons]
@[simp] theorem wl_steps {st rd : Nat} : (worldL c st rd h).lookup (Str.ofString "steps") = some (.int st) := by simp [worldL, List.lookup_cons]
@[simp] theorem wl_rounds {st rd : Nat} : (worldL c st rd h).lookup (Str.ofString "rounds") = some (.int rd) := by simp [worldL, List.lookup_cons]
@[simp] theorem wl_how {st rd : Nat} : (worldL c st rd h).lookup (Str.ofString "how") = some (.str (Str.ofString h)) := by simp [worldL, List.lookup_cons]
theorem wl_put_steps {st rd : Nat} : putD (worldL c st rd h) (Str.ofString "steps") (.int ((st : Int) + 1)) = worldL c (st + 1) rd h := by simp [worldL, putD]
theorem wl_put_rounds {st rd : Nat} : putD (worldL c st rd h) (Str.ofString "rounds") (.int ((rd : Int) + 1)) = worldL c st (rd + 1) h := by simp [worldL, putD]
theorem wl_put_how {st rd : Nat} {h' : String} : putD (worldL c st rd h) (Str.ofString "how") (.str (Str.ofString h')) = worldL c st rd h' := by simp [worldL, putD]
theorem wl_len {st rd : Nat} : (worldL c st rd h).length = 7 := rfl
variable {δ : Fr}
@[simp high] theorem k_steps : kPutD3 δ (wst s0 c w h) c.a (Str.ofString "steps") (.int ((w.steps : Int) + 1)) (some (.dct (worldL c w.steps w.rounds h))) = some (.nx δ, wst s0 c (bump w) h) := by
  rw [kPutD3_s, wl_put_steps, supd_a, wl_len]; rfl
@[simp high] theorem k_rounds : kPutD3 δ (wst s0 c w h) c.a (Str.ofString "rounds") (.int ((w.rounds : Int) + 1)) (some (.dct (worldL c w.steps w.rounds h))) = some (.nx δ, wst s0 c { w with rounds := w.rounds + 1 } h) := by
  rw [kPutD3_s, wl_put_rounds, supd_a, wl_len]; rfl
@[simp high] theorem k_how {h' : String} : kPutD3 δ (wst s0 c w h) c.a (Str.ofString "how") (.str (Str.ofString h')) (some (.dct (worldL c w.steps w.rounds h))) = some (.nx δ, wst s0 c w h') := by
  rw [kPutD3_s, wl_put_how, supd_a, wl_len]; rfl
theorem nat_get {l : List Nat} {x : Nat} (hx : x < l.length) : L2.atI (l.map natD) (x : Int) = some (.int ((l.getD x 0 : Nat) : Int)) := by
  rw [atI_cast, List.getElem?_map, List.getElem?_eq_getElem hx, List.getD_eq_getElem?_getD, List.getElem?_eq_getElem hx]
  rfl
theorem ixN_cast (m n : Nat) : ixN m (n : Int) = if n < m then some n else none := ixN_ofNat m n
theorem map_set_nat (l : List Nat) (x v : Nat) : (l.map natD).set x (.int (v : Int)) = (l.set x v).map natD := by rw [List.map_set]; rfl
theorem k_putn {x v : Nat} (hx : x < w.nums.length) : kPutIx3 δ (wst s0 c w h) c.n (x : Int) (.int (v : Int)) (some (.lst (w.nums.map natD))) = some (.nx δ, wst s0 c (setN w x v) h) := by
  rw [kPutIx3_s, List.length_map, ixN_cast, if_pos hx, kPutIx4_s, map_set_nat, supd_n]; rfl
theorem k_puto {x v : Nat} (hx : x < w.op.length) : kPutIx3 δ (wst s0 c w h) c.o (x : Int) (.int (v : Int)) (some (.lst (w.op.map natD))) = some (.nx δ, wst s0 c (setT w false x v) h) := by
  rw [kPutIx3_s, List.length_map, ixN_cast, if_pos hx, kPutIx4_s, map_set_nat, supd_o]; rfl
theorem k_pute {x v : Nat} (hx : x < w.sec.length) : kPutIx3 δ (wst s0 c w h) c.e (x : Int) (.int (v : Int)) (some (.lst (w.sec.map natD))) = some (.nx δ, wst s0 c (setT w true x v) h) := by
  rw [kPutIx3_s, List.length_map, ixN_cast, if_pos hx, kPutIx4_s, map_set_nat, supd_e]; rfl
theorem k_app {v : Nat} (hx : w.prints.length ≤ 10000000) : kApp3 c.p (.int (v : Int)) (wst s0 c w h) (some (.lst (w.prints.map natD))) = some (.non, wst s0 c { w with prints := w.prints ++ [v] } h) := by
  have e : w.prints.map natD ++ [D.int (v : Int)] = (w.prints ++ [v]).map natD := by rw [List.map_append]; rfl
  rw [kApp3_s, e, supd_p]
  simp [hx]
theorem intsD_nat : ∀ l : List Nat, intsD (l.map natD) = some (l.map fun (n : Nat) => (n : Int))
  | [] => rfl
  | n :: l => by rw [List.map_cons, List.map_cons]; show (intsD (l.map natD)).map _ = _; rw [intsD_nat l]; rfl
theorem sum_nat (w : Wd) : ∀ l : List Nat, (l.map fun t => ((num w t : Nat) : Int)).sum = ((sumN w l : Nat) : Int)
  | [] => rfl
  | t :: l => by rw [List.map_cons, List.sum_cons, sum_nat w l, sumN]; omega
end
def P_body (d : Nat) (g : FD) : Prop := ∀ (s0 : S) (c : WC) (m : Nat) (w : Wd) (b : List Sm), WOk m w → b.length ≤ 100 → smsOk m d b → w.steps + b.length * cst d ≤ 10000000 →
  g [.ref c.a, bodyD b] (wst s0 c w "ends") = some (.bl (exsM b w).2.isNone, wst s0 c (exsM b w).1 (howS (exsM b w).2))
def deepS : Sm → Bool
  | .ite _ _ _ => true
  | .times _ _ => true
  | .whl _ _ => true
  | _ => false
def P_inner (d : Nat) (g : FD) : Prop := ∀ (s0 : S) (c : WC) (m : Nat) (w : Wd) (a : Sm), WOk m w → deepS a = true → smOk m d a → w.steps + (cst d - 1) ≤ 10000000 →
  g [.ref c.a, smD a] (wst s0 c w "ends") = some (.bl (exM a w).2.isNone, wst s0 c (exM a w).1 (howS (exM a w).2))
end Fw
namespace Fw
open PySem PySem.Spec PyProof.Rows L2
section
variable {s0 : S} {c : WC} {v : Wd} {h : String} {δ : Fr}
theorem compL_num {i j : Nat} : ∀ (ts : List Nat), (∀ t ∈ ts, t < v.nums.length) → δ[j]? = some (some (.ref c.n)) → i < δ.length → i ≠ j →
    compL (gtName i) tTrue (f2 dIx (fVar j) (fVar i)) (ts.map natD) δ (wst s0 c v h) = some ((ts.map (num v)).map natD, wst s0 c v h)
  | [], _, _, _, _ => rfl
  | t :: ts, ht, hj, hi, hij => by
    have ih := compL_num ts (fun t h => ht t (List.mem_cons_of_mem _ h)) hj hi hij
    have hg := nat_get (ht t List.mem_cons_self)
    change L2.atI _ _ = some (D.int ((num v t : Nat) : Int)) at hg
    have e1 : f2 dIx (fVar j) (fVar i) (δ.set i (some (.int (t : Nat)))) (wst s0 c v h) = some (.int ((num v t : Nat) : Int), wst s0 c v h) := by
      have hj2 : (δ.set i (some (D.int (t : Nat))))[j]? = some (some (.ref c.n)) := by rw [List.getElem?_set_ne hij]; exact hj
      simp [hj2, set_get hi, hg]
    rw [List.map_cons, List.map_cons, List.map_cons, compL]
    show (f2 dIx (fVar j) (fVar i) (δ.set i (some (.int (t : Nat)))) (wst s0 c v h)).bind _ = _
    rw [e1]
    show (compL _ _ _ _ δ _).map _ = _
    rw [ih]
    rfl
theorem intsD_num (ts : List Nat) : intsD ((ts.map (num v)).map natD) = some (ts.map fun t => ((num v t : Nat) : Int)) := by
  rw [intsD_nat, List.map_map]; rfl
theorem modC (n k : Nat) : ((n : Int) + (k : Int)) % 10 = (((n + k) % 10 : Nat) : Int) := by omega
theorem divC (k : Nat) : (9 : Int) / (k : Int) = ((9 / k : Nat) : Int) := by
  rw [show (9 : Int) = ((9 : Nat) : Int) from rfl, Int.natCast_ediv]
theorem k_putm {x n k : Nat} (hx : x < v.nums.length) : kPutIx3 δ (wst s0 c v h) c.n (x : Int) (.int (((n : Int) + (k : Int)) % 10)) (some (.lst (v.nums.map natD))) = some (.nx δ, wst s0 c (setN v x ((n + k) % 10)) h) := by
  rw [modC]; exact k_putn hx
theorem k_putv {x k : Nat} (hx : x < v.nums.length) : kPutIx3 δ (wst s0 c v h) c.n (x : Int) (.int (9 / (k : Int))) (some (.lst (v.nums.map natD))) = some (.nx δ, wst s0 c (setN v x (9 / k)) h) := by
  rw [divC]; exact k_putn hx
end
end Fw
namespace Fw
open PySem PySem.Spec PyProof.Rows L2
def w0 (ns : List Nat) : Wd := { nums := ns, op := List.replicate 10 0, sec := List.replicate 10 0, prints := [], steps := 0, rounds := 0 }
/-- what a run ends with -/
def runD (b : List Sm) (ns : List Nat) : D :=
  let r := exsM b (w0 ns)
  .tup [strD (howS r.2), natsD r.1.nums, .tup [natsD r.1.op, natsD r.1.sec], natsD r.1.prints, natD r.1.steps]
def Fin (s : S) : Prop := ∃ N : Nat, ∀ a, N ≤ a → s a = none
def P_run (g : FD) : Prop := ∀ (s : S) (so : List Bool) (b : List Sm) (ns : List Nat), Fin s → smsOk ns.length 2 b → b.length ≤ 50 → ns.length ≤ 1000 → (∀ n ∈ ns, n < 10) → g [.tup [sortsD so, bodyD b], natsD ns] s = some (runD b ns, s)
end Fw
namespace Fw
open PySem PySem.Spec PyProof.Rows L2
theorem keep_wst {s : S} {c : WC} {w : Wd} {h : String} (ha : s c.a = none) (hn : s c.n = none) (ho : s c.o = none) (he : s c.e = none) (hp : s c.p = none) : keepS s (wst s c w h) = s := by
  funext b
  unfold keepS wst
  split
  · rename_i z; exact z.symm
  · rename_i z
    rw [if_neg (fun q => z (by rw [q]; exact ha)), if_neg (fun q => z (by rw [q]; exact hn)), if_neg (fun q => z (by rw [q]; exact ho)), if_neg (fun q => z (by rw [q]; exact he)), if_neg (fun q => z (by rw [q]; exact hp))]
theorem made_wst {s : S} {c : WC} {ns : List Nat} {u0 : OO} : supd (supd (supd (supd (supd (supd s c.a u0) c.n (.lst (ns.map natD))) c.o (.lst ((List.replicate 10 0).map natD))) c.e (.lst ((List.replicate 10 0).map natD))) c.p (.lst [])) c.a
    (.dct ([Str.ofString "numbers", Str.ofString "open", Str.ofString "secret", Str.ofString "prints", Str.ofString "steps", Str.ofString "rounds", Str.ofString "how"].zip [.ref c.n, .ref c.o, .ref c.e, .ref c.p, .int 0, .int 0, .str (Str.ofString "ends")])) = wst s c (w0 ns) "ends" := by
  funext b
  unfold supd wst
  by_cases h1 : b = c.a
  · rw [if_pos h1, if_pos h1]; rfl
  by_cases h2 : b = c.n
  · simp [h2, c.na, c.on.symm, c.en.symm, c.pn.symm, w0]
  by_cases h3 : b = c.o
  · simp [h3, c.oa, c.on, c.eo.symm, c.po.symm, w0]
  by_cases h4 : b = c.e
  · simp [h4, c.ea, c.en, c.eo, c.pe.symm, w0]
  by_cases h5 : b = c.p
  · simp [h5, c.pa, c.pn, c.po, c.pe, w0]
  simp [h1, h2, h3, h4, h5]
end Fw

set_option Elab.async false
set_option linter.all false
set_option maxRecDepth 100000
namespace Fw
open PySem PySem.Spec PyProof.Rows L2

/-! ### attributes of an owned instance -/
def putFD (f : Str) (d : D) : List (Str × D) → List (Str × D)
  | [] => [(f, d)]
  | (g, x) :: r => if g = f then (g, d) :: r else (g, x) :: putFD f d r
section
variable {K : PySem.W.Frag} {H : Hp} {f : Str} {v : V} {d : D}
theorem repfs_get : ∀ {vs : List (Str × V)} {ds : List (Str × D)}, RepFs K H vs ds → ds.lookup f = some d → ∃ v, vs.lookup f = some v ∧ Rep K H v d
  | [], [], _, e => by cases e
  | [], _ :: _, r, _ => by cases r.1
  | _ :: _, [], r, _ => by cases r.1
  | (k1, v1) :: vs, (k2, d2) :: ds, r, e => by
    obtain ⟨r1, r2⟩ := r
    have e1 : k1 = k2 ∧ vs.map (·.1) = ds.map (·.1) := by simpa using r1
    obtain ⟨rfl, e2⟩ := e1
    cases r2 with
    | cons a t =>
      rw [List.lookup_cons] at e ⊢
      cases hk : f == k1 with
      | true =>
        rw [hk] at e
        cases e
        exact ⟨v1, rfl, a⟩
      | false =>
        rw [hk] at e
        exact repfs_get ⟨e2, t⟩ e
theorem repfs_put (rv : Rep K H v d) : ∀ {vs : List (Str × V)} {ds : List (Str × D)}, RepFs K H vs ds → RepFs K H (putF f v vs) (putFD f d ds)
  | [], [], _ => ⟨rfl, .cons rv .nil⟩
  | [], _ :: _, r => by cases r.1
  | _ :: _, [], r => by cases r.1
  | (k1, v1) :: vs, (k2, d2) :: ds, r => by
    obtain ⟨r1, r2⟩ := r
    have e1 : k1 = k2 ∧ vs.map (·.1) = ds.map (·.1) := by simpa using r1
    obtain ⟨rfl, e2⟩ := e1
    cases r2 with
    | cons a t =>
      have ih := repfs_put rv ⟨e2, t⟩
      unfold putF putFD
      by_cases hk : k1 = f
      · rw [if_pos hk, if_pos hk]
        exact ⟨by simp [e2], .cons rv t⟩
      · rw [if_neg hk, if_neg hk]
        exact ⟨by simp [ih.1], .cons a ih.2⟩
theorem repfs_len {vs : List (Str × V)} {ds : List (Str × D)} (r : RepFs K H vs ds) : vs.length = ds.length := by have := congrArg List.length r.1; simpa using this
theorem len_putF (vs : List (Str × V)) : ∀ {ds : List (Str × D)}, vs.map (·.1) = ds.map (·.1) → (putF f v vs).length = (putFD f d ds).length := by
  induction vs with
  | nil => intro ds e; cases ds with
    | nil => rfl
    | cons _ _ => cases e
  | cons p vs ih => intro ds e; cases ds with
    | nil => cases e
    | cons q ds =>
      obtain ⟨g, x⟩ := p
      obtain ⟨g', x'⟩ := q
      have e1 : g = g' ∧ vs.map (·.1) = ds.map (·.1) := by simpa using e
      obtain ⟨rfl, e2⟩ := e1
      unfold putF putFD
      split
      · have := congrArg List.length e2; simpa using this
      · rw [List.length_cons, List.length_cons, ih e2]
theorem mem_put {C : Addr} {g : Str} {ds : List (Str × D)} (hn : ∀ p ∈ ds, NoAttr K C p.1) (h : NoAttr K C g) : ∀ p ∈ putFD g d ds, NoAttr K C p.1 := by
  induction ds with
  | nil => intro p hp; cases List.mem_singleton.mp hp; exact h
  | cons q ds ih =>
    obtain ⟨k, x⟩ := q
    intro p hp
    unfold putFD at hp
    split at hp
    · rcases List.mem_cons.mp hp with rfl | hp
      · exact hn (k, x) List.mem_cons_self
      · exact hn p (List.mem_cons_of_mem _ hp)
    · rcases List.mem_cons.mp hp with rfl | hp
      · exact hn (k, x) List.mem_cons_self
      · exact ih (fun p hp => hn p (List.mem_cons_of_mem _ hp)) p hp
theorem noattr_of {C : Addr} {ds : List (Str × D)} (hn : ∀ p ∈ ds, NoAttr K C p.1) (e : ds.lookup f = some d) : NoAttr K C f := by
  induction ds with
  | nil => cases e
  | cons q ds ih =>
    obtain ⟨k, x⟩ := q
    rw [List.lookup_cons] at e
    cases hk : f == k with
    | true =>
      have : f = k := eq_of_beq hk
      rw [this]
      exact hn (k, x) List.mem_cons_self
    | false =>
      rw [hk] at e
      exact ih (fun p hp => hn p (List.mem_cons_of_mem _ hp)) e
end
section
variable {X : Cx} {o e v : Expr} {f : Str} {fe fo fv : FE} {pos pos' tpos : Pos}
def k1 (g : G1) : Option (D × S) → Option (D × S) | some (x, s) => kR s (g x s) | none => none
@[simp] theorem k1_s {g : G1} {x : D} {s : S} : k1 g (some (x, s)) = kR s (g x s) := rfl
@[simp] theorem f1_e {g : G1} {δ : Fr} {s : S} : f1 g fe δ s = k1 g (fe δ s) := by
  unfold f1
  rcases fe δ s with _ | ⟨c, s1⟩
  · rfl
  · show (g c s1).map _ = kR s1 (g c s1)
    cases g c s1 <;> rfl
@[simp] def dFld (f : Str) : G1 := fun x s => match x with
  | .ref a => match s a with
    | some (.ins _ fs) => fs.lookup f
    | _ => none
  | _ => none
theorem d_fld (ho : PE X o (tD X.K fo)) (hb : attributeBase o f X.env (eval o X.env) = eval o X.env := by rfl) : PE X (.Attribute o f pos) (tD X.K (f1 (dFld f) fo)) := imp_e (pe_fld ho hb) fun σ H Q ⟨h, s, δ, d, s', er, si, q, w⟩ => by
  obtain ⟨⟨x, s1⟩, q1, q⟩ := bind_some q
  obtain ⟨z, q3, q⟩ := map_some q
  cases q
  cases x with
  | ref a =>
    refine ⟨h, s, δ, _, _, er, si, q1, fun vx H1 st1 r1 => ?_⟩
    unfold dFld at q3
    dsimp only at q3
    split at q3
    · rename_i C fs e
      obtain ⟨dx, vs, e2, hc, hn, rf⟩ := st1.si.ob _ _ e
      obtain ⟨vv, e3, r3⟩ := repfs_get rf q3
      exact ⟨a, C, dx, vs, vv, rep_ref r1, e2, hc, noattr_of hn q3, e3, w _ H1 st1 r3⟩
    · cases q3
  | _ => cases q3
def kFldS3 (δ : Fr) (f : Str) (v : D) (s : S) (a : Addr) : Option OO → Option (Out × S)
  | some (.ins C fs) => if ((fs.lookup f).isSome && decide (fs.length < 1000)) = true then some (.nx δ, supd s a (.ins C (putFD f v fs))) else none
  | _ => none
@[simp] theorem kFldS3_s {δ : Fr} {x : D} {s : S} {a C : Addr} {fs : List (Str × D)} : kFldS3 δ f x s a (some (.ins C fs)) = if ((fs.lookup f).isSome && decide (fs.length < 1000)) = true then some (.nx δ, supd s a (.ins C (putFD f x fs))) else none := rfl
def kFldS2 (δ : Fr) (f : Str) (v : D) : Option (D × S) → Option (Out × S) | some (.ref a, s) => kFldS3 δ f v s a (s a) | _ => none
@[simp] theorem kFldS2_s {δ : Fr} {x : D} {s : S} {a : Addr} : kFldS2 δ f x (some (.ref a, s)) = kFldS3 δ f x s a (s a) := rfl
def kFldS (fo : FE) (f : Str) (δ : Fr) : Option (D × S) → Option (Out × S) | some (v, s) => kFldS2 δ f v (fo δ s) | none => none
@[simp] theorem kFldS_s {δ : Fr} {x : D} {s : S} : kFldS fo f δ (some (x, s)) = kFldS2 δ f x (fo δ s) := rfl
/-- o.f = v, f an attribute that is there -/
def fFldS (fv fo : FE) (f : Str) : FS := fun δ s => kFldS fo f δ (fv δ s)
@[simp] theorem fFldS_e {δ : Fr} {s : S} : fFldS fv fo f δ s = kFldS fo f δ (fv δ s) := rfl
theorem ds_fld (ho : PE X o (tD X.K fo)) (hv : PE X v (tD X.K fv)) (hs : swapsWith v (some (.Attribute o f pos')) pos.line X.env = pure false := by rfl) : PS X (.Assign [.Attribute o f pos'] v pos) (tDS X.K (fFldS fv fo f)) := imp_s (ps_fld ho hv hs) fun D σ H ⟨h, s, δ, out, s', er, si, q, w⟩ => by
  unfold fFldS at q
  cases q1 : fv δ s with
  | none => rw [q1] at q; cases q
  | some pv =>
    obtain ⟨dv, s1⟩ := pv
    rw [q1] at q
    have q : kFldS2 δ f dv (fo δ s1) = some (out, s') := q
    refine ⟨h, s, δ, dv, s1, er, si, q1, fun vv H1 st1 r1 => ?_⟩
    cases q2 : fo δ s1 with
    | none => rw [q2] at q; cases q
    | some po =>
      obtain ⟨d_o, s2⟩ := po
      rw [q2] at q
      refine ⟨h, s1, δ, d_o, s2, er.mono (st1.ext si), st1.si, q2, fun vo H2 st2 r2 => ?_⟩
      cases d_o with
      | ref a =>
        have q : kFldS3 δ f dv s2 a (s2 a) = some (out, s') := q
        unfold kFldS3 at q
        split at q
        · rename_i C fs e
          split at q
          · rename_i hc
            cases q
            simp only [Bool.and_eq_true, decide_eq_true_eq] at hc
            obtain ⟨d0, e0⟩ := Option.isSome_iff_exists.mp hc.1
            obtain ⟨dx, vs, e2, cl, hn, rf⟩ := st2.si.ob _ _ e
            have na := noattr_of hn e0
            have st := st1.trans st2
            have rv : Rep X.K (hide h H2) vv dv := st2.rep st1.si r1
            have st4 := st2.si.putL (o := .ins C dx (putF f vv vs)) (w := .ins C (putFD f dv fs)) e ⟨dx, _, rfl, cl, mem_put hn na, repfs_put rv rf⟩
            exact ⟨a, C, dx, vs, rep_ref r2, e2, cl, na, by rw [repfs_len rf]; exact hc.2, w _ (st.trans st4) σ (er.mono ((st.trans st4).ext si))⟩
          · cases q
        · cases q
      | _ => cases q
def kFA4 (δ : Fr) (f : Str) (i : Int) (a C : Addr) (s : S) : D → Option OO → Option (Out × S)
  | .int j, some (.ins C' fs) => if (decide (C' = C) && ((fs.lookup f).isSome && decide (fs.length < 1000))) = true then some (.nx δ, supd s a (.ins C (putFD f (.int (i + j)) fs))) else none
  | _, _ => none
@[simp] theorem kFA4_s {δ : Fr} {s : S} {a C : Addr} {i j : Int} {fs : List (Str × D)} : kFA4 δ f i a C s (.int j) (some (.ins C fs)) = if ((fs.lookup f).isSome && decide (fs.length < 1000)) = true then some (.nx δ, supd s a (.ins C (putFD f (.int (i + j)) fs))) else none := by
  show (if (decide (C = C) && _) = true then _ else _) = _
  rw [decide_eq_true rfl, Bool.true_and]
def kFA3 (δ : Fr) (f : Str) (i : Int) (a C : Addr) : Option (D × S) → Option (Out × S) | some (d, s) => kFA4 δ f i a C s d (s a) | none => none
@[simp] theorem kFA3_s {δ : Fr} {s : S} {a C : Addr} {i : Int} {d : D} : kFA3 δ f i a C (some (d, s)) = kFA4 δ f i a C s d (s a) := rfl
def kFA2 (fv : FE) (δ : Fr) (f : Str) (a C : Addr) (s : S) : Option D → Option (Out × S) | some (.int i) => kFA3 δ f i a C (fv δ s) | _ => none
@[simp] theorem kFA2_s {δ : Fr} {s : S} {a C : Addr} {i : Int} : kFA2 fv δ f a C s (some (.int i)) = kFA3 δ f i a C (fv δ s) := rfl
def kFA1 (fv : FE) (δ : Fr) (f : Str) (a : Addr) (s : S) : Option OO → Option (Out × S) | some (.ins C fs) => kFA2 fv δ f a C s (fs.lookup f) | _ => none
@[simp] theorem kFA1_s {δ : Fr} {s : S} {a C : Addr} {fs : List (Str × D)} : kFA1 fv δ f a s (some (.ins C fs)) = kFA2 fv δ f a C s (fs.lookup f) := rfl
def kFA (fv : FE) (δ : Fr) (f : Str) : Option (D × S) → Option (Out × S) | some (.ref a, s) => kFA1 fv δ f a s (s a) | _ => none
@[simp] theorem kFA_s {δ : Fr} {s : S} {a : Addr} : kFA fv δ f (some (.ref a, s)) = kFA1 fv δ f a s (s a) := rfl
/-- o.f += v of ints -/
def fFldA (fo fv : FE) (f : Str) : FS := fun δ s => kFA fv δ f (fo δ s)
@[simp] theorem fFldA_e {δ : Fr} {s : S} : fFldA fo fv f δ s = kFA fv δ f (fo δ s) := rfl
theorem ds_fldA (ho : PE X o (tD X.K fo)) (hv : PE X v (tD X.K fv)) : PS X (.AugAssign (.Attribute o f tpos) .Add v pos) (tDS X.K (fFldA fo fv f)) := imp_s (ps_fldaug ho hv in_add) fun D σ H ⟨h, s, δ, out, s', er, si, q, w⟩ => by
  unfold fFldA at q
  cases q1 : fo δ s with
  | none => rw [q1] at q; cases q
  | some po =>
    obtain ⟨d_o, s1⟩ := po
    rw [q1] at q
    cases d_o with
    | ref a =>
      have q : kFA1 fv δ f a s1 (s1 a) = some (out, s') := q
      refine ⟨h, s, δ, .ref a, s1, er, si, q1, fun vo H1 st1 r1 => ?_⟩
      unfold kFA1 at q
      split at q
      rotate_left
      · cases q
      rename_i C fs e
      unfold kFA2 at q
      split at q
      rotate_left
      · cases q
      rename_i i e0
      obtain ⟨dx, vs, e2, cl, hn, rf⟩ := st1.si.ob _ _ e
      obtain ⟨v0, e3, r3⟩ := repfs_get rf e0
      refine ⟨a, C, dx, vs, v0, rep_ref r1, e2, cl, noattr_of hn e0, e3, ?_⟩
      cases q2 : fv δ s1 with
      | none => rw [q2] at q; cases q
      | some pv =>
        obtain ⟨dv, s2⟩ := pv
        rw [q2] at q
        have q : kFA4 δ f i a C s2 dv (s2 a) = some (out, s') := q
        refine ⟨h, s1, δ, dv, s2, er.mono (st1.ext si), st1.si, q2, fun vv H2 st2 r2 => ?_⟩
        unfold kFA4 at q
        split at q
        · rename_i j C' fs' e4 ex
          split at q
          · rename_i hc
            cases q
            simp only [Bool.and_eq_true, decide_eq_true_eq] at hc
            obtain ⟨dx', vs', e5, cl', hn', rf'⟩ := st2.si.ob _ _ e4
            obtain ⟨d0, e6⟩ := Option.isSome_iff_exists.mp hc.2.1
            have na := noattr_of hn' e6
            have st := st1.trans st2
            have rj : Rep X.K (hide h H2) (.int (i + j)) (.int (i + j)) := .int _
            have hcc : C' = C := hc.1
            subst hcc
            have st4 := st2.si.putL (o := .ins C' dx' (putF f (.int (i + j)) vs')) (w := .ins C' (putFD f (.int (i + j)) fs')) e4 ⟨dx', _, rfl, cl', mem_put hn' na, repfs_put rj rf'⟩
            refine ⟨i, j, rep_int r3, rep_int r2, dx', vs', e5, by rw [repfs_len rf']; exact hc.2.2, ?_⟩
            exact w _ (st.trans st4) σ (er.mono ((st.trans st4).ext si))
          · cases q
        · cases q
    | _ => cases q
end
end Fw

set_option Elab.async false
set_option linter.all false
set_option maxRecDepth 100000
namespace Fw
open PySem PySem.Spec PyProof.Rows L2

/-! ### what the module holds and nobody changes -/
structure Gc (K : PySem.W.Frag) (mg : Str → Option Value) (x : Str) (d : D) : Prop where
  ex : ∃ u v, mg x = some u ∧ RelV v u ∧ ∀ H, Rep K H v d
/-- a dict of texts -/
structure GK (K : PySem.W.Frag) (w : World) (kvs : List (Str × D)) (a : Addr) : Prop where
  kd : ∃ es n, KDict K w a es n
  ns : ∀ z, ∃ r, PySem.W.nsIn K a z = some r ∧ r.isSome = (kvs.lookup z).isSome ∧ ∀ d, kvs.lookup z = some d → ∃ u v, r = some u ∧ RelV v u ∧ ∀ H, Rep K H v d
@[simp] def dInK (kvs : List (Str × D)) (a : Addr) : G2 := fun x y _ => match x, y with
  | .str z, .ref b => if b = a then some (.bl (kvs.lookup z).isSome) else none
  | _, _ => none
@[simp] def dNotInK (kvs : List (Str × D)) (a : Addr) : G2 := fun x y _ => match x, y with
  | .str z, .ref b => if b = a then some (.bl (!(kvs.lookup z).isSome)) else none
  | _, _ => none
@[simp] def dItemK (kvs : List (Str × D)) (a : Addr) : G2 := fun x y _ => match x, y with
  | .ref b, .str z => if b = a then kvs.lookup z else none
  | _, _ => none
theorem g_inK {K : PySem.W.Frag} {w : World} {kvs : List (Str × D)} {a : Addr} (G : GK K w kvs a) : GOp K (fun x y H Q => ∃ (z : Str) (r : Option Value), x = .str z ∧ y = .ref a ∧ PySem.W.nsIn K a z = some r ∧ Q (.bl r.isSome) H) (dInK kvs a) := by
  intro h s H x y dx dy d Q si rx ry q w
  unfold dInK at q
  split at q
  · rename_i z b
    split at q
    · rename_i hb
      subst hb
      cases q
      obtain ⟨r, e1, e2, _⟩ := G.ns z
      exact ⟨z, r, rep_str rx, rep_ref ry, e1, w _ H (Step.refl si) (by rw [e2]; exact .bl _)⟩
    · cases q
  · cases q
theorem g_notInK {K : PySem.W.Frag} {w : World} {kvs : List (Str × D)} {a : Addr} (G : GK K w kvs a) : GOp K (fun x y H Q => ∃ (z : Str) (r : Option Value), x = .str z ∧ y = .ref a ∧ PySem.W.nsIn K a z = some r ∧ Q (.bl (!r.isSome)) H) (dNotInK kvs a) := by
  intro h s H x y dx dy d Q si rx ry q w
  unfold dNotInK at q
  split at q
  · rename_i z b
    split at q
    · rename_i hb
      subst hb
      cases q
      obtain ⟨r, e1, e2, _⟩ := G.ns z
      exact ⟨z, r, rep_str rx, rep_ref ry, e1, w _ H (Step.refl si) (by rw [e2]; exact .bl _)⟩
    · cases q
  · cases q
theorem g_itemK {K : PySem.W.Frag} {w : World} {kvs : List (Str × D)} {a : Addr} (G : GK K w kvs a) : GOp K (fun x y H Q => ∃ (z : Str) (u0 : Value) (v0 : V), x = .ref a ∧ y = .str z ∧ PySem.W.nsIn K a z = some (some u0) ∧ RelV v0 u0 ∧ Q v0 H) (dItemK kvs a) := by
  intro h s H x y dx dy d Q si rx ry q w
  unfold dItemK at q
  split at q
  · rename_i b z
    split at q
    · rename_i hb
      subst hb
      obtain ⟨r, e1, _, e3⟩ := G.ns z
      obtain ⟨u, v, rfl, rl, rp⟩ := e3 d q
      exact ⟨z, u, v, rep_ref rx, rep_str ry, e1, rl, w _ H (Step.refl si) (rp _)⟩
    · cases q
  · cases q
section
variable {X : Cx} {o e i v : Expr} {es : List Expr} {x : Str} {fe fo fi fv : FE} {fs : FA} {pos p : Pos} {kvs : List (Str × D)} {a : Addr}
theorem d_gc {d : D} (G : Gc X.K X.mg x d) (hg : Gl X x) (hd : (x == ("__debug__" : Str)) = false := by decide) : PE X (.Name x pos) (tD X.K (fC d)) := by
  obtain ⟨u, v, hm, r, rp⟩ := G.ex
  refine imp_e (pe_glob hg hm r hd) fun σ H Q ⟨h, s, δ, d', s', er, si, q, w⟩ => ?_
  cases q
  exact w v H (Step.refl si) (rp _)
theorem d_inK (G : GK X.K X.w kvs a) (he : PE X e (tD X.K fe)) (ho : PE X o (tD X.K fo)) (hm : behindInMarks .In o = false := by rfl) : PE X (.Compare e [.In] [o] pos) (tD X.K (f2 (dInK kvs a) fe fo)) := by
  obtain ⟨es, n, D⟩ := G.kd
  exact d_cmp (op_in_kd D) (g_inK G) he ho hm
theorem d_notInK (G : GK X.K X.w kvs a) (he : PE X e (tD X.K fe)) (ho : PE X o (tD X.K fo)) (hm : behindInMarks .NotIn o = false := by rfl) : PE X (.Compare e [.NotIn] [o] pos) (tD X.K (f2 (dNotInK kvs a) fe fo)) := by
  obtain ⟨es, n, D⟩ := G.kd
  exact d_cmp (op_notIn_kd D) (g_notInK G) he ho hm
theorem dt_inK (G : GK X.K X.w kvs a) (he : PE X e (tD X.K fe)) (ho : PE X o (tD X.K fo)) (hm : behindInMarks .In o = false := by rfl) : PT X (.Compare e [.In] [o] pos) (tDT X.K (fT (f2 (dInK kvs a) fe fo))) := by
  obtain ⟨es, n, D⟩ := G.kd
  exact dt_cmp (op_in_kd D) (g_inK G) he ho hm
theorem dt_notInK (G : GK X.K X.w kvs a) (he : PE X e (tD X.K fe)) (ho : PE X o (tD X.K fo)) (hm : behindInMarks .NotIn o = false := by rfl) : PT X (.Compare e [.NotIn] [o] pos) (tDT X.K (fT (f2 (dNotInK kvs a) fe fo))) := by
  obtain ⟨es, n, D⟩ := G.kd
  exact dt_cmp (op_notIn_kd D) (g_notInK G) he ho hm
theorem g_rIxD {K : PySem.W.Frag} {w : World} (G : GK K w kvs a) : GOp K (rIxD K w) (dItemK kvs a) := by
  intro h s H x y dx dy d Q si rx ry q wq
  unfold dItemK at q
  split at q
  · rename_i b z
    split at q
    · rename_i hb
      subst hb
      obtain ⟨r, e1, _, e3⟩ := G.ns z
      obtain ⟨u, v, rfl, rl, rp⟩ := e3 d q
      obtain ⟨es, n, D⟩ := G.kd
      exact ⟨b, z, v, rep_ref rx, rep_str ry, ⟨es, n, u, D.at_, D.lit, e1, rl⟩, wq _ H (Step.refl si) (rp _)⟩
    · cases q
  · cases q
theorem d_itemK (G : GK X.K X.w kvs a) (ho : PE X o (tD X.K fo)) (hi : PE X i (tD X.K fi)) (hs : PlainIx i) : PE X (.Subscript o i pos) (tD X.K (f2 (dItemK kvs a) fo fi)) := d_2 ho hi (g_rIxD G) (pe_ix ix_kdict ho hi hs)
/-- a local name that holds one of some defs is called -/
def kCallA (n : Nat) (tb : Addr → Option FD) (fs : FA) (δ : Fr) (s : S) : Option (Option D) → Option (D × S)
  | some (some (.ref f)) => (match tb f with | some g => fCall n g fs δ s | none => none)
  | _ => none
def fCallA (n i : Nat) (tb : Addr → Option FD) (fs : FA) : FE := fun δ s => kCallA n tb fs δ s δ[i]?
@[simp] theorem fCallA_e {n i : Nat} {tb : Addr → Option FD} {δ : Fr} {s : S} : fCallA n i tb fs δ s = kCallA n tb fs δ s δ[i]? := rfl
@[simp] theorem kCallA_s {n : Nat} {tb : Addr → Option FD} {δ : Fr} {s : S} {f : Addr} : kCallA n tb fs δ s (some (some (.ref f))) = (match tb f with | some g => fCall n g fs δ s | none => none) := rfl
theorem d_callA {n k j : Nat} {tb : Addr → Option FD} {x : Str} (A : ∀ f g, tb f = some g → Held X.prog X.w X.K X.mg X.base k f (spD X.K n g)) (hr : Room k X.A) (hN : X.N[j]? = some x) (hv : Vis X.env.scope x) (ha : PA X (e :: es) (tDA X.K fs))
    (hdb : (x == ("__debug__" : Str)) = false := by decide) (hcd : (x == ("__classdict__" : Str)) = false := by decide)
    (he : starEach (e :: es) X.env = (false, eval e X.env) :: starEach es X.env := by rfl) (hpl : (backTo pos (starEach es X.env)).any (·.1) = false := by rfl) : PE X (.Call (.Name x p) (e :: es) [] pos) (tD X.K (fCallA n j tb fs)) :=
  imp_e (pe_callA (S := fun f => (tb f).map (spD X.K n)) (fun f sp h => by
    obtain ⟨g, h1, h2⟩ := map_some h
    subst h2
    exact A f g h1) hr hN hv ha hdb hcd he hpl) fun σ H Q ⟨h, s, δ, d, s', er, si, q, w⟩ => by
  unfold fCallA kCallA at q
  split at q
  rotate_left
  · cases q
  rename_i f e1
  split at q
  rotate_left
  · cases q
  rename_i g e2
  obtain ⟨v, e3, r3⟩ := er.at_ _ _ e1
  cases rep_ref r3
  obtain ⟨⟨xs, s1⟩, q1, q⟩ := bind_some q
  split at q
  rotate_left
  · cases q
  rename_i hl
  refine ⟨f, spD X.K n g, e3, by show (tb f).map _ = _; rw [e2]; rfl, h, s, δ, xs, s1, er, si, q1, fun vs H1 st1 r1 => ?_⟩
  exact ⟨h, s1, xs, d, s', r1, hl, st1.si, q, fun v H2 st2 r2 => w v H2 (st1.trans st2) r2⟩
theorem held_of {P : Program} {w : World} {K : PySem.W.Frag} {mg : Str → Option Value} {base : Heap} {x : Str} {n k : Nat} {g : FD} (F : Kn P w K mg base x n k g) : ∃ f, mg x = some (.ref f) ∧ Held P w K mg base k f (spD K n g) :=
  let ⟨f, fd, ps, a, b, c, d⟩ := F.ex; ⟨f, d, ⟨fd, ps, a, c, b⟩⟩
end

/-! ### while -/
def loopW (tt : FT) (fb : FS) : Nat → Fr → S → Option (Out × S)
  | 0, _, _ => none
  | n + 1, δ, s => (tt δ s).bind fun p => if p.1 = true then (fb δ p.2).bind fun q => match q.1 with
      | .nx δ2 => loopW tt fb n δ2 q.2
      | .ct δ2 => loopW tt fb n δ2 q.2
      | .bk δ2 => some (.nx δ2, q.2)
      | .rt d => some (.rt d, q.2)
    else some (.nx δ, p.2)
def fWhile (n : Nat) (tt : FT) (fb : FS) : FS := fun δ s => loopW tt fb n δ s
@[simp] theorem fWhile_e {n : Nat} {tt : FT} {fb : FS} {δ : Fr} {s : S} : fWhile n tt fb δ s = loopW tt fb n δ s := rfl
theorem ds_while {X : Cx} {c : Expr} {body : List Stmt} {pos : Pos} {tt : FT} {fb : FS} (n : Nat) (hp : PassesOwn (model X.prog X.w) X.A X.env X.xe) (hc : PT X c (tDT X.K tt)) (hb : PSs X body (tDS X.K fb)) : PS X (.While c body [] pos) (tDS X.K (fWhile n tt fb)) := imp_s (ps_while hp hc hb) fun D σ H ⟨h, s, δ, o, s', er, si, q, w⟩ => by
  refine ⟨fun m σ2 H2 => ∃ s2 δ2, Step X.K h s H s2 H2 ∧ EnvR X.K (hide h H2) σ2 δ2 ∧ loopW tt fb m δ2 s2 = some (o, s'), ⟨n, s, δ, Step.refl si, er, q⟩, ?_⟩
  rintro m σ2 H2 ⟨s2, δ2, st2, er2, q2⟩
  cases m with
  | zero => cases q2
  | succ m =>
    obtain ⟨⟨b, s3⟩, q3, q2⟩ := bind_some q2
    refine ⟨h, s2, δ2, b, s3, er2, st2.si, q3, fun H3 st3 => ?_⟩
    cases b with
    | true =>
      obtain ⟨⟨o4, s4⟩, q4, q2⟩ := bind_some q2
      refine ⟨fun σ' H' => ∃ s2 δ2, Step X.K h s H s2 H' ∧ EnvR X.K (hide h H') σ' δ2 ∧ loopW tt fb m δ2 s2 = some (o, s'), fun σ' H' z => ⟨m, Nat.lt_succ_self m, z⟩, ?_⟩
      refine ⟨h, s3, δ2, o4, s4, er2.mono (st3.ext st2.si), st3.si, q4, fun H4 st4 => ?_⟩
      have st14 : Step X.K h s H s4 H4 := st2.trans (st3.trans st4)
      cases o4 with
      | nx δ4 => exact fun σ' er' => ⟨s4, δ4, st14, er', q2⟩
      | ct δ4 => exact fun σ' er' => ⟨s4, δ4, st14, er', q2⟩
      | bk δ4 => cases q2; exact w H4 st14
      | rt d => cases q2; exact w H4 st14
    | false =>
      cases q2
      exact w H3 (st2.trans st3) σ2 (er2.mono (st3.ext st2.si))
end Fw

set_option Elab.async false
set_option linter.all false
set_option maxRecDepth 100000
namespace Fw
open PySem PySem.Spec PyProof.Rows L2
/-! ### the program's own checks, of what is as it should be -/
def P_is_pair (g : FD) : Prop := ∀ (a b : D) (s : S), g [.tup [a, b]] s = some (.bl true, s)
def P_is_sort (g : FD) : Prop := ∀ (t : Bool) (s : S), g [sortD t] s = some (.bl true, s)
def P_is_number (g : FD) : Prop := ∀ (n : Nat) (k : Int) (s : S), (n : Int) ≤ k → g [.int n, .int k] s = some (.bl true, s)
def P_is_sorts (g : FD) : Prop := ∀ (so : List Bool) (s : S), 1 ≤ so.length → so.length ≤ 6 → g [sortsD so] s = some (.bl true, s)
def P_is_terms (g : FD) : Prop := ∀ (ts : List Nat) (m : Nat) (s : S), ts.length ≤ 2 → (∀ t ∈ ts, t < m) → g [natsD ts, .int m] s = some (.bl true, s)
def P_is_statement (d : Nat) (g : FD) : Prop := ∀ (a : Sm) (m k : Nat) (s : S), smOk m d a → k + d ≤ 2 → g [smD a, .int m, .int k] s = some (.bl true, s)
def P_is_body (d : Nat) (g : FD) : Prop := ∀ (b : List Sm) (m most k : Nat) (s : S), smsOk m d b → b.length ≤ most → most ≤ 1000 → k + d ≤ 2 → g [bodyD b, .int m, .int most, .int k] s = some (.bl true, s)
def P_is_item (d : Nat) (g : FD) : Prop := ∀ (m k : Nat) (s : S), k + d ≤ 2 → (∀ x : Nat, x < m → g [strD "name", natD x, .int m, .int k] s = some (.bl true, s)) ∧ (∀ n : Nat, n ≤ 9 → g [strD "number", natD n, .int m, .int k] s = some (.bl true, s)) ∧
  (∀ n : Nat, n ≤ 3 → g [strD "turns", natD n, .int m, .int k] s = some (.bl true, s)) ∧ (∀ t : Bool, g [strD "sort", sortD t, .int m, .int k] s = some (.bl true, s)) ∧
  (∀ ts : List Nat, ts.length ≤ 2 → (∀ t ∈ ts, t < m) → g [strD "terms", natsD ts, .int m, .int k] s = some (.bl true, s)) ∧ (∀ b : List Sm, 0 < d → smsOk m (d - 1) b → b.length ≤ 4 → g [strD "body", bodyD b, .int m, .int k] s = some (.bl true, s))
def P_is_whole_body (g : FD) : Prop := ∀ (b : List Sm) (m : Nat) (s : S), smsOk m 2 b → b.length ≤ 8 → g [bodyD b, .int m] s = some (.bl true, s)
def P_check_program (g : FD) : Prop := ∀ (so : List Bool) (b : List Sm) (s : S), 1 ≤ so.length → so.length ≤ 6 → smsOk so.length 2 b → b.length ≤ 8 → g [.tup [sortsD so, bodyD b]] s = some (.non, s)
/-- a comprehension of trues -/
theorem compL_true {ft : FG} {fe : FE} {δ : Fr} {s : S} (ds : List D) (h : ∀ d ∈ ds, ∃ δ1, ft d δ = some δ1 ∧ fe δ1 s = some (.bl true, s)) : compL ft tTrue fe ds δ s = some (List.replicate ds.length (.bl true), s) := by
  rw [compL_map (fun _ => .bl true) ds h, List.map_const']
@[simp] theorem blsD_true : ∀ n : Nat, blsD (List.replicate n (.bl true)) = some (List.replicate n true)
  | 0 => rfl
  | n + 1 => by rw [List.replicate_succ, List.replicate_succ]; show (blsD _).map _ = _; rw [blsD_true n]; rfl
@[simp] theorem all_true (n : Nat) : (List.replicate n true).all id = true := by
  induction n with
  | zero => rfl
  | succ n ih => rw [List.replicate_succ, List.all_cons, ih]; rfl
def formsL : List (Str × D) := [(Str.ofString "sum", .tup [strD "name", strD "terms", strD "number"]), (Str.ofString "if", .tup [strD "name", strD "body", strD "body"]), (Str.ofString "times", .tup [strD "turns", strD "body"]), (Str.ofString "while", .tup [strD "name", strD "body"]),
  (Str.ofString "print", .tup [strD "name"]), (Str.ofString "stop", .tup []), (Str.ofString "split", .tup [strD "name", strD "name"]), (Str.ofString "keep", .tup [strD "sort", strD "name", strD "name"]), (Str.ofString "fetch", .tup [strD "sort", strD "name", strD "name"])]
end Fw

set_option Elab.async false
set_option linter.all false
set_option maxRecDepth 100000
namespace Fw
open PySem PySem.Spec PyProof.Rows L2

/-! ### statements that make things: the new addresses are named -/
abbrev FGS := List Addr → Fr → S → Option (Fr × S)
def tGS (K : PySem.W.Frag) (n : Nat) (P : Fr → S → Prop) (f : FGS) : TS := fun D σ H => ∃ (h : Addr → Bool) (s : S) (δ : Fr), EnvR K (hide h H) σ δ ∧ SI K h s H ∧ P δ s ∧
  ∀ as δ' s' σ' h' H', as.length = n → Free s as → (∀ a ∈ as, H a = none) → f as δ s = some (δ', s') → Grow K h s H h' s' H' → EnvR K (hide h' H') σ' δ' → D.nx σ' H'
section
variable {X : Cx} {o e v : Expr} {st : Stmt} {sts : List Stmt} {fe fv : FE} {fo : FOw} {pos pos' : Pos} {n n1 n2 : Nat} {P P1 P2 : Fr → S → Prop} {f f1 f2 : FGS}
def gNilS : FGS := fun as δ s => match as with
  | [] => some (δ, s)
  | _ => none
theorem gs_nil : PSs X [] (tGS X.K 0 (fun _ _ => True) gNilS) := imp_ss pss_nil fun D σ H ⟨h, s, δ, er, si, _, w⟩ =>
  w [] δ s σ h H rfl ⟨.nil, fun _ z => nomatch z⟩ (fun _ z => nomatch z) rfl (Grow.of (Step.refl si)) er
def gSeqS (n1 : Nat) (f1 f2 : FGS) : FGS := fun as δ s => (f1 (as.take n1) δ s).bind fun r => f2 (as.drop n1) r.1 r.2
def qSeqS (n1 : Nat) (P1 P2 : Fr → S → Prop) (f1 : FGS) : Fr → S → Prop := fun δ s => P1 δ s ∧ ∀ as δ' s', as.length = n1 → Free s as → f1 as δ s = some (δ', s') → P2 δ' s' ∧ ∀ a ∈ as, s' a ≠ none
theorem gs_cons (h1 : PS X st (tGS X.K n1 P1 f1)) (h2 : PSs X sts (tGS X.K n2 P2 f2)) : PSs X (st :: sts) (tGS X.K (n1 + n2) (qSeqS n1 P1 P2 f1) (gSeqS n1 f1 f2)) := imp_ss (pss_cons h1 h2) fun D σ H ⟨h, s, δ, er, si, ⟨p1, p2⟩, w⟩ => by
  refine ⟨h, s, δ, er, si, p1, fun as δ1 s1 σ1 h1 H1 hl hf hn e1 g1 er1 => ?_⟩
  obtain ⟨q2, own⟩ := p2 as δ1 s1 hl hf e1
  refine ⟨h1, s1, δ1, er1, g1.si, q2, fun bs δ2 s2 σ2 h2 H2 hl2 hf2 hn2 e2 g2 er2 => ?_⟩
  have hb : ∀ b ∈ bs, H b = none := fun b hb => g1.back si (hn2 b hb)
  refine w (as ++ bs) δ2 s2 σ2 h2 H2 (by rw [List.length_append, hl, hl2]) ⟨?_, ?_⟩ ?_ ?_ (g1.trans si g2) er2
  · refine List.nodup_append.mpr ⟨hf.1, hf2.1, fun a ha b hb e => own a ha ?_⟩
    rw [e]; exact hf2.2 b hb
  · intro a ha
    rcases List.mem_append.mp ha with ha | ha
    · exact hf.2 a ha
    · exact none_of si (hb a ha)
  · intro a ha
    rcases List.mem_append.mp ha with ha | ha
    · exact hn a ha
    · exact hb a ha
  · unfold gSeqS
    rw [← hl, List.take_left' rfl, List.drop_left' rfl, e1]
    exact e2
/-- an attribute is put into an owned instance -/
theorem put_ins {K : PySem.W.Frag} {h : Addr → Bool} {s : S} {H : Hp} {x C : Addr} {fs : List (Str × Fw.D)} {y : V} {d : Fw.D} {g : Str} (si : SI K h s H) (e : s x = some (.ins C fs)) (na : NoAttr K C g) (ry : Rep K (hide h H) y d) :
    ∃ dx vs, H x = some (.ins C dx vs) ∧ Cls K C ∧ vs.length = fs.length ∧ Step K h s H (supd s x (.ins C (putFD g d fs))) (upd H x (.ins C dx (putF g y vs))) := by
  obtain ⟨dx, vs, e2, cl, hn, rf⟩ := si.ob _ _ e
  exact ⟨dx, vs, e2, cl, repfs_len rf, si.putL (o := .ins C dx (putF g y vs)) (w := .ins C (putFD g d fs)) e ⟨dx, _, rfl, cl, mem_put hn na, repfs_put ry rf⟩⟩
/-- self.g = what is made for it -/
def gOwnS (i : Nat) (g : Str) (fo : FOw) : FGS := fun as δ s => match as with
  | [a] => (fo δ s).bind fun p => match δ[i]? with
    | some (some (.ref x)) => (match p.2 x with
      | some (.ins C fs) => some (δ, supd (supd p.2 a p.1) x (.ins C (putFD g (.ref a) fs)))
      | _ => none)
    | _ => none
  | _ => none
def qOwnS (i : Nat) (C : Addr) (fo : FOw) : Fr → S → Prop := fun δ s => ∃ u x fs, fo δ s = some (u, s) ∧ δ[i]? = some (some (.ref x)) ∧ s x = some (.ins C fs) ∧ fs.length < 1000
theorem gs_own {i : Nat} {g : Str} {C : Addr} (na : NoAttr X.K C g) (ho : PE X o (tD X.K (fVar i))) (hv : PE X v (tO X.K fo)) (hs : swapsWith v (some (.Attribute o g pos')) pos.line X.env = pure false := by rfl) :
    PS X (.Assign [.Attribute o g pos'] v pos) (tGS X.K 1 (qOwnS i C fo) (gOwnS i g fo)) := imp_s (ps_fld ho hv hs) fun D σ H ⟨h, s, δ, er, si, ⟨u, x, fs, e1, e2, e3, e4⟩, w⟩ => by
  refine ⟨h, s, δ, u, s, er, si, e1, fun a h1 H1 ha g1 => ?_⟩
  have er1 := er.mono (g1.ext si)
  have hxa : x ≠ a := fun e => by rw [← e] at ha; exact absurd (none_of si ha) (by rw [e3]; exact fun z => nomatch z)
  have e3' : (supd s a u) x = some (.ins C fs) := by rw [supd_ne hxa]; exact e3
  refine ⟨h1, _, δ, .ref x, _, er1, g1.si, by unfold fVar; rw [e2], fun vx H2 st2 r2 => ?_⟩
  obtain ⟨dx, vs, k1, k2, k3, k4⟩ := put_ins (g := g) (y := .ref a) (d := .ref a) st2.si e3' na (.ref a)
  refine ⟨x, C, dx, vs, rep_ref r2, k1, k2, na, by rw [k3]; exact e4, ?_⟩
  have gg := (g1.trans si (Grow.of st2)).trans si (Grow.of k4)
  exact w [a] δ _ σ h1 _ rfl ⟨List.nodup_cons.mpr ⟨(fun z => nomatch z), List.Pairwise.nil⟩, fun b hb => by rw [List.mem_singleton.mp hb]; exact none_of si ha⟩ (fun b hb => by rw [List.mem_singleton.mp hb]; exact ha)
    (by unfold gOwnS; simp only [e1, Option.bind_some, e2, e3]) gg (er.mono (gg.ext si))
/-- self.g = a plain value -/
def gSetS (i : Nat) (g : Str) (fe : FE) : FGS := fun as δ s => match as with
  | [] => (fe δ s).bind fun p => match δ[i]? with
    | some (some (.ref x)) => (match p.2 x with
      | some (.ins C fs) => some (δ, supd p.2 x (.ins C (putFD g p.1 fs)))
      | _ => none)
    | _ => none
  | _ => none
def qSetS (i : Nat) (C : Addr) (fe : FE) : Fr → S → Prop := fun δ s => ∃ d x fs, fe δ s = some (d, s) ∧ δ[i]? = some (some (.ref x)) ∧ s x = some (.ins C fs) ∧ fs.length < 1000
theorem gs_set {i : Nat} {g : Str} {C : Addr} (na : NoAttr X.K C g) (ho : PE X o (tD X.K (fVar i))) (hv : PE X v (tD X.K fe)) (hs : swapsWith v (some (.Attribute o g pos')) pos.line X.env = pure false := by rfl) :
    PS X (.Assign [.Attribute o g pos'] v pos) (tGS X.K 0 (qSetS i C fe) (gSetS i g fe)) := imp_s (ps_fld ho hv hs) fun D σ H ⟨h, s, δ, er, si, ⟨d, x, fs, e1, e2, e3, e4⟩, w⟩ => by
  refine ⟨h, s, δ, d, s, er, si, e1, fun vy H1 st1 r1 => ?_⟩
  refine ⟨h, s, δ, .ref x, _, er.mono (st1.ext si), st1.si, by unfold fVar; rw [e2], fun vx H2 st2 r2 => ?_⟩
  obtain ⟨dx, vs, k1, k2, k3, k4⟩ := put_ins (g := g) st2.si e3 na (st2.rep st1.si r1)
  refine ⟨x, C, dx, vs, rep_ref r2, k1, k2, na, by rw [k3]; exact e4, ?_⟩
  have gg := Grow.of ((st1.trans st2).trans k4)
  exact w [] δ _ σ h _ rfl ⟨.nil, fun _ z => nomatch z⟩ (fun _ z => nomatch z) (by unfold gSetS; simp only [e1, Option.bind_some, e2, e3]) gg (er.mono (gg.ext si))
end

/-! ### {k: [..] for k in T}, T a tuple of texts of the module -/
def ownAll (L : OO) (as : List Addr) (s : S) : S := fun b => if b ∈ as then some L else s b
theorem zip_any {k : Str} : ∀ (keys : List Str) (l : List D), keys.Nodup → keys[l.length]? = some k → (keys.zip l).any (fun kv => decide (kv.1 = k)) = false
  | [], _, _, h => by simp at h
  | _ :: _, [], _, _ => rfl
  | x :: xs, y :: ys, hn, h => by
    rw [List.nodup_cons] at hn
    have h' : xs[ys.length]? = some k := by simpa using h
    have hx : x ≠ k := fun e => hn.1 (by rw [e]; exact List.mem_of_getElem? h')
    rw [List.zip_cons_cons, List.any_cons, zip_any xs ys hn.2 h', decide_eq_false hx]
    rfl
theorem zip_snoc {k : Str} {d : D} : ∀ (keys : List Str) (l : List D), keys[l.length]? = some k → keys.zip (l ++ [d]) = keys.zip l ++ [(k, d)]
  | [], _, h => by simp at h
  | x :: xs, [], h => by
    have : x = k := by simpa using h
    rw [this]
    simp
  | x :: xs, y :: ys, h => by
    have h' : xs[ys.length]? = some k := by simpa using h
    rw [List.cons_append, List.zip_cons_cons, List.zip_cons_cons, zip_snoc xs ys h']
    rfl
theorem put_zip {k : Str} {d : D} {keys : List Str} {l : List D} (hn : keys.Nodup) (h : keys[l.length]? = some k) : putD (keys.zip l) k d = keys.zip (l ++ [d]) := by
  unfold putD
  rw [zip_any keys l hn h, if_neg Bool.false_ne_true, zip_snoc keys l h]
def tOD (K : PySem.W.Frag) (j : Nat) (keys : List Str) (L : List D) : TE := fun σ H Q => ∃ (h : Addr → Bool) (s : S) (δ : Fr), EnvR K (hide h H) σ δ ∧ SI K h s H ∧ j < δ.length ∧
  ∀ p as h' H', as.length = keys.length → Free s (p :: as) → (∀ a ∈ p :: as, H a = none) → Grow K h s H h' (ownAll (.lst L) as (supd s p (.dct (keys.zip (as.map D.ref))))) H' → Q (.ref p) H'
theorem strs_of {K : PySem.W.Frag} {H : Hp} : ∀ {keys : List Str} {xs : List V}, Reps K H xs (keys.map D.str) → xs = keys.map V.str
  | [], _, r => by cases r; rfl
  | k :: ks, _, r => by
    cases r with
    | cons a t => rw [rep_str a, strs_of t]; rfl
theorem o_dc {X : Cx} {T : Str} {kx vx tg : Expr} {scope : Scope} {own : List (Str × Nat)} {pos p2 : Pos} {j : Nat} {keys : List Str} {L : List D} {fo : FOw} (G : Gc X.K X.mg T (.tup (keys.map D.str))) (hgT : Gl X T) (hnd : keys.Nodup) (hkl : keys.length ≤ 1000)
    (hc : X.calm = true) (hN : X.N.Nodup) (ok : BlkOk X.N X.env.scope scope own) (hown : own.map (·.2) = [j]) (hfo : ∀ δ s, fo δ s = some (.lst L, s))
    (hg : ∀ (s : Shared) (H : Hp) (C : Addr) (cl : List (Str × Addr)) (fp : List Addr), PG (X.blk s H scope (compEnvC scope cl C X.env) fp) tg (gName j))
    (hk : ∀ (s : Shared) (H : Hp) (C : Addr) (cl : List (Str × Addr)) (fp : List Addr), PE (X.blk s H scope (compEnvC scope cl C X.env) fp) kx (tD X.K (fVar j)))
    (he : ∀ (s : Shared) (H : Hp) (C : Addr) (cl : List (Str × Addr)) (fp : List Addr), PE (X.blk s H scope (compEnvC scope cl C X.env) fp) vx (tO X.K fo))
    (hdT : (T == ("__debug__" : Str)) = false := by decide) (hs : ∀ x, foldedSetIterable (.Name T p2) X.env x = pure x := by intro _; rfl) :
    PE X (.DictComp kx vx [⟨tg, .Name T p2, [], 0⟩] scope pos) (tOD X.K j keys L) := by
  obtain ⟨u, v, hm, r, rp⟩ := G.ex
  have hv : ∃ a, v = .ref a ∧ ∀ H, SqT X.K H a (keys.map V.str) := by
    obtain ⟨a, xs, e, _, _⟩ := rep_tup (rp (fun _ => none))
    refine ⟨a, e, fun H => ?_⟩
    obtain ⟨a', xs', e', q, r'⟩ := rep_tup (rp H)
    rw [e] at e'
    cases e'
    rw [strs_of r'] at q
    exact q
  obtain ⟨a, rfl, sq⟩ := hv
  refine imp_e (pe_dc hc hN (pi_tup (pe_glob hgT hm r hdT)) ok hg (fun _ _ _ _ _ => pts_nil) hk he hs) fun σ H Q ⟨h, s, δ, er, si, hjl, w⟩ => ?_
  rw [hown]
  refine ⟨a, rfl, ⟨_, sq H⟩, fun D hD => ?_⟩
  have sD : s D = none := none_of si hD
  refine dc_tup (xs := keys.map V.str) (fun i H' => ∃ as h', as.length = i ∧ Free s (D :: as) ∧ (∀ a ∈ D :: as, H a = none) ∧ Grow X.K h s H h' (ownAll (.lst L) as (supd s D (.dct (keys.zip (as.map Fw.D.ref))))) H') ?_ (fun i H' _ _ => sq H') ?_ ?_
  · have e0 : ownAll (.lst L) [] (supd s D (.dct (keys.zip ([].map Fw.D.ref)))) = supd s D (.dct []) := by
      funext b
      unfold ownAll
      rw [if_neg (fun z => nomatch z), List.map_nil, List.zip_nil_right]
    refine ⟨[], (fun a => h a || decide (a = D)), rfl, ⟨List.nodup_cons.mpr ⟨(fun z => nomatch z), List.Pairwise.nil⟩, fun b hb => by rw [List.mem_singleton.mp hb]; exact sD⟩, fun b hb => by rw [List.mem_singleton.mp hb]; exact hD, ?_⟩
    rw [e0]
    exact Grow.alloc si hD (.dK []) (.dct []) ⟨[], rfl, rfl, .nil⟩
  · rintro i x H2 hx ⟨as, h2, hl, hfr, hno, g2⟩
    rw [List.getElem?_map] at hx
    obtain ⟨k, hk1, rfl⟩ := Option.map_eq_some_iff.mp hx
    have er2 : EnvR X.K (hide h2 H2) ((wipe σ [j]).set j (some (.str k))) ((wipeD δ [j]).set j (some (.str k))) := ((er.wipe [j]).mono (g2.ext si)).set (.str k) j
    refine ⟨by show ((σ.set j none).set j _).set j none = σ.set j none; rw [List.set_set, List.set_set], ?_⟩
    change tD X.K (fVar j) _ H2 _
    have ej : ((wipeD δ [j]).set j (some (Fw.D.str k)))[j]? = some (some (.str k)) := by
      show ((δ.set j none).set j _)[j]? = _
      rw [List.set_set, List.getElem?_set, if_pos rfl, if_pos hjl]
    refine ⟨h2, _, _, .str k, _, er2, g2.si, by unfold fVar; rw [ej], fun vy H4 st4 r4 => ?_⟩
    refine ⟨h2, _, _, .lst L, _, er2.mono (st4.ext g2.si), st4.si, hfo _ _, fun p h5 H5 hp g5 => ?_⟩
    have g4 := g2.trans si (Grow.of st4)
    have gg := g4.trans si g5
    have hDas : D ∉ as := (List.nodup_cons.mp hfr.1).1
    have sp : (ownAll (.lst L) as (supd s D (.dct (keys.zip (as.map Fw.D.ref))))) p = none := none_of st4.si hp
    have hpD : p ≠ D := fun e => by
      rw [e] at sp
      unfold ownAll at sp
      rw [if_neg hDas, supd_same] at sp
      cases sp
    have hpas : p ∉ as := fun e => by
      unfold ownAll at sp
      rw [if_pos e] at sp
      cases sp
    have hHp : H p = none := g4.back si hp
    have e5 : (supd (ownAll (.lst L) as (supd s D (.dct (keys.zip (as.map Fw.D.ref))))) p (.lst L)) D = some (.dct (keys.zip (as.map Fw.D.ref))) := by
      rw [supd_ne (Ne.symm hpD)]
      unfold ownAll
      rw [if_neg hDas, supd_same]
    obtain ⟨kvs, k1, rk⟩ := g5.si.ob _ _ e5
    have hkl2 : kvs.length = (keys.zip (as.map Fw.D.ref)).length := by have := congrArg List.length rk.1; simpa using this
    have hil : i < keys.length := (List.getElem?_eq_some_iff.mp hk1).1
    have st6 := g5.si.putL (o := .dK (putK kvs (Sum.inr k) (.ref p))) (w := .dct (putD (keys.zip (as.map Fw.D.ref)) k (.ref p))) e5 ⟨_, rfl, repkv_put (.ref p) rk⟩
    have hput : putD (keys.zip (as.map Fw.D.ref)) k (.ref p) = keys.zip ((as ++ [p]).map Fw.D.ref) := by
      rw [put_zip hnd (by rw [List.length_map, hl]; exact hk1), List.map_append]
      rfl
    have hst : supd (supd (ownAll (.lst L) as (supd s D (.dct (keys.zip (as.map Fw.D.ref))))) p (.lst L)) D (.dct (putD (keys.zip (as.map Fw.D.ref)) k (.ref p))) = ownAll (.lst L) (as ++ [p]) (supd s D (.dct (keys.zip ((as ++ [p]).map Fw.D.ref)))) := by
      rw [hput]
      funext b
      by_cases b1 : b = D
      · rw [b1, supd_same]
        unfold ownAll
        rw [if_neg (fun z => (List.mem_append.mp z).elim hDas fun z => hpD (List.mem_singleton.mp z).symm), supd_same]
      · rw [supd_ne b1]
        by_cases b2 : b = p
        · rw [b2, supd_same]
          unfold ownAll
          rw [if_pos (List.mem_append_right _ List.mem_cons_self)]
        · rw [supd_ne b2]
          unfold ownAll
          by_cases b3 : b ∈ as
          · rw [if_pos b3, if_pos (List.mem_append_left _ b3)]
          · rw [if_neg b3, if_neg (fun z => (List.mem_append.mp z).elim b3 fun z => b2 (List.mem_singleton.mp z)), supd_ne b1, supd_ne b1]
    refine ⟨kvs, Sum.inr k, rep_str r4, k1, ?_, as ++ [p], h5, by rw [List.length_append, hl]; rfl, ⟨?_, ?_⟩, ?_, ?_⟩
    · rw [hkl2, List.length_zip, sizeLine_eq]; omega
    · rw [← List.cons_append]
      refine List.nodup_append.mpr ⟨hfr.1, List.nodup_cons.mpr ⟨(fun z => nomatch z), List.Pairwise.nil⟩, fun a ha b hb e => ?_⟩
      rw [List.mem_singleton.mp hb] at e
      rcases List.mem_cons.mp ha with ha | ha
      · exact hpD (e.symm.trans ha)
      · exact hpas (e ▸ ha)
    · intro b hb
      rw [← List.cons_append] at hb
      rcases List.mem_append.mp hb with hb | hb
      · exact hfr.2 b hb
      · rw [List.mem_singleton.mp hb]; exact none_of si hHp
    · intro b hb
      rw [← List.cons_append] at hb
      rcases List.mem_append.mp hb with hb | hb
      · exact hno b hb
      · rw [List.mem_singleton.mp hb]; exact hHp
    · rw [← hst]
      exact gg.trans si (Grow.of st6)
  · rintro H2 ⟨as, h2, hl, hfr, hno, g2⟩
    exact w D as h2 H2 (by rw [hl, List.length_map]) hfr hno g2
/-- self.g = {k: [..] for k in T} -/
def gDcS (i : Nat) (g : Str) (keys : List Str) (L : List D) : FGS := fun as δ s => match as with
  | p :: as => (match δ[i]? with
    | some (some (.ref x)) => (match s x with
      | some (.ins C fs) => some (δ, supd (ownAll (.lst L) as (supd s p (.dct (keys.zip (as.map D.ref))))) x (.ins C (putFD g (.ref p) fs)))
      | _ => none)
    | _ => none)
  | _ => none
def qDcS (i j : Nat) (C : Addr) : Fr → S → Prop := fun δ s => ∃ x fs, j < δ.length ∧ δ[i]? = some (some (.ref x)) ∧ s x = some (.ins C fs) ∧ fs.length < 1000
theorem gs_dc {X : Cx} {o v : Expr} {pos pos' : Pos} {i j : Nat} {g : Str} {C : Addr} {keys : List Str} {L : List D} (na : NoAttr X.K C g) (ho : PE X o (tD X.K (fVar i))) (hv : PE X v (tOD X.K j keys L)) (hs : swapsWith v (some (.Attribute o g pos')) pos.line X.env = pure false := by rfl) :
    PS X (.Assign [.Attribute o g pos'] v pos) (tGS X.K (keys.length + 1) (qDcS i j C) (gDcS i g keys L)) := imp_s (ps_fld ho hv hs) fun D σ H ⟨h, s, δ, er, si, ⟨x, fs, hj, e2, e3, e4⟩, w⟩ => by
  refine ⟨h, s, δ, er, si, hj, fun p as h1 H1 hl hf hn g1 => ?_⟩
  have er1 := er.mono (g1.ext si)
  have hx : ∀ a ∈ p :: as, x ≠ a := fun a ha e => by
    have := hf.2 a ha
    rw [← e, e3] at this
    cases this
  have e3' : (ownAll (.lst L) as (supd s p (.dct (keys.zip (as.map Fw.D.ref))))) x = some (.ins C fs) := by
    unfold ownAll
    rw [if_neg (fun z => hx x (List.mem_cons_of_mem _ z) rfl), supd_ne (hx p List.mem_cons_self)]
    exact e3
  refine ⟨h1, _, δ, .ref x, _, er1, g1.si, by unfold fVar; rw [e2], fun vx H2 st2 r2 => ?_⟩
  obtain ⟨dx, vs, k1, k2, k3, k4⟩ := put_ins (g := g) (y := .ref p) (d := .ref p) st2.si e3' na (.ref p)
  refine ⟨x, C, dx, vs, rep_ref r2, k1, k2, na, by rw [k3]; exact e4, ?_⟩
  have gg := (g1.trans si (Grow.of st2)).trans si (Grow.of k4)
  exact w (p :: as) δ _ σ h1 _ (by rw [List.length_cons, hl]) hf hn (by unfold gDcS; simp only [e2, e3]) gg (er.mono (gg.ext si))

/-! ### an instance of one's own: C(args) -/
/-- what __init__ makes: the given arguments by data, the new addresses (the first is the instance's) -/
def spI (K : PySem.W.Frag) (C : Addr) (m n : Nat) (P : List D → S → Prop) (f : List D → List Addr → S → Option S) : Sp := fun vs H Q _ => ∃ (h : Addr → Bool) (s : S) (ds : List D) (x : Addr) (us : List V), vs = .ref x :: us ∧ Reps K (hide h H) us ds ∧ ds.length = m ∧ SI K h s H ∧
  s x = some (.ins C []) ∧ P ds s ∧ ∀ as s' h' H', as.length = n → Free s as → (∀ a ∈ as, H a = none) → f ds (x :: as) s = some s' → Grow K h s H h' s' H' → Q .non H'
def tOI (K : PySem.W.Frag) (C : Addr) (n : Nat) (P : List D → S → Prop) (f : List D → List Addr → S → Option S) (fs : FA) : TE := fun σ H Q => ∃ (h : Addr → Bool) (s : S) (δ : Fr) (ds : List D), EnvR K (hide h H) σ δ ∧ SI K h s H ∧ fs δ s = some (ds, s) ∧
  (∀ x, s x = none → P ds (supd s x (.ins C []))) ∧ ∀ x as s' h' H', as.length = n → Free s (x :: as) → (∀ a ∈ x :: as, H a = none) → f ds (x :: as) (supd s x (.ins C [])) = some s' → Grow K h s H h' s' H' → Q (.ref x) H'
theorem o_make {X : Cx} {e : Expr} {es : List Expr} {fs : FA} {C f : Addr} {fd : FuncData} {ps : List Str} {k m n : Nat} {P : List D → S → Prop} {F : List D → List Addr → S → Option S} {x : Str} {p pos : Pos} (M : Mk X.K C f) (cl : Cls X.K C) (Fn : FnOk X.prog X.w X.K X.mg X.base CX0 k f fd ps (spI X.K C m n P F)) (hr : Room (k + 1) X.A) (hg : Gl X x) (hm : X.mg x = some (.ref C)) (hb : Binds X.K fd ps [])
    (ha : PA X (e :: es) (tDA X.K fs)) (hlen : ∀ δ s ds s', fs δ s = some (ds, s') → ds.length = m) (hdb : (x == ("__debug__" : Str)) = false := by decide) (he : starEach (e :: es) X.env = (false, eval e X.env) :: starEach es X.env := by rfl) (hpl : (backTo pos (starEach es X.env)).any (·.1) = false := by rfl) :
    PE X (.Call (.Name x p) (e :: es) [] pos) (tOI X.K C n P F fs) := imp_e (pe_make M Fn hr hg hm hb .nil pass0 ha hdb he hpl) fun σ H Q ⟨h, s, δ, ds, er, si, q, hP, w⟩ => by
  refine ⟨h, s, δ, ds, s, er, si, q, fun vs H1 st1 r1 => fun y dx hy hdx hne => ?_⟩
  have g1 := Grow.of st1
  have st2 := Step.new st1.si hdx (.own y)
  have hy2 : (upd H1 dx (.own y)) y = none := by rw [upd_ne (Ne.symm hne)]; exact hy
  have g3 := Grow.alloc st2.si hy2 (.ins C dx []) (.ins C []) ⟨dx, [], rfl, cl, (fun _ z => (nomatch z)), rfl, .nil⟩
  have gg := (g1.trans si (Grow.of st2)).trans si g3
  have hHy : H y = none := g1.back si hy
  have sy : s y = none := none_of si hHy
  refine ⟨_, _, ds, y, vs ++ [], rfl, by rw [List.append_nil]; exact Reps.mono (((Grow.of st2).trans st1.si g3).ext st1.si) _ _ r1, hlen _ _ _ _ q, g3.si, supd_same, hP y sy, fun as s' h' H' hl hf hn e g => ⟨rfl, ?_⟩⟩
  refine w y as s' h' H' hl (hf.cons sy) (fun b hb => ?_) e (gg.trans si g)
  rcases List.mem_cons.mp hb with rfl | hb
  · exact hHy
  · exact gg.back si (hn b hb)
/-- __init__ keeps its promise -/
theorem okI {P : Program} {w : World} {K : PySem.W.Frag} {mg : Str → Option Value} {base : Heap} {x qual : Str} {st : Stmt} {f : Addr} {fd : FuncData} {N ps : List Str} {k m n : Nat} {C : Addr} {Pd : Fr → S → Prop} {fg : FGS} (F : Fun K x qual st f fd) (S : FnScope N ps (defScope st)) (hps : ps.length = m + 1)
    (hb : ∀ (cdv : Value) (A : Around) (outer : List Env) (s : Shared) (H : Hp) (E : XK), Room k (A.deeper (envOfC qual (defScope st) s.heap.objs.size f cdv)) → PSs (cxOf CX0 P w K mg base N qual (defScope st) f cdv A outer s H E).nox (defBody st) (tGS K n Pd fg)) :
    FnOk P w K mg base CX0 (k + 1) f fd ps (spI K C m n (fun ds s => ∀ x, s x = some (.ins C []) → Pd (startD N.length (.ref x :: ds)) s) (fun ds as s => match as with | x :: as => (fg as (startD N.length (.ref x :: ds)) s).map (·.2) | [] => none)) := by
  refine F.ok S (fun vs H Q E h => ?_) (fun cdv A outer s H vs Q E hr h => ?_)
  · obtain ⟨h', s, ds, y, us, rfl, r, hl, _⟩ := h
    rw [List.length_cons, r.length, hl, hps]
  · obtain ⟨h', s, ds, y, us, rfl, r, hl, si, e, hP, w⟩ := h
    refine ⟨_, hb cdv A outer _ H E hr, h', s, startD N.length (.ref y :: ds), env_start (.cons (.ref y) r), si, hP y e, fun as δ' s' σ' h2 H' hl2 hf hn e2 g er => ?_⟩
    exact w as s' h2 H' hl2 hf hn (by show (fg as _ s).map _ = _; rw [e2]; rfl) g
def GoodI (i n : Nat) (C : Addr) (P : List D → S → Prop) (F : List D → List Addr → S → Option S) (fs : FA) (rest : FS) (δ : Fr) (s : S) (d : D) : Prop :=
  (∃ x as, as.length = n ∧ Free s (x :: as)) ∧ ∃ ds, fs δ s = some (ds, s) ∧ (∀ x, s x = none → P ds (supd s x (.ins C []))) ∧ ∀ x as, as.length = n → Free s (x :: as) → ∃ s' s2, F ds (x :: as) (supd s x (.ins C [])) = some s' ∧
    rest (δ.set i (some (.ref x))) s' = some (.rt d, s2) ∧ keepS s s2 = s
open Classical in
noncomputable def fOwnI (i n : Nat) (C : Addr) (P : List D → S → Prop) (F : List D → List Addr → S → Option S) (fs : FA) (rest : FS) : FS := fun δ s => if h : ∃ d, GoodI i n C P F fs rest δ s d then some (.rt h.choose, s) else none
theorem fOwnI_eq {i n : Nat} {C : Addr} {P : List D → S → Prop} {F : List D → List Addr → S → Option S} {fs : FA} {rest : FS} {δ : Fr} {s : S} {d : D} (g : GoodI i n C P F fs rest δ s d) : fOwnI i n C P F fs rest δ s = some (.rt d, s) := by
  have h : ∃ d, GoodI i n C P F fs rest δ s d := ⟨d, g⟩
  have e : h.choose = d := by
    obtain ⟨⟨x, as, hl, hf⟩, ds, e0, _, q⟩ := g
    obtain ⟨_, ds', e0', _, q'⟩ := h.choose_spec
    rw [e0] at e0'
    cases e0'
    obtain ⟨s1, s2, e1, e2, _⟩ := q x as hl hf
    obtain ⟨s1', s3, e1', e3, _⟩ := q' x as hl hf
    rw [e1] at e1'
    cases e1'
    rw [e2] at e3
    injection e3 with e3
    injection e3 with e3
    injection e3 with e3
    exact e3.symm
  unfold fOwnI
  rw [dif_pos h, e]
theorem dss_ownI {X : Cx} {st : Stmt} {sts : List Stmt} {i n : Nat} {C : Addr} {P : List D → S → Prop} {F : List D → List Addr → S → Option S} {fs : FA} {rest : FS} (h1 : PS X st (tAsg (tOI X.K C n P F fs) (gName i))) (h2 : PSs X sts (tDS X.K rest)) : PSs X (st :: sts) (tDS X.K (fOwnI i n C P F fs rest)) := imp_ss (pss_cons h1 h2) fun D σ H ⟨h, s, δ, o, s', er, si, q, w⟩ => by
  unfold fOwnI at q
  split at q
  · rename_i hg
    cases q
    obtain ⟨_, ds, e0, hP, q⟩ := hg.choose_spec
    refine ⟨h, s, δ, ds, er, si, e0, hP, fun x as s1 h' H' hl hf hn e g => ?_⟩
    obtain ⟨s1', s2, e1, e2, ek⟩ := q x as hl hf
    rw [e] at e1
    cases e1
    refine ⟨h', _, _, _, s2, (er.mono (g.ext si)).set (.ref x) i, g.si, e2, fun H2 st2 v r => ?_⟩
    obtain ⟨a1, a2⟩ := g.done si st2
    rw [ek] at a1
    exact w H2 a1 v (Rep.mono a2 _ _ r)
  · cases q
end Fw

set_option Elab.async false
set_option linter.all false
set_option maxRecDepth 100000
namespace Fw
open PySem PySem.Spec PyProof.Rows L2
/-! ### the program's own state of a run -/
structure SC where
  C : Addr
  a : Addr
  n : Addr
  d : Addr
  o : Addr
  e : Addr
  p : Addr
  na : n ≠ a
  da : d ≠ a
  oa : o ≠ a
  ea : e ≠ a
  pa : p ≠ a
  dn : d ≠ n
  on : o ≠ n
  en : e ≠ n
  pn : p ≠ n
  od : o ≠ d
  ed : e ≠ d
  pd : p ≠ d
  eo : e ≠ o
  po : p ≠ o
  pe : p ≠ e
def stateL (c : SC) (st rd : Nat) : List (Str × D) :=
  [(Str.ofString "numbers", .ref c.n), (Str.ofString "tables", .ref c.d), (Str.ofString "prints", .ref c.p), (Str.ofString "steps", .int st), (Str.ofString "rounds", .int rd)]
def tabsL (c : SC) : List (Str × D) := [(Str.ofString "open", .ref c.o), (Str.ofString "secret", .ref c.e)]
def sst (s0 : S) (c : SC) (w : Wd) : S := fun b =>
  if b = c.a then some (.ins c.C (stateL c w.steps w.rounds)) else if b = c.n then some (.lst (w.nums.map natD)) else if b = c.d then some (.dct (tabsL c)) else if b = c.o then some (.lst (w.op.map natD)) else if b = c.e then some (.lst (w.sec.map natD)) else if b = c.p then some (.lst (w.prints.map natD)) else s0 b
section
variable {s0 : S} {c : SC} {w : Wd} {δ : Fr}
@[simp] theorem sst_a : sst s0 c w c.a = some (.ins c.C (stateL c w.steps w.rounds)) := by simp [sst]
@[simp] theorem sst_n : sst s0 c w c.n = some (.lst (w.nums.map natD)) := by simp [sst, c.na]
@[simp] theorem sst_d : sst s0 c w c.d = some (.dct (tabsL c)) := by simp [sst, c.da, c.dn]
@[simp] theorem sst_o : sst s0 c w c.o = some (.lst (w.op.map natD)) := by simp [sst, c.oa, c.on, c.od]
@[simp] theorem sst_e : sst s0 c w c.e = some (.lst (w.sec.map natD)) := by simp [sst, c.ea, c.en, c.ed, c.eo]
@[simp] theorem sst_p : sst s0 c w c.p = some (.lst (w.prints.map natD)) := by simp [sst, c.pa, c.pn, c.pd, c.po, c.pe]
theorem ssupd_a {st rd : Nat} : supd (sst s0 c w) c.a (.ins c.C (stateL c st rd)) = sst s0 c { w with steps := st, rounds := rd } := by
  funext b; unfold supd sst
  by_cases q : b = c.a
  · simp [q]
  · simp [q]
theorem ssupd_n {l : List Nat} : supd (sst s0 c w) c.n (.lst (l.map natD)) = sst s0 c { w with nums := l } := by
  funext b; unfold supd sst
  by_cases q : b = c.n
  · simp [q, c.na]
  · simp [q]
theorem ssupd_o {l : List Nat} : supd (sst s0 c w) c.o (.lst (l.map natD)) = sst s0 c { w with op := l } := by
  funext b; unfold supd sst
  by_cases q : b = c.o
  · simp [q, c.oa, c.on, c.od]
  · simp [q]
theorem ssupd_e {l : List Nat} : supd (sst s0 c w) c.e (.lst (l.map natD)) = sst s0 c { w with sec := l } := by
  funext b; unfold supd sst
  by_cases q : b = c.e
  · simp [q, c.ea, c.en, c.ed, c.eo]
  · simp [q]
theorem ssupd_p {l : List Nat} : supd (sst s0 c w) c.p (.lst (l.map natD)) = sst s0 c { w with prints := l } := by
  funext b; unfold supd sst
  by_cases q : b = c.p
  · simp [q, c.pa, c.pn, c.pd, c.po, c.pe]
  · simp [q]
@[simp] theorem sl_numbers {st rd : Nat} : (stateL c st rd).lookup (Str.ofString "numbers") = some (.ref c.n) := by simp [stateL]
@[simp] theorem sl_tables {st rd : Nat} : (stateL c st rd).lookup (Str.ofString "tables") = some (.ref c.d) := by simp [stateL, List.lookup_cons]
@[simp] theorem sl_prints {st rd : Nat} : (stateL c st rd).lookup (Str.ofString "prints") = some (.ref c.p) := by simp [stateL, List.lookup_cons]
@[simp] theorem sl_steps {st rd : Nat} : (stateL c st rd).lookup (Str.ofString "steps") = some (.int st) := by simp [stateL, List.lookup_cons]
@[simp] theorem sl_rounds {st rd : Nat} : (stateL c st rd).lookup (Str.ofString "rounds") = some (.int rd) := by simp [stateL, List.lookup_cons]
@[simp] theorem tl_open : (tabsL c).lookup (Str.ofString "open") = some (.ref c.o) := by simp [tabsL]
@[simp] theorem tl_secret : (tabsL c).lookup (Str.ofString "secret") = some (.ref c.e) := by simp [tabsL, List.lookup_cons]
theorem sl_put_steps {st rd : Nat} : putFD (Str.ofString "steps") (.int ((st : Int) + 1)) (stateL c st rd) = stateL c (st + 1) rd := by simp [stateL, putFD]
theorem sl_put_rounds {st rd : Nat} : putFD (Str.ofString "rounds") (.int ((rd : Int) + 1)) (stateL c st rd) = stateL c st (rd + 1) := by simp [stateL, putFD]
theorem sl_len {st rd : Nat} : (stateL c st rd).length = 5 := rfl
@[simp high] theorem s_steps : kFA4 δ (Str.ofString "steps") (w.steps : Int) c.a c.C (sst s0 c w) (.int 1) (some (.ins c.C (stateL c w.steps w.rounds))) = some (.nx δ, sst s0 c (bump w)) := by
  rw [kFA4_s, sl_put_steps, ssupd_a, sl_len, sl_steps]; rfl
@[simp high] theorem s_rounds : kFA4 δ (Str.ofString "rounds") (w.rounds : Int) c.a c.C (sst s0 c w) (.int 1) (some (.ins c.C (stateL c w.steps w.rounds))) = some (.nx δ, sst s0 c { w with rounds := w.rounds + 1 }) := by
  rw [kFA4_s, sl_put_rounds, ssupd_a, sl_len, sl_rounds]; rfl
theorem s_putn {x v : Nat} (hx : x < w.nums.length) : kPutIx3 δ (sst s0 c w) c.n (x : Int) (.int (v : Int)) (some (.lst (w.nums.map natD))) = some (.nx δ, sst s0 c (setN w x v)) := by
  rw [kPutIx3_s, List.length_map, ixN_cast, if_pos hx, kPutIx4_s, map_set_nat, ssupd_n]; rfl
theorem s_puto {x v : Nat} (hx : x < w.op.length) : kPutIx3 δ (sst s0 c w) c.o (x : Int) (.int (v : Int)) (some (.lst (w.op.map natD))) = some (.nx δ, sst s0 c (setT w false x v)) := by
  rw [kPutIx3_s, List.length_map, ixN_cast, if_pos hx, kPutIx4_s, map_set_nat, ssupd_o]; rfl
theorem s_pute {x v : Nat} (hx : x < w.sec.length) : kPutIx3 δ (sst s0 c w) c.e (x : Int) (.int (v : Int)) (some (.lst (w.sec.map natD))) = some (.nx δ, sst s0 c (setT w true x v)) := by
  rw [kPutIx3_s, List.length_map, ixN_cast, if_pos hx, kPutIx4_s, map_set_nat, ssupd_e]; rfl
theorem s_putm {x n k : Nat} (hx : x < w.nums.length) : kPutIx3 δ (sst s0 c w) c.n (x : Int) (.int (((n : Int) + (k : Int)) % 10)) (some (.lst (w.nums.map natD))) = some (.nx δ, sst s0 c (setN w x ((n + k) % 10))) := by
  rw [modC]; exact s_putn hx
theorem s_putv {x k : Nat} (hx : x < w.nums.length) : kPutIx3 δ (sst s0 c w) c.n (x : Int) (.int (9 / (k : Int))) (some (.lst (w.nums.map natD))) = some (.nx δ, sst s0 c (setN w x (9 / k))) := by
  rw [divC]; exact s_putn hx
theorem s_app {v : Nat} (hx : w.prints.length ≤ 10000000) : kApp3 c.p (.int (v : Int)) (sst s0 c w) (some (.lst (w.prints.map natD))) = some (.non, sst s0 c { w with prints := w.prints ++ [v] }) := by
  have e : w.prints.map natD ++ [D.int (v : Int)] = (w.prints ++ [v]).map natD := by rw [List.map_append]; rfl
  rw [kApp3_s, e, ssupd_p]
  simp [hx]
end
def haltD : Option How → D
  | none => .non
  | some .stops => strD "stops"
  | some .breaks => strD "breaks"
  | some .goes => strD "goes on"
def P_do_body (d : Nat) (g : FD) : Prop := ∀ (s0 : S) (c : SC) (m : Nat) (w : Wd) (b : List Sm), WOk m w → b.length ≤ 100 → smsOk m d b → w.steps + b.length * cst d ≤ 10000000 →
  g [.ref c.a, bodyD b] (sst s0 c w) = some (haltD (exsM b w).2, sst s0 c (exsM b w).1)
/-- an action, of the statements that it is for -/
def P_act (d : Nat) (is : Sm → Bool) (g : FD) : Prop := ∀ (s0 : S) (c : SC) (m : Nat) (w : Wd) (a : Sm), WOk m w → is a = true → smOk m d a → w.steps + (cst d - 1) ≤ 10000000 → w.prints.length < w.steps →
  g [.ref c.a, smD a] (sst s0 c w) = some (haltD (exM a w).2, sst s0 c (exM a w).1)
def isSum : Sm → Bool | .sum _ _ _ => true | _ => false
def isIf : Sm → Bool | .ite _ _ _ => true | _ => false
def isTimes : Sm → Bool | .times _ _ => true | _ => false
def isWhile : Sm → Bool | .whl _ _ => true | _ => false
def isPrint : Sm → Bool | .print _ => true | _ => false
def isStop : Sm → Bool | .stop => true | _ => false
def isSplit : Sm → Bool | .split _ _ => true | _ => false
def isKeep : Sm → Bool | .keep _ _ _ => true | _ => false
def isFetch : Sm → Bool | .fetch _ _ _ => true | _ => false
/-- the numbers of some names, read through an attribute -/
theorem compL_attr {s0 : S} {c : SC} {v : Wd} {δ : Fr} {i j : Nat} : ∀ (ts : List Nat), (∀ t ∈ ts, t < v.nums.length) → δ[j]? = some (some (.ref c.a)) → i < δ.length → i ≠ j →
    compL (gtName i) tTrue (f2 dIx (f1 (dFld "numbers") (fVar j)) (fVar i)) (ts.map natD) δ (sst s0 c v) = some ((ts.map (num v)).map natD, sst s0 c v)
  | [], _, _, _, _ => rfl
  | t :: ts, ht, hj, hi, hij => by
    have ih := compL_attr (s0 := s0) ts (fun t h => ht t (List.mem_cons_of_mem _ h)) hj hi hij
    have hg := nat_get (ht t List.mem_cons_self)
    change L2.atI _ _ = some (D.int ((num v t : Nat) : Int)) at hg
    have e1 : f2 dIx (f1 (dFld "numbers") (fVar j)) (fVar i) (δ.set i (some (.int (t : Nat)))) (sst s0 c v) = some (.int ((num v t : Nat) : Int), sst s0 c v) := by
      have hj2 : (δ.set i (some (D.int (t : Nat))))[j]? = some (some (.ref c.a)) := by rw [List.getElem?_set_ne hij]; exact hj
      simp [hj2, set_get hi, hg]
    rw [List.map_cons, List.map_cons, List.map_cons, compL]
    show (f2 dIx (f1 (dFld "numbers") (fVar j)) (fVar i) (δ.set i (some (.int (t : Nat)))) (sst s0 c v)).bind _ = _
    rw [e1]
    show (compL _ _ _ _ δ _).map _ = _
    rw [ih]
    rfl
theorem loopW_f {tt : FT} {fb : FS} {n : Nat} {δ : Fr} {s s1 : S} (h : tt δ s = some (false, s1)) : loopW tt fb (n + 1) δ s = some (.nx δ, s1) := by
  rw [loopW, h]; rfl
theorem loopW_rt {tt : FT} {fb : FS} {n : Nat} {δ : Fr} {s s1 s2 : S} {d : D} (h : tt δ s = some (true, s1)) (h2 : fb δ s1 = some (.rt d, s2)) : loopW tt fb (n + 1) δ s = some (.rt d, s2) := by
  rw [loopW, h]
  show (fb δ s1).bind _ = _
  rw [h2]; rfl
theorem loopW_nx {tt : FT} {fb : FS} {n : Nat} {δ δ2 : Fr} {s s1 s2 : S} (h : tt δ s = some (true, s1)) (h2 : fb δ s1 = some (.nx δ2, s2)) : loopW tt fb (n + 1) δ s = loopW tt fb n δ2 s2 := by
  rw [loopW, h]
  show (fb δ s1).bind _ = _
  rw [h2]; rfl
def endW (mk : Option D → Fr) (st : Wd → S) (x5 : Option D) : Wd × Option How → Option (Out × S)
  | (v, none) => some (.nx (mk x5), st v)
  | (v, some h) => some (.rt (haltD (some h)), st v)
theorem loopW_while {m x e : Nat} {b : List Sm} {tt : FT} {fb : FS} {mk : Option D → Fr} {st : Wd → S} (okb : smsOk m e b) (hl : b.length ≤ 4)
    (h1 : ∀ v x4, WOk m v → tt (mk x4) (st v) = some (decide (num v x ≠ 0), st v))
    (h2 : ∀ v x4, WOk m v → v.rounds = 60 → fb (mk x4) (st v) = some (.rt (strD "goes on"), st v))
    (h3 : ∀ v x4, WOk m v → v.rounds ≠ 60 → v.steps + b.length * cst e ≤ 10000000 → fb (mk x4) (st v) = endW mk st (some .non) (exsM b { v with rounds := v.rounds + 1 })) :
    ∀ (k : Nat) (v : Wd) (x4 : Option D), WOk m v → 61 ≤ v.rounds + k → v.steps + (61 - v.rounds) * (4 * cst e) ≤ 10000000 → ∃ x5, loopW tt fb (k + 1) (mk x4) (st v) = endW mk st x5 (whileM x (fun w => exsM b w) k v)
  | 0, v, x4, hv, hk, _ => by have := hv.rl; omega
  | k + 1, v, x4, hv, hk, hs => by
    have hrl := hv.rl
    have hc : b.length * cst e ≤ 4 * cst e := Nat.mul_le_mul_right (cst e) hl
    have hr1 : (61 - v.rounds) * (4 * cst e) = (60 - v.rounds) * (4 * cst e) + 4 * cst e := by
      rw [show 61 - v.rounds = (60 - v.rounds) + 1 by omega, Nat.succ_mul]
    rw [whileM]
    by_cases hz : num v x = 0
    · rw [if_pos hz]
      exact ⟨x4, loopW_f (by rw [h1 v x4 hv, hz]; rfl)⟩
    · have ht := h1 v x4 hv
      rw [decide_eq_true hz] at ht
      rw [if_neg hz]
      by_cases hr : v.rounds = 60
      · rw [if_pos hr]
        exact ⟨x4, loopW_rt ht (h2 v x4 hv hr)⟩
      · rw [if_neg hr]
        have hb := h3 v x4 hv hr (by omega)
        have hk2 := exsM_ok e b { v with rounds := v.rounds + 1 } okb (hv.round hr)
        cases er : exsM b { v with rounds := v.rounds + 1 } with
        | mk v' o =>
          rw [er] at hb hk2
          cases o with
          | none =>
            rw [loopW_nx ht hb]
            have a1 := hk2.rd; have a2 := hk2.st
            simp only at a1 a2
            have hm : (61 - v'.rounds) * (4 * cst e) ≤ (60 - v.rounds) * (4 * cst e) := Nat.mul_le_mul_right _ (by omega)
            exact loopW_while okb hl h1 h2 h3 k v' (some .non) hk2.ok (by omega) (by omega)
          | some hh => exact ⟨x4, loopW_rt ht hb⟩
structure Acts where
  sum : Addr
  ite : Addr
  times : Addr
  whl : Addr
  print : Addr
  stop : Addr
  split : Addr
  keep : Addr
  fetch : Addr
def actsL (A : Acts) : List (Str × D) := [(Str.ofString "sum", .ref A.sum), (Str.ofString "if", .ref A.ite), (Str.ofString "times", .ref A.times), (Str.ofString "while", .ref A.whl), (Str.ofString "print", .ref A.print), (Str.ofString "stop", .ref A.stop), (Str.ofString "split", .ref A.split), (Str.ofString "keep", .ref A.keep), (Str.ofString "fetch", .ref A.fetch)]
structure ActsOk (d : Nat) (A : Acts) (tb : Addr → Option FD) : Prop where
  sum : ∃ g, tb A.sum = some g ∧ P_act d isSum g
  ite : ∃ g, tb A.ite = some g ∧ P_act d isIf g
  times : ∃ g, tb A.times = some g ∧ P_act d isTimes g
  whl : ∃ g, tb A.whl = some g ∧ P_act d isWhile g
  print : ∃ g, tb A.print = some g ∧ P_act d isPrint g
  stop : ∃ g, tb A.stop = some g ∧ P_act d isStop g
  split : ∃ g, tb A.split = some g ∧ P_act d isSplit g
  keep : ∃ g, tb A.keep = some g ∧ P_act d isKeep g
  fetch : ∃ g, tb A.fetch = some g ∧ P_act d isFetch g
/-- the action of a statement -/
theorem ActsOk.of {d : Nat} {A : Acts} {tb : Addr → Option FD} (T : ActsOk d A tb) (a : Sm) : ∃ (k : String) (r : List D) (f : Addr) (g : FD), smD a = .tup (strD k :: r) ∧ (actsL A).lookup (Str.ofString k) = some (.ref f) ∧ tb f = some g ∧
    ∀ (s0 : S) (c : SC) (m : Nat) (w : Wd), WOk m w → smOk m d a → w.steps + (cst d - 1) ≤ 10000000 → w.prints.length < w.steps → g [.ref c.a, smD a] (sst s0 c w) = some (haltD (exM a w).2, sst s0 c (exM a w).1) := by
  cases a with
  | sum x ts n => obtain ⟨g, h1, h2⟩ := T.sum; exact ⟨_, _, _, g, by rw [smD], by simp [actsL, List.lookup_cons], h1, fun s0 c m w hw ok hs hp => h2 s0 c m w _ hw rfl ok hs hp⟩
  | ite x p q => obtain ⟨g, h1, h2⟩ := T.ite; exact ⟨_, _, _, g, by rw [smD], by simp [actsL, List.lookup_cons], h1, fun s0 c m w hw ok hs hp => h2 s0 c m w _ hw rfl ok hs hp⟩
  | times n b => obtain ⟨g, h1, h2⟩ := T.times; exact ⟨_, _, _, g, by rw [smD], by simp [actsL, List.lookup_cons], h1, fun s0 c m w hw ok hs hp => h2 s0 c m w _ hw rfl ok hs hp⟩
  | whl x b => obtain ⟨g, h1, h2⟩ := T.whl; exact ⟨_, _, _, g, by rw [smD], by simp [actsL, List.lookup_cons], h1, fun s0 c m w hw ok hs hp => h2 s0 c m w _ hw rfl ok hs hp⟩
  | print x => obtain ⟨g, h1, h2⟩ := T.print; exact ⟨_, _, _, g, by rw [smD], by simp [actsL, List.lookup_cons], h1, fun s0 c m w hw ok hs hp => h2 s0 c m w _ hw rfl ok hs hp⟩
  | stop => obtain ⟨g, h1, h2⟩ := T.stop; exact ⟨_, _, _, g, by rw [smD], by simp [actsL, List.lookup_cons], h1, fun s0 c m w hw ok hs hp => h2 s0 c m w _ hw rfl ok hs hp⟩
  | split x y => obtain ⟨g, h1, h2⟩ := T.split; exact ⟨_, _, _, g, by rw [smD], by simp [actsL, List.lookup_cons], h1, fun s0 c m w hw ok hs hp => h2 s0 c m w _ hw rfl ok hs hp⟩
  | keep t x y => obtain ⟨g, h1, h2⟩ := T.keep; exact ⟨_, _, _, g, by rw [smD], by simp [actsL, List.lookup_cons], h1, fun s0 c m w hw ok hs hp => h2 s0 c m w _ hw rfl ok hs hp⟩
  | fetch t x y => obtain ⟨g, h1, h2⟩ := T.fetch; exact ⟨_, _, _, g, by rw [smD], by simp [actsL, List.lookup_cons], h1, fun s0 c m w hw ok hs hp => h2 s0 c m w _ hw rfl ok hs hp⟩
def P_is_start (g : FD) : Prop := ∀ (so : List Bool) (b : List Sm) (ns : List Nat) (s : S), ns.length = so.length → ns.length ≤ 1000 → (∀ n ∈ ns, n < 10) → g [.tup [sortsD so, bodyD b], natsD ns] s = some (.bl true, s)
def P_check_start (g : FD) : Prop := ∀ (so : List Bool) (b : List Sm) (ns : List Nat) (s : S), ns.length = so.length → ns.length ≤ 1000 → (∀ n ∈ ns, n < 10) → g [.tup [sortsD so, bodyD b], natsD ns] s = some (.non, s)
/-- the program's run, of a program and a start of it -/
def P_out (g : FD) : Prop := ∀ (s : S) (so : List Bool) (b : List Sm) (ns : List Nat), Fin s → 1 ≤ so.length → so.length ≤ 6 → smsOk ns.length 2 b → b.length ≤ 8 → ns.length = so.length → (∀ n ∈ ns, n < 10) → g [.tup [sortsD so, bodyD b], natsD ns] s = some (runD b ns, s)
theorem len_one {fe : FE} {δ : Fr} {s s' : S} {ds : List D} (h : fCons fe fNil δ s = some (ds, s')) : ds.length = 1 := by
  obtain ⟨⟨d, s1⟩, h1, h⟩ := bind_some h
  obtain ⟨⟨x, y⟩, h2, h⟩ := map_some h
  cases h2
  cases h
  rfl
def P_init (C : Addr) (Pd : Fr → S → Prop) (fg : FGS) : Prop := (∀ (ns : List Nat) (s : S) (x : Addr), s x = some (.ins C []) → Pd (startD 3 [.ref x, natsD ns]) s) ∧
  ∀ (s0 : S) (c : SC) (ns : List Nat), c.C = C → ∃ δ', fg [c.n, c.d, c.o, c.e, c.p] (startD 3 [.ref c.a, natsD ns]) (supd s0 c.a (.ins C [])) = some (δ', sst s0 c (w0 ns))
theorem gOwnS_eq {i : Nat} {g : Str} {fo : FOw} {a x C : Addr} {δ : Fr} {s : S} {u : OO} {fs : List (Str × D)} (e1 : fo δ s = some (u, s)) (e2 : δ[i]? = some (some (.ref x))) (e3 : s x = some (.ins C fs)) :
    gOwnS i g fo [a] δ s = some (δ, supd (supd s a u) x (.ins C (putFD g (.ref a) fs))) := by
  unfold gOwnS; simp only [e1, Option.bind_some, e2, e3]
theorem gDcS_eq {i : Nat} {g : Str} {keys : List Str} {L : List D} {a x C : Addr} {as : List Addr} {δ : Fr} {s : S} {fs : List (Str × D)} (e2 : δ[i]? = some (some (.ref x))) (e3 : s x = some (.ins C fs)) :
    gDcS i g keys L (a :: as) δ s = some (δ, supd (ownAll (.lst L) as (supd s a (.dct (keys.zip (as.map D.ref))))) x (.ins C (putFD g (.ref a) fs))) := by
  unfold gDcS; simp only [e2, e3]
theorem gSetS_eq {i : Nat} {g : Str} {fe : FE} {x C : Addr} {δ : Fr} {s : S} {d : D} {fs : List (Str × D)} (e1 : fe δ s = some (d, s)) (e2 : δ[i]? = some (some (.ref x))) (e3 : s x = some (.ins C fs)) :
    gSetS i g fe [] δ s = some (δ, supd s x (.ins C (putFD g d fs))) := by
  unfold gSetS; simp only [e1, Option.bind_some, e2, e3]
/-- one statement of __init__ after another -/
theorem qSeq_own {i : Nat} {g : Str} {fo : FOw} {x C : Addr} {δ : Fr} {s : S} {u : OO} {fs : List (Str × D)} {P2 : Fr → S → Prop} (e1 : fo δ s = some (u, s)) (e2 : δ[i]? = some (some (.ref x))) (e3 : s x = some (.ins C fs)) (hl : fs.length < 1000)
    (h : ∀ a s', s' x = some (.ins C (putFD g (.ref a) fs)) → P2 δ s') : qSeqS 1 (qOwnS i C fo) P2 (gOwnS i g fo) δ s := by
  refine ⟨⟨u, x, fs, e1, e2, e3, hl⟩, fun as δ' s' hn hf e => ?_⟩
  match as, hn, hf with
  | [a], _, hf =>
  rw [gOwnS_eq e1 e2 e3] at e
  cases e
  have hax : a ≠ x := fun z => by
    have := hf.2 a List.mem_cons_self
    rw [z, e3] at this
    cases this
  refine ⟨h a _ supd_same, fun b hb => ?_⟩
  rw [List.mem_singleton.mp hb, supd_ne hax, supd_same]
  exact fun z => nomatch z
theorem qSeq_dc {i j : Nat} {g : Str} {keys : List Str} {L : List D} {x C : Addr} {δ : Fr} {s : S} {fs : List (Str × D)} {P2 : Fr → S → Prop} (hj : j < δ.length) (e2 : δ[i]? = some (some (.ref x))) (e3 : s x = some (.ins C fs)) (hl : fs.length < 1000)
    (h : ∀ a s', s' x = some (.ins C (putFD g (.ref a) fs)) → P2 δ s') : qSeqS (keys.length + 1) (qDcS i j C) P2 (gDcS i g keys L) δ s := by
  refine ⟨⟨x, fs, hj, e2, e3, hl⟩, fun as δ' s' hn hf e => ?_⟩
  match as, hn, hf with
  | a :: as, _, hf =>
  rw [gDcS_eq e2 e3] at e
  cases e
  have hax : ∀ b ∈ a :: as, b ≠ x := fun b hb z => by
    have := hf.2 b hb
    rw [z, e3] at this
    cases this
  refine ⟨h a _ supd_same, fun b hb => ?_⟩
  rw [supd_ne (hax b hb)]
  unfold ownAll
  rcases List.mem_cons.mp hb with rfl | hb
  · rw [if_neg (List.nodup_cons.mp hf.1).1, supd_same]
    exact fun z => nomatch z
  · rw [if_pos hb]
    exact fun z => nomatch z
theorem qSeq_set {i : Nat} {g : Str} {fe : FE} {x C : Addr} {δ : Fr} {s : S} {d : D} {fs : List (Str × D)} {P2 : Fr → S → Prop} (e1 : fe δ s = some (d, s)) (e2 : δ[i]? = some (some (.ref x))) (e3 : s x = some (.ins C fs)) (hl : fs.length < 1000)
    (h : ∀ s', s' x = some (.ins C (putFD g d fs)) → P2 δ s') : qSeqS 0 (qSetS i C fe) P2 (gSetS i g fe) δ s := by
  refine ⟨⟨d, x, fs, e1, e2, e3, hl⟩, fun as δ' s' hn hf e => ?_⟩
  match as, hn with
  | [], _ =>
  rw [gSetS_eq e1 e2 e3] at e
  cases e
  exact ⟨h _ supd_same, fun b hb => nomatch hb⟩
theorem keep_sst {s : S} {c : SC} {w : Wd} (ha : s c.a = none) (hn : s c.n = none) (hd : s c.d = none) (ho : s c.o = none) (he : s c.e = none) (hp : s c.p = none) : keepS s (sst s c w) = s := by
  funext b
  unfold keepS sst
  split
  · rename_i z; exact z.symm
  · rename_i z
    rw [if_neg (fun q => z (by rw [q]; exact ha)), if_neg (fun q => z (by rw [q]; exact hn)), if_neg (fun q => z (by rw [q]; exact hd)), if_neg (fun q => z (by rw [q]; exact ho)), if_neg (fun q => z (by rw [q]; exact he)), if_neg (fun q => z (by rw [q]; exact hp))]
end Fw

set_option Elab.async false
set_option linter.all false
set_option maxRecDepth 100000
namespace Fw
open PySem PySem.Spec PyProof.Rows L2
/-! ### what is no start -/
def numOk : D → Bool
  | .int i => decide (0 ≤ i) && decide (i ≤ 9)
  | _ => false
def simpD : D → Bool
  | .int _ => true
  | .bl _ => true
  | .non => true
  | _ => false
def P_is_num9 (g : FD) : Prop := ∀ (d : D) (s : S), simpD d = true → g [d, .int 9] s = some (.bl (numOk d), s)
def oddD (m : Nat) : D → Prop
  | .non => True
  | .int _ => True
  | .lst _ => True
  | .tup ds => ds.length ≤ 1000 ∧ (∀ d ∈ ds, simpD d = true) ∧ (ds.length = m → ds.all numOk = false)
  | _ => False
def P_is_start_bad (g : FD) : Prop := ∀ (so : List Bool) (b : List Sm) (x : D) (s : S), so.length ≤ 1000 → oddD so.length x → g [.tup [sortsD so, bodyD b], x] s = some (.bl false, s)
theorem blsD_map (f : D → Bool) : ∀ ds : List D, blsD (ds.map fun d => .bl (f d)) = some (ds.map f)
  | [] => rfl
  | d :: ds => by rw [List.map_cons, List.map_cons]; show (blsD _).map _ = _; rw [blsD_map f ds]; rfl
theorem all_map_id (f : D → Bool) (ds : List D) : (ds.map f).all id = ds.all f := by
  induction ds with
  | nil => rfl
  | cons d ds ih => rw [List.map_cons, List.all_cons, List.all_cons, ih]; rfl
end Fw
namespace Fw
open PySem PySem.Spec PyProof.Rows L2
def oddsD (ds : List D) : List D := [.non, .tup [], .tup (cutD ds (some 1) none), .tup (ds ++ [.int 0]), .lst ds, .tup (.int 10 :: cutD ds (some 1) none), .tup (.int (-1) :: cutD ds (some 1) none), .tup (.bl true :: cutD ds (some 1) none), .tup (cutD ds none (some (-1)) ++ [.non]), .int 0]
end Fw
namespace Fw
open PySem PySem.Spec PyProof.Rows L2
theorem kSeq_loopX {ft : FG} {fb g : FS} {ds : List D} {δ : Fr} {s : S} {R : Option (Out × S) → Prop} (I : Nat → Fr → S → Prop) (h0 : I 0 δ s)
    (hs : ∀ i d δ s, ds[i]? = some d → I i δ s → ∃ δ1, ft d δ = some δ1 ∧ ∃ δ2 s2, fb δ1 s = some (.nx δ2, s2) ∧ I (i + 1) δ2 s2)
    (h1 : ∀ δ s, I ds.length δ s → R (g δ s)) : R (kSeq g (loopF ft fb ds δ s)) := by
  rcases loopF_inv I (fun _ _ => False) ds 0 δ s h0 (fun i d δ s hd hi => by
    obtain ⟨δ1, e1, δ2, s2, e2, i2⟩ := hs i d δ s hd (by simpa using hi)
    exact ⟨δ1, e1, .inl ⟨δ2, s2, e2, by simpa using i2⟩⟩) with ⟨δ', s', e, i⟩ | ⟨d, s', e, i⟩
  · rw [e, kSeq_nx]
    exact h1 δ' s' (by simpa using i)
  · exact i.elim
theorem plain_nats (n : Nat) {l : List Nat} (h : l.length ≤ 10000000) : plainN (n + 1) (natsD l) := by
  refine ⟨by rw [List.length_map]; exact h, fun d hd => ?_⟩
  obtain ⟨x, _, rfl⟩ := List.mem_map.mp hd
  cases n <;> exact True.intro
theorem plain_runD {b : List Sm} {ns : List Nat} (ok : smsOk ns.length 2 b) (hb : b.length ≤ 7) (hn : ns.length ≤ 1000) (hv : ∀ n ∈ ns, n < 10) : plainN 3 (runD b ns) := by
  have hw : WOk ns.length (w0 ns) := ⟨rfl, hv, by simp [w0], by simp [w0], by simp [w0], by simp [w0], by simp [w0], by simp [w0], by simp [w0]⟩
  have hk := exsM_ok 2 b (w0 ns) ok hw
  have h1 := hk.ok.nl; have h2 := hk.ok.ol; have h3 := hk.ok.sl; have h4 := hk.ok.pl; have h5 := hk.st
  have hc2 : b.length * cst 2 ≤ 7 * cst 2 := Nat.mul_le_mul_right _ hb
  have hc3 : cst 2 = 157213 := by rfl
  have h0 : (w0 ns).steps = 0 := rfl
  refine ⟨by simp, fun d hd => ?_⟩
  simp only [List.mem_cons, List.mem_nil_iff, or_false] at hd
  rcases hd with rfl | rfl | rfl | rfl | rfl
  · exact True.intro
  · exact plain_nats 1 (by omega)
  · refine ⟨by simp, fun d hd => ?_⟩
    simp only [List.mem_cons, List.mem_nil_iff, or_false] at hd
    rcases hd with rfl | rfl
    · exact plain_nats 0 (by omega)
    · exact plain_nats 0 (by omega)
  · exact plain_nats 1 (by omega)
  · exact True.intro
theorem fin_row (a : Addr) (o : OO) : Fin (supd S0 a o) := ⟨a + 1, fun b hb => supd_ne (Nat.ne_of_gt (Nat.lt_of_succ_le hb))⟩
end Fw
namespace Fw
open PySem PySem.Spec PyProof.Rows L2
theorem simp_nats {ns : List Nat} : ∀ d ∈ ns.map natD, simpD d = true := fun d hd => by
  obtain ⟨x, _, rfl⟩ := List.mem_map.mp hd
  rfl
theorem odds_odd {ns : List Nat} {m : Nat} (hl : ns.length = m) (h1 : 1 ≤ m) (h2 : m ≤ 100) : ∀ x ∈ oddsD (ns.map natD), oddD m x := by
  have ht : cutD (ns.map natD) (some 1) none = (ns.map natD).tail := by simp
  have htl : (ns.map natD).tail.length = m - 1 := by rw [List.length_tail, List.length_map, hl]
  have hts : ∀ d ∈ (ns.map natD).tail, simpD d = true := fun d hd => simp_nats d (List.mem_of_mem_tail hd)
  have hc : ∀ d ∈ cutD (ns.map natD) none (some (-1)), simpD d = true := fun d hd => by
    unfold cutD at hd
    exact simp_nats d (List.mem_of_mem_drop (List.mem_of_mem_take hd))
  have hcl : (cutD (ns.map natD) none (some (-1))).length ≤ m := by
    unfold cutD
    rw [List.length_take, List.length_drop, List.length_map]
    omega
  intro x hx
  simp only [oddsD, ht, List.mem_cons, List.mem_nil_iff, or_false] at hx
  rcases hx with rfl | rfl | rfl | rfl | rfl | rfl | rfl | rfl | rfl | rfl
  · exact True.intro
  · exact ⟨by simp, (fun d hd => nomatch hd), fun h => absurd h (by simp; omega)⟩
  · exact ⟨by omega, hts, fun h => absurd h (by omega)⟩
  · refine ⟨by rw [List.length_append, List.length_map]; simp; omega, fun d hd => ?_, fun h => ?_⟩
    · rcases List.mem_append.mp hd with hd | hd
      · exact simp_nats d hd
      · rw [List.mem_singleton.mp hd]; rfl
    · rw [List.length_append, List.length_map, List.length_singleton] at h
      omega
  · exact True.intro
  · exact ⟨by rw [List.length_cons]; omega, fun d hd => (List.mem_cons.mp hd).elim (fun e => by rw [e]; rfl) (hts d), fun _ => rfl⟩
  · exact ⟨by rw [List.length_cons]; omega, fun d hd => (List.mem_cons.mp hd).elim (fun e => by rw [e]; rfl) (hts d), fun _ => rfl⟩
  · exact ⟨by rw [List.length_cons]; omega, fun d hd => (List.mem_cons.mp hd).elim (fun e => by rw [e]; rfl) (hts d), fun _ => rfl⟩
  · refine ⟨by rw [List.length_append, List.length_singleton]; omega, fun d hd => ?_, fun _ => ?_⟩
    · rcases List.mem_append.mp hd with hd | hd
      · exact hc d hd
      · rw [List.mem_singleton.mp hd]; rfl
    · rw [List.all_append]
      show (_ && (numOk .non && true)) = false
      rw [show numOk .non = false from rfl, Bool.false_and, Bool.and_false]
  · exact True.intro
end Fw

set_option Elab.async false
set_option linter.all false
set_option maxRecDepth 100000
set_option maxHeartbeats 4000000
/-! Ss1: sets of texts: set(t) of a tuple of texts, walked in whatever order. -/
namespace Fw
open PySem PySem.Spec PyProof.Rows L2
def txtOf (e : Int × Value) : Str := match e.2 with | .str x _ => x | _ => Str.empty
def TxtE (w : World) (e : Int × Value) : Prop := ∃ x tk, e = (hashStr w x, Value.str x tk)
/-- the set at a holds the texts xs, its table can be walked -/
def SetS (w : World) (h : Heap) (a : Addr) (xs : List Str) : Prop := ∃ o es ep t, h.get? a = some o ∧ o.ExactSet ∧ o.data = .set es ep t ∧ (∀ e ∈ es.toList, TxtE w e) ∧ (es.toList.map txtOf).Perm xs ∧ xs.Nodup ∧
  es.size < scanBound ∧ t.fits es.size = true ∧ Ris t.place.toList ∧ (w.params.followText "set-order" = true ∨ t.led = true)
theorem SetS.at {w : World} {h h' : Heap} {a : Addr} {xs : List Str} (R : SetS w h a xs) (k : ∀ o, h.get? a = some o → h'.get? a = some o) : SetS w h' a xs := let ⟨o, es, ep, t, ho, r⟩ := R; ⟨o, es, ep, t, k o ho, r⟩
theorem txt_elems {P : Program} {w : World} {l : List (Int × Value)} (g : ∀ e ∈ l, TxtE w e) : ElemsOf (PySem.strKind P w) l := fun e he => by
  obtain ⟨x, tk, rfl⟩ := g e he
  exact ⟨⟨x, strKind_is P w x tk, rfl⟩, rfl⟩
theorem txt_is {P : Program} {w : World} {e : Int × Value} (g : TxtE w e) (x : Str) : (PySem.strKind P w).is x e.2 = decide (txtOf e = x) := by
  obtain ⟨y, tk, rfl⟩ := g
  show (y == x) = decide (y = x)
  by_cases h : y = x
  · rw [decide_eq_true h]; exact beq_iff_eq.mpr h
  · rw [decide_eq_false h]; exact beq_eq_false_iff_ne.mpr h
section
variable {P : Program} {w : World} {A : Around} {E : Value → Shared → Prop} {s : Shared} {a : Addr}
/-- what is known of a set's object behind a store -/
structure Held1 (w : World) (h h' : Heap) (a : Addr) (l : List (Int × Value)) : Prop where
  sb : Heap.SameBut a h h'
  ob : ∃ o es ep t, h'.get? a = some o ∧ o.ExactSet ∧ o.data = .set es ep t ∧ es.toList.Perm l ∧ es.size < scanBound ∧ t.fits es.size = true ∧ Ris t.place.toList ∧ (w.params.followText "set-order" = true ∨ t.led = true)
/-- the end of an addition: the store, and where the table is too full it is laid anew -/
theorem put_tail {g : Bool → Sem Unit} (hg : ∀ (b : Bool) (s1 : Shared) (Q1 : Unit → Shared → Prop), Q1 () s1 → wpAny (model P w) A (g b) Q1 E s1) {o : Obj} {es es1 : Array (Int × Value)} {ep : Nat} {t t2 : SetTable}
    (ho : s.heap.get? a = some o) (hx : o.ExactSet) (hd : o.data = .set es ep t) (hb : es1.size < scanBound) (hf : t2.fits es1.size = true) (hr : Ris t2.place.toList) (hl : w.params.followText "set-order" = true ∨ t2.led = true) {dm : Bool} {R : Option Bool → Shared → Prop}
    (hR : ∀ h', Held1 w s.heap h' a es1.toList → R (some true) { s with heap := h' }) :
    wpAny (model P w) A (do
      storeSet a es1 t2
      if (!dm && t2.tooFull) = true then do
        g (relayAll t2 es1 (SetTable.grown es1.size)).2.2
        storeSet a (relayAll t2 es1 (SetTable.grown es1.size)).1 (relayAll t2 es1 (SetTable.grown es1.size)).2.1
        pure (some true)
      else pure (some true)) R E s := by
  have s1 := store_at (es' := es1) (t' := t2) ho hd
  have b1 := Heap.SameBut.update s.heap a (Obj.putSet es1 t2)
  refine wpAny_bind (wpAny_storeSet_of ho hd ?_ (fits_of_scanBound hb))
  split
  · have q1 := relayAll_perm t2 es1 (SetTable.grown es1.size); have q2 := relayAll_fits t2 es1 (SetTable.grown es1.size)
    have q3 := relayAll_ris t2 es1 (SetTable.grown es1.size); have q4 := relayAll_led t2 es1 (SetTable.grown es1.size)
    generalize relayAll t2 es1 (SetTable.grown es1.size) = Z at q1 q2 q3 q4 ⊢
    obtain ⟨es2, t3, gv⟩ := Z
    dsimp only at q1 q2 q3 q4 ⊢
    have hz : es2.size = es1.size := by simpa using q1.length_eq
    refine wpAny_bind (hg _ _ _ (wpAny_bind (wpAny_storeSet_of s1 rfl (wpAny_pure (hR _ ⟨b1.trans (Heap.SameBut.update _ a _), _, es2, _, t3, store_at (es' := es2) (t' := t3) s1 rfl, hx, rfl, q1, by rw [hz]; exact hb, q2, q3, ?_⟩)) (fits_of_scanBound (by rw [hz]; exact hb)))))
    exact hl.imp id fun z => by rw [q4]; exact z
  · exact wpAny_pure (hR _ ⟨b1, _, es1, _, t2, s1, hx, rfl, .refl _, hb, hf, hr, hl⟩)
/-- a text is put into the set -/
theorem put_txt {x : Str} {tk : Tok} {xs : List Str} {Q : Bool → Shared → Prop} (R : SetS w s.heap a xs) (room : xs.length + 1 < scanBound)
    (hQ : ∀ h' b, Heap.SameBut a s.heap h' → SetS w h' a (if x ∈ xs then xs else x :: xs) → Q b { s with heap := h' }) : wpAny (model P w) A (setAddHashed a (.str x tk) ((PySem.strKind P w).hash x)) Q E s := by
  obtain ⟨o, es, ep, t, ho, hx, hd, g, pm, nd, hb, hf, hr, hl⟩ := R
  have hel := txt_elems (P := P) g
  have hk : (PySem.strKind P w).is x (.str x tk) = true := strKind_is P w x tk
  have hes : es.size = xs.length := by simpa using pm.length_eq
  unfold setAddHashed setAddHashedIn
  refine wpAny_holding (wpAny_bind (wpAny_setState_of ho hd hf ?_)); dsimp only
  rw [byScan_of (x := .str x tk) rfl hb hel]; simp only [↓reduceIte]; unfold setAddByScan
  refine wpAny_bind (wpAny_bind (wpAny_rule (wpAny_bind (wpAny_setScan_of hk ho hd hf hel ?_))))
  cases hfi : List.findIdx? (fun e => (PySem.strKind P w).is x e.2) es.toList with
  | some j =>
    obtain ⟨hj, pj, _⟩ := List.findIdx?_eq_some_iff_getElem.mp hfi
    have hm : x ∈ xs := pm.mem_iff.mp (List.mem_map.mpr ⟨es.toList[j], List.getElem_mem hj, by rw [txt_is (g _ (List.getElem_mem hj))] at pj; exact of_decide_eq_true pj⟩)
    refine wpAny_pure (wpAny_pure (hQ s.heap _ (Heap.SameBut.refl a s.heap) ?_))
    rw [if_pos hm]
    exact ⟨o, es, ep, t, ho, hx, hd, g, pm, nd, hb, hf, hr, hl⟩
  | none =>
    have hm : x ∉ xs := fun z => by
      obtain ⟨e, he, q⟩ := List.mem_map.mp (pm.mem_iff.mpr z)
      have c := List.findIdx?_eq_none_iff.mp hfi e he
      rw [txt_is (g e he), decide_eq_true q] at c
      cases c
    have gw : ∀ (b : Bool) {s1 : Shared} {Q1 : Unit → Shared → Prop}, Q1 () s1 → wpAny (model P w) A (match b with | true => rule "set.scan.the-table-gave-way" | false => pure ()) Q1 E s1 := fun b s1 Q1 q => by
      cases b
      · exact wpAny_pure q
      · exact wpAny_rule q
    have l1 := layNew_perm t es ((PySem.strKind P w).hash x) (.str x tk); have l2 := layNew_fits t es ((PySem.strKind P w).hash x) (.str x tk)
    have l3 := layNew_ris t es ((PySem.strKind P w).hash x) (.str x tk) hr; have l4 := layNew_led t es ((PySem.strKind P w).hash x) (.str x tk)
    generalize layNew t es ((PySem.strKind P w).hash x) (.str x tk) = Z at l1 l2 l3 l4 ⊢
    obtain ⟨es1, t1, dm, gv⟩ := Z
    dsimp only at l1 l2 l3 l4 ⊢
    rw [Array.toList_push] at l1
    have pc : es1.toList.Perm ((hashStr w x, Value.str x tk) :: es.toList) := l1.trans (List.perm_append_singleton _ _)
    have hz : es1.size = es.size + 1 := by simpa using pc.length_eq
    have hb1 : es1.size < scanBound := by omega
    have hl1 : w.params.followText "set-order" = true ∨ t1.led = true := hl.imp id fun z => by rw [l4]; exact z
    have fin : ∀ h', Held1 w s.heap h' a es1.toList → Q true { s with heap := h' } := fun h' H => by
      obtain ⟨o2, es2, ep2, t3, e1, e2, e3, e4, e5, e6, e7, e8⟩ := H.ob
      refine hQ h' true H.sb ?_
      rw [if_neg hm]
      refine ⟨o2, es2, ep2, t3, e1, e2, e3, fun e he => ?_, ((e4.trans pc).map txtOf).trans (.cons x pm), List.nodup_cons.mpr ⟨hm, nd⟩, e5, e6, e7, e8⟩
      rcases List.mem_cons.mp ((e4.trans pc).mem_iff.mp he) with rfl | he
      · exact ⟨x, tk, rfl⟩
      · exact g e he
    refine wpAny_bind (gw _ ?_)
    split
    · refine wpAny_bind ?_
      rw [hashByValue_scannable 8 (x := .str x tk) rfl]
      refine wpAny_pure (put_tail (fun b s1 Q1 q => by cases b <;> first | exact wpAny_pure q | exact wpAny_rule q) ho hx hd hb1 ?_ ?_ ?_ fun h' H => wpAny_pure (fin h' H))
      · split <;> first | exact l2 | exact SetTable.fits_plain_off l2
      · split <;> exact l3
      · split <;> exact hl1
    · refine wpAny_bind (wpAny_pure ?_); simp only [↓reduceIte]
      exact put_tail (fun b s1 Q1 q => by cases b <;> first | exact wpAny_pure q | exact wpAny_rule q) ho hx hd hb1 l2 l3 hl1 fun h' H => wpAny_pure (fin h' H)
end
end Fw

set_option Elab.async false
set_option linter.all false
set_option maxRecDepth 100000
set_option maxHeartbeats 4000000
namespace Fw
open PySem PySem.Spec PyProof.Rows L2
/-- the texts of a list, each once -/
def addT (l : List Str) (x : Str) : List Str := if x ∈ l then l else x :: l
def onceT (xs : List Str) : List Str := xs.foldl addT []
theorem onceT_snoc (xs : List Str) (x : Str) : onceT (xs ++ [x]) = addT (onceT xs) x := by unfold onceT; rw [List.foldl_append]; rfl
theorem addT_le (l : List Str) (x : Str) : (addT l x).length ≤ l.length + 1 := by
  unfold addT; split
  · omega
  · rw [List.length_cons]; omega
theorem fold_le : ∀ (xs l : List Str), (xs.foldl addT l).length ≤ l.length + xs.length
  | [], l => by rw [List.foldl_nil, List.length_nil]; omega
  | x :: xs, l => by
    rw [List.foldl_cons, List.length_cons]
    have a := fold_le xs (addT l x); have b := addT_le l x
    omega
theorem onceT_le (xs : List Str) : (onceT xs).length ≤ xs.length := by have := fold_le xs []; simpa [onceT] using this
theorem fold_nodup : ∀ (xs l : List Str), (l ++ xs).Nodup → (xs.foldl addT l) = xs.reverse ++ l
  | [], l, _ => rfl
  | x :: xs, l, h => by
    have hx : x ∉ l := fun z => (List.nodup_append.mp h).2.2 x z x List.mem_cons_self rfl
    have h2 : ((x :: l) ++ xs).Nodup := by
      refine (List.Perm.nodup_iff ?_).mp h
      exact List.perm_middle
    rw [List.foldl_cons, show addT l x = x :: l from if_neg hx, fold_nodup xs (x :: l) h2, List.reverse_cons, List.append_assoc]
    rfl
theorem onceT_nodup {xs : List Str} (h : xs.Nodup) : onceT xs = xs.reverse := by unfold onceT; rw [fold_nodup xs [] h, List.append_nil]
section
variable {P : Program} {w : World} {A : Around} {R : Result → Shared → Prop} {I : Addr} {fp wr : List Addr} {G : Array GenState → Array GenState → Prop} {n : Nat} {Pv : Nat → Value → Prop} {St : Nat → Shared → Prop}
/-- the walk that fills a set with texts -/
theorem fill_txt (W : WalksS P w A.in1 I fp wr G n Pv St) (z : Addr) (hz : z ∉ fp) (xs : List Str) (hl : xs.length = n) (hn : n + 1 < scanBound) (hv : ∀ i v, Pv i v → ∃ t, v = .str (xs.getD i Str.empty) t) :
    ∀ (k i : Nat) (s : Shared), i + k = n → St i s → SetS w s.heap z (onceT (xs.take i)) → (∀ s', Moved (z :: wr) G s s' → SetS w s'.heap z (onceT xs) → R (.ok (.ret .none)) s') →
      codeAny (model P w) A (.builtin "set.update.loop" ⟨[.ref z, .ref I], []⟩) R s := by
  have zw : z ∉ wr := fun q => hz (W.sub _ q)
  have more : ∀ b ∈ wr, b ∈ z :: wr := fun b q => List.mem_cons_of_mem _ q
  intro k
  induction k with
  | zero =>
    intro i s hi st hs hR
    obtain rfl : i = n := by omega
    refine codeAny_builtin PyProof.Rows.F.entry_set_update_loop ?_
    rw [Around.under_plainId PyProof.Rows.F.plain_set_update_loop _]
    refine wpAny_bind (m := pyNext (.ref I)) (W.done s _ _ st fun s' hm => wpAny_pure (hR s' (hm.mono more) ?_))
    rw [List.take_of_length_le (Nat.le_of_eq hl)] at hs
    exact hs.at fun o e => hm.heap z o zw e
  | succ k ih =>
    intro i s hi st hs hR
    have hlt : i < n := by omega
    refine codeAny_builtin PyProof.Rows.F.entry_set_update_loop ?_
    rw [Around.under_plainId PyProof.Rows.F.plain_set_update_loop _]
    refine wpAny_bind (m := pyNext (.ref I)) (W.item i s _ _ hlt st fun v s' hp st' hm => ?_)
    obtain ⟨t, rfl⟩ := hv i v hp
    have hs' : SetS w s'.heap z (onceT (xs.take i)) := hs.at fun o e => hm.heap z o zw e
    refine wpAny_bind (m := holding [Value.str (xs.getD i Str.empty) t] (setAdd z (.str (xs.getD i Str.empty) t))) (wpAny_holding ?_)
    unfold setAdd
    refine wpAny_holding (wpAny_bind ((PySem.strKind P w).pyHash (k := xs.getD i Str.empty) (strKind_is _ _ _ _) ?_))
    have hroom : (onceT (xs.take i)).length + 1 < scanBound := by
      have q1 := onceT_le (xs.take i)
      rw [List.length_take] at q1
      omega
    refine put_txt (s := { s' with toks := s'.toks + 1 }) hs' hroom fun h' b sb hs2 => ?_
    have ei : xs.take (i + 1) = xs.take i ++ [xs.getD i Str.empty] := by
      have q : xs[i]? = some (xs.getD i Str.empty) := by rw [List.getD_eq_getElem?_getD, List.getElem?_eq_getElem (by omega)]; rfl
      rw [List.take_succ, q]; rfl
    have hs3 : SetS w h' z (onceT (xs.take (i + 1))) := by rw [ei, onceT_snoc]; exact hs2
    refine wpAny_pure ⟨plainId_quiet PyProof.Rows.F.plain_set_update_loop _, ih (i + 1) _ (by omega) (W.frame _ s' _ _ st' (Nat.le_succ _) fun c hc o e => ?_) hs3 fun s2 m2 q2 => hR s2 (Moved.trans W.gtrans ((hm.mono more).then_heap (Nat.le_succ _) fun c o hc e => ?_) m2) q2⟩
    · rw [sb.2 c (fun q : c = z => hz (q ▸ hc))]; exact e
    · rw [sb.2 c (fun q : c = z => hc (q ▸ List.mem_cons_self))]; exact e
end
end Fw

set_option Elab.async false
set_option linter.all false
set_option maxRecDepth 100000
set_option maxHeartbeats 4000000
namespace Fw
open PySem PySem.Spec PyProof.Rows L2
/-- an empty set -/
abbrev obS (w : World) : Obj := { cls := .type "set", dict := none, data := .set #[] 0 (.fresh 0 0 (!w.params.followText "set-order")) }
theorem setS_fresh {w : World} {h : Heap} {a : Addr} (ho : h.get? a = some (obS w)) : SetS w h a [] :=
  ⟨_, #[], 0, _, ho, ⟨rfl, rfl, rfl⟩, rfl, fun e he => by simp at he, List.Perm.refl _, List.nodup_nil, by decide, by rfl, List.Pairwise.nil, by
    show _ ∨ (!w.params.followText "set-order") = true
    cases w.params.followText "set-order"
    · exact .inr rfl
    · exact .inl rfl⟩
section
variable {P : Program} {w : World} {A : Around} {E : Value → Shared → Prop} {s : Shared}
/-- set(t), t a tuple of texts -/
theorem call_txt {l : Addr} {its : Array Value} (xs : List Str) {Q : Value → Shared → Prop} (hh : A.handled = none) (hl : s.heap.IsTuple l its) (hx : StrsAre its.toList xs) (hb : xs.length + 1 < scanBound)
    (hq : ∀ (h' : Heap) (tk : Nat), SetS w h' s.heap.objs.size (onceT xs) → (∀ b o, s.heap.get? b = some o → h'.get? b = some o) → Q (.ref s.heap.objs.size) { s with heap := h', toks := tk }) :
    wpAny (model P w) A (call (.type "set") [.ref l]) Q E s := by
  have hz : xs.length = its.size := by rw [← StrsAre.len_eq hx, Array.length_toList]
  obtain ⟨c, tl, hmro⟩ := F.called_set.mro
  have hmade := F.called_set.made; have hsub := F.called_set.sub; have h1 := F.called_set.notType; have h2 := F.called_set.canCreate; have hct := F.typeCall_set_1 (.ref l)
  refine wpAny_call (codeAny_of_tree ?_); show wpAny _ _ (callAny (.type "set") _) _ _ _; refine wpAny_pure ⟨Code.quiet_builtin _ (by decide +kernel), codeAny_builtin F.entry_type_call ?_⟩
  rw [Around.under_plain (weight_type_call_type "set" [.ref l] []) rfl]; repeat (any_goals (first | assumption | wp_step))
  refine codeAny_mono (code_set_led1 (.ref l) (E := E) (Q₁ := fun u s1 => u = .ref s.heap.objs.size ∧ s1 = { s with heap := s.heap.push (obS w) }) ⟨rfl, rfl⟩) fun r s1 hr => ?_
  cases r with
  | error e => exact hr
  | ok fl =>
    cases fl with
    | next => exact hr.elim
    | brk => exact hr.elim
    | cont => exact hr.elim
    | ret u =>
      obtain ⟨rfl, rfl⟩ := hr
      have hS : (s.heap.push (obS w)).get? s.heap.objs.size = some (obS w) := Heap.get?_push_size _ rfl
      have hT : Shared.TypeIs { s with heap := s.heap.push (obS w) } (.ref s.heap.objs.size) "set" := ⟨_, hS, rfl⟩
      have hli := F.called_set.init.lookup; have hbi := F.called_set.init.bind (.ref s.heap.objs.size)
      repeat (any_goals (first | assumption | wp_step))
      refine codeAny_mono (codeAny_call_builtin (R := wants (fun r s2 => r = .none ∧ ∃ h' tk, s2 = { s with heap := h', toks := tk } ∧ SetS w h' s.heap.objs.size (onceT xs) ∧ ∀ b o, s.heap.get? b = some o → h'.get? b = some o) E)
        F.called_set.init.plain F.entry_set_init (check_set_init_1 hT ?_)) fun r2 s2 hr2 => ?_
      · obtain ⟨⟨oc, od, odt, osl⟩, hol, hcl, nl, hdl⟩ := hl
        simp only at hcl hdl
        subst hcl hdl
        have hol2 : (s.heap.push (obS w)).get? l = some { cls := .type "tuple", dict := od, data := .seq its nl, slots := osl } := Heap.get?_push_of_some _ hol
        have hsls := F.sub_tuple_set; have hslf := F.sub_tuple_frozenset; have hne : (Value.type "tuple" == Value.type "dict") = false := by decide
        have hl1 : (s.heap.push (obS w)).IsTuple l its := ⟨_, hol2, rfl, nl, rfl⟩
        unfold Builtin.«set.__init__» noKeywords Builtin.Frozenset.updateFrom
        generalize hPI : pyIter = PI; wp_walk; subst hPI
        refine wpAny_pyIter_tuple hl1 (wpAny_bind (wpAny_runValue ?_))
        have lt : l < s.heap.objs.size := Heap.lt_size hol
        have hh3 : A.in1.in1.in1.handled = none := by simp [hh]
        have sz1 : (s.heap.push (obS w)).objs.size = s.heap.objs.size + 1 := Heap.size_push ..
        have ni : l ≠ (s.heap.push (obS w)).objs.size := by rw [sz1]; exact Nat.ne_of_lt (Nat.lt_succ_of_lt lt)
        have nf : s.heap.objs.size ∉ [(s.heap.push (obS w)).objs.size, l] := by
          rw [sz1]; simp only [List.mem_cons, List.not_mem_nil, or_false, not_or]; exact ⟨Nat.ne_of_lt (Nat.lt_succ_self _), Nat.ne_of_gt lt⟩
        have hv : ∀ (i : Nat) (v : Value), its[i]? = some v → ∃ t, v = .str (xs.getD i Str.empty) t := fun i v q => SS.strs_at hx i v (by rw [Array.getElem?_toList]; exact q)
        refine fill_txt ((Walks.tuple hh3 _ l ni its).toS) s.heap.objs.size nf xs hz (by rw [← hz]; exact hb) hv its.size 0 _ (by omega) ⟨⟨_, Heap.get?_push_size _ rfl, rfl, rfl⟩, hl1.push _⟩ (setS_fresh (Heap.get?_push_of_some _ hS)) ?_
        intro s' hm hs'
        obtain ⟨h', g2, d', tk', os'⟩ := s'
        obtain rfl : g2 = s.gens := hm.gens
        obtain rfl : d' = s.drawn := hm.drawn
        obtain rfl : os' = s.os := hm.os
        refine wpAny_pure ?_; show wpAny _ _ (ret Value.none) _ _ _; refine wpAny_pure ⟨rfl, h', tk', rfl, hs', fun b o e => ?_⟩
        have hb0 : b < s.heap.objs.size := Heap.lt_size e
        refine hm.heap b o ?_ (Heap.get?_push_of_some _ (Heap.get?_push_of_some _ e))
        rw [sz1]; simp only [List.mem_cons, List.not_mem_nil, or_false, not_or]; exact ⟨Nat.ne_of_lt hb0, Nat.ne_of_lt (Nat.lt_succ_of_lt hb0)⟩
      · cases r2 with
        | error e => exact hr2
        | ok fl2 =>
          cases fl2 with
          | next => exact hr2.elim
          | brk => exact hr2.elim
          | cont => exact hr2.elim
          | ret u =>
            obtain ⟨rfl, h', tk, rfl, q1, q2⟩ := hr2
            repeat (any_goals (first | assumption | wp_step))
            exact hq _ _ q1 q2
end
end Fw

set_option Elab.async false
set_option linter.all false
set_option maxRecDepth 100000
set_option maxHeartbeats 4000000
namespace Fw
open PySem PySem.Spec PyProof.Rows L2
/-! ### texts in order -/
def leT (a b : Str) : Bool := !ltCps b.cps.toList a.cps.toList
theorem leT_iff {a b : Str} : leT a b = true ↔ a.cps.toList ≤ b.cps.toList := by
  unfold leT
  rw [ltCps_eq, Bool.not_eq_true', decide_eq_false_iff_not]
  exact List.not_lt
theorem leT_trans (a b c : Str) (h1 : leT a b = true) (h2 : leT b c = true) : leT a c = true := leT_iff.mpr (List.le_trans (leT_iff.mp h1) (leT_iff.mp h2))
theorem leT_total (a b : Str) : (leT a b || leT b a) = true := by
  rw [Bool.or_eq_true, leT_iff, leT_iff]
  exact List.le_total _ _
theorem leT_anti {a b : Str} (h1 : leT a b = true) (h2 : leT b a = true) : a = b := by
  have h := List.le_antisymm (leT_iff.mp h1) (leT_iff.mp h2)
  obtain ⟨x⟩ := a
  obtain ⟨y⟩ := b
  exact congrArg Str.mk (Array.toList_inj.mp h)
theorem rising_pw : ∀ (l : List Str) (p : Str), risingS p l = true → (p :: l).Pairwise fun a b => leT a b = true
  | [], p, _ => List.pairwise_singleton _ _
  | x :: r, p, h => by
    unfold risingS at h
    rw [Bool.and_eq_true] at h
    have ih := rising_pw r x h.2
    have hx : leT p x = true := h.1
    refine List.pairwise_cons.mpr ⟨fun y hy => ?_, ih⟩
    rcases List.mem_cons.mp hy with rfl | hy
    · exact hx
    · exact leT_trans p x y hx ((List.pairwise_cons.mp ih).1 y hy)
theorem sortedS_pw {l : List Str} (h : sortedS l = true) : l.Pairwise fun a b => leT a b = true := by
  cases l with
  | nil => exact .nil
  | cons x r => exact rising_pw r x h
/-- the texts of a list once each, ascending -/
def srtT (xs : List Str) : List Str := (onceT xs).mergeSort leT
theorem srtT_of {xs ys : List Str} (p : ys.Perm (onceT xs)) (h : sortedS ys = true) : ys = srtT xs := by
  refine List.Perm.eq_of_pairwise (fun a b _ _ h1 h2 => leT_anti h1 h2) (sortedS_pw h) (List.pairwise_mergeSort leT_trans leT_total _) (p.trans (List.mergeSort_perm _ _).symm)
theorem srtT_self {xs : List Str} (h : xs.Pairwise fun a b => leT a b = true) (nd : xs.Nodup) : srtT xs = xs := by
  refine (List.Perm.eq_of_pairwise (fun a b _ _ h1 h2 => leT_anti h1 h2) h (List.pairwise_mergeSort leT_trans leT_total _) ?_).symm
  rw [onceT_nodup nd]
  exact (List.reverse_perm xs).symm.trans (List.mergeSort_perm _ _).symm
/-! ### sorted(set(t)) -/
def vTxt : Value → Str | .str x _ => x | _ => Str.empty
theorem strs_val : ∀ (l : List Value), (∀ v ∈ l, ∃ x t, v = Value.str x t) → StrsAre l (l.map vTxt)
  | [], _ => .nil
  | v :: l, h => by
    obtain ⟨x, t, rfl⟩ := h v List.mem_cons_self
    exact .cons x t (strs_val l fun u hu => h u (List.mem_cons_of_mem _ hu))
section
variable {P : Program} {w : World} {A : Around} {E : Value → Shared → Prop} {s : Shared} {a : Addr}
theorem sorted_txt {xs : List Str} {Q : Value → Shared → Prop} (R : SetS w s.heap a xs) (hh : A.handled = none) (h64 : xs.length < 64)
    (hQ : ∀ s' p (out : Array Value) (c : Nat) (ys : List Str), (∀ b o, s.heap.get? b = some o → s'.heap.get? b = some o) → s'.gens = s.gens → s'.os = s.os → s.heap.objs.size ≤ p →
      s'.heap.get? p = some (seqObj "list" out c) → StrsAre out.toList ys → ys.Perm xs → sortedS ys = true → Q (.ref p) s') : wpAny (model P w) A (call (.builtin "sorted") [.ref a]) Q E s := by
  obtain ⟨o, es, ep, t, ho, hx, hd, g, pm, nd, hb, hf, hr, hl⟩ := R
  have hes : es.size = xs.length := by simpa using pm.length_eq
  refine Calls.call_function_entry kind_sorted plain_sorted entry_sorted (args_sorted1 _) ?_
  unfold Builtin.«sorted»
  refine wpAny_bind (m := checkCount "sorted" 1 1 _) (wpAny_pure (wpAny_bind (collect_set (A := A.in1) hh ⟨o, ho, hx.1, hd⟩ hf hb hr hl fun s1 vs k1 sz g1 o1 pv => ?_)))
  have hvl : vs.length = xs.length := by rw [pv.length_eq, List.length_map, Array.length_toList]; exact hes
  have hS : StrsAre vs (vs.map vTxt) := strs_val vs fun v hv => by
    obtain ⟨e, he, q⟩ := List.mem_map.mp (pv.mem_iff.mp hv)
    obtain ⟨x, tk, rfl⟩ := g e he
    exact ⟨x, tk, q.symm⟩
  have pk : (vs.map vTxt).Perm xs := by
    have q := pv.map vTxt
    rw [List.map_map] at q
    exact q.trans pm
  refine wpAny_bind (wpAny_newList ?_ (by rw [hvl, sizeLine_eq]; omega))
  have hoL : (s1.heap.push (seqObj "list" vs.toArray 0)).get? s1.heap.objs.size = some (seqObj "list" vs.toArray 0) := Heap.get?_push_size _ rfl
  refine wpAny_bind (wpAny_holding (wpAny_call_entry slot_list_sort ⟨_, hoL, rfl⟩ entry_list_sort
    (list_sort_treeK strKind_oneLt hoL hS.keysOf (fun v1 v2 rest e => keyKind_strs (by rw [← e]; exact hS)) (by rw [hvl]; exact h64) fun st hp hs => ⟨_, rfl, ?_⟩) (args_list_sort _)))
  obtain ⟨ys, y1, y2, y3⟩ := sorted_out_str hS hp hs
  obtain ⟨c, hc⟩ := sortedHeap_at (vs := vs) (out := (arrOf st).map (·.2)) hoL
  refine wpAny_pure ⟨_, rfl, hQ _ s1.heap.objs.size _ c ys (fun b u e => ?_) g1 o1 sz hc y1 (y2.trans pk) y3⟩
  have hlt := Heap.lt_size (k1 b u e)
  show (sortedHeap (s1.heap.push (seqObj "list" vs.toArray 0)) s1.heap.objs.size vs ((arrOf st).map (·.2))).get? b = some u
  rw [sortedHeap_old (Nat.ne_of_lt hlt) (by rw [size_push']; exact Nat.lt_succ_of_lt hlt)]
  exact Heap.get?_push_of_some _ (k1 b u e)
end
/-- sorted(set(e)) -/
def tSrtS (K : PySem.W.Frag) (ta : TE) : TE := fun σ H Q => ta σ H fun x H1 => ∃ (l : Addr) (xs : List Str), x = .ref l ∧ SqT K H1 l (xs.map V.str) ∧ xs.length < 64 ∧ ∀ p, H1 p = none → Q (.ref p) (upd H1 p (.lst ((srtT xs).map V.str)))
theorem pe_srtS {X : Cx} {a : Expr} {ta : TE} {p p2 q pos : Pos} (hc : X.calm = true) (hg : Gl X "sorted") (hm : X.mg "sorted" = none) (hg2 : Gl X "set") (hm2 : X.mg "set" = none) (ha : PE X a ta)
    (na : starEach [a] X.env = (false, eval a X.env) :: starEach [] X.env := by rfl) : PE X (.Call (.Name "sorted" p) [.Call (.Name "set" p2) [a] [] q] [] pos) (tSrtS X.K ta) := by
  refine ⟨fun pins s σ H Q I h => ?_⟩
  refine wpAny_Call_Name_kw (ld_blt I hg hm PyProof.Rows.boot_sorted (PyProof.Rows.callWith_builtin1 (PyProof.Rows.args_cons ?_ rfl) rfl rfl))
  refine wpAny_Call_Name_kw (ld_blt I hg2 hm2 PyProof.Rows.boot_set (PyProof.Rows.callWith_type1 (PyProof.Rows.args_cons (thn (ha.run pins s σ H _ I h) fun v s1 ⟨x, H1, I1, r1, q1⟩ => PyProof.Rows.args_nil ?_) na) na rfl))
  obtain ⟨l, xs, rfl, hq, h1, q1⟩ := q1
  cases r1
  obtain ⟨its, r, pl, hz⟩ := I1.tuple hq
  have hxs : its.length = xs.length := by rw [← r.length, List.length_map]
  refine call_txt xs (I1.ok.hd hc) pl (by simpa using strsAre_of r) (by unfold scanBound; omega) fun h' tk hS hk => PyProof.Rows.args_nil ?_
  have I2 : Inv X pins σ H1 { s1 with heap := h', toks := tk } := I1.kept fun b o e => hk b o e
  refine sorted_txt hS (I2.ok.hd hc) (Nat.lt_of_le_of_lt (onceT_le xs) h1) fun s' p out c ys k g o hp hg' hi pm hs => ?_
  have ey := srtT_of pm hs
  have hlen : (ys.map V.str).length ≤ sizeLine := by
    rw [List.length_map, pm.length_eq]
    exact Nat.le_trans (Nat.le_of_lt (Nat.lt_of_le_of_lt (onceT_le xs) h1)) (by decide)
  have hn : H1 p = none := I2.hok.fresh hp
  have J : Inv X pins σ (upd H1 p (.lst (ys.map V.str))) { s1 with heap := s'.heap, gens := s'.gens, drawn := s'.drawn, toks := s'.toks } :=
    Inv.call (s := { s1 with heap := h', toks := tk }) (ch := []) I2 (Un.laid k hp hn) (I2.hok.laid k hp ⟨hlen, out.toList, c, vals_of_strs hi, by rw [Array.toArray_toList]; exact hg'⟩) (by rw [g]; exact I2.bare) (fun _ z => nomatch z)
  have e : s' = { s1 with heap := s'.heap, gens := s'.gens, drawn := s'.drawn, toks := s'.toks } := by
    cases s'; cases s1; cases o
    rfl
  rw [e]
  refine ⟨.ref p, _, J, rfl, ?_⟩
  rw [ey]
  exact q1 p hn
end Fw

set_option Elab.async false
set_option linter.all false
set_option maxRecDepth 100000
set_option maxHeartbeats 4000000
namespace Fw
open PySem PySem.Spec PyProof.Rows L2
/-! ### enumerate(t), t a tuple -/
abbrev obTI (l : Addr) : Obj := { cls := .type "tuple_iterator", data := .fields #[.ref l, .int 0 0] }
abbrev obEn (i : Addr) : Obj := { cls := .type "enumerate", data := .fields #[.none, .bool false, .ref i, rawInt 0, .none, .none] }
open PySem.AutoSeq1 (wpAny_loadPart') in
theorem meets_enT (l : Addr) (its : Array Value) (n : Nat) (dct : Option Addr) (sl : Array (Option Value)) : Meets (Builtin.«enumerate.__new__» ⟨[.type "enumerate", .ref l], []⟩) (fun _ R s =>
    s.heap.get? l = some { cls := .type "tuple", dict := dct, data := .seq its n, slots := sl } ∧ R (.ok (.ret (.ref (s.heap.push (obTI l)).objs.size))) { s with heap := (s.heap.push (obTI l)).push (obEn s.heap.objs.size) }) :=
  .of_wp fun prog w A R s h => by
    obtain ⟨hp, g, d, tk, os⟩ := s
    obtain ⟨hl, h⟩ := h
    have hsub := sub_enumerate
    have hL : Heap.IsTuple (Shared.heap ⟨hp, g, d, tk, os⟩) l its := ⟨_, hl, rfl, n, rfl⟩
    wp_walk using wpAny_loadPart' hl
    refine wpAny_stack_any fun st => wpAny_pure ?_
    split
    · rename_i c _ _ _ _ _
      cases (c == Value.type "enumerate") <;> (wp_walk using wpAny_loadPart' hl, wpAny_pyIter_tuple hL; exact ⟨_, rfl, h⟩)
    · wp_walk using wpAny_loadPart' hl, wpAny_pyIter_tuple hL; exact ⟨_, rfl, h⟩
section
variable {P : Program} {w : World} {A : Around} {E : Value → Shared → Prop} {s : Shared}
theorem call_enT {l : Addr} {its : Array Value} {Q : Value → Shared → Prop} (hL : s.heap.IsTuple l its)
    (h : ∀ h', IsEnum h' (s.heap.objs.size + 1) s.heap.objs.size 0 .none → h'.IsTupleIter s.heap.objs.size l 0 → (∀ b o, s.heap.get? b = some o → h'.get? b = some o) → Q (.ref (s.heap.objs.size + 1)) { s with heap := h' }) :
    wpAny (model P w) A (call (.type "enumerate") [.ref l]) Q E s := by
  obtain ⟨⟨c, dct, dt, sl⟩, hl, hc, n, hd⟩ := hL
  simp only at hc hd
  subst hc hd
  have hz : (s.heap.push (obTI l)).objs.size = s.heap.objs.size + 1 := Heap.size_push ..
  refine callType_new F.called_enumerate (by decide) (F.typeCall_enumerate_1 _) (F.newCall_enumerate_1 _) (fun obj => F.args_object_init_2 obj _) F.entry_enumerate_new (meets_enT l its n dct sl) ⟨hl, ?_⟩
  show _ ∧ _; rw [hz]
  have he : IsEnum ((s.heap.push (obTI l)).push (obEn s.heap.objs.size)) (s.heap.objs.size + 1) s.heap.objs.size 0 .none := by
    have q := Heap.get?_push_size (s.heap.push (obTI l)) (o := obEn s.heap.objs.size) rfl
    rw [hz] at q; exact q
  exact ⟨⟨_, he, rfl⟩, h _ he ⟨_, Heap.get?_push_of_some _ (Heap.get?_push_size _ rfl), rfl, rfl⟩ fun b o x => Heap.get?_push_of_some _ (Heap.get?_push_of_some _ x)⟩
end
section
variable {P : Program} {w : World} {A : Around} {E : Value → Shared → Prop} {s : Shared}
theorem enT_end {e it l : Addr} {i : Nat} {c : Int} {its : Array Value} {old : Value} {Q : Option Value → Shared → Prop} (hh : A.handled = none) (he : IsEnum s.heap e it c old) (hit : s.heap.IsTupleIter it l i) (hl : s.heap.IsTuple l its) (hx : its[i]? = none)
    (hQ : ∀ h', Heap.ExtBut it s.heap h' → Q none { s with heap := h' }) : wpAny (model P w) A (pyNext (.ref e)) Q E s := by
  have hT : s.TypeIs (.ref e) "enumerate" := ⟨_, he, rfl⟩
  unfold pyNext
  refine wpAny_bind (wpAny_attempt (wpAny_callSpecial?_slot (name := Str.ofString "__next__") hT F.slot_enumerate_next (wpAny_call_entry F.slot_enumerate_next hT F.entry_enumerate_next ?_ (F.args_enumerate_next_1 _))))
  refine wpAny_bind (m := field (.ref e) 2) (wpAny_field he rfl (x := .ref it) rfl (wpAny_bind (wpAny_nextOf_tuple_end (A := A.in1) hh hit hl hx fun h' x k hx => ?_)))
  obtain ⟨o, ho, hc⟩ := hx
  exact wpAny_bind (wpAny_isInstance (T := "StopIteration") (b := true) ⟨o, ho, hc⟩ isSubtype_stop (wpAny_pure (hQ _ k)))
end
/-- the tuple at a, each item in a new pair with its number -/
def ItET (K : PySem.W.Frag) (a : Addr) : It :=
  ⟨fun i H => ∃ (xs : List V) (x : V), SqT K H a xs ∧ xs[i]? = some x, fun i H v H' => ∃ T o x, v = .ref T ∧ H T = none ∧ o.dict = none ∧ H' = upd H T (.frz o (.tup [.int (i : Nat), x])) ∧ ∀ xs, SqT K H a xs → xs[i]? = some x, fun i H => ∃ xs : List V, SqT K H a xs ∧ xs.length ≤ i⟩
theorem turn_enT {P : Program} {w : World} {K : PySem.W.Frag} {elts : List Expr} {kk : Nat} {tpos : Pos} (a e it : Addr) : Turn P w K (.Tuple elts kk tpos) (ItET K a) [e, it] e (fun i h => (∃ old, IsEnum h e it ((i : Nat) : Int) old) ∧ h.IsTupleIter it a i ∧ e ≠ it ∧ a ≠ it ∧ a ≠ e) where
  mem := by simp
  obj := fun i h st b hb => by
    obtain ⟨⟨old, he⟩, ⟨o, ho, hc, hd⟩, _⟩ := st
    rcases (show b = e ∨ b = it by simpa using hb) with rfl | rfl
    · exact ⟨_, he, fun v q => nomatch q⟩
    · exact ⟨o, ho, fun v q => by rw [hd] at q; cases q⟩
  keep := fun i h h' st k => let ⟨⟨old, he⟩, hi, hne⟩ := st; ⟨⟨old, k e (by simp) _ he⟩, hi.at fun o q => k it (by simp) o q, hne⟩
  item := by
    intro X hP hw hK hc i pins s σ H E I hf st hg
    subst hP hw hK
    obtain ⟨⟨old, he⟩, hit, hne, hai, hae⟩ := st
    obtain ⟨xs, x, hq, hx⟩ := hg
    obtain ⟨its, rv, p, hz⟩ := I.tuple hq
    obtain ⟨u, hu, ru⟩ := rv.get hx
    have lt_e : e < s.heap.objs.size := Heap.lt_size he
    have lt_i : it < s.heap.objs.size := let ⟨_, q, _⟩ := hit; Heap.lt_size q
    have hlt : i < its.toArray.size := by simpa using (List.getElem?_eq_some_iff.mp hu).1
    refine wpAny_pyNext_enum_itemD (Draws.tuple (A := X.A.in1) (I.ok.hd hc) it a hai its.toArray) he ⟨hit, p⟩ hlt hne (by simp only [List.mem_cons, List.not_mem_nil, or_false, not_or]; exact ⟨hne, fun q => hae q.symm⟩) fun x' h' tk hx' ho hst hT hsz hk => ?_
    obtain rfl : x' = u := by
      have q : its[i]? = some x' := by simpa using hx'
      rw [hu] at q; exact (Option.some.inj q).symm
    refine ⟨_, rfl, wpAny_letOwnedTupleGo_enum (s := { s with heap := h', toks := tk + 1 }) ho fun h2 he2 sb => ?_⟩
    have hT2 : h2.get? s.heap.objs.size = some { cls := .type "tuple", data := .seq #[.int i tk, x'] } := (sb.2 _ (Nat.ne_of_gt lt_e)).trans hT
    have new : ObjOk X.prog X.w (upd H s.heap.objs.size (.frz { cls := .type "tuple", data := .seq #[.int i tk, x'] } (.tup [.int (i : Nat), x]))) h2 s.heap.objs.size (.frz { cls := .type "tuple", data := .seq #[.int i tk, x'] } (.tup [.int (i : Nat), x])) := ⟨hT2, by show 2 ≤ sizeLine; decide, [.int i tk, x'], .cons ⟨_, rfl⟩ (.cons ru .nil), ⟨_, hT2, rfl, _, rfl⟩⟩
    have I1 : Inv X pins σ (upd H s.heap.objs.size (.frz { cls := .type "tuple", data := .seq #[.int i tk, x'] } (.tup [.int (i : Nat), x]))) { s with heap := h2, toks := tk + 1 } :=
      I.turnedNew (ch := [e, it]) (fun b ob hb q => (sb.2 b (fun z => hb (by simp [z]))).trans (hk b ob (fun z => hb (by simp [z])) (fun z => hb (by simp [z])) q)) hf (Nat.le_refl _) new
    refine ⟨.ref s.heap.objs.size, _, I1, rfl, ⟨_, _, x, rfl, I.hok.fresh (Nat.le_refl _), rfl, rfl, fun ys hy => by rw [I.tuple_inj hy hq]; exact hx⟩, ⟨⟨x', ?_⟩, hst.1.at fun o q => (sb.2 it (Ne.symm hne)).trans q, hne, hai, hae⟩, fun b hb => ?_⟩
    · rw [show ((i + 1 : Nat) : Int) = (i : Int) + 1 by omega]; exact he2
    · have hb2 : b < s.heap.objs.size := by
        rcases (show b = e ∨ b = it by simpa using hb) with rfl | rfl
        · exact lt_e
        · exact lt_i
      rw [upd_ne (Nat.ne_of_lt hb2)]
      exact (hf b hb).1
  done := by
    intro X hP hw hK hc i pins s σ H E I hf st hg
    subst hP hw hK
    obtain ⟨⟨old, he⟩, hit, hne, hai, hae⟩ := st
    obtain ⟨xs, hq, hx⟩ := hg
    obtain ⟨its, rv, p, hz⟩ := I.tuple hq
    obtain ⟨f0, f1, f2, f3, f4, f5⟩ := hf it (by simp)
    have hl := rv.length
    refine enT_end (I.ok.hd hc) he hit p (by simp; omega) fun h' eb => ⟨rfl, I.turned (t' := s.toks) (fun b o hb q => eb b o hb q) f0 f1 f3 f4 f5⟩
  self := fun A i s Q E st h => let ⟨⟨_, he⟩, _⟩ := st; wpAny_pyIter_enum he h
/-! ### by data -/
def iEnT (K : PySem.W.Frag) (ta : TA) : TI := fun σ H R => ta σ H fun vs H1 => ∃ a xs, vs = [.ref a] ∧ SqT K H1 a xs ∧ R (ItET K a) H1
theorem pi_enT {X : Cx} {e : Expr} {ta : TA} {p pos tpos : Pos} {elts : List Expr} {kk : Nat} (hg : Gl X "enumerate") (hm : X.mg "enumerate" = none) (ha : PA X [e] ta) (hs : starEach [e] X.env = [(false, eval e X.env)] := by rfl) :
    PI X (.Tuple elts kk tpos) (.Call (.Name "enumerate" p) [e] [] pos) (iEnT X.K ta) := by
  refine ⟨fun pins s σ H R I h => ?_⟩
  refine wpAny_Call_Name_kw (ld_blt I hg hm boot_enumerate (PyProof.Rows.callWith_type1 (thn (ha.run pos pins s σ H _ I h) fun us s1 ⟨vs, H1, I1, r1, q1⟩ => ?_) hs rfl))
  obtain ⟨a, xs, rfl, hq, q⟩ := q1
  cases r1 with
  | cons r rr =>
    cases rr
    cases r
    obtain ⟨its, rv, p', hz⟩ := I1.tuple hq
    have lt_a : a < s1.heap.objs.size := by obtain ⟨o, ho, _⟩ := p'; exact Heap.lt_size ho
    refine call_enT p' fun h' he hit hk => wpAny_pyIter_enum he ?_
    have I2 : Inv X pins σ H1 { s1 with heap := h' } := I1.kept (t' := s1.toks) hk
    refine ⟨s1.heap.objs.size + 1, [s1.heap.objs.size + 1, s1.heap.objs.size], _, _, H1, rfl, I2, turn_enT a (s1.heap.objs.size + 1) s1.heap.objs.size, ⟨⟨.none, he⟩, hit, Nat.succ_ne_self _, Nat.ne_of_lt lt_a, Nat.ne_of_lt (Nat.lt_succ_of_lt lt_a)⟩, fun b hb => ?_, q⟩
    have hle : s1.heap.objs.size ≤ b := by
      rcases (show b = s1.heap.objs.size + 1 ∨ b = s1.heap.objs.size by simpa using hb) with rfl | rfl
      · exact Nat.le_add_right _ _
      · exact Nat.le_refl _
    exact I1.fpOk hle (I1.hok.fresh hle)
/-- (i, x), (i + 1, y), .. -/
def enumD : Nat → List D → List D
  | _, [] => []
  | i, x :: xs => .tup [.int (i : Nat), x] :: enumD (i + 1) xs
theorem enumD_length : ∀ (xs : List D) (i : Nat), (enumD i xs).length = xs.length
  | [], _ => rfl
  | x :: xs, i => by unfold enumD; rw [List.length_cons, List.length_cons, enumD_length xs]
theorem enumD_get : ∀ {xs : List D} {k i : Nat} {d : D}, (enumD k xs)[i]? = some d → ∃ x, xs[i]? = some x ∧ d = .tup [.int ((k + i : Nat) : Int), x]
  | x :: xs, k, 0, d, e => ⟨x, rfl, (Option.some.inj (show some (D.tup [.int (k : Nat), x]) = some d from e)).symm⟩
  | x :: xs, k, i + 1, d, e => by
    obtain ⟨y, a, b⟩ := enumD_get (xs := xs) (k := k + 1) (i := i) (d := d) e
    exact ⟨y, a, by rw [b, show k + 1 + i = k + (i + 1) by omega]⟩
  | [], k, i, d, e => by simp [enumD] at e
theorem iter_enT {K : PySem.W.Frag} {h : Addr → Bool} {s : S} {H : Hp} {p : Addr} {xs : List V} {ds : List D} (si : SI K h s H) (qa : SqT K (hide h H) p xs) (ra : Reps K (hide h H) xs ds) : IterD K h (ItET K p) s H (enumD 0 ds) := by
  intro h' s2 H2 x i
  have q1 : SqT K H2 p xs := sqt_un (ext_t (x.ext si) qa)
  refine ⟨fun d e => ?_, fun hl => ⟨xs, q1, by rw [enumD_length] at hl; rw [ra.length]; exact hl⟩⟩
  obtain ⟨dx, ex, rfl⟩ := enumD_get e
  obtain ⟨vx, ex', rx⟩ := ra.get ex
  refine ⟨⟨xs, vx, q1, ex'⟩, fun z H3 hy => ?_⟩
  obtain ⟨T, o, u1, rfl, hT, hd, rfl, h1⟩ := hy
  have a1 := h1 xs q1
  rw [ex'] at a1; cases a1
  rw [Nat.zero_add]
  exact pair_new x.si hT hd (.int _) (Rep.mono (x.ext si) _ _ rx)
def fEnum (fs : FA) : FI := fun δ s => (fs δ s).bind fun p => match p.1 with
  | [.tup xs] => some (enumD 0 xs, p.2)
  | _ => none
theorem di_enum {X : Cx} {a : Expr} {fs : FA} {q pos tpos : Pos} {elts : List Expr} {kk : Nat} (hg : Gl X "enumerate") (hm : X.mg "enumerate" = none) (ha : PA X [a] (tDA X.K fs)) (hs : starEach [a] X.env = [(false, eval a X.env)] := by rfl) :
    PI X (.Tuple elts kk tpos) (.Call (.Name "enumerate" q) [a] [] pos) (tDI X.K (fEnum fs)) := imp_i (pi_enT hg hm ha hs) fun σ H R ⟨h, s, δ, ds, s', er, si, q, w⟩ => by
  obtain ⟨⟨xs, s1⟩, q1, q⟩ := bind_some q
  dsimp only at q
  split at q
  · cases q
    refine ⟨h, s, δ, _, _, er, si, q1, fun vs H1 st1 r1 => ?_⟩
    obtain ⟨v, rfl, r⟩ := reps1 r1
    obtain ⟨p1, ys, rfl, qa, ra⟩ := rep_tup r
    exact ⟨p1, ys, rfl, sqt_un qa, w _ H1 st1 (iter_enT st1.si qa ra)⟩
  · cases q
/-- the texts of a tuple -/
def txtsD : List D → Option (List Str)
  | [] => some []
  | .str x :: ds => (txtsD ds).map (x :: ·)
  | _ :: _ => none
theorem txtsD_ok {K : PySem.W.Frag} {H : Hp} : ∀ {ds : List D} {vs : List V} {xs : List Str}, Reps K H vs ds → txtsD ds = some xs → vs = xs.map V.str
  | [], _, _, .nil, e => by cases e; rfl
  | d :: ds, _, xs, .cons r rs, e => by
    cases d with
    | str x =>
      obtain ⟨ys, e1, rfl⟩ := map_some (show (txtsD ds).map _ = some xs from e)
      rw [List.map_cons, ← txtsD_ok rs e1, rep_str r]
    | _ => cases (show (none : Option (List Str)) = some xs from e)
def fSrtS (fe : FE) : FE := fun δ s => (fe δ s).bind fun p => match p.1 with
  | .tup ds => (txtsD ds).bind fun xs => if xs.length < 64 then some (.lst ((srtT xs).map .str), p.2) else none
  | _ => none
theorem reps_str {K : PySem.W.Frag} {H : Hp} : ∀ (xs : List Str), Reps K H (xs.map V.str) (xs.map D.str)
  | [] => .nil
  | x :: xs => .cons (.str x) (reps_str xs)
theorem d_srtS {X : Cx} {a : Expr} {fe : FE} {p p2 q pos : Pos} (hc : X.calm = true) (hg : Gl X "sorted") (hm : X.mg "sorted" = none) (hg2 : Gl X "set") (hm2 : X.mg "set" = none) (ha : PE X a (tD X.K fe))
    (na : starEach [a] X.env = (false, eval a X.env) :: starEach [] X.env := by rfl) : PE X (.Call (.Name "sorted" p) [.Call (.Name "set" p2) [a] [] q] [] pos) (tD X.K (fSrtS fe)) := imp_e (pe_srtS hc hg hm hg2 hm2 ha na) fun σ H Q ⟨h, s, δ, d, s', er, si, q, w⟩ => by
  obtain ⟨⟨x, s1⟩, q1, q⟩ := bind_some q
  dsimp only at q
  split at q
  · obtain ⟨xs, q2, q⟩ := bind_some q
    split at q
    · rename_i hl
      cases q
      refine ⟨h, s, δ, _, _, er, si, q1, fun v H1 st1 r1 => ?_⟩
      obtain ⟨p1, ys, rfl, qa, ra⟩ := rep_tup r1
      have e := txtsD_ok ra q2
      subst e
      exact ⟨p1, xs, rfl, sqt_un qa, hl, fun t ht => w _ _ (st1.trans (Step.new st1.si ht _)) (.lst (new_free st1.si ht) (reps_str _))⟩
    · cases q
  · cases q
section
variable {fe : FE} {fs : FA} {δ : Fr} {s : S} {ds : List D} {xs : List Str}
def kEnum : Option (List D × S) → Option (List D × S) | some ([.tup xs], s) => some (enumD 0 xs, s) | _ => none
@[simp] theorem kEnum_s : kEnum (some ([.tup ds], s)) = some (enumD 0 ds, s) := rfl
@[simp] theorem fEnum_e : fEnum fs δ s = kEnum (fs δ s) := by
  unfold fEnum kEnum
  cases fs δ s with
  | none => rfl
  | some p =>
    obtain ⟨l, s'⟩ := p
    dsimp only [Option.bind_some]
    split <;> first | rfl | (split <;> simp_all)
def kSrtS : Option (D × S) → Option (D × S) | some (.tup ds, s) => (txtsD ds).bind fun xs => if xs.length < 64 then some (.lst ((srtT xs).map .str), s) else none | _ => none
theorem kSrtS_s (h : txtsD ds = some xs) (hl : xs.length < 64) : kSrtS (some (.tup ds, s)) = some (.lst ((srtT xs).map .str), s) := by
  show (txtsD ds).bind _ = _
  rw [h, Option.bind_some, if_pos hl]
@[simp] theorem fSrtS_e : fSrtS fe δ s = kSrtS (fe δ s) := by
  unfold fSrtS kSrtS
  cases fe δ s with
  | none => rfl
  | some p =>
    obtain ⟨l, s'⟩ := p
    cases l <;> rfl
end
end Fw

set_option Elab.async false
set_option linter.all false
set_option maxRecDepth 100000
set_option maxHeartbeats 4000000
namespace Fw
open PySem PySem.Spec PyProof.Rows L2
section
variable {P : Program} {w : World} {A : Around} {E : Value → Shared → Prop} {s : Shared}
/-- set(t), t a list of texts -/
theorem call_txtL {l : Addr} {its : Array Value} (xs : List Str) {Q : Value → Shared → Prop} (hh : A.handled = none) (hl : s.heap.IsList l its) (hx : StrsAre its.toList xs) (hb : xs.length + 1 < scanBound)
    (hq : ∀ (h' : Heap) (tk : Nat), SetS w h' s.heap.objs.size (onceT xs) → (∀ b o, s.heap.get? b = some o → h'.get? b = some o) → Q (.ref s.heap.objs.size) { s with heap := h', toks := tk }) :
    wpAny (model P w) A (call (.type "set") [.ref l]) Q E s := by
  have hz : xs.length = its.size := by rw [← StrsAre.len_eq hx, Array.length_toList]
  obtain ⟨c, tl, hmro⟩ := F.called_set.mro
  have hmade := F.called_set.made; have hsub := F.called_set.sub; have h1 := F.called_set.notType; have h2 := F.called_set.canCreate; have hct := F.typeCall_set_1 (.ref l)
  refine wpAny_call (codeAny_of_tree ?_); show wpAny _ _ (callAny (.type "set") _) _ _ _; refine wpAny_pure ⟨Code.quiet_builtin _ (by decide +kernel), codeAny_builtin F.entry_type_call ?_⟩
  rw [Around.under_plain (weight_type_call_type "set" [.ref l] []) rfl]; repeat (any_goals (first | assumption | wp_step))
  refine codeAny_mono (code_set_led1 (.ref l) (E := E) (Q₁ := fun u s1 => u = .ref s.heap.objs.size ∧ s1 = { s with heap := s.heap.push (obS w) }) ⟨rfl, rfl⟩) fun r s1 hr => ?_
  cases r with
  | error e => exact hr
  | ok fl =>
    cases fl with
    | next => exact hr.elim
    | brk => exact hr.elim
    | cont => exact hr.elim
    | ret u =>
      obtain ⟨rfl, rfl⟩ := hr
      have hS : (s.heap.push (obS w)).get? s.heap.objs.size = some (obS w) := Heap.get?_push_size _ rfl
      have hT : Shared.TypeIs { s with heap := s.heap.push (obS w) } (.ref s.heap.objs.size) "set" := ⟨_, hS, rfl⟩
      have hli := F.called_set.init.lookup; have hbi := F.called_set.init.bind (.ref s.heap.objs.size)
      repeat (any_goals (first | assumption | wp_step))
      refine codeAny_mono (codeAny_call_builtin (R := wants (fun r s2 => r = .none ∧ ∃ h' tk, s2 = { s with heap := h', toks := tk } ∧ SetS w h' s.heap.objs.size (onceT xs) ∧ ∀ b o, s.heap.get? b = some o → h'.get? b = some o) E)
        F.called_set.init.plain F.entry_set_init (check_set_init_1 hT ?_)) fun r2 s2 hr2 => ?_
      · obtain ⟨⟨oc, od, odt, osl⟩, hol, hcl, nl, hdl⟩ := hl
        simp only at hcl hdl
        subst hcl hdl
        have hol2 : (s.heap.push (obS w)).get? l = some { cls := .type "list", dict := od, data := .seq its nl, slots := osl } := Heap.get?_push_of_some _ hol
        have hsls := F.sub_list_set; have hslf := F.sub_list_frozenset; have hne : (Value.type "list" == Value.type "dict") = false := by decide
        have hl1 : (s.heap.push (obS w)).IsList l its := ⟨_, hol2, rfl, nl, rfl⟩
        unfold Builtin.«set.__init__» noKeywords Builtin.Frozenset.updateFrom
        generalize hPI : pyIter = PI; wp_walk; subst hPI
        refine wpAny_pyIter_list hl1 (wpAny_bind (wpAny_runValue ?_))
        have lt : l < s.heap.objs.size := Heap.lt_size hol
        have hh3 : A.in1.in1.in1.handled = none := by simp [hh]
        have sz1 : (s.heap.push (obS w)).objs.size = s.heap.objs.size + 1 := Heap.size_push ..
        have ni : l ≠ (s.heap.push (obS w)).objs.size := by rw [sz1]; exact Nat.ne_of_lt (Nat.lt_succ_of_lt lt)
        have nf : s.heap.objs.size ∉ [(s.heap.push (obS w)).objs.size, l] := by
          rw [sz1]; simp only [List.mem_cons, List.not_mem_nil, or_false, not_or]; exact ⟨Nat.ne_of_lt (Nat.lt_succ_self _), Nat.ne_of_gt lt⟩
        have hv : ∀ (i : Nat) (v : Value), its[i]? = some v → ∃ t, v = .str (xs.getD i Str.empty) t := fun i v q => SS.strs_at hx i v (by rw [Array.getElem?_toList]; exact q)
        refine fill_txt ((Walks.list hh3 _ l ni its).toS) s.heap.objs.size nf xs hz (by rw [← hz]; exact hb) hv its.size 0 _ (by omega) ⟨⟨_, Heap.get?_push_size _ rfl, rfl, rfl⟩, hl1.push _⟩ (setS_fresh (Heap.get?_push_of_some _ hS)) ?_
        intro s' hm hs'
        obtain ⟨h', g2, d', tk', os'⟩ := s'
        obtain rfl : g2 = s.gens := hm.gens
        obtain rfl : d' = s.drawn := hm.drawn
        obtain rfl : os' = s.os := hm.os
        refine wpAny_pure ?_; show wpAny _ _ (ret Value.none) _ _ _; refine wpAny_pure ⟨rfl, h', tk', rfl, hs', fun b o e => ?_⟩
        have hb0 : b < s.heap.objs.size := Heap.lt_size e
        refine hm.heap b o ?_ (Heap.get?_push_of_some _ (Heap.get?_push_of_some _ e))
        rw [sz1]; simp only [List.mem_cons, List.not_mem_nil, or_false, not_or]; exact ⟨Nat.ne_of_lt hb0, Nat.ne_of_lt (Nat.lt_succ_of_lt hb0)⟩
      · cases r2 with
        | error e => exact hr2
        | ok fl2 =>
          cases fl2 with
          | next => exact hr2.elim
          | brk => exact hr2.elim
          | cont => exact hr2.elim
          | ret u =>
            obtain ⟨rfl, h', tk, rfl, q1, q2⟩ := hr2
            repeat (any_goals (first | assumption | wp_step))
            exact hq _ _ q1 q2
end
/-- sorted(set(e)), e a list -/
def tSrtL (K : PySem.W.Frag) (ta : TE) : TE := fun σ H Q => ta σ H fun x H1 => ∃ (l : Addr) (xs : List Str), x = .ref l ∧ SqL K H1 l (xs.map V.str) ∧ xs.length < 64 ∧ ∀ p, H1 p = none → Q (.ref p) (upd H1 p (.lst ((srtT xs).map V.str)))
theorem pe_srtL {X : Cx} {a : Expr} {ta : TE} {p p2 q pos : Pos} (hc : X.calm = true) (hg : Gl X "sorted") (hm : X.mg "sorted" = none) (hg2 : Gl X "set") (hm2 : X.mg "set" = none) (ha : PE X a ta)
    (na : starEach [a] X.env = (false, eval a X.env) :: starEach [] X.env := by rfl) : PE X (.Call (.Name "sorted" p) [.Call (.Name "set" p2) [a] [] q] [] pos) (tSrtL X.K ta) := by
  refine ⟨fun pins s σ H Q I h => ?_⟩
  refine wpAny_Call_Name_kw (ld_blt I hg hm PyProof.Rows.boot_sorted (PyProof.Rows.callWith_builtin1 (PyProof.Rows.args_cons ?_ rfl) rfl rfl))
  refine wpAny_Call_Name_kw (ld_blt I hg2 hm2 PyProof.Rows.boot_set (PyProof.Rows.callWith_type1 (PyProof.Rows.args_cons (thn (ha.run pins s σ H _ I h) fun v s1 ⟨x, H1, I1, r1, q1⟩ => PyProof.Rows.args_nil ?_) na) na rfl))
  obtain ⟨l, xs, rfl, hq, h1, q1⟩ := q1
  cases r1
  obtain ⟨its, r, pl, hz⟩ := I1.list hq
  have hxs : its.length = xs.length := by rw [← r.length, List.length_map]
  refine call_txtL xs (I1.ok.hd hc) pl.isList (by simpa using strsAre_of r) (by unfold scanBound; omega) fun h' tk hS hk => PyProof.Rows.args_nil ?_
  have I2 : Inv X pins σ H1 { s1 with heap := h', toks := tk } := I1.kept fun b o e => hk b o e
  refine sorted_txt hS (I2.ok.hd hc) (Nat.lt_of_le_of_lt (onceT_le xs) h1) fun s' p out c ys k g o hp hg' hi pm hs => ?_
  have ey := srtT_of pm hs
  have hlen : (ys.map V.str).length ≤ sizeLine := by
    rw [List.length_map, pm.length_eq]
    exact Nat.le_trans (Nat.le_of_lt (Nat.lt_of_le_of_lt (onceT_le xs) h1)) (by decide)
  have hn : H1 p = none := I2.hok.fresh hp
  have J : Inv X pins σ (upd H1 p (.lst (ys.map V.str))) { s1 with heap := s'.heap, gens := s'.gens, drawn := s'.drawn, toks := s'.toks } :=
    Inv.call (s := { s1 with heap := h', toks := tk }) (ch := []) I2 (Un.laid k hp hn) (I2.hok.laid k hp ⟨hlen, out.toList, c, vals_of_strs hi, by rw [Array.toArray_toList]; exact hg'⟩) (by rw [g]; exact I2.bare) (fun _ z => nomatch z)
  have e : s' = { s1 with heap := s'.heap, gens := s'.gens, drawn := s'.drawn, toks := s'.toks } := by
    cases s'; cases s1; cases o
    rfl
  rw [e]
  refine ⟨.ref p, _, J, rfl, ?_⟩
  rw [ey]
  exact q1 p hn
/-- sorted(set(e)) by data, e a list -/
def kSrtL : Option (D × S) → Option (D × S) | some (.lst ds, s) => (txtsD ds).bind fun xs => if xs.length < 64 then some (.lst ((srtT xs).map .str), s) else none | _ => none
theorem kSrtL_s {ds : List D} {s : S} {xs : List Str} (h : txtsD ds = some xs) (hl : xs.length < 64) : kSrtL (some (.lst ds, s)) = some (.lst ((srtT xs).map .str), s) := by
  show (txtsD ds).bind _ = _
  rw [h, Option.bind_some, if_pos hl]
def fSrtL (fe : FE) : FE := fun δ s => kSrtL (fe δ s)
@[simp] theorem fSrtL_e {fe : FE} {δ : Fr} {s : S} : fSrtL fe δ s = kSrtL (fe δ s) := rfl
theorem d_srtL {X : Cx} {a : Expr} {fe : FE} {p p2 q pos : Pos} (hc : X.calm = true) (hg : Gl X "sorted") (hm : X.mg "sorted" = none) (hg2 : Gl X "set") (hm2 : X.mg "set" = none) (ha : PE X a (tD X.K fe))
    (na : starEach [a] X.env = (false, eval a X.env) :: starEach [] X.env := by rfl) : PE X (.Call (.Name "sorted" p) [.Call (.Name "set" p2) [a] [] q] [] pos) (tD X.K (fSrtL fe)) := imp_e (pe_srtL hc hg hm hg2 hm2 ha na) fun σ H Q ⟨h, s, δ, d, s', er, si, q, w⟩ => by
  have q' : kSrtL (fe δ s) = some (d, s') := q
  unfold kSrtL at q'
  split at q'
  · rename_i ds s1 e1
    obtain ⟨xs, q2, q3⟩ := bind_some q'
    split at q3
    · rename_i hl
      cases q3
      refine ⟨h, s, δ, _, _, er, si, e1, fun v H1 st1 r1 => ?_⟩
      obtain ⟨p1, ys, rfl, qa, ra⟩ := rep_lst r1
      have e := txtsD_ok ra q2
      subst e
      exact ⟨p1, xs, rfl, SqL.of (hide_ext _ _ _ _ qa), hl, fun t ht => w _ _ (st1.trans (Step.new st1.si ht _)) (.lst (new_free st1.si ht) (reps_str _))⟩
    · cases q3
  · cases q'
/-! ### slices of texts -/
def kSlT (fl fh : FO) (δ : Fr) : Option (D × S) → Option (D × S) | some (.str z, s) => (fl δ s).bind fun l => (fh δ l.2).bind fun u => if okLen z.length = true then some (.str (cutS z l.1 u.1), u.2) else none | _ => none
def fSlT (fe : FE) (fl fh : FO) : FE := fun δ s => kSlT fl fh δ (fe δ s)
@[simp] theorem fSlT_e {fe : FE} {fl fh : FO} {δ : Fr} {s : S} : fSlT fe fl fh δ s = kSlT fl fh δ (fe δ s) := rfl
theorem d_sliceT {X : Cx} {e : Expr} {fe : FE} {lo hi : Option Expr} {fl fh : FO} {p2 pos : Pos} (he : PE X e (tD X.K fe)) (hl : PO X lo (tDO X.K fl)) (hu : PO X hi (tDO X.K fh)) : PE X (.Subscript e (.Slice lo hi none p2) pos) (tD X.K (fSlT fe fl fh)) :=
  imp_e (pe_slice sl_str he hl hu) fun σ H Q ⟨h, s, δ, d, s', er, si, q, w⟩ => by
  have q' : kSlT fl fh δ (fe δ s) = some (d, s') := q
  unfold kSlT at q'
  split at q'
  · rename_i z s1 e1
    obtain ⟨⟨l, s2⟩, q2, q3⟩ := bind_some q'
    obtain ⟨⟨u, s3⟩, q4, q5⟩ := bind_some q3
    split at q5
    · rename_i hz
      cases q5
      refine ⟨h, s, δ, _, s1, er, si, e1, fun v H1 st1 r1 => ⟨h, s1, δ, l, s2, er.mono (st1.ext si), st1.si, q2, fun H2 st2 => ⟨h, s2, δ, u, _, (er.mono (st1.ext si)).mono (st2.ext st1.si), st2.si, q4, fun H3 st3 => ?_⟩⟩⟩
      have st := st1.trans (st2.trans st3)
      exact ⟨z, rep_str r1, okLen_le hz, w _ H3 st (.str _)⟩
    · cases q5
  · cases q'
/-! ### in an owned dict -/
def kInD3 (s : S) (k : Str) : Option OO → Option (Bool × S) | some (.dct kvs) => some ((kvs.lookup k).isSome, s) | _ => none
@[simp] theorem kInD3_s {s : S} {k : Str} {kvs : List (Str × D)} : kInD3 s k (some (.dct kvs)) = some ((kvs.lookup k).isSome, s) := rfl
def kInD2 (k : Str) : Option (D × S) → Option (Bool × S) | some (.ref a, s) => kInD3 s k (s a) | _ => none
@[simp] theorem kInD2_s {s : S} {k : Str} {a : Addr} : kInD2 k (some (.ref a, s)) = kInD3 s k (s a) := rfl
def kInD (fo : FE) (δ : Fr) : Option (D × S) → Option (Bool × S) | some (.str k, s) => kInD2 k (fo δ s) | _ => none
@[simp] theorem kInD_s {fo : FE} {δ : Fr} {s : S} {k : Str} : kInD fo δ (some (.str k, s)) = kInD2 k (fo δ s) := rfl
def fInD (fi fo : FE) : FT := fun δ s => kInD fo δ (fi δ s)
@[simp] theorem fInD_e {fi fo : FE} {δ : Fr} {s : S} : fInD fi fo δ s = kInD fo δ (fi δ s) := rfl
theorem repkv_is {K : PySem.W.Frag} {H : Hp} {k : Str} : ∀ {kvs : List (Key × V)} {ds : List (Str × D)}, RepKV K H kvs ds → (valV kvs (Sum.inr k)).isSome = (ds.lookup k).isSome
  | [], [], _ => rfl
  | [], _ :: _, r => by cases r.1
  | _ :: _, [], r => by cases r.1
  | (k1, v1) :: kvs, (k2, d2) :: ds, r => by
    obtain ⟨e1, t1⟩ := List.cons.inj (show k1 :: kvs.map (·.1) = Sum.inr k2 :: ds.map (fun p => Sum.inr p.1) from r.1)
    have t : RepKV K H kvs ds := ⟨t1, by
      have q := r.2
      rw [List.map_cons, List.map_cons] at q
      cases q with | cons a b => exact b⟩
    by_cases hk : k = k2
    · subst hk
      rw [List.lookup_cons, beq_self_eq_true]
      subst e1
      unfold valV
      simp
    · have h2 : (k == k2) = false := beq_eq_false_iff_ne.mpr hk
      rw [List.lookup_cons, h2, valV_neg (p := (k1, v1)) (by rw [e1]; exact fun z => hk (Sum.inr.inj z).symm)]
      exact repkv_is t
theorem dt_inD {X : Cx} {i o : Expr} {fi fo : FE} {pos : Pos} (hu : X.A.units + 1 < cLine) (hi : PE X i (tD X.K fi)) (ho : PE X o (tD X.K fo)) (h1 : behindInMarks .In o = false := by rfl) : PT X (.Compare i [.In] [o] pos) (tDT X.K (fInD fi fo)) := imp_t (pt_cmp (pc_din hu hi ho) h1) fun σ H Q ⟨h, s, δ, d, s', er, si, q, w⟩ => by
  have q' : kInD fo δ (fi δ s) = some (d, s') := q
  cases e1 : fi δ s with
  | none => rw [e1] at q'; cases q'
  | some p1 =>
    obtain ⟨x, s1⟩ := p1
    rw [e1] at q'
    cases x with
    | str k =>
      have q2 : kInD2 k (fo δ s1) = some (d, s') := q'
      cases e2 : fo δ s1 with
      | none => rw [e2] at q2; cases q2
      | some p2 =>
        obtain ⟨y, s2⟩ := p2
        rw [e2] at q2
        cases y with
        | ref a =>
          have q3 : kInD3 s2 k (s2 a) = some (d, s') := q2
          unfold kInD3 at q3
          split at q3
          · rename_i kvs e
            cases q3
            refine ⟨h, s, δ, _, s1, er, si, e1, fun v H1 st1 r1 => ⟨h, s1, δ, _, _, er.mono (st1.ext si), st1.si, e2, fun u H2 st2 r2 => ?_⟩⟩
            obtain ⟨es, e3, rk⟩ := st2.si.ob _ _ e
            refine ⟨a, valV es (Sum.inr k), rep_ref r2, ?_, ?_⟩
            · rw [rep_str (st2.rep st1.si r1)]
              exact .inl ⟨es, Sum.inr k, .inl e3, rfl, rfl⟩
            · rw [repkv_is rk]
              exact ⟨_, rfl, w H2 (st1.trans st2)⟩
          · cases q3
        | _ => cases q2
    | _ => cases q'
end Fw

set_option Elab.async false
set_option linter.all false
set_option maxRecDepth 100000
set_option maxHeartbeats 4000000
/-! Lw13: strengths, by data. -/
namespace Fw
open PySem PySem.Spec PyProof.Rows L2
def lookerL : List String := ["ends seen", "prints seen", "steps seen"]
def underL : List String := ["prints", "stops", "under"]
def branchL : List String := ["ifs", "whiles"]
def isStr (ws : List String) (x : String) : Bool := !decide (x ∈ lookerL) && (!decide (x ∈ underL) || (decide ("ifs" ∈ ws) || decide ("whiles" ∈ ws)))
def strengthsM (ws : List String) : List String := ws.filter (isStr ws)
def lackM (one other : List String) : List String := (strengthsM other).filter fun x => !decide (x ∈ strengthsM one)
def stmM (w : String) : Sm := if w = "prints" then .print 0 else if w = "stops" then .stop else .sum 0 [] 1
def partM (other : List String) (w : String) : List Sm :=
  if w = "ifs" then [.ite 1 [] []] else if w = "marks" then [.keep false 1 0] else if w = "splits" then [.split 1 1] else if w = "straight" then [.sum 0 [1] 0] else if w = "tells" then [.print 1] else if w = "whiles" then [.whl 1 []]
  else if "ifs" ∈ other then [.ite 1 [stmM w] []] else [.whl 1 [stmM w]]
def BrM (ws : List String) : Prop := "ifs" ∈ ws ∨ "whiles" ∈ ws
/-- one has each strength of other -/
structure Cov (one other : List String) : Prop where
  a : ∀ x ∈ ["straight", "ifs", "whiles", "tells", "splits", "marks"], x ∈ other → x ∈ one
  b : BrM other → ∀ x ∈ underL, x ∈ other → x ∈ one
theorem cov_of {one other : List String} (h : lackM one other = []) : Cov one other := by
  have key : ∀ x, x ∈ other → isStr other x = true → x ∈ one := fun x hx hs => by
    by_cases hi : x ∈ strengthsM one
    · exact (List.mem_filter.mp hi).1
    · have : x ∈ lackM one other := List.mem_filter.mpr ⟨List.mem_filter.mpr ⟨hx, hs⟩, by simp [hi]⟩
      rw [h] at this; cases this
  refine ⟨fun x hx ho => key x ho ?_, fun hb x hx ho => key x ho ?_⟩
  · simp only [List.mem_cons, List.mem_nil_iff, or_false] at hx
    rcases hx with rfl | rfl | rfl | rfl | rfl | rfl <;> simp [isStr, lookerL, underL]
  · have hb' : (decide ("ifs" ∈ other) || decide ("whiles" ∈ other)) = true := by simpa [BrM] using hb
    simp only [underL, List.mem_cons, List.mem_nil_iff, or_false] at hx
    unfold isStr
    rw [hb', Bool.or_true, Bool.and_true]
    rcases hx with rfl | rfl | rfl <;> simp [lookerL]
theorem stands_mono {one other : List String} (C : Cov one other) {so : List Bool} {und : Bool} (hu : und = true → BrM other) (a : Sm) (h : standsM other so und a = true) : standsM one so und a = true := by
  have h1 := C.a "straight" (by simp); have h2 := C.a "ifs" (by simp); have h3 := C.a "whiles" (by simp); have h4 := C.a "tells" (by simp); have h5 := C.a "splits" (by simp); have h6 := C.a "marks" (by simp)
  have g1 : und = true → "under" ∈ other → "under" ∈ one := fun z => C.b (hu z) "under" (by simp [underL])
  have g2 : und = true → "prints" ∈ other → "prints" ∈ one := fun z => C.b (hu z) "prints" (by simp [underL])
  have g3 : und = true → "stops" ∈ other → "stops" ∈ one := fun z => C.b (hu z) "stops" (by simp [underL])
  cases und <;> cases a <;> simp [standsM, intoM] at h g1 g2 g3 ⊢ <;> grind
theorem leaf_mono {one other : List String} (C : Cov one other) {so : List Bool} {und : Bool} (hu : und = true → BrM other) (a : Sm) (e : (if standsM other so und a = true then none else some ([] : List Nat)) = none) : (if standsM one so und a = true then none else some ([] : List Nat)) = none := by
  split at e
  · rename_i hs
    rw [if_pos (stands_mono C hu _ hs)]
  · cases e
mutual
theorem fault_mono {one other : List String} (C : Cov one other) {so : List Bool} : ∀ (a : Sm) (und : Bool), (und = true → BrM other) → faultM other so und a = none → faultM one so und a = none
  | .ite x p q, und, hu, e => by
    rw [faultM] at e ⊢
    split at e
    · rename_i hs
      rw [if_pos (stands_mono C hu _ hs)]
      have hu2 : (und || hid so x) = true → BrM other := fun z => by
        cases hh : hid so x with
        | true => simp [standsM, hh] at hs; exact .inl hs
        | false => rw [hh, Bool.or_false] at z; exact hu z
      cases e1 : faultsM other so (und || hid so x) 0 p with
      | some y => rw [e1] at e; cases e
      | none =>
        rw [e1] at e
        rw [faults_mono C p _ 0 hu2 e1]
        cases e2 : faultsM other so (und || hid so x) 0 q with
        | some y => rw [e2] at e; cases e
        | none => rw [faults_mono C q _ 0 hu2 e2]; rfl
    · cases e
  | .times n b, und, hu, e => by
    rw [faultM] at e ⊢
    split at e
    · rename_i hs
      rw [if_pos (stands_mono C hu _ hs)]
      exact faults_mono C b und 0 hu e
    · cases e
  | .whl x b, und, hu, e => by
    rw [faultM] at e ⊢
    split at e
    · rename_i hs
      rw [if_pos (stands_mono C hu _ hs)]
      refine faults_mono C b _ 0 (fun z => ?_) e
      cases hh : hid so x with
      | true => simp [standsM, hh] at hs; exact .inr hs
      | false => rw [hh, Bool.or_false] at z; exact hu z
    · cases e
  | .sum x ts n, und, hu, e => by rw [faultM] at e ⊢; exact leaf_mono C hu _ e
  | .print x, und, hu, e => by rw [faultM] at e ⊢; exact leaf_mono C hu _ e
  | .stop, und, hu, e => by rw [faultM] at e ⊢; exact leaf_mono C hu _ e
  | .split x y, und, hu, e => by rw [faultM] at e ⊢; exact leaf_mono C hu _ e
  | .keep t x y, und, hu, e => by rw [faultM] at e ⊢; exact leaf_mono C hu _ e
  | .fetch t x y, und, hu, e => by rw [faultM] at e ⊢; exact leaf_mono C hu _ e
theorem faults_mono {one other : List String} (C : Cov one other) {so : List Bool} : ∀ (b : List Sm) (und : Bool) (k : Nat), (und = true → BrM other) → faultsM other so und k b = none → faultsM one so und k b = none
  | [], und, k, hu, e => by rw [faultsM]
  | a :: b, und, k, hu, e => by
    rw [faultsM] at e ⊢
    cases e1 : faultM other so und a with
    | some y => rw [e1] at e; cases e
    | none =>
      rw [e1] at e
      rw [fault_mono C a und hu e1]
      exact faults_mono C b und (k + 1) hu e
end
/-- the parting program: other lets it by, one does not -/
theorem part_lets {one other : List String} {w : String} {r : List String} (ho : other.Sublist wordsL) (h : lackM one other = w :: r) : faultsM other [false, true] false 0 (partM other w) = none ∧ (faultsM one [false, true] false 0 (partM other w)).isNone = false := by
  have hm : w ∈ lackM one other := by rw [h]; exact List.mem_cons_self
  obtain ⟨h1, h2⟩ := List.mem_filter.mp hm
  obtain ⟨h3, h4⟩ := List.mem_filter.mp h1
  have h5 : w ∈ one → isStr one w = false := fun z => by
    cases q : isStr one w with
    | false => rfl
    | true => simp [strengthsM, List.mem_filter, z, q] at h2
  have hw := ho.subset h3
  clear hm h1 h2 h
  simp only [wordsL, List.mem_cons, List.mem_nil_iff, or_false] at hw
  rcases hw with rfl | rfl | rfl | rfl | rfl | rfl | rfl | rfl | rfl | rfl | rfl | rfl <;> simp [isStr, lookerL, underL] at h4 h5 <;> (try (by_cases hi : "ifs" ∈ other)) <;> simp_all [partM, stmM, faultsM, faultM, standsM, intoM, hid] <;> grind
theorem part_ok {one other : List String} {w : String} {r : List String} (ho : other.Sublist wordsL) (h : lackM one other = w :: r) : smsOk 2 2 (partM other w) ∧ (partM other w).length ≤ 1 ∧ w ∈ wordsL ∧ w ∉ lookerL := by
  have hm : w ∈ lackM one other := by rw [h]; exact List.mem_cons_self
  obtain ⟨h1, h2⟩ := List.mem_filter.mp hm
  obtain ⟨h3, h4⟩ := List.mem_filter.mp h1
  have hl : w ∉ lookerL := by
    unfold isStr at h4
    intro z
    simp [z] at h4
  refine ⟨?_, ?_, ho.subset h3, hl⟩
  · unfold partM stmM
    repeat' split
    all_goals simp [smsOk, smOk]
  · unfold partM
    repeat' split
    all_goals simp
end Fw

set_option Elab.async false
set_option linter.all false
set_option maxRecDepth 100000
set_option maxHeartbeats 4000000
/-! Lw14: lists of words, by data. -/
namespace Fw
open PySem PySem.Spec PyProof.Rows L2
theorem compL_strs {tt : FT} {i : Nat} {δ : Fr} {s : S} (p : String → Bool) (hi : i < δ.length) : ∀ (ws : List String), (∀ x ∈ ws, tt (δ.set i (some (strD x))) s = some (p x, s)) → compL (gtName i) tt (fVar i) (ws.map strD) δ s = some ((ws.filter p).map strD, s)
  | [], _ => rfl
  | x :: ws, h => by
    have ih := compL_strs p hi ws fun y hy => h y (List.mem_cons_of_mem _ hy)
    show (some (δ.set i (some (strD x)))).bind _ = _
    rw [Option.bind_some, h x List.mem_cons_self, Option.bind_some]
    cases hp : p x with
    | false =>
      rw [if_neg Bool.false_ne_true, List.filter_cons_of_neg (by rw [hp]; exact Bool.false_ne_true)]
      exact ih
    | true =>
      have hv : fVar i (δ.set i (some (strD x))) s = some (strD x, s) := by simp [hi]
      rw [if_pos rfl, hv, Option.bind_some, ih, List.filter_cons_of_pos hp]
      rfl
@[simp high] theorem dNotIn_lstrs (y : String) (ws : List String) (s : S) : dNotIn (.str (Str.ofString y)) (.lst (ws.map strD)) s = some (.bl (!decide (y ∈ ws))) := by
  show (if (flatD (strD y) && (ws.map strD).all flatD) = true then some (D.bl (!(ws.map strD).any fun z => eqF z (strD y))) else none) = _
  rw [strs_flat, strs_any]
  rfl
theorem dNotIn_under (y : String) (s : S) : dNotIn (.str (Str.ofString y)) (.lst [.str (Str.ofString "prints"), .str (Str.ofString "stops"), .str (Str.ofString "under")]) s = some (.bl (!decide (y ∈ underL))) := dNotIn_lstrs y underL s
theorem seen_cut : ∀ x ∈ wordsL, decide (cutS (Str.ofString x) (some (-4)) none = Str.ofString "seen") = decide (x ∈ lookerL) := by decide +kernel
theorem word_len : ∀ x ∈ wordsL, okLen (Str.ofString x).length = true := by decide +kernel
theorem py_strs : ∀ ws : List String, (∀ x ∈ ws, PyData.canLay0 (.str (Str.ofString x)) = true) → ∃ ps, toPys (ws.map strD) = some ps ∧ PyData.canLayAll0 ps = true ∧ PyData.depthAll ps = 0 ∧ ps.length = ws.length
  | [], _ => ⟨[], rfl, rfl, rfl, rfl⟩
  | x :: ws, h => by
    obtain ⟨ps, h1, h2, h3, h4⟩ := py_strs ws fun y hy => h y (List.mem_cons_of_mem _ hy)
    refine ⟨.str (Str.ofString x) :: ps, ?_, ?_, ?_, by rw [List.length_cons, List.length_cons, h4]⟩
    · rw [List.map_cons]; show (toPy (strD x)).bind _ = _
      show (some (PyData.str (Str.ofString x))).bind _ = _
      rw [Option.bind_some, h1]; rfl
    · show (PyData.canLay0 (.str (Str.ofString x)) && PyData.canLayAll0 ps) = true
      rw [h x List.mem_cons_self, h2]; rfl
    · show max (PyData.depth (.str (Str.ofString x))) (PyData.depthAll ps) = 0
      rw [h3]; rfl
theorem words_lay : ∀ x ∈ wordsL, PyData.canLay0 (.str (Str.ofString x)) = true := by decide +kernel
theorem shaped_strs {ws : List String} {ps : List PyData} (h2 : PyData.canLayAll0 ps = true) (h3 : PyData.depthAll ps = 0) : SeqAt.shaped (.list ps) = true := by
  have hc : PyData.canLay0 (.list ps) = true := h2
  have hd : PyData.depth (.list ps) = 1 := by show PyData.depthAll ps + 1 = 1; rw [h3]
  unfold SeqAt.shaped
  rw [hc, hd]; rfl
theorem deep_strs {ws : List String} (h : ∀ x ∈ ws, x ∈ wordsL) : deepD (.lst (ws.map strD)) (.lst (ws.map strD)) = some true := by
  obtain ⟨ps, h1, h2, h3, _⟩ := py_strs ws fun x hx => words_lay x (h x hx)
  have e : toPy (.lst (ws.map strD)) = some (.list ps) := by show (toPys (ws.map strD)).map _ = _; rw [h1]; rfl
  have hc : PyData.canLay0 (.list ps) = true := h2
  unfold deepD
  rw [e]
  dsimp only
  rw [shaped_strs (ws := ws) h2 h3, if_pos (show (true && true) = true from rfl), SeqAt.eqv_refl _ hc]
theorem deep_nil {ws : List String} (h : ∀ x ∈ ws, x ∈ wordsL) : deepD (.lst (ws.map strD)) (.lst []) = some ws.isEmpty := by
  obtain ⟨ps, h1, h2, h3, h4⟩ := py_strs ws fun x hx => words_lay x (h x hx)
  have e : toPy (.lst (ws.map strD)) = some (.list ps) := by show (toPys (ws.map strD)).map _ = _; rw [h1]; rfl
  have e2 : toPy (.lst []) = some (.list []) := rfl
  unfold deepD
  rw [e, e2]
  dsimp only
  rw [shaped_strs (ws := ws) h2 h3, if_pos (by rfl)]
  cases ws with
  | nil => cases ps with
    | nil => rfl
    | cons _ _ => cases h4
  | cons x ws => cases ps with
    | nil => cases h4
    | cons p ps => rfl
theorem lack_sub {one other : List String} (h : other.Sublist wordsL) : ∀ x ∈ lackM one other, x ∈ wordsL := fun x hx => h.subset (List.mem_filter.mp (List.mem_filter.mp hx).1).1
/-- ascending words are a part of the words -/
theorem sub_of : ∀ (L l : List Str), L.Pairwise (fun a b => leT a b = true) → L.Nodup → l.Pairwise (fun a b => leT a b = true) → l.Nodup → (∀ x ∈ l, x ∈ L) → l.Sublist L
  | [], l, _, _, _, _, h => by
    cases l with
    | nil => exact .slnil
    | cons x l => exact absurd (h x List.mem_cons_self) List.not_mem_nil
  | y :: L, [], _, _, _, _, _ => List.nil_sublist _
  | y :: L, x :: l, p1, n1, p2, n2, h => by
    obtain ⟨p1a, p1b⟩ := List.pairwise_cons.mp p1
    obtain ⟨n1a, n1b⟩ := List.nodup_cons.mp n1
    obtain ⟨p2a, p2b⟩ := List.pairwise_cons.mp p2
    obtain ⟨n2a, n2b⟩ := List.nodup_cons.mp n2
    by_cases hx : x = y
    · subst hx
      refine .cons₂ x (sub_of L l p1b n1b p2b n2b fun z hz => ?_)
      rcases List.mem_cons.mp (h z (List.mem_cons_of_mem _ hz)) with rfl | q
      · exact absurd hz n2a
      · exact q
    · have hxL : x ∈ L := (List.mem_cons.mp (h x List.mem_cons_self)).resolve_left hx
      refine .cons y (sub_of L (x :: l) p1b n1b p2 n2 fun z hz => ?_)
      rcases List.mem_cons.mp (h z hz) with rfl | q
      · rcases List.mem_cons.mp hz with rfl | hz
        · exact absurd rfl hx
        · exact absurd (leT_anti (p2a _ hz) (p1a _ hxL)) hx
      · exact q
end Fw

set_option Elab.async false
set_option linter.all false
set_option maxRecDepth 100000
set_option maxHeartbeats 4000000
/-! Ss7: two items of owned dicts are stored at once. -/
namespace Fw
open PySem PySem.Spec PyProof.Rows L2
section
variable {X : Cx} {e o i o' i' : Expr} {fe fo fi fo' fi' : FE} {pos pos' pos2 tpos : Pos} {k : Nat}
/-- o[i] = y -/
def kItP (s : S) (a : Addr) (z : Str) (y : D) : Option OO → Option S | some (.dct kvs) => if okLen kvs.length = true then some (supd s a (.dct (putD kvs z y))) else none | _ => none
@[simp] theorem kItP_s {s : S} {a : Addr} {z : Str} {y : D} {kvs : List (Str × D)} : kItP s a z y (some (.dct kvs)) = if okLen kvs.length = true then some (supd s a (.dct (putD kvs z y))) else none := rfl
def kItQ (y o : D) : Option (D × S) → Option S | some (.str z, s) => (match o with | .ref a => kItP s a z y (s a) | _ => none) | _ => none
@[simp] theorem kItQ_s {y : D} {a : Addr} {z : Str} {s : S} : kItQ y (.ref a) (some (.str z, s)) = kItP s a z y (s a) := rfl
def kIt (fi : FE) (δ : Fr) (y : D) : Option (D × S) → Option S | some (o, s) => kItQ y o (fi δ s) | none => none
@[simp] theorem kIt_s {fi : FE} {δ : Fr} {y o : D} {s : S} : kIt fi δ y (some (o, s)) = kItQ y o (fi δ s) := rfl
def kDD2 (fo' fi' : FE) (δ : Fr) (y : D) : Option S → Option (Out × S) | some s => (kIt fi' δ y (fo' δ s)).map fun s => (.nx δ, s) | none => none
@[simp] theorem kDD2_s {fo' fi' : FE} {δ : Fr} {y : D} {s : S} : kDD2 fo' fi' δ y (some s) = (kIt fi' δ y (fo' δ s)).map fun s => (.nx δ, s) := rfl
def kDD (fo fi fo' fi' : FE) (δ : Fr) : Option (D × S) → Option (Out × S) | some (.tup [x, y], s) => kDD2 fo' fi' δ y (kIt fi δ x (fo δ s)) | _ => none
@[simp] theorem kDD_s {x y : D} {δ : Fr} {s : S} : kDD fo fi fo' fi' δ (some (.tup [x, y], s)) = kDD2 fo' fi' δ y (kIt fi δ x (fo δ s)) := rfl
def fAsgDD (fe fo fi fo' fi' : FE) : FS := fun δ s => kDD fo fi fo' fi' δ (fe δ s)
@[simp] theorem fAsgDD_e {δ : Fr} {s : S} : fAsgDD fe fo fi fo' fi' δ s = kDD fo fi fo' fi' δ (fe δ s) := rfl
/-- one such store as a target -/
theorem sub_put {K : PySem.W.Frag} {σ : L2.St} {H : Hp} {h : Addr → Bool} {δ : Fr} {s s' : S} {v : V} {y : D} {Q : L2.St → Hp → Prop} (er : EnvR K (hide h H) σ δ) (si : SI K h s H) (rv : Rep K (hide h H) v y) (q : kIt fi δ y (fo δ s) = some s')
    (w : ∀ H', Step K h s H s' H' → Q σ H') : tD K fo σ H fun x H1 => tD K fi σ H1 fun z H2 => ∃ (a : Addr) (H3 : Hp), x = .ref a ∧ DPut H2 a z v H3 ∧ Q σ H3 := by
  cases e1 : fo δ s with
  | none => rw [e1] at q; cases q
  | some p1 =>
    obtain ⟨d1, s1⟩ := p1
    rw [e1] at q
    have q2 : kItQ y d1 (fi δ s1) = some s' := q
    refine ⟨h, s, δ, d1, s1, er, si, e1, fun vo H1 st1 r1 => ?_⟩
    cases e2 : fi δ s1 with
    | none => rw [e2] at q2; cases q2
    | some p2 =>
      obtain ⟨d2, s2⟩ := p2
      rw [e2] at q2
      refine ⟨h, s1, δ, d2, s2, er.mono (st1.ext si), st1.si, e2, fun vi H2 st2 r2 => ?_⟩
      cases d2 with
      | str z =>
        cases d1 with
        | ref a =>
          have q3 : kItP s2 a z y (s2 a) = some s' := q2
          unfold kItP at q3
          split at q3
          · rename_i kvs e
            split at q3
            · rename_i hl
              cases q3
              obtain ⟨es, e3, rk⟩ := st2.si.ob _ _ e
              have st := st1.trans st2
              have hln : es.length = kvs.length := by have := congrArg List.length rk.1; simpa using this
              have st4 := st2.si.putL (o := .dK (putK es (Sum.inr z) v)) (w := .dct (putD kvs z y)) e ⟨_, rfl, repkv_put (st2.rep st1.si (st1.rep si rv)) rk⟩
              exact ⟨a, _, rep_ref (st2.rep st1.si r1), by rw [rep_str r2]; exact DPut.k (k := Sum.inr z) e3 (by rw [hln]; exact okLen_lt hl), w _ (st.trans st4)⟩
            · cases q3
          · cases q3
        | _ => cases q2
      | _ => cases d1 <;> cases q2
theorem ds_asgDD (hu : X.A.units + 1 < cLine) (he : PE X e (tD X.K fe)) (ho : PE X o (tD X.K fo)) (hi : PE X i (tD X.K fi)) (ho' : PE X o' (tD X.K fo')) (hi' : PE X i' (tD X.K fi')) (hc : X.calm = true := by rfl)
    (ha : ∀ v, assign (.Subscript o i pos) X.env v = (holding [v] (eval o X.env) >>= fun x => holding [v, x] (eval i X.env) >>= fun y => standAt pos >>= fun _ => holding [v, x, y] (setItem x y v) >>= fun _ => release [v, x, y] []) := by intro _; rfl)
    (ha' : ∀ v, assign (.Subscript o' i' pos2) X.env v = (holding [v] (eval o' X.env) >>= fun x => holding [v, x] (eval i' X.env) >>= fun y => standAt pos2 >>= fun _ => holding [v, x, y] (setItem x y v) >>= fun _ => release [v, x, y] []) := by intro _; rfl)
    (hn : (assignEach [.Subscript o i pos, .Subscript o' i' pos2] X.env).length = 2 := by rfl) (hst : (assignEach [.Subscript o i pos, .Subscript o' i' pos2] X.env).findIdx? (·.1) = none := by rfl)
    (h2 : (assignEach [.Subscript o i pos, .Subscript o' i' pos2] X.env).map (·.2) = assign (.Subscript o i pos) X.env :: (assignEach [.Subscript o' i' pos2] X.env).map (·.2) := by rfl) (h3 : (assignEach [.Subscript o' i' pos2] X.env).map (·.2) = assign (.Subscript o' i' pos2) X.env :: (assignEach [] X.env).map (·.2) := by rfl)
    (hs : swapsWithSole [.Tuple [.Subscript o i pos, .Subscript o' i' pos2] k tpos] e pos'.line X.env = pure false := by rfl) (hw : swappedStores [.Tuple [.Subscript o i pos, .Subscript o' i' pos2] k tpos] e X.env = pure none := by rfl)
    (h1 : (assignEach [.Tuple [.Subscript o i pos, .Subscript o' i' pos2] k tpos] X.env).map (·.2) = [assign (.Tuple [.Subscript o i pos, .Subscript o' i' pos2] k tpos) X.env] := by rfl) :
    PS X (.Assign [.Tuple [.Subscript o i pos, .Subscript o' i' pos2] k tpos] e pos') (tDS X.K (fAsgDD fe fo fi fo' fi')) :=
  imp_s (ps_asg he (pg_tup hc (pgs_cons (pg_sub ho hi (set_dict hu) ha) (pgs_cons (pg_sub ho' hi' (set_dict hu) ha') pgs_nil h3) h2) hn hst) hs hw h1) fun D σ H ⟨h, s, δ, out, s', er, si, q, w⟩ => by
  have q' : kDD fo fi fo' fi' δ (fe δ s) = some (out, s') := q
  unfold kDD at q'
  split at q'
  rotate_left
  · cases q'
  rename_i dx dy s1 e1
  refine ⟨h, s, δ, _, s1, er, si, e1, fun vv H1 st1 r1 => ?_⟩
  cases r1 with
  | tup hq rs =>
    rename_i t xs
    obtain ⟨v1, v2, rfl, r1, r2⟩ := reps2 rs
    refine ⟨t, [v1, v2], rfl, sqt_un hq.sq, rfl, v1, [v2], rfl, ?_⟩
    cases e2 : kIt fi δ dx (fo δ s1) with
    | none => rw [e2] at q'; cases q'
    | some s2 =>
      rw [e2] at q'
      obtain ⟨s3, e3, e4⟩ := map_some (show (kIt fi' δ dy (fo' δ s2)).map _ = some (out, s') from q')
      cases e4
      have er1 := er.mono (st1.ext si)
      refine sub_put (Q := fun σ' H' => gCons (gSub (tD X.K fo') (tD X.K fi') rSetD) gNil [v2] σ' H' D.nx) er1 st1.si r1 e2 fun H2 st2 => ⟨v2, [], rfl, ?_⟩
      exact sub_put (Q := fun σ' H' => gNil [] σ' H' D.nx) (er1.mono (st2.ext st1.si)) st2.si (st2.rep st1.si r2) e3 fun H3 st3 => ⟨rfl, w H3 (st1.trans (st2.trans st3)) σ (((er1.mono (st2.ext st1.si))).mono (st3.ext st2.si))⟩
end
end Fw

set_option Elab.async false
set_option linter.all false
set_option maxRecDepth 100000
set_option maxHeartbeats 4000000
/-! Lw15: ascending words out of others. -/
namespace Fw
open PySem PySem.Spec PyProof.Rows L2
theorem fold_mem : ∀ (xs l : List Str) (y : Str), y ∈ xs.foldl addT l ↔ y ∈ l ∨ y ∈ xs
  | [], l, y => by simp
  | x :: xs, l, y => by
    rw [List.foldl_cons, fold_mem xs (addT l x) y]
    unfold addT
    split
    · rename_i h
      constructor
      · rintro (q | q)
        · exact .inl q
        · exact .inr (List.mem_cons_of_mem _ q)
      · rintro (q | q)
        · exact .inl q
        · rcases List.mem_cons.mp q with rfl | q
          · exact .inl h
          · exact .inr q
    · simp only [List.mem_cons]
      constructor
      · rintro ((q | q) | q)
        · exact .inr (.inl q)
        · exact .inl q
        · exact .inr (.inr q)
      · rintro (q | q | q)
        · exact .inl (.inr q)
        · exact .inl (.inl q)
        · exact .inr q
theorem fold_nd : ∀ (xs l : List Str), l.Nodup → (xs.foldl addT l).Nodup
  | [], l, h => h
  | x :: xs, l, h => by
    rw [List.foldl_cons]
    refine fold_nd xs (addT l x) ?_
    unfold addT
    split
    · exact h
    · rename_i hx
      exact List.nodup_cons.mpr ⟨hx, h⟩
theorem words_nodup' : (wordsL.map Str.ofString).Nodup := by decide +kernel
theorem words_up' : (wordsL.map Str.ofString).Pairwise fun a b => leT a b = true := sortedS_pw (by decide +kernel)
theorem srt_sub {xs : List String} (h : ∀ x ∈ xs, x ∈ wordsL) : ∃ vs : List String, vs.Sublist wordsL ∧ srtT (xs.map Str.ofString) = vs.map Str.ofString := by
  have hp := List.mergeSort_perm (onceT (xs.map Str.ofString)) leT
  have hs : (srtT (xs.map Str.ofString)).Sublist (wordsL.map Str.ofString) := by
    refine sub_of _ _ words_up' words_nodup' (List.pairwise_mergeSort leT_trans leT_total _) (hp.nodup_iff.mpr (fold_nd _ [] List.nodup_nil)) fun x hx => ?_
    have hx1 : x ∈ onceT (xs.map Str.ofString) := hp.mem_iff.mp hx
    have hx2 := (fold_mem (xs.map Str.ofString) [] x).mp hx1
    rcases hx2 with q | q
    · cases q
    · obtain ⟨y, hy, rfl⟩ := List.mem_map.mp q
      exact List.mem_map.mpr ⟨y, h y hy, rfl⟩
  obtain ⟨vs, h1, h2⟩ := List.sublist_map_iff.mp hs
  exact ⟨vs, h1, h2⟩
theorem txts_strsL : ∀ ws : List String, txtsD (ws.map strD) = some (ws.map Str.ofString)
  | [] => rfl
  | w :: ws => by rw [List.map_cons, List.map_cons]; show (txtsD (ws.map strD)).map _ = _; rw [txts_strsL ws]; rfl
theorem plain_strs (n : Nat) {ws : List String} (h : ws.length ≤ 10000000) : plainN (n + 1) (.tup (ws.map strD)) := by
  refine ⟨by rw [List.length_map]; exact h, fun d hd => ?_⟩
  obtain ⟨x, _, rfl⟩ := List.mem_map.mp hd
  cases n <;> exact True.intro
theorem plain_part (other : List String) (w : String) : plainN 8 (.tup [sortsD [false, true], bodyD (partM other w)]) := by
  unfold partM stmM
  repeat' split
  all_goals simp [bodyD, smD, smsD, plainN, natD, natsD, sortsD, sortD]
theorem lack_self (one : List String) : lackM one one = [] := by
  unfold lackM
  rw [List.filter_eq_nil_iff]
  intro x hx
  simp [hx]
end Fw

set_option Elab.async false
set_option linter.all false
set_option maxRecDepth 100000
set_option maxHeartbeats 4000000
/-! Lk1: looks, by data. -/
namespace Fw
open PySem PySem.Spec PyProof.Rows L2
@[simp] def dMin2 : GL := fun ds _ => match ds with
  | [.int i, .int j] => some (.int (if j < i then j else i))
  | _ => none
theorem g_min2 {K : PySem.W.Frag} : GCall K (fun xs H Q => ∃ i j, xs = [.int i, .int j] ∧ Q (.int (if j < i then j else i)) H) dMin2 := by
  intro h s H vs ds d Q si rs q w
  unfold dMin2 at q
  split at q
  · cases q
    cases rs with
    | cons r rs => cases rs with
      | cons r2 rs => cases rs with
        | nil => exact ⟨_, _, by rw [rep_int r, rep_int r2], w _ H (Step.refl si) (.int _)⟩
  · cases q
/-- what a run ends with -/
structure Ou where
  h : String
  n : List Nat
  o : List Nat
  e : List Nat
  p : List Nat
  t : Nat
def ouD (x : Ou) : D := .tup [strD x.h, natsD x.n, .tup [natsD x.o, natsD x.e], natsD x.p, natD x.t]
def runO (b : List Sm) (ns : List Nat) : Ou :=
  let r := exsM b (w0 ns)
  ⟨howS r.2, r.1.nums, r.1.op, r.1.sec, r.1.prints, r.1.steps⟩
theorem runD_ou (b : List Sm) (ns : List Nat) : runD b ns = ouD (runO b ns) := rfl
def opensM (so : List Bool) (ns : List Nat) : List Nat := ((so.zip ns).filter fun x => !x.1).map (·.2)
def endS (x : Ou) : Bool := decide (x.h = "ends") || decide (x.h = "stops")
def sameM (ws : List String) (so : List Bool) (x y : Ou) : Bool :=
  if opensM so x.n ≠ opensM so y.n then false else if x.o ≠ y.o then false else if "steps seen" ∈ ws ∧ x.t ≠ y.t then false else !decide ("prints seen" ∈ ws) || decide (x.p = y.p)
def beginM (x y : List Nat) : Bool := decide (x.take (min x.length y.length) = y.take (min x.length y.length))
def lookM (ws : List String) (so : List Bool) (x y : Ou) : Bool :=
  if "ends seen" ∈ ws ∧ x.h ≠ y.h then false else if endS x && endS y then sameM ws so x y else !decide ("prints seen" ∈ ws) || beginM x.p y.p
theorem toPys_nats : ∀ ns : List Nat, toPys (ns.map natD) = some (ns.map fun (n : Nat) => PyData.int (n : Int))
  | [] => rfl
  | n :: ns => by
    rw [List.map_cons]
    show (toPy (natD n)).bind _ = _
    rw [show toPy (natD n) = some (PyData.int (n : Int)) from rfl, Option.bind_some, toPys_nats ns]
    rfl
theorem lay_nats : ∀ ns : List Nat, PyData.canLayAll0 (ns.map fun (n : Nat) => PyData.int (n : Int)) = true
  | [] => rfl
  | n :: ns => by
    show (PyData.canLay0 (.int (n : Int)) && PyData.canLayAll0 (ns.map fun (n : Nat) => PyData.int (n : Int))) = true
    rw [lay_nats ns]; rfl
theorem depth_nats : ∀ ns : List Nat, PyData.depthAll (ns.map fun (n : Nat) => PyData.int (n : Int)) = 0
  | [] => rfl
  | n :: ns => by
    show max (PyData.depth (.int (n : Int))) (PyData.depthAll (ns.map fun (n : Nat) => PyData.int (n : Int))) = 0
    rw [depth_nats ns]; rfl
theorem eqv_nats : ∀ ns ms : List Nat, PyData.eqvAll (ns.map fun (n : Nat) => PyData.int (n : Int)) (ms.map fun (n : Nat) => PyData.int (n : Int)) = decide (ns = ms)
  | [], [] => rfl
  | [], _ :: _ => rfl
  | _ :: _, [] => rfl
  | n :: ns, m :: ms => by
    show (((n : Int) == (m : Int)) && PyData.eqvAll (ns.map fun (n : Nat) => PyData.int (n : Int)) (ms.map fun (n : Nat) => PyData.int (n : Int))) = _
    rw [eqv_nats ns ms]
    by_cases h1 : n = m
    · subst h1
      by_cases h2 : ns = ms
      · subst h2; simp
      · simp [h2]
    · have h3 : ¬ ((n : Int) = (m : Int)) := by omega
      simp [h1, h3]
theorem deep_natsL (ns ms : List Nat) : deepD (.lst (ns.map natD)) (.lst (ms.map natD)) = some (decide (ns = ms)) := by
  have e : ∀ ks : List Nat, toPy (.lst (ks.map natD)) = some (.list (ks.map fun (n : Nat) => PyData.int (n : Int))) := fun ks => by show (toPys _).map _ = _; rw [toPys_nats]; rfl
  have sh : ∀ ks : List Nat, SeqAt.shaped (.list (ks.map fun (n : Nat) => PyData.int (n : Int))) = true := fun ks => by
    have hc : PyData.canLay0 (.list (ks.map fun (n : Nat) => PyData.int (n : Int))) = true := lay_nats ks
    have hd : PyData.depth (.list (ks.map fun (n : Nat) => PyData.int (n : Int))) = 1 := by show PyData.depthAll _ + 1 = 1; rw [depth_nats]
    unfold SeqAt.shaped
    rw [hc, hd]; rfl
  unfold deepD
  rw [e, e]
  dsimp only
  rw [sh, sh, if_pos (by rfl)]
  exact congrArg some (eqv_nats ns ms)
theorem deep_natsT (ns ms : List Nat) : deepD (.tup (ns.map natD)) (.tup (ms.map natD)) = some (decide (ns = ms)) := by
  have e : ∀ ks : List Nat, toPy (.tup (ks.map natD)) = some (.tuple (ks.map fun (n : Nat) => PyData.int (n : Int))) := fun ks => by show (toPys _).map _ = _; rw [toPys_nats]; rfl
  have sh : ∀ ks : List Nat, SeqAt.shaped (.tuple (ks.map fun (n : Nat) => PyData.int (n : Int))) = true := fun ks => by
    have hc : PyData.canLay0 (.tuple (ks.map fun (n : Nat) => PyData.int (n : Int))) = true := lay_nats ks
    have hd : PyData.depth (.tuple (ks.map fun (n : Nat) => PyData.int (n : Int))) = 1 := by show PyData.depthAll _ + 1 = 1; rw [depth_nats]
    unfold SeqAt.shaped
    rw [hc, hd]; rfl
  unfold deepD
  rw [e, e]
  dsimp only
  rw [sh, sh, if_pos (by rfl)]
  exact congrArg some (eqv_nats ns ms)
theorem compL_opens {i j : Nat} {δ : Fr} {s : S} (hi : i < δ.length) (hj : j < δ.length) (hij : i ≠ j) : ∀ (so : List Bool) (ns : List Nat),
    compL (gtPair i j) (fT (f2 dEq (fVar i) (fC (.str (Str.ofString "open"))))) (fVar j) (zipD (so.map sortD) (ns.map natD)) δ s = some ((opensM so ns).map natD, s)
  | [], ns => by cases ns <;> rfl
  | b :: so, [] => rfl
  | b :: so, n :: ns => by
    have ih := compL_opens (s := s) hi hj hij so ns
    rw [List.map_cons, List.map_cons, zipD, compL]
    have hv : fVar i ((δ.set i (some (sortD b))).set j (some (natD n))) s = some (sortD b, s) := by
      have q : ((δ.set i (some (sortD b))).set j (some (natD n)))[i]? = some (some (sortD b)) := by rw [List.getElem?_set_ne (Ne.symm hij), List.getElem?_set_self hi]
      rw [fVar_e, q]; rfl
    have hw : fVar j ((δ.set i (some (sortD b))).set j (some (natD n))) s = some (natD n, s) := by
      have q : ((δ.set i (some (sortD b))).set j (some (natD n)))[j]? = some (some (natD n)) := List.getElem?_set_self (by rw [List.length_set]; exact hj)
      rw [fVar_e, q]; rfl
    have ht : fT (f2 dEq (fVar i) (fC (.str (Str.ofString "open")))) ((δ.set i (some (sortD b))).set j (some (natD n))) s = some (!b, s) := by
      show ((f2 dEq (fVar i) (fC (.str (Str.ofString "open")))) ((δ.set i (some (sortD b))).set j (some (natD n))) s).bind _ = _
      rw [f2_e, hv]
      cases b <;> simp [sortD, strD]
    rw [show gtPair i j (.tup [sortD b, natD n]) δ = some ((δ.set i (some (sortD b))).set j (some (natD n))) from rfl, Option.bind_some, ht, Option.bind_some]
    cases b with
    | true =>
      rw [if_neg (by simp)]
      exact ih
    | false =>
      rw [if_pos (by rfl), hw, Option.bind_some, ih]
      rfl
/-! ### sights -/
def sightsM (one other : List String) : List String := other.filter fun x => decide (x ∈ lookerL) && !decide (x ∈ one)
theorem sights_sub {one other : List String} (h : other.Sublist wordsL) : ∀ x ∈ sightsM one other, x ∈ wordsL := fun x hx => h.subset (List.mem_filter.mp hx).1
theorem sights_looker {one other : List String} : ∀ x ∈ sightsM one other, x ∈ lookerL ∧ x ∈ other ∧ x ∉ one := fun x hx => by
  obtain ⟨a, b⟩ := List.mem_filter.mp hx
  rw [Bool.and_eq_true] at b
  exact ⟨of_decide_eq_true b.1, a, by simpa using b.2⟩
theorem sights_self (one : List String) : sightsM one one = [] := List.filter_eq_nil_iff.mpr fun x hx => by simp [hx]
def blindM (w : String) : List Sm := if w = "ends seen" then [.whl 1 []] else if w = "prints seen" then [.print 1] else [.ite 1 [.sum 1 [] 0] []]
def unseenD (one other : List String) : D := match sightsM one other with
  | [] => .non
  | w :: _ => .tup [.tup [sortsD [false, true], bodyD (blindM w)], natsD [0, 0], natsD [0, 1]]
/-- the fresh numbers in secret names, the old ones in open names -/
def mixM : List Bool → List Nat → List Nat → List Nat
  | b :: so, n :: ns, f :: fs => (if b then f else n) :: mixM so ns fs
  | _, _, _ => []
theorem mix_len : ∀ (so : List Bool) (ns fs : List Nat), ns.length = so.length → fs.length = so.length → (mixM so ns fs).length = so.length
  | [], _, _, _, _ => rfl
  | b :: so, n :: ns, f :: fs, h1, h2 => congrArg (· + 1) (mix_len so ns fs (Nat.succ.inj h1) (Nat.succ.inj h2))
  | b :: so, [], _, h1, _ => by cases h1
  | b :: so, n :: ns, [], _, h2 => by cases h2
theorem mix_opens : ∀ (so : List Bool) (ns fs : List Nat), ns.length = so.length → fs.length = so.length → opensM so (mixM so ns fs) = opensM so ns
  | [], _, _, _, _ => rfl
  | b :: so, n :: ns, f :: fs, h1, h2 => by
    have ih := mix_opens so ns fs (Nat.succ.inj h1) (Nat.succ.inj h2)
    unfold opensM at ih ⊢
    cases b with
    | true => exact ih
    | false => exact congrArg (n :: ·) ih
  | b :: so, [], _, h1, _ => by cases h1
  | b :: so, n :: ns, [], _, h2 => by cases h2
theorem mix_lt : ∀ (so : List Bool) (ns fs : List Nat), (∀ n ∈ ns, n < 10) → (∀ n ∈ fs, n < 10) → ∀ n ∈ mixM so ns fs, n < 10
  | [], _, _, _, _, n, h => by cases h
  | b :: so, m :: ns, f :: fs, h1, h2, n, h => by
    rcases List.mem_cons.mp h with rfl | h
    · cases b with
      | true => exact h2 _ List.mem_cons_self
      | false => exact h1 _ List.mem_cons_self
    · exact mix_lt so ns fs (fun n q => h1 n (List.mem_cons_of_mem _ q)) (fun n q => h2 n (List.mem_cons_of_mem _ q)) n h
  | b :: so, [], _, _, _, n, h => by cases h
  | b :: so, m :: ns, [], _, _, n, h => by cases h
theorem mix_get : ∀ (so : List Bool) (ns fs : List Nat) (i : Nat), ns.length = so.length → fs.length = so.length → i < so.length → (mixM so ns fs)[i]? = some (if so.getD i false then fs.getD i 0 else ns.getD i 0)
  | b :: so, n :: ns, f :: fs, 0, _, _, _ => by cases b <;> rfl
  | b :: so, n :: ns, f :: fs, i + 1, h1, h2, h3 => mix_get so ns fs i (Nat.succ.inj h1) (Nat.succ.inj h2) (Nat.lt_of_succ_lt_succ h3)
  | [], _, _, i, _, _, h => by cases h
  | b :: so, [], _, _, h1, _, _ => by cases h1
  | b :: so, n :: ns, [], _, _, h2, _ => by cases h2
def mixF (so : List Bool) (ns fs : List Nat) : D → D
  | .int i => natD (if so.getD i.toNat false then fs.getD i.toNat 0 else ns.getD i.toNat 0)
  | _ => .non
theorem mix_eq (so : List Bool) (ns fs : List Nat) (h1 : ns.length = so.length) (h2 : fs.length = so.length) : (rangeD 0 so.length).map (mixF so ns fs) = (mixM so ns fs).map natD := by
  apply List.ext_getElem?
  intro i
  rw [List.getElem?_map, List.getElem?_map, rangeD_get]
  by_cases h : i < so.length
  · rw [if_pos h, mix_get so ns fs i h1 h2 h]
    simp [mixF]
  · rw [if_neg h, List.getElem?_eq_none (by rw [mix_len so ns fs h1 h2]; omega)]
    rfl
end Fw

set_option Elab.async false
set_option linter.all false
set_option maxRecDepth 100000
set_option maxHeartbeats 4000000
/-! Ss8: a block that ends with a return, whatever the state is then; things of one's own inside. -/
namespace Fw
open PySem PySem.Spec PyProof.Rows L2
section
variable {X : Cx} {e a b c o i v : Expr} {es : List Expr} {fe fa fb : FE} {fs : FA} {pos p pos' : Pos}
def tDW (K : PySem.W.Frag) (d : D) (R : Fr → S → Prop) : TS := fun D σ H => ∃ (h : Addr → Bool) (s : S) (δ : Fr), EnvR K (hide h H) σ δ ∧ SI K h s H ∧ R δ s ∧
  ∀ s' H', Step K h s H s' H' → endR K h D H' (.rt d)
theorem dw_of {sts : List Stmt} {f : FS} {d : D} (h2 : PSs X sts (tDS X.K f)) : PSs X sts (tDW X.K d fun δ s => ∃ s', f δ s = some (.rt d, s')) := imp_ss h2 fun D σ H ⟨h, s, δ, er, si, ⟨s', q⟩, w⟩ =>
  ⟨h, s, δ, .rt d, s', er, si, q, fun H' st => w s' H' st⟩
def SeqW (f1 : FS) (d : D) (R : Fr → S → Prop) (δ : Fr) (s : S) : Prop := ∃ o1 s1, f1 δ s = some (o1, s1) ∧ (o1 = .rt d ∨ ∃ δ1, o1 = .nx δ1 ∧ R δ1 s1)
theorem dw_cons {st : Stmt} {sts : List Stmt} {f1 : FS} {d : D} {R : Fr → S → Prop} (h1 : PS X st (tDS X.K f1)) (h2 : PSs X sts (tDW X.K d R)) : PSs X (st :: sts) (tDW X.K d (SeqW f1 d R)) := imp_ss (pss_cons h1 h2) fun D σ H ⟨h, s, δ, er, si, ⟨o1, s1, q1, q⟩, w⟩ => by
  refine ⟨h, s, δ, o1, s1, er, si, q1, fun H1 st1 => ?_⟩
  rcases q with rfl | ⟨δ1, rfl, q⟩
  · exact w _ H1 st1
  · exact fun σ1 er1 => ⟨h, s1, δ1, er1, st1.si, q, fun s' => endR_step st1 (w s')⟩
def GoodLw (i : Nat) (fo : FOw) (R : Fr → S → Prop) (δ : Fr) (s : S) : Prop :=
  (∃ a, s a = none) ∧ (∀ s2, keepS s s2 = s) ∧ ∃ u, fo δ s = some (u, s) ∧ ∀ a, s a = none → R (δ.set i (some (.ref a))) (supd s a u)
open Classical in
noncomputable def fOwnLw (d : D) (i : Nat) (fo : FOw) (R : Fr → S → Prop) : FS := fun δ s => if GoodLw i fo R δ s then some (.rt d, s) else none
theorem fOwnLw_eq {i : Nat} {fo : FOw} {R : Fr → S → Prop} {δ : Fr} {s : S} {d : D} (g : GoodLw i fo R δ s) : fOwnLw d i fo R δ s = some (.rt d, s) := by
  unfold fOwnLw
  rw [if_pos g]
theorem dss_ownLw {st : Stmt} {sts : List Stmt} {i : Nat} {fo : FOw} {d : D} {R : Fr → S → Prop} (h1 : PS X st (tAsg (tO X.K fo) (gName i))) (h2 : PSs X sts (tDW X.K d R)) : PSs X (st :: sts) (tDS X.K (fOwnLw d i fo R)) := imp_ss (pss_cons h1 h2) fun D σ H ⟨h, s, δ, o, s', er, si, q, w⟩ => by
  unfold fOwnLw at q
  split at q
  · rename_i hg
    cases q
    obtain ⟨_, hk, u, e1, q⟩ := hg
    refine ⟨h, s, δ, u, s, er, si, e1, fun p h' H' hp g => ?_⟩
    refine ⟨h', _, _, (er.mono (g.ext si)).set (.ref p) i, g.si, q p (none_of si hp), fun s2 H2 st2 v r => ?_⟩
    obtain ⟨a1, a2⟩ := g.done si st2
    rw [hk] at a1
    exact w H2 a1 v (Rep.mono a2 _ _ r)
  · cases q
def GoodW (i n : Nat) (ks : List Str) (P : Fr → S → Prop) (f : FP) (R : Fr → S → Prop) (δ : Fr) (s : S) : Prop :=
  (∃ a as, as.length = n ∧ Free s (a :: as)) ∧ (∀ a, s a = none → P δ (supd s a (.dct []))) ∧ ∀ a as, as.length = n → Free s (a :: as) → ∃ ds s', f as δ (supd s a (.dct [])) = some (ds, s') ∧ s' a = some (.dct []) ∧
    R (δ.set i (some (.ref a))) (supd s' a (.dct (ks.zip ds)))
theorem dw_ownD {sts : List Stmt} {i n : Nat} {x : Str} {p2 : Pos} {keys : List (Option Expr)} {values : List Expr} {ks : List Str} {P : Fr → S → Prop} {f : FP} {d : D} {R : Fr → S → Prop} (hN : X.N.Nodup) (hi : X.N[i]? = some x) (hx : Loc X.env.scope x)
    (hd : DO X p2 keys values ks n P f) (h2 : PSs X sts (tDW X.K d R)) (hall : keys.all (·.isSome) = true := by rfl) (hl : keys.length = values.length := by rfl) (h0 : keys ≠ [] := by exact fun z => nomatch z) (h15 : keys.length ≤ 15 := by decide) (nd : ks.Nodup := by decide +kernel)
    (hs : swapsWith (.Dict keys values p2) (some (.Name x pos')) pos.line X.env = pure false := by rfl) (hf : X.fn x = true ∨ X.env.scope.names.lookup x = some .local := by first | exact .inl rfl | exact .inr rfl | assumption) :
    PSs X (.Assign [.Name x pos'] (.Dict keys values p2) pos :: sts) (tDW X.K d (GoodW i n ks P f R)) := by
  obtain ⟨trs, t1, t2, t3⟩ := hd.ex
  refine imp_ss (pss_cons (ps_set hN hi hx (pe_disp t1 hall hl h0 h15) hs hf) h2) fun D σ H ⟨h, s, δ, er, si, q, w⟩ => ?_
  obtain ⟨_, ok, q⟩ := q
  intro p hp
  have g0 := Grow.alloc si hp (.dK []) (.dct []) ⟨[], rfl, rfl, .nil⟩
  have sp := none_of si hp
  refine t3 σ _ _ ⟨_, _, δ, er.mono (g0.ext si), g0.si, ok p sp, fun as ds s1 vs h' H' hln fr hn e g r hvl => ?_⟩
  have gg := g0.trans si g
  have fr' : Free s (p :: as) := fr.cons sp
  obtain ⟨ds', s1', e1, e2, e3⟩ := q p as hln fr'
  rw [e] at e1
  cases e1
  obtain ⟨kv0, k1, k2, k3⟩ := gg.si.ob p _ e2
  have hk0 : kv0 = [] := by
    cases kv0 with
    | nil => rfl
    | cons _ _ => cases k2
  subst hk0
  refine ⟨k1, (ks.zip vs).map (fun p => ((Sum.inr p.1 : Key), p.2)), ?_, ?_, ?_⟩
  · rw [List.map_map, List.zip_map_left]
    rfl
  · rw [List.length_map, List.length_zip, hvl]
    omega
  have hm : mergeK [] ((ks.zip vs).map fun p => ((Sum.inr p.1 : Key), p.2)) = (ks.zip vs).map fun p => ((Sum.inr p.1 : Key), p.2) := by
    refine merge_new _ [] ?_
    rw [List.nil_append, List.map_map]
    have e1 : (ks.zip vs).map ((fun x => x.1) ∘ fun p => ((Sum.inr p.1 : Key), p.2)) = ks.map fun k => (Sum.inr k : Key) := by
      have : ((fun x => x.1) ∘ fun (p : Str × V) => ((Sum.inr p.1 : Key), p.2)) = (fun k => (Sum.inr k : Key)) ∘ Prod.fst := rfl
      rw [this, ← List.map_map, List.map_fst_zip (by omega)]
    rw [e1]
    exact List.Pairwise.map _ (fun a b h e => h (Sum.inr.inj e)) nd
  rw [hm]
  have hdl : ds.length = ks.length := by rw [← r.length]; exact hvl
  have hkv : RepKV X.K (hide h' H') ((ks.zip vs).map fun p => ((Sum.inr p.1 : Key), p.2)) (ks.zip ds) := by
    refine ⟨?_, ?_⟩
    · rw [List.map_map]
      have a1 : (ks.zip vs).map ((fun x => x.1) ∘ fun p => ((Sum.inr p.1 : Key), p.2)) = ks.map fun k => (Sum.inr k : Key) := by
        have : ((fun x => x.1) ∘ fun (p : Str × V) => ((Sum.inr p.1 : Key), p.2)) = (fun k => (Sum.inr k : Key)) ∘ Prod.fst := rfl
        rw [this, ← List.map_map, List.map_fst_zip (by omega)]
      have a2 : (ks.zip ds).map (fun p => (Sum.inr p.1 : Key)) = ks.map fun k => (Sum.inr k : Key) := by
        have : (fun (p : Str × Fw.D) => (Sum.inr p.1 : Key)) = (fun k => (Sum.inr k : Key)) ∘ Prod.fst := rfl
        rw [this, ← List.map_map, List.map_fst_zip (by omega)]
      rw [a1, a2]
    · rw [List.map_map]
      have a1 : (ks.zip vs).map ((fun x => x.2) ∘ fun p => ((Sum.inr p.1 : Key), p.2)) = vs := by
        have : ((fun x => x.2) ∘ fun (p : Str × V) => ((Sum.inr p.1 : Key), p.2)) = Prod.snd := rfl
        rw [this, List.map_snd_zip (by omega)]
      rw [a1, List.map_snd_zip (by omega)]
      exact r
  have st4 := gg.si.putL (o := .dK ((ks.zip vs).map fun p => ((Sum.inr p.1 : Key), p.2))) (w := .dct (ks.zip ds)) e2 ⟨_, rfl, hkv⟩
  have g4 := gg.trans si (Grow.of st4)
  refine ⟨h', _, _, (er.mono (g4.ext si)).set (.ref p) i, g4.si, e3, fun s2 H2 st2 v r => ?_⟩
  obtain ⟨a1, a2⟩ := g4.done si st2
  exact w _ H2 a1 v (Rep.mono a2 _ _ r)

end
end Fw

set_option Elab.async false
set_option linter.all false
set_option maxRecDepth 100000
set_option maxHeartbeats 4000000
/-! Lk2: what a looker with more words tells apart. -/
namespace Fw
open PySem PySem.Spec PyProof.Rows L2
theorem fin_supd {s : S} (h : Fin s) (a : Addr) (o : OO) : Fin (supd s a o) := by
  obtain ⟨N, h⟩ := h
  refine ⟨N + a + 1, fun b hb => ?_⟩
  have hb : N + a + 1 ≤ (b : Nat) := hb
  have h1 : b ≠ a := fun z => by subst z; exact absurd hb (by omega)
  rw [supd_ne h1]
  exact h b (Nat.le_trans (by omega) hb)
theorem sights_cov {one other : List String} (h : sightsM one other = []) : ∀ x ∈ lookerL, x ∈ other → x ∈ one := fun x hx ho => by
  have := List.filter_eq_nil_iff.mp h x ho
  simpa [hx] using this
theorem look_mono {one other : List String} (h : sightsM one other = []) {so : List Bool} {x y : Ou} (hl : lookM one so x y = true) : lookM other so x y = true := by
  have c1 := sights_cov h "ends seen" (by decide)
  have c2 := sights_cov h "prints seen" (by decide)
  have c3 := sights_cov h "steps seen" (by decide)
  unfold lookM at hl ⊢
  by_cases h0 : "ends seen" ∈ one ∧ x.h ≠ y.h
  · rw [if_pos h0] at hl; cases hl
  · rw [if_neg h0] at hl
    rw [if_neg (fun z => h0 ⟨c1 z.1, z.2⟩)]
    cases he : endS x && endS y with
    | true =>
      rw [he, if_pos rfl] at hl
      rw [if_pos rfl]
      unfold sameM at hl ⊢
      split at hl
      · cases hl
      · rename_i h1
        rw [if_neg h1]
        split at hl
        · cases hl
        · rename_i h2
          rw [if_neg h2]
          split at hl
          · cases hl
          · rename_i h3
            rw [if_neg (fun z => h3 ⟨c3 z.1, z.2⟩)]
            rw [Bool.or_eq_true] at hl ⊢
            rcases hl with hl | hl
            · left
              have : "prints seen" ∉ one := by simpa using hl
              simpa using fun z => this (c2 z)
            · exact .inr hl
    | false =>
      rw [he, if_neg Bool.false_ne_true] at hl
      rw [if_neg Bool.false_ne_true]
      rw [Bool.or_eq_true] at hl ⊢
      rcases hl with hl | hl
      · left
        have : "prints seen" ∉ one := by simpa using hl
        simpa using fun z => this (c2 z)
      · exact .inr hl
theorem run_e0 : runO [.whl 1 []] [0, 0] = ⟨"ends", [0, 0], List.replicate 10 0, List.replicate 10 0, [], 1⟩ := by rfl
theorem run_e1 : runO [.whl 1 []] [0, 1] = ⟨"goes on", [0, 1], List.replicate 10 0, List.replicate 10 0, [], 1⟩ := by rfl
theorem run_p0 : runO [.print 1] [0, 0] = ⟨"ends", [0, 0], List.replicate 10 0, List.replicate 10 0, [0], 1⟩ := by rfl
theorem run_p1 : runO [.print 1] [0, 1] = ⟨"ends", [0, 1], List.replicate 10 0, List.replicate 10 0, [1], 1⟩ := by rfl
theorem run_s0 : runO [.ite 1 [.sum 1 [] 0] []] [0, 0] = ⟨"ends", [0, 0], List.replicate 10 0, List.replicate 10 0, [], 1⟩ := by rfl
theorem run_s1 : runO [.ite 1 [.sum 1 [] 0] []] [0, 1] = ⟨"ends", [0, 0], List.replicate 10 0, List.replicate 10 0, [], 2⟩ := by rfl
/-- who lacks the sight does not tell the runs apart, who has it does -/
theorem look_blind {ws : List String} {w : String} (hw : w ∈ lookerL) (hn : w ∉ ws) : lookM ws [false, true] (runO (blindM w) [0, 0]) (runO (blindM w) [0, 1]) = true := by
  simp only [lookerL, List.mem_cons, List.mem_nil_iff, or_false] at hw
  rcases hw with rfl | rfl | rfl
  · simp [blindM, run_e0, run_e1, lookM, endS, hn, beginM]
  · simp [blindM, run_p0, run_p1, lookM, endS, hn, sameM, opensM]
  · simp [blindM, run_s0, run_s1, lookM, endS, hn, sameM, opensM]
theorem look_sharp {ws : List String} {w : String} (hw : w ∈ lookerL) (hn : w ∈ ws) : lookM ws [false, true] (runO (blindM w) [0, 0]) (runO (blindM w) [0, 1]) = false := by
  simp only [lookerL, List.mem_cons, List.mem_nil_iff, or_false] at hw
  rcases hw with rfl | rfl | rfl
  · simp [blindM, run_e0, run_e1, lookM, endS, hn, beginM]
  · simp [blindM, run_p0, run_p1, lookM, endS, hn, sameM, opensM]
  · simp [blindM, run_s0, run_s1, lookM, endS, hn, sameM, opensM]
theorem blind_ok {w : String} : smsOk 2 2 (blindM w) ∧ (blindM w).length ≤ 7 := by
  unfold blindM
  repeat' split
  all_goals exact ⟨by simp [smsOk, smOk], by decide⟩
theorem plain_told (w : String) : plainN 8 (.tup [.tup [sortsD [false, true], bodyD (blindM w)], natsD [0, 0], natsD [0, 1]]) := by
  unfold blindM
  repeat' split
  all_goals simp [bodyD, smD, smsD, plainN, natD, natsD, sortsD, sortD]
end Fw

set_option Elab.async false
set_option linter.all false
set_option maxRecDepth 100000
set_option maxHeartbeats 4000000
/-! Cc1: a comprehension with two for, by data. -/
namespace Fw
open PySem PySem.Spec PyProof.Rows L2
section
variable {X : Cx} {tg iter elt tg1 iter1 e : Expr} {fi fi1 : FI} {ft ft1 : FG} {fb : FS} {fe : FE} {tt tt1 : FT} {pos : Pos} {vs vs1 : List Nat} {g g1 : TG}
/-- J yields the data ds, whatever is made of what is hidden -/
def IterY (K : PySem.W.Frag) (h : Addr → Bool) (J : It) (H : Hp) (ds : List D) : Prop := ∀ h' s2 H2, Ext (hide h H) (hide h' H2) → SI K h' s2 H2 → ∀ i : Nat,
  (∀ d, ds[i]? = some d → J.go i H2 ∧ ∀ x H3, J.yld i H2 x H3 → Step K h' s2 H2 s2 H3 ∧ Rep K (hide h' H3) x d) ∧ (ds.length ≤ i → J.stop i H2)
def tDY (K : PySem.W.Frag) (f : FI) : TI := fun σ H R => ∃ (h : Addr → Bool) (s : S) (δ : Fr) (ds : List D) (s' : S), EnvR K (hide h H) σ δ ∧ SI K h s H ∧ f δ s = some (ds, s') ∧
  ∀ J H', Step K h s H s' H' → IterY K h J H' ds → R J H'
theorem itery_tup {K : PySem.W.Frag} {h : Addr → Bool} {H : Hp} {p : Addr} {xs : List V} {ds : List D} (q : SqT K (hide h H) p xs) (r : Reps K (hide h H) xs ds) : IterY K h (Itt K p) H ds := by
  intro h' s2 H2 x si i
  have q2 : SqT K H2 p xs := sqt_un (ext_t x q)
  refine ⟨fun d e => ?_, fun hl => ⟨xs, q2, by rw [r.length]; exact hl⟩⟩
  obtain ⟨v, e1, r1⟩ := r.get e
  refine ⟨⟨xs, v, q2, e1⟩, fun y H3 hy => ?_⟩
  obtain ⟨rfl, hy⟩ := hy
  have := hy xs q2
  rw [e1] at this
  cases this
  exact ⟨Step.refl si, Rep.mono x _ _ r1⟩
theorem itery_lst {K : PySem.W.Frag} {h : Addr → Bool} {H : Hp} {p : Addr} {xs : List V} {ds : List D} (q : hide h H p = some (.lst xs)) (r : Reps K (hide h H) xs ds) : IterY K h (Itl K p) H ds := by
  intro h' s2 H2 x si i
  have q2 : SqL K H2 p xs := SqL.of (hide_ext _ _ _ _ (x _ _ q fun ps z => nomatch z))
  refine ⟨fun d e => ?_, fun hl => ⟨xs, q2, by rw [r.length]; exact hl⟩⟩
  obtain ⟨v, e1, r1⟩ := r.get e
  refine ⟨⟨xs, v, q2, e1⟩, fun y H3 hy => ?_⟩
  obtain ⟨rfl, hy⟩ := hy
  have := hy xs q2
  rw [e1] at this
  cases this
  exact ⟨Step.refl si, Rep.mono x _ _ r1⟩
theorem dy_items (he : PE X e (tD X.K fe)) : PI X tg e (tDY X.K (fItems fe)) := ⟨fun pins s0 σ H R I hq => by
  obtain ⟨h, s, δ, ds, s', er, si, q, w⟩ := hq
  obtain ⟨⟨x, s1⟩, q1, q⟩ := bind_some q
  obtain ⟨es, q2, q⟩ := map_some q
  cases q
  cases x with
  | tup es' =>
    cases (show some es' = some _ from q2)
    refine (pi_tup (tg := tg) he).run pins s0 σ H R I ⟨h, s, δ, _, _, er, si, q1, fun v H1 st1 r1 => ?_⟩
    obtain ⟨a, xs, rfl, qa, ra⟩ := rep_tup r1
    exact ⟨a, rfl, ⟨xs, sqt_un qa⟩, w _ H1 st1 (itery_tup qa ra)⟩
  | lst es' =>
    cases (show some es' = some _ from q2)
    refine (pi_list (tg := tg) he).run pins s0 σ H R I ⟨h, s, δ, _, _, er, si, q1, fun v H1 st1 r1 => ?_⟩
    obtain ⟨a, xs, rfl, qa, ra⟩ := rep_lst r1
    exact ⟨a, rfl, ⟨xs, SqL.of (hide_ext _ _ _ _ qa)⟩, w _ H1 st1 (itery_lst qa ra)⟩
  | _ => cases (show none = some _ from q2)⟩
theorem wipe_idem (σ : L2.St) (vs : List Nat) : wipe (wipe σ vs) vs = wipe σ vs := by
  have ww : ∀ (us : List Nat) (σ : L2.St) (v : Nat), v ∈ us → (wipe σ us).set v none = wipe σ us := by
    intro us
    induction us with
    | nil => intro σ v hv; cases hv
    | cons u us ih =>
      intro σ v hv
      unfold wipe
      by_cases e : v = u
      · subst e; rw [List.set_set]
      · rw [List.set_comm _ _ (Ne.symm e), ih σ v ((List.mem_cons.mp hv).resolve_left e)]
  have : ∀ (us : List Nat), (∀ v ∈ us, v ∈ vs) → wipe (wipe σ vs) us = wipe σ vs := by
    intro us
    induction us with
    | nil => intro _; rfl
    | cons u us ih =>
      intro hu
      show (wipe (wipe σ vs) us).set u none = wipe σ vs
      rw [ih fun v hv => hu v (List.mem_cons_of_mem _ hv)]
      exact ww vs σ u (hu u List.mem_cons_self)
  exact this vs fun v hv => hv
def compL2 (ft : FG) (tt : FT) (fi1 : FI) (ft1 : FG) (tt1 : FT) (fe : FE) (vs1 : List Nat) : List D → Fr → S → Option (List D × S)
  | [], _, s => some ([], s)
  | d :: ds, δ, s => (ft d δ).bind fun δ1 => (tt δ1 s).bind fun p => if p.1 = true then (fi1 δ1 p.2).bind fun c => (compL ft1 tt1 fe c.1 (wipeD δ1 vs1) c.2).bind fun q => (compL2 ft tt fi1 ft1 tt1 fe vs1 ds δ q.2).map fun r => (q.1 ++ r.1, r.2) else compL2 ft tt fi1 ft1 tt1 fe vs1 ds δ p.2
def fComp2 (vs vs1 : List Nat) (fi : FI) (ft : FG) (tt : FT) (fi1 : FI) (ft1 : FG) (tt1 : FT) (fe : FE) : FE := fun δ s => (fi δ s).bind fun p => (compL2 ft tt fi1 ft1 tt1 fe vs1 p.1 (wipeD δ vs) p.2).bind fun q => if okLen q.1.length = true then some (.lst q.1, q.2) else none
theorem lc2_of {K : PySem.W.Frag} (gt : GT K g ft vs) (gt1 : GT K g1 ft1 vs1) {σ : L2.St} {H : Hp} {Q : VK} (hq : tD K (fComp2 vs vs1 fi ft tt fi1 ft1 tt1 fe) σ H Q) : tLc2 (tDI K fi) g (tDT K tt) (tDY K fi1) g1 (tDT K tt1) (tD K fe) vs vs1 σ H Q := by
  obtain ⟨h, s, δ, d, s', er, si, q, w⟩ := hq
  obtain ⟨⟨ds, s1⟩, q1, q⟩ := bind_some q
  obtain ⟨⟨out, sf⟩, qc, q⟩ := bind_some q
  split at q
  rotate_left
  · cases q
  rename_i hl
  cases q
  refine ⟨h, s, δ, ds, s1, er, si, q1, fun J H1 st1 it D hD => ?_⟩
  have i1 := st1.si
  let h' : Addr → Bool := fun a => h a || decide (a = D)
  have hh' : h' D = true := by simp [h']
  have x0 : StepX K h s1 H1 h' s1 (upd H1 D (.lst [])) := by
    refine ⟨fun a z => by simp [h', z], fun a z => ?_, fun _ z => z, fun a o _ z => by rw [upd_ne (ne_of_none z hD)]; exact z, fun a o z => ?_, fun a o z => ?_, fun a z => ?_⟩
    · by_cases e : a = D
      · exact .inr (by rw [e]; exact hD)
      · exact .inl (by simpa [h', e] using z)
    · have := i1.own a o z
      simp [h', this]
    · have ob := i1.ob a o z
      have ne : a ≠ D := fun e => ob.there (by rw [e]; exact hD)
      rw [upd_ne ne]
      refine ob.mono fun b u q _ => ?_
      unfold hide at q ⊢
      split at q
      · cases q
      · rename_i hb
        have nb : b ≠ D := ne_of_none q hD
        rw [if_neg (by simp [h', hb, nb]), upd_ne nb]
        exact q
    · by_cases e : a = D
      · rw [e, upd_same]; exact fun z => nomatch z
      · rw [upd_ne e]
        exact i1.hid a (by simpa [h', e] using z)
  have hsD : ∀ {s : S} {H : Hp}, StepX K h s1 H1 h' s H → s D = none := fun x => x.dom D (by
    cases e : s1 D with
    | none => rfl
    | some u => exact absurd hD ((i1.ob D u e).there))
  have hid : ∀ (H : Hp) (o : HO), hide h' (upd H D o) = hide h' H := fun H o => by
    funext b
    unfold hide
    by_cases e : b = D
    · rw [e, hh', if_pos rfl, if_pos rfl]
    · rw [upd_ne e]
  refine ⟨fun i m H2 => ∃ s2 acc accD rest, m = ds.length - i ∧ i ≤ ds.length ∧ StepX K h s1 H1 h' s2 H2 ∧ H2 D = some (.lst acc) ∧ Reps K (hide h' H2) acc accD ∧ compL2 ft tt fi1 ft1 tt1 fe vs1 (ds.drop i) (wipeD δ vs) s2 = some (rest, sf) ∧ accD ++ rest = out,
    ⟨_, s1, [], [], out, rfl, Nat.zero_le _, x0, upd_same, .nil, qc, rfl⟩, ?_⟩
  rintro i m H2 ⟨s2, acc, accD, rest, rfl, hi', x2, hD2, ra, q2, eo⟩
  by_cases hlt : i < ds.length
  · have e1 : ds[i]? = some ds[i] := List.getElem?_eq_getElem hlt
    rw [List.drop_eq_getElem_cons hlt] at q2
    obtain ⟨δ3, q3, q2⟩ := bind_some (show (ft ds[i] (wipeD δ vs)).bind _ = some (rest, sf) from q2)
    obtain ⟨⟨k, s4⟩, q4, q2⟩ := bind_some q2
    obtain ⟨go, yl⟩ := (it h' s2 H2 x2 i).1 _ e1
    refine .inr ⟨go, fun H' => (∃ m', m' < ds.length - i ∧ ∃ s2 acc accD rest, m' = ds.length - (i + 1) ∧ i + 1 ≤ ds.length ∧ StepX K h s1 H1 h' s2 H' ∧ H' D = some (.lst acc) ∧ Reps K (hide h' H') acc accD ∧ compL2 ft tt fi1 ft1 tt1 fe vs1 (ds.drop (i + 1)) (wipeD δ vs) s2 = some (rest, sf) ∧ accD ++ rest = out), fun H' z => z, fun x H3 y => ?_⟩
    obtain ⟨st3, r3⟩ := yl x H3 y
    have er3 : EnvR K (hide h' H3) (wipe σ vs) (wipeD δ vs) := ((er.wipe vs).mono (st1.ext si)).mono ((x2.trans st3).ext i1)
    refine gt (hide h' H3) x (wipe σ vs) H3 _ _ δ3 _ (hide_sub h' H3) er3 r3 q3 fun σ3 er4 hw => ⟨hw.trans (wipe_idem σ vs), ?_⟩
    refine ⟨h', s2, δ3, k, s4, er4, st3.si, q4, fun H4 st4 => ?_⟩
    have x4 : StepX K h s1 H1 h' s4 H4 := (x2.trans st3).trans st4
    have hD4 : H4 D = some (.lst acc) := st4.fr D _ (hsD (x2.trans st3)) (st3.fr D _ (hsD x2) hD2)
    have ra4 : Reps K (hide h' H4) acc accD := st4.reps st3.si (st3.reps x2.si ra)
    cases k with
    | false =>
      rw [if_neg Bool.false_ne_true] at q2
      refine iteF ?_
      exact ⟨_, by omega, s4, acc, accD, rest, rfl, hlt, x4, hD4, ra4, q2, eo⟩
    | true =>
      rw [if_pos rfl] at q2
      refine iteT ?_
      obtain ⟨⟨es, s5⟩, q5, q2⟩ := bind_some q2
      obtain ⟨⟨o1, s6⟩, q6, q2⟩ := bind_some q2
      obtain ⟨⟨rest', sf'⟩, q7, q2⟩ := map_some q2
      cases q2
      have er4' : EnvR K (hide h' H4) σ3 δ3 := er4.mono (st4.ext st3.si)
      refine ⟨h', s4, δ3, es, s5, er4', st4.si, q5, fun J1 H5 st5 it1 => ?_⟩
      have x5 : StepX K h s1 H1 h' s5 H5 := x4.trans st5
      have hD5 : H5 D = some (.lst acc) := st5.fr D _ (hsD x4) hD4
      have ra5 : Reps K (hide h' H5) acc accD := st5.reps st4.si ra4
      have er5 : EnvR K (hide h' H5) σ3 δ3 := er4'.mono (st5.ext st4.si)
      refine ⟨fun j k H6 => ∃ s6' acc6 accD6 rest6, k = es.length - j ∧ j ≤ es.length ∧ StepX K h s1 H1 h' s6' H6 ∧ Ext (hide h' H5) (hide h' H6) ∧ H6 D = some (.lst acc6) ∧ Reps K (hide h' H6) acc6 accD6 ∧ compL ft1 tt1 fe (es.drop j) (wipeD δ3 vs1) s6' = some (rest6, s6) ∧ accD6 ++ (rest6 ++ rest') = out,
        ⟨_, s5, acc, accD, o1, rfl, Nat.zero_le _, x5, Ext.refl _, hD5, ra5, q6, eo⟩, ?_⟩
      rintro j k H6 ⟨s6', acc6, accD6, rest6, rfl, hj', x6, ex6, hD6, ra6, q8, eo6⟩
      by_cases hjt : j < es.length
      · have e2 : es[j]? = some es[j] := List.getElem?_eq_getElem hjt
        rw [List.drop_eq_getElem_cons hjt] at q8
        obtain ⟨δ7, q9, q8⟩ := bind_some (show (ft1 es[j] (wipeD δ3 vs1)).bind _ = some (rest6, s6) from q8)
        obtain ⟨⟨k7, s7⟩, q10, q8⟩ := bind_some q8
        obtain ⟨go1, yl1⟩ := (it1 h' s6' H6 ex6 x6.si j).1 _ e2
        refine .inr ⟨go1, fun H' => (∃ k', k' < es.length - j ∧ ∃ s6' acc6 accD6 rest6, k' = es.length - (j + 1) ∧ j + 1 ≤ es.length ∧ StepX K h s1 H1 h' s6' H' ∧ Ext (hide h' H5) (hide h' H') ∧ H' D = some (.lst acc6) ∧ Reps K (hide h' H') acc6 accD6 ∧ compL ft1 tt1 fe (es.drop (j + 1)) (wipeD δ3 vs1) s6' = some (rest6, s6) ∧ accD6 ++ (rest6 ++ rest') = out), fun H' z => z, fun x7 H7 y7 => ?_⟩
        obtain ⟨st7, r7⟩ := yl1 x7 H7 y7
        have ex7 : Ext (hide h' H5) (hide h' H7) := ex6.trans (st7.ext x6.si)
        have er7 : EnvR K (hide h' H7) (wipe σ3 vs1) (wipeD δ3 vs1) := (er5.wipe vs1).mono ex7
        refine gt1 (hide h' H7) x7 (wipe σ3 vs1) H7 _ _ δ7 _ (hide_sub h' H7) er7 r7 q9 fun σ8 er8 hw8 => ⟨hw8.trans (wipe_idem σ3 vs1), ?_⟩
        refine ⟨h', s6', δ7, k7, s7, er8, st7.si, q10, fun H8 st8 => ?_⟩
        have x8 : StepX K h s1 H1 h' s7 H8 := (x6.trans st7).trans st8
        have ex8 : Ext (hide h' H5) (hide h' H8) := ex7.trans (st8.ext st7.si)
        have hD8 : H8 D = some (.lst acc6) := st8.fr D _ (hsD (x6.trans st7)) (st7.fr D _ (hsD x6) hD6)
        have ra8 : Reps K (hide h' H8) acc6 accD6 := st8.reps st7.si (st7.reps x6.si ra6)
        cases k7 with
        | false =>
          rw [if_neg Bool.false_ne_true] at q8
          refine iteF ?_
          exact ⟨_, by omega, s7, acc6, accD6, rest6, rfl, hjt, x8, ex8, hD8, ra8, q8, eo6⟩
        | true =>
          rw [if_pos rfl] at q8
          refine iteT ?_
          obtain ⟨⟨z, s9⟩, q11, q8⟩ := bind_some q8
          obtain ⟨⟨rest9, sf9⟩, q12, q8⟩ := map_some q8
          cases q8
          refine ⟨h', s7, δ7, z, s9, er8.mono (st8.ext st7.si), st8.si, q11, fun v H9 st9 r9 => ?_⟩
          have x9 : StepX K h s1 H1 h' s9 H9 := x8.trans st9
          have hD9 : H9 D = some (.lst acc6) := st9.fr D _ (hsD x8) hD8
          have ra9 : Reps K (hide h' H9) acc6 accD6 := st9.reps st8.si ra8
          have hlen : acc6.length ≤ out.length := by rw [ra6.length, ← eo6, List.length_append]; omega
          refine ⟨acc6, hD9, Nat.lt_of_le_of_lt hlen (okLen_lt hl), ?_⟩
          refine ⟨_, by omega, s9, acc6 ++ [v], accD6 ++ [z], rest9, rfl, hjt, ?_, ?_, upd_same, ?_, q12, by rw [← eo6, List.append_assoc]; rfl⟩
          · refine ⟨x9.le, x9.new, x9.dom, fun a o z e => ?_, x9.si.own, fun a o z => ?_, fun a z => ?_⟩
            · rw [upd_ne (ne_of_none e hD)]; exact x9.fr a o z e
            · have ob := x9.si.ob a o z
              have ne : a ≠ D := fun e => by rw [e, hsD x9] at z; cases z
              rw [upd_ne ne, hid]
              exact ob
            · by_cases e : a = D
              · rw [e, upd_same]; exact fun z => nomatch z
              · rw [upd_ne e]; exact x9.si.hid a z
          · rw [hid]
            exact ex8.trans (st9.ext st8.si)
          · rw [hid]
            exact ra9.append (.cons r9 .nil)
      · have e : j = es.length := by omega
        subst e
        rw [List.drop_length] at q8
        cases q8
        exact .inl ⟨(it1 h' _ H6 ex6 x6.si es.length).2 (Nat.le_refl _), _, by omega, s6, acc6, accD6, rest', rfl, hlt, x6, hD6, ra6, q7, eo6⟩
  · have e : i = ds.length := by omega
    subst e
    rw [List.drop_length] at q2
    cases q2
    rw [List.append_nil] at eo
    subst eo
    have stb := x2.back i1
    refine .inl ⟨(it h' _ H2 x2 ds.length).2 (Nat.le_refl _), w _ H2 (st1.trans stb) (.lst ?_ (Reps.mono ?_ _ _ ra))⟩
    · have hn : h D = false := by
        cases e : h D with
        | false => rfl
        | true => exact absurd hD (i1.hid D e)
      unfold hide
      rw [hn, if_neg Bool.false_ne_true]
      exact hD2
    · intro b u z _
      unfold hide at z ⊢
      split at z
      · cases z
      · rename_i hb
        rw [if_neg fun y => hb (x2.le b y)]
        exact z
end
end Fw

set_option Elab.async false
set_option linter.all false
set_option maxRecDepth 100000
set_option maxHeartbeats 4000000
/-! Tx0: a joined text, split at the same sign, gives its parts again. -/
namespace Fw
open PySem PySem.StrLaws PySem.Builtin.Str
def joinC (c : Nat) : List (List Nat) → List Nat
  | [] => []
  | [p] => p
  | p :: q :: r => p ++ c :: joinC c (q :: r)
theorem cut_at {c : Nat} : ∀ {p q R R' : List Nat}, c ∉ p → c ∉ q → p ++ c :: R = q ++ c :: R' → p = q ∧ R = R'
  | [], [], _, _, _, _, h => ⟨rfl, by injection h⟩
  | [], b :: q, _, _, _, hq, h => by
    injection h with h1 _
    exact absurd (by rw [h1]; exact List.mem_cons_self) hq
  | a :: p, [], _, _, hp, _, h => by
    injection h with h1 _
    exact absurd (by rw [h1]; exact List.mem_cons_self) hp
  | a :: p, b :: q, _, _, hp, hq, h => by
    injection h with h1 h2
    obtain ⟨e1, e2⟩ := cut_at (fun z => hp (List.mem_cons_of_mem _ z)) (fun z => hq (List.mem_cons_of_mem _ z)) h2
    exact ⟨by rw [h1, e1], e2⟩
theorem join_inj {c : Nat} : ∀ {ps qs : List (List Nat)}, ps ≠ [] → qs ≠ [] → (∀ p ∈ ps, c ∉ p) → (∀ q ∈ qs, c ∉ q) → joinC c ps = joinC c qs → ps = qs
  | [], _, h, _, _, _, _ => absurd rfl h
  | _, [], _, h, _, _, _ => absurd rfl h
  | [p], [q], _, _, _, _, h => by rw [show p = q from h]
  | [p], q :: q2 :: r, _, _, h1, _, h => by
    have h : p = q ++ c :: joinC c (q2 :: r) := h
    exact absurd (by rw [h]; exact List.mem_append_right _ List.mem_cons_self) (h1 p List.mem_cons_self)
  | p :: p2 :: r, [q], _, _, _, h2, h => by
    have h : p ++ c :: joinC c (p2 :: r) = q := h
    exact absurd (by rw [← h]; exact List.mem_append_right _ List.mem_cons_self) (h2 q List.mem_cons_self)
  | p :: p2 :: r, q :: q2 :: r', _, _, h1, h2, h => by
    obtain ⟨e1, e2⟩ := cut_at (h1 p List.mem_cons_self) (h2 q List.mem_cons_self) (show p ++ c :: joinC c (p2 :: r) = q ++ c :: joinC c (q2 :: r') from h)
    rw [e1, join_inj (ps := p2 :: r) (qs := q2 :: r') (List.cons_ne_nil _ _) (List.cons_ne_nil _ _) (fun x hx => h1 x (List.mem_cons_of_mem _ hx)) (fun x hx => h2 x (List.mem_cons_of_mem _ hx)) e2]
theorem join_codes {y : Str} {c : Nat} (hy : y.cps.toList = [c]) : ∀ ps : List Str, (Str.join y ps).cps.toList = joinC c (ps.map fun p => p.cps.toList)
  | [] => rfl
  | [p] => rfl
  | p :: q :: r => by
    have ih := join_codes hy (q :: r)
    show (p ++ y ++ Str.join y (q :: r)).cps.toList = p.cps.toList ++ c :: joinC c ((q :: r).map fun p => p.cps.toList)
    rw [Str.cps_append, Str.cps_append, Array.toList_append, Array.toList_append, ih, hy, List.append_assoc]
    rfl
theorem at_iff {x y : Str} {c : Nat} (hy : y.cps.toList = [c]) (i : Nat) : At x y x.length i ↔ x.cps.toList[i]? = some c := by
  have hl : y.length = 1 := by rw [Str.length, ← Array.length_toList, hy]; rfl
  have hn : x.cps.toList.length = x.length := by simp [Str.length]
  unfold At
  rw [subAt_eq, hl, hy]
  constructor
  · rintro ⟨h1, h2⟩
    have h2 := eq_of_beq h2
    have h3 : (x.cps.toList.drop i)[0]? = some c := by
      have : ((x.cps.toList.drop i).take 1)[0]? = some c := by rw [h2]; rfl
      rwa [List.getElem?_take_of_lt (by omega)] at this
    rwa [List.getElem?_drop, Nat.add_zero] at h3
  · intro h
    have hi : i < x.cps.toList.length := (List.getElem?_eq_some_iff.mp h).1
    refine ⟨by omega, ?_⟩
    rw [List.drop_eq_getElem_cons hi]
    have : x.cps.toList[i] = c := (List.getElem?_eq_some_iff.mp h).2
    rw [this]
    simp
theorem occ_all {x y : Str} {c : Nat} (hy : y.cps.toList = [c]) (limit : Nat) : ∀ (n a : Nat) (st : Array Nat × Nat), st.2 ≤ a → st.1.size ≤ a → a + n ≤ limit →
    (forIn (List.range' a n) st (occBody x y x.length limit)).run.fst.toList = st.1.toList ++ (List.range' a n).filter (fun i => decide (x.cps.toList[i]? = some c))
  | 0, a, st, _, _, _ => by simp
  | n + 1, a, st, h1, h2, h3 => by
    have hl : y.length = 1 := by rw [Str.length, ← Array.length_toList, hy]; rfl
    rw [List.range'_succ, List.forIn_cons]
    unfold occBody
    by_cases h : x.cps.toList[a]? = some c
    · have hat := (at_iff hy a).mpr h
      rw [if_pos ⟨⟨⟨by omega, h1⟩, hat.1⟩, hat.2⟩]
      have ih := occ_all (x := x) hy limit n (a + 1) (st.1.push a, a + y.length) (by simp only [hl]; omega) (by simp only [Array.size_push]; omega) (by omega)
      rw [List.filter_cons_of_pos (by simpa using h)]
      refine Eq.trans ih ?_
      simp only [Array.toList_push, List.append_assoc, List.singleton_append]
    · rw [if_neg (fun z => h ((at_iff hy a).mp ⟨z.1.2, z.2⟩))]
      have ih := occ_all (x := x) hy limit n (a + 1) (st.1, st.2) (by simp only; omega) (by simp only; omega) (by omega)
      rw [List.filter_cons_of_neg (by simpa using h)]
      exact ih
theorem occ_cuts {x y : Str} {c : Nat} (hy : y.cps.toList = [c]) : occurrences x y 0 x.length (x.length + 1) = (List.range' 0 (x.length + 1)).filter (fun i => decide (x.cps.toList[i]? = some c)) := by
  rw [occ_eq, Nat.sub_zero, occ_all hy (x.length + 1) (x.length + 1) 0 _ (Nat.le_refl _) (Nat.le_refl _) (by omega)]
  rfl
theorem sub_no {x : Str} {c a b : Nat} (h : ∀ i, a ≤ i → i < b → x.cps.toList[i]? ≠ some c) : c ∉ (strSub x a b).cps.toList := by
  rw [strSub_toList]
  intro hm
  obtain ⟨i, hi, e⟩ := List.getElem_of_mem hm
  have hi2 : i < b - a := by rw [List.length_take] at hi; omega
  refine h (a + i) (by omega) (by omega) ?_
  have : ((x.cps.toList.drop a).take (b - a))[i]? = some c := by rw [List.getElem?_eq_getElem hi, e]
  rw [List.getElem?_take_of_lt hi2, List.getElem?_drop] at this
  exact this
theorem parts_no {x : Str} {c : Nat} : ∀ (m a b : Nat), a + m = x.length + 1 → (∀ i, b ≤ i → i < a → x.cps.toList[i]? ≠ some c) → ∀ p ∈ partsFrom x 1 b ((List.range' a m).filter (fun i => decide (x.cps.toList[i]? = some c))), c ∉ p.cps.toList
  | 0, a, b, h, hn, p, hp => by
    have hp : p = strSub x b x.length := List.mem_singleton.mp hp
    rw [hp]
    exact sub_no fun i h1 h2 => hn i h1 (by omega)
  | m + 1, a, b, h, hn, p, hp => by
    rw [List.range'_succ] at hp
    by_cases hc : x.cps.toList[a]? = some c
    · rw [List.filter_cons_of_pos (by simpa using hc)] at hp
      rcases List.mem_cons.mp (show p ∈ strSub x b a :: partsFrom x 1 (a + 1) _ from hp) with rfl | hp
      · exact sub_no hn
      · exact parts_no m (a + 1) (a + 1) (by omega) (fun i h1 h2 => absurd h1 (by omega)) p hp
    · rw [List.filter_cons_of_neg (by simpa using hc)] at hp
      exact parts_no m (a + 1) b (by omega) (fun i h1 h2 => by
        rcases Nat.lt_or_ge i a with h3 | h3
        · exact hn i h1 h3
        · have : i = a := by omega
          rw [this]; exact hc) p hp
theorem split_no {x y : Str} {c : Nat} (hy : y.cps.toList = [c]) (hk : (decide (Builtin.Str.strKind x < Builtin.Str.strKind y)) = false) : Txt.split x y ≠ [] ∧ ∀ p ∈ Txt.split x y, c ∉ p.cps.toList := by
  have hl : y.length = 1 := by rw [Str.length, ← Array.length_toList, hy]; rfl
  have hn : x.cps.toList.length = x.length := by simp [Str.length]
  unfold Txt.split
  rw [hk, Bool.or_false]
  split
  · rename_i h
    have h := of_decide_eq_true h
    refine ⟨List.cons_ne_nil _ _, fun p hp => ?_⟩
    rw [List.mem_singleton.mp hp]
    have : x.cps.toList = [] := List.eq_nil_of_length_eq_zero (by omega)
    rw [this]
    exact List.not_mem_nil
  · rw [occ_cuts hy]
    split
    · rename_i h
      refine ⟨List.cons_ne_nil _ _, fun p hp => ?_⟩
      rw [List.mem_singleton.mp hp]
      intro hm
      obtain ⟨i, hi, e⟩ := List.getElem_of_mem hm
      have he := List.filter_eq_nil_iff.mp (List.isEmpty_iff.mp h) i (by rw [List.mem_range'_1]; omega)
      exact he (by rw [List.getElem?_eq_getElem hi, e]; simp)
    · rw [partsBetween_eq, hl]
      obtain ⟨p, r, e⟩ := partsFrom_ne x 1 0 ((List.range' 0 (x.length + 1)).filter (fun i => decide (x.cps.toList[i]? = some c)))
      exact ⟨by rw [e]; exact List.cons_ne_nil _ _, parts_no (x.length + 1) 0 0 (by omega) (fun i h1 h2 => absurd h2 (by omega))⟩
theorem split_join {y : Str} {c : Nat} (hy : y.cps.toList = [c]) (hk : Builtin.Str.strKind y = 1) {ps : List Str} (h0 : ps ≠ []) (h1 : ∀ p ∈ ps, c ∉ p.cps.toList) : Txt.split (Str.join y ps) y = ps := by
  have hk' : decide (Builtin.Str.strKind (Str.join y ps) < Builtin.Str.strKind y) = false := by
    rw [hk]
    refine decide_eq_false ?_
    unfold Builtin.Str.strKind
    split
    · omega
    · split <;> omega
  obtain ⟨a1, a2⟩ := split_no hy hk'
  have e := congrArg (fun z : Str => z.cps.toList) (StrLaws.join_split (Str.join y ps) y)
  simp only [join_codes hy] at e
  have e2 := join_inj (by simpa using a1) (by simpa using h0) (by simpa using a2) (by simpa using h1) e
  have inj : ∀ (l m : List Str), l.map (fun p => p.cps.toList) = m.map (fun p => p.cps.toList) → l = m := by
    intro l
    induction l with
    | nil => intro m e; cases m with
      | nil => rfl
      | cons _ _ => cases e
    | cons a l ih => intro m e; cases m with
      | nil => cases e
      | cons b m =>
        rw [List.map_cons, List.map_cons] at e
        injection e with e1 e2
        rw [ih m e2, Str.ext' (Array.toList_inj.mp e1)]
  exact inj _ _ e2
end Fw

set_option Elab.async false
set_option linter.all false
set_option maxRecDepth 100000
set_option maxHeartbeats 4000000
/-! Tx1: join, split, str, f-strings, by data. -/
namespace Fw
open PySem PySem.Spec PyProof.Rows L2
section
variable {X : Cx} {e o : Expr} {es : List Expr} {fe fo : FE} {pos apos : Pos}
def joinFits (a : Str) (ys : List Str) : Bool := decide ((ys.map (·.length)).sum + ys.length * a.length ≤ 16777216)
def joinT (a : Str) (ds : List D) : Option D := (txtsD ds).bind fun ys => if joinFits a ys = true then some (.str (Str.join a ys)) else none
@[simp] def dJoin : G2 := fun x y _ => match x, y with
  | .str a, .lst ds => joinT a ds
  | .str a, .tup ds => joinT a ds
  | _, _ => none
def dSplit : G2 := fun x y _ => match x, y with
  | .str a, .str b => if (b.length == 0) = false ∧ a.length + 2 ≤ sizeLine then some (.lst ((Txt.split a b).map .str)) else none
  | _, _ => none
theorem join_txt (a : Str) (ys : List Str) : Txt.join a ys = Str.join a ys := StrLaws.glued_eq_join a ys
theorem d_join (p : PE X (.Call (.Attribute o "join" apos) [e] [] pos) (tM1 (fun x xs H Q => ∃ a p, ∃ ys : List Str, x = .str a ∧ xs = [.ref p] ∧ (SqL X.K H p (ys.map V.str) ∨ SqT X.K H p (ys.map V.str)) ∧
      (ys.map (·.length)).sum + ys.length * a.length ≤ 16777216 ∧ Q (.str (Txt.join a ys)) H) (tD X.K fo) (tD X.K fe))) : PE X (.Call (.Attribute o "join" apos) [e] [] pos) (tD X.K (f2 dJoin fo fe)) := imp_e p fun σ H Q ⟨h, s, δ, d, s', er, si, q, w⟩ => by
  obtain ⟨⟨x, s1⟩, q1, q⟩ := bind_some q
  obtain ⟨⟨y, s2⟩, q2, q⟩ := bind_some q
  obtain ⟨z, q3, q⟩ := map_some q
  cases q
  cases x with
  | str a =>
    refine ⟨h, s, δ, _, s1, er, si, q1, fun v H1 st1 r1 => ?_⟩
    cases rep_str r1
    refine ⟨⟨a, rfl⟩, h, s1, δ, y, s2, er.mono (st1.ext si), st1.si, q2, fun u H2 st2 r2 => ?_⟩
    cases y with
    | lst ds =>
      obtain ⟨ys, e1, q3⟩ := bind_some (show joinT a ds = some d from q3)
      split at q3
      · rename_i hf
        cases q3
        obtain ⟨p, xs, rfl, qa, ra⟩ := rep_lst r2
        have := txtsD_ok ra e1
        subst this
        exact ⟨a, p, ys, rfl, rfl, .inl (SqL.of (hide_ext _ _ _ _ qa)), of_decide_eq_true hf, by rw [join_txt]; exact w _ H2 (st1.trans st2) (.str _)⟩
      · cases q3
    | tup ds =>
      obtain ⟨ys, e1, q3⟩ := bind_some (show joinT a ds = some d from q3)
      split at q3
      · rename_i hf
        cases q3
        obtain ⟨p, xs, rfl, qa, ra⟩ := rep_tup r2
        have := txtsD_ok ra e1
        subst this
        exact ⟨a, p, ys, rfl, rfl, .inr (sqt_un qa), of_decide_eq_true hf, by rw [join_txt]; exact w _ H2 (st1.trans st2) (.str _)⟩
      · cases q3
    | _ => cases (show none = some _ from q3)
  | _ => cases (show none = some _ from q3)
theorem d_split (p : PE X (.Call (.Attribute o "split" apos) [e] [] pos) (tM1 (fun x xs H Q => ∃ a b, x = .str a ∧ xs = [.str b] ∧ (b.length == 0) = false ∧ a.length + 2 ≤ sizeLine ∧ rNewStrs (Txt.split a b) H Q) (tD X.K fo) (tD X.K fe))) :
    PE X (.Call (.Attribute o "split" apos) [e] [] pos) (tD X.K (f2 dSplit fo fe)) := imp_e p fun σ H Q ⟨h, s, δ, d, s', er, si, q, w⟩ => by
  obtain ⟨⟨x, s1⟩, q1, q⟩ := bind_some q
  obtain ⟨⟨y, s2⟩, q2, q⟩ := bind_some q
  obtain ⟨z, q3, q⟩ := map_some q
  cases q
  cases x with
  | str a =>
    refine ⟨h, s, δ, _, s1, er, si, q1, fun v H1 st1 r1 => ?_⟩
    cases rep_str r1
    refine ⟨⟨a, rfl⟩, h, s1, δ, y, s2, er.mono (st1.ext si), st1.si, q2, fun u H2 st2 r2 => ?_⟩
    cases y with
    | str b =>
      cases rep_str r2
      have q3 : (if (b.length == 0) = false ∧ a.length + 2 ≤ sizeLine then some (D.lst ((Txt.split a b).map .str)) else none) = some d := q3
      split at q3
      · rename_i hf
        cases q3
        refine ⟨a, b, rfl, rfl, hf.1, hf.2, fun p hp => ?_⟩
        exact w _ _ (st1.trans (st2.trans (Step.new st2.si hp _))) (new_lst st2.si hp (reps_str _))
      · cases q3
    | _ => cases (show none = some _ from q3)
  | _ => cases (show none = some _ from q3)
@[simp] def dStr1 : GL := fun ds _ => match ds with
  | [.int i] => if i.natAbs.log2 < 1920 then some (.str (Str.ofString (toString i))) else none
  | [.str a] => some (.str a)
  | _ => none
theorem call_str1 : CallR X (.type "str") (fun xs H Q => (∃ i : Int, xs = [.int i] ∧ i.natAbs.log2 < 1920 ∧ Q (.str (Str.ofString (toString i))) H) ∨ ∃ a, xs = [.str a] ∧ Q (.str a) H) := CallR.or call_str_int SkE.call_str_str
theorem g_str1 {K : PySem.W.Frag} : GCall K (fun xs H Q => (∃ i : Int, xs = [.int i] ∧ i.natAbs.log2 < 1920 ∧ Q (.str (Str.ofString (toString i))) H) ∨ ∃ a, xs = [.str a] ∧ Q (.str a) H) dStr1 := by
  intro h s H vs ds d Q si rs q w
  unfold dStr1 at q
  split at q
  · split at q
    · rename_i hf
      cases q
      obtain ⟨v, rfl, r⟩ := reps1 rs
      cases rep_int r
      exact .inl ⟨_, rfl, hf, w _ H (Step.refl si) (.str _)⟩
    · cases q
  · cases q
    obtain ⟨v, rfl, r⟩ := reps1 rs
    cases rep_str r
    exact .inr ⟨_, rfl, w _ H (Step.refl si) (.str _)⟩
  · cases q
/-! ### f-strings -/
def fFmt (fe : FE) : FE := fun δ s => (fe δ s).bind fun p => match p.1 with
  | .str y => if y.length ≤ sizeLine then some (.str y, p.2) else none
  | .int i => if i.natAbs.log2 < 1920 then some (.str (Str.ofString (toString i)), p.2) else none
  | _ => none
theorem d_fmt (he : PE X e (tD X.K fe)) : PE X (.FormattedValue e (-1) none pos) (tD X.K (fFmt fe)) := imp_e (pe_fmt he) fun σ H Q ⟨h, s, δ, d, s', er, si, q, w⟩ => by
  obtain ⟨⟨x, s1⟩, q1, q⟩ := bind_some q
  refine ⟨h, s, δ, x, s1, er, si, q1, fun v H1 st1 r1 => ?_⟩
  dsimp only at q
  split at q
  · split at q
    · rename_i hf
      cases q
      exact .inl ⟨_, rep_str r1, hf, w _ H1 st1 (.str _)⟩
    · cases q
  · split at q
    · rename_i hf
      cases q
      exact .inr ⟨_, rep_int r1, hf, w _ H1 st1 (.str _)⟩
    · cases q
  · cases q
def fJs : List FE → Str → Fr → S → Option (Str × S)
  | [], acc, _, s => some (acc, s)
  | f :: fs, acc, δ, s => (f δ s).bind fun p => match p.1 with
    | .str y => if (acc ++ y).length ≤ sizeLine then fJs fs (acc ++ y) δ p.2 else none
    | _ => none
inductive DJ (X : Cx) : List Expr → List FE → Prop where
  | nil : DJ X [] []
  | cons {e : Expr} {f : FE} {es : List Expr} {fs : List FE} (h : PE X e (tD X.K f)) (r : DJ X es fs) : DJ X (e :: es) (f :: fs)
theorem DJ.pj {es : List Expr} {fs : List FE} (j : DJ X es fs) : PJ X es (fs.map (tD X.K)) := by
  induction j with
  | nil => exact .nil
  | cons h _ ih => exact .cons h ih
theorem js_of {K : PySem.W.Frag} : ∀ (fs : List FE) (acc : Str) (h : Addr → Bool) (s : S) (δ : Fr) (σ : L2.St) (H : Hp) (out : Str) (s' : S) (R : Str → Hp → Prop), EnvR K (hide h H) σ δ → SI K h s H → fJs fs acc δ s = some (out, s') →
    (∀ H', Step K h s H s' H' → R out H') → tJs (fs.map (tD K)) acc σ H R
  | [], acc, h, s, δ, σ, H, out, s', R, er, si, q, w => by
    cases (show some (acc, s) = some (out, s') from q)
    exact w H (Step.refl si)
  | f :: fs, acc, h, s, δ, σ, H, out, s', R, er, si, q, w => by
    obtain ⟨⟨x, s1⟩, q1, q⟩ := bind_some (show (f δ s).bind _ = _ from q)
    refine ⟨h, s, δ, x, s1, er, si, q1, fun v H1 st1 r1 => ?_⟩
    dsimp only at q
    split at q
    · split at q
      · rename_i hf
        exact ⟨_, rep_str r1, hf, js_of fs _ h s1 δ σ H1 out s' R (er.mono (st1.ext si)) st1.si q fun H' st => w H' (st1.trans st)⟩
      · cases q
    · cases q
def fJoined (fs : List FE) : FE := fun δ s => (fJs fs Str.empty δ s).map fun p => (.str p.1, p.2)
theorem d_joined {v1 v2 : Expr} {rest : List Expr} {fs : List FE} (j : DJ X (v1 :: v2 :: rest) fs) : PE X (.JoinedStr (v1 :: v2 :: rest) pos) (tD X.K (fJoined fs)) := imp_e (pe_joined j.pj) fun σ H Q ⟨h, s, δ, d, s', er, si, q, w⟩ => by
  obtain ⟨⟨out, s1⟩, q1, q⟩ := map_some q
  cases q
  exact js_of fs Str.empty h s δ σ H out s1 _ er si q1 fun H' st => w _ H' st (.str _)
end
end Fw

set_option Elab.async false
set_option linter.all false
set_option maxRecDepth 100000
set_option maxHeartbeats 4000000
/-! Tx2: l.extend(m) of an owned list; a list of one's own that is returned. -/
namespace Fw
open PySem PySem.Spec PyProof.Rows L2
section
variable {X : Cx} {e o v : Expr} {es : List Expr} {fe fo fv : FE} {pos apos : Pos}
def fExt (fo fv : FE) : FE := fun δ s => (fo δ s).bind fun p => match p.1 with
  | .ref a => (match p.2 a with
    | some (.lst _) => (fv δ p.2).bind fun q => (match q.1 with
      | .lst es => (match q.2 a with
        | some (.lst ds) => if okLen (ds.length + es.length) = true then some (.non, supd q.2 a (.lst (ds ++ es))) else none
        | _ => none)
      | _ => none)
    | _ => none)
  | _ => none
theorem d_ext {apos : Pos} (h : PE X (.Call (.Attribute o "extend" apos) [v] [] pos) (tBM X.K "list" rExtend (tD X.K fo) (tDA X.K (fCons fv fNil)))) : PE X (.Call (.Attribute o "extend" apos) [v] [] pos) (tD X.K (fExt fo fv)) := imp_e h fun σ H Q ⟨h, s, δ, d, s', er, si, q, w⟩ => by
  obtain ⟨⟨x, s1⟩, q1, q⟩ := bind_some q
  cases x with
  | ref a =>
    dsimp only at q
    split at q
    · rename_i ds0 e0
      obtain ⟨⟨y, s2⟩, q2, q⟩ := bind_some q
      dsimp only at q
      split at q
      · rename_i es
        split at q
        · rename_i ds e
          split at q
          · rename_i hl
            cases q
            refine ⟨h, s, δ, _, s1, er, si, q1, fun v H1 st1 r1 => ?_⟩
            cases rep_ref r1
            obtain ⟨xs0, e00, _⟩ := st1.si.ob _ _ e0
            refine ⟨Or.inl ⟨rfl, _, Or.inl (Or.inl e00)⟩, h, s1, δ, [.lst es], s2, er.mono (st1.ext si), st1.si, ?_, fun vs H2 st2 r2 => ?_⟩
            · show (fv δ s1).bind _ = _
              rw [q2]
              rfl
            · obtain ⟨u, rfl, r⟩ := reps1 r2
              obtain ⟨xs, e2, rx⟩ := st2.si.ob _ _ e
              obtain ⟨b, zs, rfl, e3, rz⟩ := rep_lst r
              refine ⟨a, b, xs, zs, rfl, rfl, e2, hide_ext _ _ _ _ e3, by rw [rx.length, rz.length]; exact Nat.le_of_lt (okLen_lt hl), ?_⟩
              have st3 := st2.si.putL (o := .lst (xs ++ zs)) (w := .lst (ds ++ es)) e ⟨_, rfl, rx.append rz⟩
              exact w .non _ (st1.trans (st2.trans st3)) .non
          · cases q
        · cases q
      · cases q
    · cases q
  | _ => cases q
def kExt3 (a : Addr) (es : List D) (s : S) : Option OO → Option (D × S)
  | some (.lst ds) => if okLen (ds.length + es.length) = true then some (.non, supd s a (.lst (ds ++ es))) else none
  | _ => none
/-! ### a list of one's own that is returned -/
def GoodLf (i : Nat) (fo : FOw) (rest : FS) (δ : Fr) (s : S) (d : D) : Prop :=
  (∃ a, s a = none) ∧ ∃ u, fo δ s = some (u, s) ∧ ∀ a, s a = none → ∃ s2 ds, rest (δ.set i (some (.ref a))) (supd s a u) = some (.rt (.ref a), s2) ∧ s2 a = some (.lst ds) ∧ d = .lst ds ∧ keepS s s2 = s
open Classical in
noncomputable def fOwnLf (i : Nat) (fo : FOw) (rest : FS) : FS := fun δ s => if h : ∃ d, GoodLf i fo rest δ s d then some (.rt h.choose, s) else none
theorem fOwnLf_eq {i : Nat} {fo : FOw} {rest : FS} {δ : Fr} {s : S} {d : D} (g : GoodLf i fo rest δ s d) : fOwnLf i fo rest δ s = some (.rt d, s) := by
  have h : ∃ d, GoodLf i fo rest δ s d := ⟨d, g⟩
  have e : h.choose = d := by
    obtain ⟨⟨a, ha⟩, u, e1, q⟩ := g
    obtain ⟨_, u', e1', q'⟩ := h.choose_spec
    rw [e1] at e1'
    cases e1'
    obtain ⟨s2, ds, e2, k2, l2, _⟩ := q a ha
    obtain ⟨s3, ds', e3, k3, l3, _⟩ := q' a ha
    rw [e2] at e3
    injection e3 with e3
    injection e3 with _ e3
    subst e3
    rw [k2] at k3
    cases k3
    rw [l2, l3]
  unfold fOwnLf
  rw [dif_pos h, e]
theorem dss_ownLf {st : Stmt} {sts : List Stmt} {i : Nat} {fo : FOw} {rest : FS} (h1 : PS X st (tAsg (tO X.K fo) (gName i))) (h2 : PSs X sts (tDS X.K rest)) : PSs X (st :: sts) (tDS X.K (fOwnLf i fo rest)) := imp_ss (pss_cons h1 h2) fun D σ H ⟨h, s, δ, o, s', er, si, q, w⟩ => by
  unfold fOwnLf at q
  split at q
  · rename_i hg
    cases q
    obtain ⟨_, u, e1, q⟩ := hg.choose_spec
    refine ⟨h, s, δ, u, s, er, si, e1, fun p h' H' hp g => ?_⟩
    obtain ⟨s2, ds, e2, k2, l2, ek⟩ := q p (none_of si hp)
    refine ⟨h', _, _, _, s2, (er.mono (g.ext si)).set (.ref p) i, g.si, e2, fun H2 st2 v r => ?_⟩
    obtain ⟨a1, a2⟩ := g.done si st2
    rw [ek] at a1
    cases rep_ref r
    obtain ⟨xs, e3, rx⟩ := st2.si.ob p _ k2
    have hn : h p = false := by
      cases z : h p with
      | false => rfl
      | true => exact absurd hp (si.hid p z)
    rw [l2] at w
    exact w H2 a1 (.ref p) (.lst (by unfold hide; rw [hn, if_neg Bool.false_ne_true]; exact e3) (Reps.mono a2 _ _ rx))
  · cases q
end
end Fw

set_option Elab.async false
set_option linter.all false
set_option maxRecDepth 100000
set_option maxHeartbeats 4000000
/-! Tx3: D.get(word) of a dict of the module; forms that simp computes with. -/
namespace Fw
open PySem PySem.Spec PyProof.Rows L2
section
variable {X : Cx} {e o : Expr} {fe fo : FE} {pos apos cpos : Pos} {kvs : List (Str × D)} {a : Addr}
def tKGet (K : PySem.W.Frag) (a : Addr) (td ty : TE) : TE := fun σ H Q => td σ H fun x H1 => x = .ref a ∧ ty σ H1 fun y H2 => ∃ (z : Str) (r : Option Value) (v : V), y = .str z ∧ PySem.W.nsIn K a z = some r ∧ RelV v (r.getD .none) ∧ Q v H2
theorem pe_kget {es : Array DictEntry} {n : Nat} {td ty : TE} (D : KDict X.K X.w a es n) (ho : PE X o td) (he : PE X e ty) (m : M1 X o "get" apos e cpos) : PE X (.Call (.Attribute o "get" apos) [e] [] cpos) (tKGet X.K a td ty) := by
  refine ⟨fun pins s σ H Q I h => ?_⟩
  refine wpAny_Call_method m.base m.few m.line PySem.F.plainAttrs_dict PySem.F.slot_dict_get PySem.F.type_dict_get (thn (ho.run pins s σ H _ I h) fun u s1 ⟨x, H1, I1, rx, ex, q1⟩ => ?_)
  subst ex
  obtain rfl : u = Value.ref a := rx
  refine ⟨kd_type D I1, fun b q => by cases q; exact ⟨_, I1.kIn _ _ D.at_, rfl⟩, ?_⟩
  rw [m.trees]
  refine Calls.callWith_builtin rfl (Calls.evalArgs_plain (Calls.spliced_cons (thn (he.run pins s1 σ H1 _ I1 q1) fun iv s2 ⟨y, H2, I2, ry, z, r, v, ey, er, rv, q2⟩ => Calls.spliced_nil ?_)))
  subst ey
  obtain ⟨t, rfl⟩ := ry
  refine call_meetsIn PySem.F.slot_dict_get (kd_type D I2) PySem.F.entry_dict_get (PySem.F.args_dict_get_2 _ _) (meets_dict_get (PySem.strKind X.prog X.w) a (PySem.strKind_is X.prog X.w z t) D.low) ⟨_, PySem.W.mapOf_K (prog := X.prog) I2.kIn D.at_ D.lit, ?_⟩
  rw [PySem.W.find_K D.at_ er]
  exact ⟨v, H2, I2.tok _, rv, q2⟩
/-- the value at a key, None without one -/
@[simp] def dGetK (kvs : List (Str × D)) (a : Addr) : G2 := fun x y _ => match x, y with
  | .ref b, .str z => if b = a then some ((kvs.lookup z).getD .non) else none
  | _, _ => none
theorem d_getK (G : GK X.K X.w kvs a) (ho : PE X o (tD X.K fo)) (he : PE X e (tD X.K fe)) (m : M1 X o "get" apos e cpos) : PE X (.Call (.Attribute o "get" apos) [e] [] cpos) (tD X.K (f2 (dGetK kvs a) fo fe)) := by
  obtain ⟨es, n, Dk⟩ := G.kd
  refine imp_e (pe_kget Dk ho he m) fun σ H Q ⟨h, s, δ, d, s', er, si, q, w⟩ => ?_
  obtain ⟨⟨x, s1⟩, q1, q⟩ := bind_some q
  obtain ⟨⟨y, s2⟩, q2, q⟩ := bind_some q
  obtain ⟨zz, q3, q⟩ := map_some q
  cases q
  refine ⟨h, s, δ, x, s1, er, si, q1, fun v H1 st1 r1 => ?_⟩
  cases x with
  | ref b =>
    cases y with
    | str z =>
      have q5 : (if b = a then some ((kvs.lookup z).getD .non) else none) = some d := q3
      by_cases hb : b = a
      rotate_left
      · rw [if_neg hb] at q5; cases q5
      rw [if_pos hb] at q5
      subst hb
      refine ⟨rep_ref r1, h, s1, δ, _, s2, er.mono (st1.ext si), st1.si, q2, fun u H2 st2 r2 => ?_⟩
      obtain ⟨r, e1, e2, e3⟩ := G.ns z
      cases hl : kvs.lookup z with
      | none =>
        rw [hl] at e2 q5
        cases r with
        | some _ => cases e2
        | none =>
          cases q5
          exact ⟨z, none, .non, rep_str r2, e1, rfl, w _ H2 (st1.trans st2) .non⟩
      | some d0 =>
        rw [hl] at q5
        cases q5
        obtain ⟨u0, v0, rfl, rl, rp⟩ := e3 _ hl
        exact ⟨z, some u0, v0, rep_str r2, e1, rl, w _ H2 (st1.trans st2) (rp _)⟩
    | _ => cases (show none = some _ from q3)
  | _ => cases (show none = some _ from q3)
end
/-! ### forms for simp -/
section
variable {δ : Fr} {s : S} {fe fo fv : FE} {x : D} {ds es : List D}
@[simp] theorem kExt3_s {a : Addr} : kExt3 a es s (some (.lst ds)) = if okLen (ds.length + es.length) = true then some (.non, supd s a (.lst (ds ++ es))) else none := rfl
def kExt2 (a : Addr) : Option (D × S) → Option (D × S) | some (.lst es, s) => kExt3 a es s (s a) | _ => none
@[simp] theorem kExt2_s {a : Addr} : kExt2 a (some (.lst es, s)) = kExt3 a es s (s a) := rfl
def kExt1 (fv : FE) (δ : Fr) (a : Addr) (s : S) : Option OO → Option (D × S) | some (.lst _) => kExt2 a (fv δ s) | _ => none
@[simp] theorem kExt1_s {a : Addr} : kExt1 fv δ a s (some (.lst ds)) = kExt2 a (fv δ s) := rfl
def kExt (fv : FE) (δ : Fr) : Option (D × S) → Option (D × S) | some (.ref a, s) => kExt1 fv δ a s (s a) | _ => none
@[simp] theorem kExt_s {a : Addr} : kExt fv δ (some (.ref a, s)) = kExt1 fv δ a s (s a) := rfl
@[simp] theorem fExt_e : fExt fo fv δ s = kExt fv δ (fo δ s) := by
  unfold fExt
  cases fo δ s with
  | none => rfl
  | some p =>
    obtain ⟨x, s1⟩ := p
    cases x with
    | ref a =>
      show (match s1 a with | some (.lst _) => _ | _ => _) = kExt1 fv δ a s1 (s1 a)
      cases s1 a with
      | none => rfl
      | some u =>
        cases u with
        | lst ds0 =>
          show (fv δ s1).bind _ = kExt2 a (fv δ s1)
          cases fv δ s1 with
          | none => rfl
          | some q =>
            obtain ⟨y, s2⟩ := q
            cases y with
            | lst es =>
              show (match s2 a with | some (.lst ds) => _ | _ => _) = kExt3 a es s2 (s2 a)
              cases s2 a with
              | none => rfl
              | some u2 => cases u2 <;> rfl
            | _ => rfl
        | _ => rfl
    | _ => rfl
def kFmt : Option (D × S) → Option (D × S)
  | some (.str y, s) => if y.length ≤ sizeLine then some (.str y, s) else none
  | some (.int i, s) => if i.natAbs.log2 < 1920 then some (.str (Str.ofString (toString i)), s) else none
  | _ => none
@[simp] theorem kFmt_s {y : Str} : kFmt (some (.str y, s)) = if y.length ≤ sizeLine then some (.str y, s) else none := rfl
@[simp] theorem kFmt_i {i : Int} : kFmt (some (.int i, s)) = if i.natAbs.log2 < 1920 then some (.str (Str.ofString (toString i)), s) else none := rfl
@[simp] theorem fFmt_e : fFmt fe δ s = kFmt (fe δ s) := by
  unfold fFmt
  cases fe δ s with
  | none => rfl
  | some p =>
    obtain ⟨x, s1⟩ := p
    cases x <;> rfl
def kJs (fs : List FE) (acc : Str) (δ : Fr) : Option (D × S) → Option (Str × S)
  | some (.str y, s) => if (acc ++ y).length ≤ sizeLine then fJs fs (acc ++ y) δ s else none
  | _ => none
@[simp] theorem kJs_s {fs : List FE} {acc y : Str} : kJs fs acc δ (some (.str y, s)) = if (acc ++ y).length ≤ sizeLine then fJs fs (acc ++ y) δ s else none := rfl
@[simp] theorem fJs_nil {acc : Str} : fJs [] acc δ s = some (acc, s) := rfl
@[simp] theorem fJs_cons {f : FE} {fs : List FE} {acc : Str} : fJs (f :: fs) acc δ s = kJs fs acc δ (f δ s) := by
  show (f δ s).bind _ = _
  cases f δ s with
  | none => rfl
  | some p =>
    obtain ⟨x, s1⟩ := p
    cases x <;> rfl
def kJoined : Option (Str × S) → Option (D × S) | some (y, s) => some (.str y, s) | none => none
@[simp] theorem kJoined_s {y : Str} : kJoined (some (y, s)) = some (.str y, s) := rfl
@[simp] theorem fJoined_e {fs : List FE} : fJoined fs δ s = kJoined (fJs fs Str.empty δ s) := by
  unfold fJoined
  cases fJs fs Str.empty δ s with
  | none => rfl
  | some p => rfl
end
end Fw

set_option Elab.async false
set_option linter.all false
set_option maxRecDepth 100000
set_option maxHeartbeats 4000000
/-! Pt1: statements that make things of their own at any place: what must hold behind them, by data. -/
namespace Fw
open PySem PySem.Spec PyProof.Rows L2
abbrev FT2 := Fr → S → (Out → S → Prop) → Prop
def tDP (K : PySem.W.Frag) (T : FT2) : TS := fun D σ H => ∃ (h : Addr → Bool) (s : S) (δ : Fr) (Post : Out → S → Prop), EnvR K (hide h H) σ δ ∧ SI K h s H ∧ T δ s Post ∧
  ∀ o s' h' H', Post o s' → Grow K h s H h' s' H' → endR K h' D H' o
section
variable {X : Cx} {tg iter c e : Expr} {st : Stmt} {sts b1 b2 body : List Stmt} {f : FS} {fi : FI} {ft : FG} {g : TG} {tt : FT} {T T1 T2 Tb : FT2} {pos : Pos} {vs : List Nat}
def TOf (f : FS) : FT2 := fun δ s Post => ∃ o s', f δ s = some (o, s') ∧ Post o s'
theorem dq_of (p : PS X st (tDS X.K f)) : PS X st (tDP X.K (TOf f)) := imp_s p fun D σ H ⟨h, s, δ, Post, er, si, ⟨o, s', q, hp⟩, w⟩ => ⟨h, s, δ, o, s', er, si, q, fun H' st => w o s' h H' hp (Grow.of st)⟩
theorem dqs_of (p : PSs X sts (tDS X.K f)) : PSs X sts (tDP X.K (TOf f)) := imp_ss p fun D σ H ⟨h, s, δ, Post, er, si, ⟨o, s', q, hp⟩, w⟩ => ⟨h, s, δ, o, s', er, si, q, fun H' st => w o s' h H' hp (Grow.of st)⟩
def seqPost (T2 : FT2) (Post : Out → S → Prop) : Out → S → Prop
  | .nx δ, s => T2 δ s Post
  | .rt d, s => Post (.rt d) s
  | .bk δ, s => Post (.bk δ) s
  | .ct δ, s => Post (.ct δ) s
def TSeq (T1 T2 : FT2) : FT2 := fun δ s Post => T1 δ s (seqPost T2 Post)
theorem dq_cons (h1 : PS X st (tDP X.K T1)) (h2 : PSs X sts (tDP X.K T2)) : PSs X (st :: sts) (tDP X.K (TSeq T1 T2)) := imp_ss (pss_cons h1 h2) fun D σ H ⟨h, s, δ, Post, er, si, t, w⟩ => by
  refine ⟨h, s, δ, seqPost T2 Post, er, si, t, fun o s' h' H' hp gr => ?_⟩
  cases o with
  | nx δ1 => exact fun σ1 er1 => ⟨h', s', δ1, Post, er1, gr.si, hp, fun o s2 h2 H2 hp2 g2 => w o s2 h2 H2 hp2 (gr.trans si g2)⟩
  | rt d => exact w (.rt d) s' h' H' hp gr
  | bk δ1 => exact w (.bk δ1) s' h' H' hp gr
  | ct δ1 => exact w (.ct δ1) s' h' H' hp gr
def TNil : FT2 := fun δ s Post => Post (.nx δ) s
theorem dq_nil : PSs X [] (tDP X.K TNil) := imp_ss pss_nil fun D σ H ⟨h, s, δ, Post, er, si, t, w⟩ => w (.nx δ) s h H t (Grow.of (Step.refl si)) σ er
theorem dq_one (h1 : PS X st (tDP X.K T)) : PSs X [st] (tDP X.K (TSeq T TNil)) := dq_cons h1 dq_nil
def TOwn (i : Nat) (fo : FOw) : FT2 := fun δ s Post => ∃ u s1, fo δ s = some (u, s1) ∧ ∀ a, s a = none → Post (.nx (δ.set i (some (.ref a)))) (supd s1 a u)
theorem dq_own {i : Nat} {fo : FOw} (h1 : PS X st (tAsg (tO X.K fo) (gName i))) : PS X st (tDP X.K (TOwn i fo)) := imp_s h1 fun D σ H ⟨h, s, δ, Post, er, si, ⟨u, s1, q, hp⟩, w⟩ => by
  refine ⟨h, s, δ, u, s1, er, si, q, fun p h' H' hpn gr => ?_⟩
  exact w (.nx _) _ h' H' (hp p (none_of si hpn)) gr _ ((er.mono (gr.ext si)).set (.ref p) i)
def TIf (tt : FT) (T1 T2 : FT2) : FT2 := fun δ s Post => ∃ k s1, tt δ s = some (k, s1) ∧ if k = true then T1 δ s1 Post else T2 δ s1 Post
theorem dq_if (hc : PT X c (tDT X.K tt)) (ha : PSs X b1 (tDP X.K T1)) (hb : PSs X b2 (tDP X.K T2)) : PS X (.If c b1 b2 pos) (tDP X.K (TIf tt T1 T2)) := imp_s (ps_if hc ha hb) fun D σ H ⟨h, s, δ, Post, er, si, ⟨k, s1, q, t⟩, w⟩ => by
  refine ⟨h, s, δ, k, s1, er, si, q, fun H1 st1 => ?_⟩
  cases k with
  | true => exact ⟨h, s1, δ, Post, er.mono (st1.ext si), st1.si, t, fun o s2 h2 H2 hp g2 => w o s2 h2 H2 hp ((Grow.of st1).trans si g2)⟩
  | false => exact ⟨h, s1, δ, Post, er.mono (st1.ext si), st1.si, t, fun o s2 h2 H2 hp g2 => w o s2 h2 H2 hp ((Grow.of st1).trans si g2)⟩
def loopPost (Iv : Nat → Fr → S → Prop) (i : Nat) (Post : Out → S → Prop) : Out → S → Prop
  | .nx δ, s => Iv (i + 1) δ s
  | .ct δ, s => Iv (i + 1) δ s
  | .bk δ, s => Post (.nx δ) s
  | .rt d, s => Post (.rt d) s
def TFor (fi : FI) (ft : FG) (Tb : FT2) : FT2 := fun δ s Post => ∃ ds s1, fi δ s = some (ds, s1) ∧ ∃ Iv : Nat → Fr → S → Prop, Iv 0 δ s1 ∧
  (∀ i d δ s, ds[i]? = some d → Iv i δ s → ∃ δ1, ft d δ = some δ1 ∧ Tb δ1 s (loopPost Iv i Post)) ∧ ∀ δ s, Iv ds.length δ s → Post (.nx δ) s
theorem dq_for (hp : PassesOwn (model X.prog X.w) X.A X.env X.xe) (hc : X.calm = true) (hi : PI X tg iter (tDY X.K fi)) (hg : PG X tg g) (gt : GT X.K g ft vs) (hb : PSs X body (tDP X.K Tb))
    (hs : ∀ x, foldedSetIterable iter X.env x = pure x := by intro _; rfl) : PS X (.For tg iter body [] pos) (tDP X.K (TFor fi ft Tb)) := imp_s (ps_for hp hc hi hg hb hs) fun D σ H ⟨h, s, δ, Post, er, si, ⟨ds, s1, q1, Iv, i0, iS, iE⟩, w⟩ => by
  refine ⟨h, s, δ, ds, s1, er, si, q1, fun J H1 st1 it => ?_⟩
  have g1 := Grow.of st1
  refine ⟨fun i m σ2 H2 => ∃ h2 s2 δ2, m = ds.length - i ∧ i ≤ ds.length ∧ Grow X.K h s1 H1 h2 s2 H2 ∧ EnvR X.K (hide h2 H2) σ2 δ2 ∧ Iv i δ2 s2, ⟨_, h, s1, δ, rfl, Nat.zero_le _, Grow.of (Step.refl st1.si), er.mono (st1.ext si), i0⟩, ?_⟩
  rintro i m σ2 H2 ⟨h2, s2, δ2, rfl, hi', gr2, er2, iv⟩
  by_cases hlt : i < ds.length
  · have e1 : ds[i]? = some ds[i] := List.getElem?_eq_getElem hlt
    obtain ⟨δ3, q3, tb⟩ := iS i _ δ2 s2 e1 iv
    obtain ⟨go, yl⟩ := (it h2 s2 H2 (gr2.ext st1.si) gr2.si i).1 _ e1
    refine .inr ⟨go, fun σ' H' => (∃ m', m' < ds.length - i ∧ ∃ h2 s2 δ2, m' = ds.length - (i + 1) ∧ i + 1 ≤ ds.length ∧ Grow X.K h s1 H1 h2 s2 H' ∧ EnvR X.K (hide h2 H') σ' δ2 ∧ Iv (i + 1) δ2 s2), fun σ' H' z => z, fun x H3 y => ?_⟩
    obtain ⟨st3, r3⟩ := yl x H3 y
    refine gt (hide h2 H3) x σ2 H3 _ δ2 δ3 _ (hide_sub h2 H3) (er2.mono (st3.ext gr2.si)) r3 q3 fun σ3 er3 _ => ?_
    refine ⟨h2, s2, δ3, loopPost Iv i Post, er3, st3.si, tb, fun o s4 h4 H4 hp4 g4 => ?_⟩
    have g14 : Grow X.K h s1 H1 h4 s4 H4 := gr2.trans st1.si ((Grow.of st3).trans gr2.si g4)
    cases o with
    | nx δ4 => exact fun σ' er' => ⟨_, by omega, h4, s4, δ4, rfl, hlt, g14, er', hp4⟩
    | ct δ4 => exact fun σ' er' => ⟨_, by omega, h4, s4, δ4, rfl, hlt, g14, er', hp4⟩
    | bk δ4 => exact w (.nx δ4) s4 h4 H4 hp4 (g1.trans si g14)
    | rt d => exact w (.rt d) s4 h4 H4 hp4 (g1.trans si g14)
  · have e : i = ds.length := by omega
    subst e
    exact .inl ⟨(it h2 s2 H2 (gr2.ext st1.si) gr2.si ds.length).2 (Nat.le_refl _), w (.nx δ2) s2 h2 H2 (iE δ2 s2 iv) (g1.trans si gr2) σ2 er2⟩
/-! ### a block that gives d, with nothing of its own left -/
def endPost (s : S) (d : D) : Out → S → Prop := fun o s' => keepS s s' = s ∧ (o = .rt d ∨ ∃ a ds, o = .rt (.ref a) ∧ s a = none ∧ s' a = some (.lst ds) ∧ d = .lst ds)
open Classical in
noncomputable def fP (F : Fr → S → Option D) (T : FT2) : FS := fun δ s => match F δ s with
  | some d => if T δ s (endPost s d) then some (.rt d, s) else none
  | none => none
theorem fP_eq {F : Fr → S → Option D} {δ : Fr} {s : S} {d : D} (e : F δ s = some d) (t : T δ s (endPost s d)) : fP F T δ s = some (.rt d, s) := by
  unfold fP
  rw [e]
  exact if_pos t
theorem dsp_run (F : Fr → S → Option D) (p : PSs X sts (tDP X.K T)) : PSs X sts (tDS X.K (fP F T)) := imp_ss p fun D σ H ⟨h, s, δ, o, s', er, si, q, w⟩ => by
  unfold fP at q
  split at q
  rotate_left
  · cases q
  rename_i d e
  split at q
  rotate_left
  · cases q
  rename_i t
  cases q
  refine ⟨h, s, δ, endPost s d, er, si, t, fun o s' h' H' hp gr => ?_⟩
  obtain ⟨hk, ho⟩ := hp
  obtain ⟨a1, a2⟩ := gr.done si (Step.refl gr.si)
  rw [hk] at a1
  rcases ho with rfl | ⟨a, ds, rfl, n1, n2, rfl⟩
  · exact fun v r => w H' a1 v (Rep.mono a2 _ _ r)
  · intro v r
    cases rep_ref r
    obtain ⟨xs, e3, rx⟩ := gr.si.ob a _ n2
    have hHa : H a = none := by
      cases z : H a with
      | none => rfl
      | some u =>
        have := gr.dom a n1 (by rw [z]; exact fun y => nomatch y)
        rw [n2] at this
        cases this
    have hn : h a = false := by
      cases z : h a with
      | false => rfl
      | true => exact absurd hHa (si.hid a z)
    exact w H' a1 (.ref a) (.lst (by unfold hide; rw [hn, if_neg Bool.false_ne_true]; exact e3) (Reps.mono a2 _ _ rx))
end
end Fw

set_option Elab.async false
set_option linter.all false
set_option maxRecDepth 100000
set_option maxHeartbeats 4000000
/-! Tx4: the lines of a program. -/
namespace Fw
open PySem PySem.Spec PyProof.Rows L2
@[simp] def gtQuad (i j k l : Nat) : FG := fun d δ => match d with
  | .tup [x, y, z, u] => some ((((δ.set i (some x)).set j (some y)).set k (some z)).set l (some u))
  | _ => none
theorem gt_quad {K : PySem.W.Frag} {i j k l : Nat} {vs : List Nat} (h : i ∈ vs) (h' : j ∈ vs) (h2 : k ∈ vs) (h3 : l ∈ vs) : GT K (gTup K 4 (gCons (gName i) (gCons (gName j) (gCons (gName k) (gCons (gName l) gNil))))) (gtQuad i j k l) vs := by
  intro H0 v σ H d δ δ' Q ex er r q w
  unfold gtQuad at q
  split at q
  · rename_i x y z u
    cases q
    cases r with
    | tup hq rs =>
      rename_i a xs
      cases rs with
      | cons r1 rs => cases rs with
        | cons r2 rs => cases rs with
          | cons r3 rs => cases rs with
            | cons r4 rs => cases rs with
              | nil =>
                refine ⟨a, _, rfl, ext_t ex hq.sq, rfl, _, _, rfl, _, _, rfl, _, _, rfl, _, [], rfl, rfl, ?_⟩
                exact w _ ((((er.set r1 i).set r2 j).set r3 k).set r4 l) (by rw [set_wipe h3, set_wipe h2, set_wipe h', set_wipe h])
  · cases q
def wS (x : String) : Str := Str.ofString x
def spS : Str := Str.ofString " "
def nlS : Str := Str.ofString "\n"
def dotS : Str := Str.ofString "."
def numS (n : Nat) : Str := Str.ofString (toString (n : Int))
def termsS (ts : List Nat) : Str := if ts = [] then wS "-" else Str.join dotS (ts.map numS)
def sortS (t : Bool) : Str := if t then wS "secret" else wS "open"
/-- the words of a statement's first line -/
def wordsM : Sm → List Str
  | .sum x ts n => [wS "sum", numS x, termsS ts, numS n]
  | .ite x _ _ => [wS "if", numS x]
  | .times n _ => [wS "times", numS n]
  | .whl x _ => [wS "while", numS x]
  | .print x => [wS "print", numS x]
  | .stop => [wS "stop"]
  | .split x y => [wS "split", numS x, numS y]
  | .keep t x y => [wS "keep", sortS t, numS x, numS y]
  | .fetch t x y => [wS "fetch", sortS t, numS x, numS y]
def headS (a : Sm) : Str := Str.join spS (wordsM a)
mutual
def lineM : Sm → List Str
  | .ite x p q => headS (.ite x [] []) :: (linesM p ++ (wS "else" :: (linesM q ++ [wS "end"])))
  | .times n b => headS (.times n []) :: (linesM b ++ [wS "end"])
  | .whl x b => headS (.whl x []) :: (linesM b ++ [wS "end"])
  | .sum x ts n => [headS (.sum x ts n)]
  | .print x => [headS (.print x)]
  | .stop => [headS .stop]
  | .split x y => [headS (.split x y)]
  | .keep t x y => [headS (.keep t x y)]
  | .fetch t x y => [headS (.fetch t x y)]
def linesM : List Sm → List Str
  | [] => []
  | a :: b => lineM a ++ linesM b
end
theorem num_ok : ∀ n, n < 10 → (numS n).cps.toList = [48 + n] := by decide +kernel
theorem num_log : ∀ n, n < 10 → n.log2 < 1920 := by decide
theorem str_num {n : Nat} (h : n < 10) (s : S) : dStr1 [.int (n : Int)] s = some (.str (numS n)) := by
  show (if (n : Int).natAbs.log2 < 1920 then _ else _) = _
  rw [if_pos (by rw [Int.natAbs_natCast]; exact num_log n h)]
  rfl
theorem num_len {n : Nat} (h : n < 10) : (numS n).length = 1 := by
  have := congrArg List.length (num_ok n h)
  simpa [Str.length] using this
theorem txts_map : ∀ ys : List Str, txtsD (ys.map D.str) = some ys
  | [] => rfl
  | y :: ys => by
    show (txtsD (ys.map D.str)).map _ = _
    rw [txts_map ys]; rfl
theorem join_fits {a : Str} {ys : List Str} (h : joinFits a ys = true) : joinT a (ys.map D.str) = some (.str (Str.join a ys)) := by
  unfold joinT
  rw [txts_map, Option.bind_some, if_pos h]
theorem fits_of {a : Str} {k : Nat} : ∀ {ys : List Str}, (∀ y ∈ ys, y.length ≤ k) → ys.length * (k + a.length) ≤ 16777216 → joinFits a ys = true := fun {ys} h hz => by
  refine decide_eq_true ?_
  have q : ∀ zs : List Str, (∀ y ∈ zs, y.length ≤ k) → (zs.map (·.length)).sum ≤ zs.length * k := by
    intro zs
    induction zs with
    | nil => intro _; simp
    | cons z zs ih =>
      intro hy
      have h1 := ih fun y hm => hy y (List.mem_cons_of_mem _ hm)
      have h2 := hy z List.mem_cons_self
      rw [List.map_cons, List.sum_cons, List.length_cons, Nat.add_mul]
      omega
  have := q ys h
  rw [Nat.mul_add] at hz
  omega
theorem terms_len {ts : List Nat} (h : ts.length ≤ 2) (hv : ∀ t ∈ ts, t < 10) : (termsS ts).length ≤ 3 := by
  match ts, h with
  | [], _ => decide
  | [a], _ =>
    show (numS a).length ≤ 3
    rw [num_len (hv a (by simp))]; omega
  | [a, b], _ =>
    show (numS a ++ dotS ++ numS b).length ≤ 3
    have e1 := num_len (hv a (by simp))
    have e2 := num_len (hv b (by simp))
    have ap : ∀ x y : Str, (x ++ y).length = x.length + y.length := fun x y => by show (x.cps ++ y.cps).size = _; rw [Array.size_append]; rfl
    rw [ap, ap, e1, e2]; decide
  | _ :: _ :: _ :: _, h => simp at h
theorem str_app (x y : Str) : (x ++ y).length = x.length + y.length := by show (x.cps ++ y.cps).size = _; rw [Array.size_append]; rfl
theorem words_len4 {m d : Nat} {a : Sm} (hm : m ≤ 10) (ok : smOk m d a) : (wordsM a).length ≤ 4 ∧ ∀ y ∈ wordsM a, y.length ≤ 6 := by
  have w6 : ∀ x ∈ ["sum", "if", "times", "while", "print", "stop", "split", "keep", "fetch", "open", "secret"], (wS x).length ≤ 6 := by decide +kernel
  have ws : ∀ t, (sortS t).length ≤ 6 := fun t => by cases t <;> decide +kernel
  have n6 : ∀ {n}, n < 10 → (numS n).length ≤ 6 := fun h => by rw [num_len h]; omega
  cases a with
  | sum x ts n =>
    obtain ⟨h1, h2, h3, h4⟩ := ok
    have := terms_len h2 (fun t ht => Nat.lt_of_lt_of_le (h3 t ht) hm)
    refine ⟨by simp [wordsM], ?_⟩
    simp only [wordsM, List.mem_cons, List.mem_nil_iff, or_false]
    rintro y (rfl | rfl | rfl | rfl)
    · exact w6 _ (by simp)
    · exact n6 (by omega)
    · omega
    · exact n6 (by omega)
  | ite x p q =>
    obtain ⟨h1, _⟩ := ok
    refine ⟨by simp [wordsM], ?_⟩
    simp only [wordsM, List.mem_cons, List.mem_nil_iff, or_false]
    rintro y (rfl | rfl)
    · exact w6 _ (by simp)
    · exact n6 (by omega)
  | times n b =>
    obtain ⟨h1, _⟩ := ok
    refine ⟨by simp [wordsM], ?_⟩
    simp only [wordsM, List.mem_cons, List.mem_nil_iff, or_false]
    rintro y (rfl | rfl)
    · exact w6 _ (by simp)
    · exact n6 (by omega)
  | whl x b =>
    obtain ⟨h1, _⟩ := ok
    refine ⟨by simp [wordsM], ?_⟩
    simp only [wordsM, List.mem_cons, List.mem_nil_iff, or_false]
    rintro y (rfl | rfl)
    · exact w6 _ (by simp)
    · exact n6 (by omega)
  | print x =>
    have h1 : x < m := ok
    refine ⟨by simp [wordsM], ?_⟩
    simp only [wordsM, List.mem_cons, List.mem_nil_iff, or_false]
    rintro y (rfl | rfl)
    · exact w6 _ (by simp)
    · exact n6 (by omega)
  | stop => exact ⟨by simp [wordsM], by simp only [wordsM, List.mem_cons, List.mem_nil_iff, or_false]; rintro y rfl; exact w6 _ (by simp)⟩
  | split x y =>
    obtain ⟨h1, h2⟩ := ok
    refine ⟨by simp [wordsM], ?_⟩
    simp only [wordsM, List.mem_cons, List.mem_nil_iff, or_false]
    rintro y (rfl | rfl | rfl)
    · exact w6 _ (by simp)
    · exact n6 (by omega)
    · exact n6 (by omega)
  | keep t x y =>
    obtain ⟨h1, h2⟩ := ok
    refine ⟨by simp [wordsM], ?_⟩
    simp only [wordsM, List.mem_cons, List.mem_nil_iff, or_false]
    rintro y (rfl | rfl | rfl | rfl)
    · exact w6 _ (by simp)
    · exact ws t
    · exact n6 (by omega)
    · exact n6 (by omega)
  | fetch t x y =>
    obtain ⟨h1, h2⟩ := ok
    refine ⟨by simp [wordsM], ?_⟩
    simp only [wordsM, List.mem_cons, List.mem_nil_iff, or_false]
    rintro y (rfl | rfl | rfl | rfl)
    · exact w6 _ (by simp)
    · exact ws t
    · exact n6 (by omega)
    · exact n6 (by omega)
theorem words_fit {m d : Nat} {a : Sm} (hm : m ≤ 10) (ok : smOk m d a) : joinT spS ((wordsM a).map D.str) = some (.str (headS a)) := by
  obtain ⟨h1, h2⟩ := words_len4 hm ok
  refine join_fits (fits_of (k := 6) h2 ?_)
  have : spS.length = 1 := by decide +kernel
  rw [this]
  omega
theorem terms_fit {ts : List Nat} (h : ts.length ≤ 2) (hv : ∀ t ∈ ts, t < 10) : joinT dotS ((ts.map numS).map D.str) = some (.str (Str.join dotS (ts.map numS))) := by
  refine join_fits (fits_of (k := 1) (fun y hy => ?_) ?_)
  · obtain ⟨t, ht, rfl⟩ := List.mem_map.mp hy
    rw [num_len (hv t ht)]; omega
  · have : dotS.length = 1 := by decide +kernel
    rw [this, List.length_map]; omega
theorem compL_nums {δ : Fr} {i : Nat} {s : S} (hi : i < δ.length) : ∀ ts : List Nat, (∀ t ∈ ts, t < 10) → compL (gtName i) tTrue (fL dStr1 (fCons (fVar i) fNil)) (ts.map natD) δ s = some ((ts.map numS).map D.str, s) := fun ts hv => by
  have := compL_map (ft := gtName i) (fe := fL dStr1 (fCons (fVar i) fNil)) (δ := δ) (s := s) (fun d => match d with | .int k => .str (numS k.toNat) | _ => .non) (ts.map natD) fun d hd => by
    obtain ⟨t, ht, rfl⟩ := List.mem_map.mp hd
    refine ⟨_, rfl, ?_⟩
    have q := str_num (hv t ht) s
    show ((fCons (fVar i) fNil) (δ.set i (some (.int (t : Int)))) s).bind _ = _
    have e : (fCons (fVar i) fNil) (δ.set i (some (.int (t : Int)))) s = some ([.int (t : Int)], s) := by simp [hi]
    rw [e, Option.bind_some, q]
    rfl
  rw [this, List.map_map, List.map_map]
  rfl
@[simp high] theorem kFmt_n {n : Nat} {s : S} : kFmt (some (.int (n : Int), s)) = if n.log2 < 1920 then some (.str (numS n), s) else none := by
  rw [kFmt_i, Int.natAbs_natCast]; rfl
theorem dStr1_n (n : Nat) (s : S) (h : n < 10) : dStr1 [.int (n : Int)] s = some (.str (numS n)) := str_num h s
theorem head_if : ∀ n, n < 10 → Str.empty ++ Str.ofString "if " ++ numS n = headS (.ite n [] []) ∧ (Str.empty ++ Str.ofString "if " ++ numS n).length ≤ sizeLine := by decide +kernel
theorem head_times : ∀ n, n < 10 → Str.empty ++ Str.ofString "times" ++ Str.ofString " " ++ numS n = headS (.times n []) ∧ (Str.empty ++ Str.ofString "times" ++ Str.ofString " " ++ numS n).length ≤ sizeLine := by decide +kernel
theorem head_while : ∀ n, n < 10 → Str.empty ++ Str.ofString "while" ++ Str.ofString " " ++ numS n = headS (.whl n []) ∧ (Str.empty ++ Str.ofString "while" ++ Str.ofString " " ++ numS n).length ≤ sizeLine := by decide +kernel
theorem short_if : (Str.empty ++ Str.ofString "if ").length ≤ sizeLine := by decide +kernel
theorem short_times : (Str.ofString "times").length ≤ sizeLine ∧ (Str.empty ++ Str.ofString "times").length ≤ sizeLine ∧ (Str.empty ++ Str.ofString "times" ++ Str.ofString " ").length ≤ sizeLine := by decide +kernel
theorem short_while : (Str.ofString "while").length ≤ sizeLine ∧ (Str.empty ++ Str.ofString "while").length ≤ sizeLine ∧ (Str.empty ++ Str.ofString "while" ++ Str.ofString " ").length ≤ sizeLine := by decide +kernel
def LN : Nat → Nat
  | 0 => 1
  | d + 1 => 3 + 8 * LN d
theorem LN_pos (d : Nat) : 1 ≤ LN d := by cases d <;> simp [LN]; omega
mutual
theorem line_len {m : Nat} : ∀ (d : Nat) (a : Sm), smOk m d a → (lineM a).length ≤ LN d
  | d, .sum _ _ _, _ => LN_pos d
  | d, .print _, _ => LN_pos d
  | d, .stop, _ => LN_pos d
  | d, .split _ _, _ => LN_pos d
  | d, .keep _ _ _, _ => LN_pos d
  | d, .fetch _ _ _, _ => LN_pos d
  | 0, .ite _ _ _, h => absurd h.2.2.2.1 (by omega)
  | 0, .times _ _, h => absurd h.2.2.1 (by omega)
  | 0, .whl _ _, h => absurd h.2.2.1 (by omega)
  | d + 1, .ite x p q, h => by
    obtain ⟨_, h1, h2, _, h3, h4⟩ := h
    have a1 := lines_len d p h3
    have a2 := lines_len d q h4
    have b1 : p.length * LN d ≤ 4 * LN d := Nat.mul_le_mul_right _ h1
    have b2 : q.length * LN d ≤ 4 * LN d := Nat.mul_le_mul_right _ h2
    rw [lineM]
    simp only [List.length_cons, List.length_append, List.length_nil, LN]
    omega
  | d + 1, .times n b, h => by
    obtain ⟨_, h1, _, h3⟩ := h
    have a1 := lines_len d b h3
    have b1 : b.length * LN d ≤ 4 * LN d := Nat.mul_le_mul_right _ h1
    rw [lineM]
    simp only [List.length_cons, List.length_append, List.length_nil, LN]
    omega
  | d + 1, .whl x b, h => by
    obtain ⟨_, h1, _, h3⟩ := h
    have a1 := lines_len d b h3
    have b1 : b.length * LN d ≤ 4 * LN d := Nat.mul_le_mul_right _ h1
    rw [lineM]
    simp only [List.length_cons, List.length_append, List.length_nil, LN]
    omega
theorem lines_len {m : Nat} : ∀ (d : Nat) (b : List Sm), smsOk m d b → (linesM b).length ≤ b.length * LN d
  | d, [], _ => Nat.zero_le _
  | d, a :: b, h => by
    have a1 := line_len d a h.1
    have a2 := lines_len d b h.2
    rw [linesM, List.length_append, List.length_cons, Nat.add_mul]
    omega
end
theorem LN_two {d : Nat} (h : d ≤ 2) : LN d ≤ 91 := by
  match d, h with
  | 0, _ => decide
  | 1, _ => decide
  | 2, _ => decide
end Fw

set_option Elab.async false
set_option linter.all false
set_option maxRecDepth 100000
set_option maxHeartbeats 4000000
/-! Tx5: lines read again. -/
namespace Fw
open PySem PySem.Spec PyProof.Rows L2
def numsL : List (Str × D) := [(numS 0, .int 0), (numS 1, .int 1), (numS 2, .int 2), (numS 3, .int 3), (numS 4, .int 4), (numS 5, .int 5), (numS 6, .int 6), (numS 7, .int 7), (numS 8, .int 8), (numS 9, .int 9)]
theorem num_ne : ∀ m, m < 10 → ∀ n, n < 10 → (numS m == numS n) = decide (m = n) := by decide +kernel
theorem num_get {n : Nat} (h : n < 10) : numsL.lookup (numS n) = some (natD n) := by
  have e : ∀ m, m < 10 → (numS n == numS m) = decide (n = m) := fun m hm => num_ne n h m hm
  simp only [numsL, List.lookup_cons, e 0 (by omega), e 1 (by omega), e 2 (by omega), e 3 (by omega), e 4 (by omega), e 5 (by omega), e 6 (by omega), e 7 (by omega), e 8 (by omega), e 9 (by omega)]
  rcases (show n = 0 ∨ n = 1 ∨ n = 2 ∨ n = 3 ∨ n = 4 ∨ n = 5 ∨ n = 6 ∨ n = 7 ∨ n = 8 ∨ n = 9 by omega) with rfl | rfl | rfl | rfl | rfl | rfl | rfl | rfl | rfl | rfl <;> rfl
theorem sp_code : spS.cps.toList = [32] := by decide +kernel
theorem nl_code : nlS.cps.toList = [10] := by decide +kernel
theorem dot_code : dotS.cps.toList = [46] := by decide +kernel
theorem sp_kind : Builtin.Str.strKind spS = 1 := by decide +kernel
theorem nl_kind : Builtin.Str.strKind nlS = 1 := by decide +kernel
theorem dot_kind : Builtin.Str.strKind dotS = 1 := by decide +kernel
theorem num_no {n c : Nat} (h : n < 10) (hc : c < 48) : c ∉ (numS n).cps.toList := by
  rw [num_ok n h]
  intro z
  have := List.mem_singleton.mp z
  omega
theorem terms_codes {ts : List Nat} (h : ts.length ≤ 2) (hv : ∀ t ∈ ts, t < 10) {c : Nat} (hc : c < 45) : c ∉ (termsS ts).cps.toList := by
  match ts, h with
  | [], _ =>
    have : (termsS []).cps.toList = [45] := by decide +kernel
    rw [this]
    intro z
    have := List.mem_singleton.mp z
    omega
  | [a], _ => exact num_no (hv a (by simp)) (by omega)
  | [a, b], _ =>
    show c ∉ (numS a ++ dotS ++ numS b).cps.toList
    rw [Str.cps_append, Str.cps_append, Array.toList_append, Array.toList_append, dot_code]
    intro z
    rcases List.mem_append.mp z with z | z
    · rcases List.mem_append.mp z with z | z
      · exact num_no (hv a (by simp)) (by omega) z
      · have := List.mem_singleton.mp z
        omega
    · exact num_no (hv b (by simp)) (by omega) z
  | _ :: _ :: _ :: _, h => simp at h
theorem words_no : ∀ x ∈ ["sum", "if", "times", "while", "print", "stop", "split", "keep", "fetch", "open", "secret", "else", "end"], ∀ c ∈ [32, 10], c ∉ (wS x).cps.toList := by decide +kernel
theorem word_codes {m d : Nat} {a : Sm} (hm : m ≤ 10) (ok : smOk m d a) {c : Nat} (hc : c ∈ [32, 10]) : ∀ y ∈ wordsM a, c ∉ y.cps.toList := by
  have hc' : c < 45 := by
    simp only [List.mem_cons, List.mem_nil_iff, or_false] at hc
    omega
  have w6 : ∀ x ∈ ["sum", "if", "times", "while", "print", "stop", "split", "keep", "fetch", "open", "secret", "else", "end"], c ∉ (wS x).cps.toList := fun x hx => words_no x hx c hc
  have ws : ∀ t, c ∉ (sortS t).cps.toList := fun t => by cases t <;> exact w6 _ (by simp [wS])
  have n6 : ∀ {n}, n < 10 → c ∉ (numS n).cps.toList := fun h => num_no h (by omega)
  cases a with
  | sum x ts n =>
    obtain ⟨h1, h2, h3, h4⟩ := ok
    simp only [wordsM, List.mem_cons, List.mem_nil_iff, or_false]
    rintro y (rfl | rfl | rfl | rfl)
    · exact w6 "sum" (by simp)
    · exact n6 (by omega)
    · exact terms_codes h2 (fun t ht => Nat.lt_of_lt_of_le (h3 t ht) hm) hc'
    · exact n6 (by omega)
  | ite x p q =>
    have h1 := ok.1
    simp only [wordsM, List.mem_cons, List.mem_nil_iff, or_false]
    rintro y (rfl | rfl)
    · exact w6 "if" (by simp)
    · exact n6 (by omega)
  | times n b =>
    have h1 := ok.1
    simp only [wordsM, List.mem_cons, List.mem_nil_iff, or_false]
    rintro y (rfl | rfl)
    · exact w6 "times" (by simp)
    · exact n6 (by omega)
  | whl x b =>
    have h1 := ok.1
    simp only [wordsM, List.mem_cons, List.mem_nil_iff, or_false]
    rintro y (rfl | rfl)
    · exact w6 "while" (by simp)
    · exact n6 (by omega)
  | print x =>
    have h1 : x < m := ok
    simp only [wordsM, List.mem_cons, List.mem_nil_iff, or_false]
    rintro y (rfl | rfl)
    · exact w6 "print" (by simp)
    · exact n6 (by omega)
  | stop =>
    simp only [wordsM, List.mem_cons, List.mem_nil_iff, or_false]
    rintro y rfl
    exact w6 "stop" (by simp)
  | split x y =>
    obtain ⟨h1, h2⟩ := ok
    simp only [wordsM, List.mem_cons, List.mem_nil_iff, or_false]
    rintro y (rfl | rfl | rfl)
    · exact w6 "split" (by simp)
    · exact n6 (by omega)
    · exact n6 (by omega)
  | keep t x y =>
    obtain ⟨h1, h2⟩ := ok
    simp only [wordsM, List.mem_cons, List.mem_nil_iff, or_false]
    rintro y (rfl | rfl | rfl | rfl)
    · exact w6 "keep" (by simp)
    · exact ws t
    · exact n6 (by omega)
    · exact n6 (by omega)
  | fetch t x y =>
    obtain ⟨h1, h2⟩ := ok
    simp only [wordsM, List.mem_cons, List.mem_nil_iff, or_false]
    rintro y (rfl | rfl | rfl | rfl)
    · exact w6 "fetch" (by simp)
    · exact ws t
    · exact n6 (by omega)
    · exact n6 (by omega)
theorem words_ne (a : Sm) : wordsM a ≠ [] := by cases a <;> exact List.cons_ne_nil _ _
theorem join_len (a : Str) {k : Nat} : ∀ {ys : List Str}, (∀ y ∈ ys, y.length ≤ k) → (Str.join a ys).length ≤ ys.length * (k + a.length)
  | [], _ => Nat.zero_le _
  | [x], h => by
    have := h x List.mem_cons_self
    show x.length ≤ _
    simp only [List.length_cons, List.length_nil]
    omega
  | x :: y :: r, h => by
    have ih := join_len a (ys := y :: r) fun z hz => h z (List.mem_cons_of_mem _ hz)
    have h1 := h x List.mem_cons_self
    show (x ++ a ++ Str.join a (y :: r)).length ≤ _
    rw [str_app, str_app, List.length_cons, Nat.add_mul]
    omega
theorem split_head {m d : Nat} {a : Sm} (hm : m ≤ 10) (ok : smOk m d a) (s : S) : dSplit (.str (headS a)) (.str spS) s = some (.lst ((wordsM a).map .str)) := by
  have h1 : (spS.length == 0) = false := by decide +kernel
  obtain ⟨w1, w2⟩ := words_len4 hm ok
  have h2 : (headS a).length ≤ 4 * (6 + spS.length) := Nat.le_trans (join_len spS w2) (Nat.mul_le_mul_right _ w1)
  have h3 : spS.length = 1 := by decide +kernel
  have h4 : sizeLine = 16777216 := sizeLine_eq
  have e := split_join sp_code sp_kind (words_ne a) (word_codes hm ok (c := 32) (by simp))
  show (if (spS.length == 0) = false ∧ (headS a).length + 2 ≤ sizeLine then some (D.lst ((Txt.split (headS a) spS).map .str)) else none) = _
  rw [if_pos ⟨h1, by omega⟩]
  show some (D.lst ((Txt.split (Str.join spS (wordsM a)) spS).map .str)) = _
  rw [e]
theorem split_terms {ts : List Nat} (h0 : ts ≠ []) (h : ts.length ≤ 2) (hv : ∀ t ∈ ts, t < 10) (s : S) : dSplit (.str (Str.join dotS (ts.map numS))) (.str dotS) s = some (.lst ((ts.map numS).map .str)) := by
  have h1 : (dotS.length == 0) = false := by decide +kernel
  have w2 : ∀ y ∈ ts.map numS, y.length ≤ 1 := fun y hy => by
    obtain ⟨t, ht, rfl⟩ := List.mem_map.mp hy
    rw [num_len (hv t ht)]; omega
  have h3 : dotS.length = 1 := by decide +kernel
  have h2 := join_len dotS w2
  rw [List.length_map, h3] at h2
  have h4 : sizeLine = 16777216 := sizeLine_eq
  have e := split_join dot_code dot_kind (ps := ts.map numS) (by simpa using h0) fun y hy => by
    obtain ⟨t, ht, rfl⟩ := List.mem_map.mp hy
    exact num_no (hv t ht) (by omega)
  show (if (dotS.length == 0) = false ∧ (Str.join dotS (ts.map numS)).length + 2 ≤ sizeLine then some (D.lst ((Txt.split (Str.join dotS (ts.map numS)) dotS).map .str)) else none) = _
  rw [if_pos ⟨h1, by omega⟩, e]
theorem terms_dash {ts : List Nat} (h0 : ts ≠ []) (h : ts.length ≤ 2) (hv : ∀ t ∈ ts, t < 10) : Str.join dotS (ts.map numS) ≠ wS "-" := by
  intro z
  have z := congrArg (fun x : Str => x.cps.toList) z
  have h45 : (wS "-").cps.toList = [45] := by decide +kernel
  match ts, h, h0 with
  | [a], _, _ =>
    have : (numS a).cps.toList = (wS "-").cps.toList := z
    rw [num_ok a (hv a (by simp)), h45] at this
    injection this with this _
    omega
  | [a, b], _, _ =>
    have : (numS a ++ dotS ++ numS b).cps.toList = (wS "-").cps.toList := z
    rw [Str.cps_append, Str.cps_append, Array.toList_append, Array.toList_append, num_ok a (hv a (by simp)), num_ok b (hv b (by simp)), dot_code, h45] at this
    injection this with this _
    omega
/-- a statement as far as its first line tells it -/
def headD : Sm → List D
  | .sum x ts n => [strD "sum", natD x, natsD ts, natD n]
  | .ite x _ _ => [strD "if", natD x]
  | .times n _ => [strD "times", natD n]
  | .whl x _ => [strD "while", natD x]
  | .print x => [strD "print", natD x]
  | .stop => [strD "stop"]
  | .split x y => [strD "split", natD x, natD y]
  | .keep t x y => [strD "keep", sortD t, natD x, natD y]
  | .fetch t x y => [strD "fetch", sortD t, natD x, natD y]
end Fw

set_option Elab.async false
set_option linter.all false
set_option maxRecDepth 100000
set_option maxHeartbeats 4000000
/-! Tx6: where a body ends. -/
namespace Fw
open PySem PySem.Spec PyProof.Rows L2
theorem split_else : Txt.split (wS "else") spS = [wS "else"] := by decide +kernel
theorem split_end : Txt.split (wS "end") spS = [wS "end"] := by decide +kernel
theorem head_open {m d : Nat} {a : Sm} (hm : m ≤ 10) (ok : smOk m d a) : headS a ≠ wS "else" ∧ headS a ≠ wS "end" := by
  have e := split_join sp_code sp_kind (words_ne a) (word_codes hm ok (c := 32) (by simp))
  have ne : wordsM a ≠ [wS "else"] ∧ wordsM a ≠ [wS "end"] := by
    cases a <;> refine ⟨fun z => ?_, fun z => ?_⟩ <;> first | (injection z with z1 z2; cases z2; done) | (injection z with z1 z2; exact absurd z1 (by decide +kernel))
  refine ⟨fun z => ne.1 ?_, fun z => ne.2 ?_⟩
  · rw [← split_else, ← z]; exact e.symm
  · rw [← split_end, ← z]; exact e.symm
theorem line_head (a : Sm) : ∃ r, lineM a = headS a :: r := by
  cases a with
  | sum x ts n => exact ⟨_, by rw [lineM]⟩
  | ite x p q => exact ⟨_, by rw [lineM]; rfl⟩
  | times n b => exact ⟨_, by rw [lineM]; rfl⟩
  | whl x b => exact ⟨_, by rw [lineM]; rfl⟩
  | print x => exact ⟨_, by rw [lineM]⟩
  | stop => exact ⟨_, by rw [lineM]⟩
  | split x y => exact ⟨_, by rw [lineM]⟩
  | keep t x y => exact ⟨_, by rw [lineM]⟩
  | fetch t x y => exact ⟨_, by rw [lineM]⟩
theorem drop_at {L : List Str} {i : Nat} {x : Str} {r : List Str} (h : L.drop i = x :: r) : L[i]? = some x ∧ i < L.length ∧ L.drop (i + 1) = r := by
  have hi : i < L.length := by
    rcases Nat.lt_or_ge i L.length with z | z
    · exact z
    · rw [List.drop_eq_nil_of_le z] at h; cases h
  rw [List.drop_eq_getElem_cons hi] at h
  injection h with h1 h2
  exact ⟨by rw [List.getElem?_eq_getElem hi, h1], hi, h2⟩
theorem line_at {L : List Str} {i : Nat} {x : Str} (h : L[i]? = some x) : L2.atI (L.map D.str) (i : Int) = some (.str x) := by
  rw [atI_cast, List.getElem?_map, h]; rfl
theorem drop_app {L : List Str} {i : Nat} : ∀ {p q : List Str}, L.drop i = p ++ q → L.drop (i + p.length) = q := fun {p q} h => by
  rw [← List.drop_drop, h, List.drop_left]
/-- where a body ends -/
def ClosedBy (post : List Str) : Prop := post = [] ∨ ∃ r, post = wS "else" :: r ∨ post = wS "end" :: r
theorem loopW_read {tt : FT} {fb : FS} {L post : List Str} {mk : Nat → Option D → Fr} {st : List Sm → S} {most m d : Nat}
    (h0 : ∀ j x dn, L.drop j = post → tt (mk j x) (st dn) = some (false, st dn))
    (h1 : ∀ a r j x dn, smOk m d a → L.drop j = lineM a ++ r → tt (mk j x) (st dn) = some (true, st dn))
    (h2 : ∀ a r j x dn, smOk m d a → dn.length < most → L.drop j = lineM a ++ r → ∃ x', fb (mk j x) (st dn) = some (.nx (mk (j + (lineM a).length) x'), st (dn ++ [a]))) :
    ∀ (bs dn : List Sm) (j n : Nat) (x : Option D), smsOk m d bs → dn.length + bs.length ≤ most → L.drop j = linesM bs ++ post → bs.length < n → ∃ x', loopW tt fb n (mk j x) (st dn) = some (.nx (mk (j + (linesM bs).length) x'), st (dn ++ bs))
  | [], dn, j, n + 1, x, _, _, hd, _ => by
    refine ⟨x, ?_⟩
    show (tt (mk j x) (st dn)).bind _ = _
    rw [h0 j x dn hd, Option.bind_some, if_neg Bool.false_ne_true, List.append_nil]
    rfl
  | a :: bs, dn, j, n + 1, x, ok, hl, hd, hn => by
    have hd' : L.drop j = lineM a ++ (linesM bs ++ post) := by rw [hd, linesM, List.append_assoc]
    obtain ⟨x1, e1⟩ := h2 a _ j x dn ok.1 (by rw [List.length_cons] at hl; omega) hd'
    obtain ⟨x2, e2⟩ := loopW_read h0 h1 h2 bs (dn ++ [a]) (j + (lineM a).length) n x1 ok.2 (by rw [List.length_append, List.length_singleton]; rw [List.length_cons] at hl; omega) (drop_app hd') (by rw [List.length_cons] at hn; omega)
    refine ⟨x2, ?_⟩
    show (tt (mk j x) (st dn)).bind _ = _
    rw [h1 a _ j x dn ok.1 hd', Option.bind_some, if_pos rfl, e1, Option.bind_some]
    refine Eq.trans e2 ?_
    rw [linesM, List.length_append, List.append_assoc, Nat.add_assoc]
    rfl
  | _, _, _, 0, _, _, _, _, hn => absurd hn (by omega)
end Fw

set_option Elab.async false
set_option linter.all false
set_option maxRecDepth 100000
set_option maxHeartbeats 4000000
/-! Tx7: the text of a program. -/
namespace Fw
open PySem PySem.Spec PyProof.Rows L2
theorem join_no {y : Str} {c : Nat} (hy : c ∉ y.cps.toList) : ∀ {ps : List Str}, (∀ p ∈ ps, c ∉ p.cps.toList) → c ∉ (Str.join y ps).cps.toList
  | [], _ => (List.not_mem_nil : c ∉ ([] : List Nat))
  | [p], h => h p List.mem_cons_self
  | p :: q :: r, h => by
    have ih := join_no hy (ps := q :: r) fun z hz => h z (List.mem_cons_of_mem _ hz)
    show c ∉ (p ++ y ++ Str.join y (q :: r)).cps.toList
    rw [Str.cps_append, Str.cps_append, Array.toList_append, Array.toList_append]
    intro z
    rcases List.mem_append.mp z with z | z
    · rcases List.mem_append.mp z with z | z
      · exact h p List.mem_cons_self z
      · exact hy z
    · exact ih z
def good (y : Str) : Prop := y.length ≤ 42 ∧ 10 ∉ y.cps.toList
theorem head_good {m d : Nat} {a : Sm} (hm : m ≤ 10) (ok : smOk m d a) : good (headS a) := by
  obtain ⟨w1, w2⟩ := words_len4 hm ok
  have h3 : spS.length = 1 := by decide +kernel
  have h2 := join_len spS w2
  have h4 : (wordsM a).length * (6 + spS.length) ≤ 4 * (6 + spS.length) := Nat.mul_le_mul_right _ w1
  refine ⟨?_, join_no (by decide +kernel) (word_codes hm ok (c := 10) (by simp))⟩
  show (Str.join spS (wordsM a)).length ≤ 42
  omega
theorem end_good : good (wS "end") := ⟨by decide +kernel, by decide +kernel⟩
theorem else_good : good (wS "else") := ⟨by decide +kernel, by decide +kernel⟩
mutual
theorem line_good {m : Nat} (hm : m ≤ 10) : ∀ (d : Nat) (a : Sm), smOk m d a → ∀ y ∈ lineM a, good y
  | d, .sum x ts n, ok, y, hy => by rw [lineM] at hy; rw [List.mem_singleton.mp hy]; exact head_good hm ok
  | d, .print x, ok, y, hy => by rw [lineM] at hy; rw [List.mem_singleton.mp hy]; exact head_good (d := d) hm ok
  | d, .stop, ok, y, hy => by rw [lineM] at hy; rw [List.mem_singleton.mp hy]; exact head_good (m := m) (d := d) hm ok
  | d, .split x z, ok, y, hy => by rw [lineM] at hy; rw [List.mem_singleton.mp hy]; exact head_good (d := d) hm ok
  | d, .keep t x z, ok, y, hy => by rw [lineM] at hy; rw [List.mem_singleton.mp hy]; exact head_good (d := d) hm ok
  | d, .fetch t x z, ok, y, hy => by rw [lineM] at hy; rw [List.mem_singleton.mp hy]; exact head_good (d := d) hm ok
  | d, .ite x p q, ok, y, hy => by
    have hh := head_good (d := d) hm ok
    obtain ⟨_, _, _, _, h4, h5⟩ := ok
    rw [lineM] at hy
    rcases List.mem_cons.mp hy with rfl | hy
    · exact hh
    · rcases List.mem_append.mp hy with hy | hy
      · exact lines_good hm (d - 1) p h4 y hy
      · rcases List.mem_cons.mp hy with rfl | hy
        · exact else_good
        · rcases List.mem_append.mp hy with hy | hy
          · exact lines_good hm (d - 1) q h5 y hy
          · rw [List.mem_singleton.mp hy]; exact end_good
  | d, .times n b, ok, y, hy => by
    have hh := head_good (d := d) hm ok
    obtain ⟨_, _, _, h4⟩ := ok
    rw [lineM] at hy
    rcases List.mem_cons.mp hy with rfl | hy
    · exact hh
    · rcases List.mem_append.mp hy with hy | hy
      · exact lines_good hm (d - 1) b h4 y hy
      · rw [List.mem_singleton.mp hy]; exact end_good
  | d, .whl x b, ok, y, hy => by
    have hh := head_good (d := d) hm ok
    obtain ⟨_, _, _, h4⟩ := ok
    rw [lineM] at hy
    rcases List.mem_cons.mp hy with rfl | hy
    · exact hh
    · rcases List.mem_append.mp hy with hy | hy
      · exact lines_good hm (d - 1) b h4 y hy
      · rw [List.mem_singleton.mp hy]; exact end_good
theorem lines_good {m : Nat} (hm : m ≤ 10) : ∀ (d : Nat) (b : List Sm), smsOk m d b → ∀ y ∈ linesM b, good y
  | d, [], _, y, hy => by cases hy
  | d, a :: b, ok, y, hy => by
    rw [linesM] at hy
    rcases List.mem_append.mp hy with hy | hy
    · exact line_good hm d a ok.1 y hy
    · exact lines_good hm d b ok.2 y hy
end
def sortsLine (so : List Bool) : Str := Str.join spS (so.map sortS)
def textLines (so : List Bool) (b : List Sm) : List Str := sortsLine so :: linesM b
def textM (so : List Bool) (b : List Sm) : Str := Str.join nlS (textLines so b)
theorem sort_str (so : List Bool) : so.map sortD = (so.map sortS).map D.str := by
  rw [List.map_map]
  refine List.map_congr_left fun t _ => ?_
  cases t <;> rfl
theorem sorts_words (so : List Bool) : ∀ y ∈ so.map sortS, y.length ≤ 6 ∧ 32 ∉ y.cps.toList ∧ 10 ∉ y.cps.toList := fun y hy => by
  obtain ⟨t, _, rfl⟩ := List.mem_map.mp hy
  cases t
  · exact ⟨by decide +kernel, by decide +kernel, by decide +kernel⟩
  · exact ⟨by decide +kernel, by decide +kernel, by decide +kernel⟩
theorem sorts_good {so : List Bool} (h : so.length ≤ 6) : good (sortsLine so) := by
  have h3 : spS.length = 1 := by decide +kernel
  have h2 := join_len spS (ys := so.map sortS) (k := 6) fun y hy => (sorts_words so y hy).1
  rw [List.length_map, h3] at h2
  exact ⟨by show (Str.join spS (so.map sortS)).length ≤ 42; omega, join_no (by decide +kernel) fun y hy => (sorts_words so y hy).2.2⟩
theorem sorts_fit {so : List Bool} (h : so.length ≤ 6) : joinT spS (so.map sortD) = some (.str (sortsLine so)) := by
  rw [sort_str]
  refine join_fits (fits_of (k := 6) (fun y hy => (sorts_words so y hy).1) ?_)
  have h3 : spS.length = 1 := by decide +kernel
  rw [List.length_map, h3]; omega
theorem text_good {so : List Bool} {b : List Sm} (h : so.length ≤ 6) (ok : smsOk so.length 2 b) : ∀ y ∈ textLines so b, good y := fun y hy => by
  rcases List.mem_cons.mp hy with rfl | hy
  · exact sorts_good h
  · exact lines_good (by omega) 2 b ok y hy
theorem text_count {so : List Bool} {b : List Sm} (ok : smsOk so.length 2 b) (hb : b.length ≤ 8) : (textLines so b).length ≤ 729 := by
  have h1 := lines_len 2 b ok
  have h2 : LN 2 = 91 := by decide
  have h3 : b.length * LN 2 ≤ 8 * LN 2 := Nat.mul_le_mul_right _ hb
  show (linesM b).length + 1 ≤ 729
  omega
theorem text_fit {so : List Bool} {b : List Sm} (h : so.length ≤ 6) (ok : smsOk so.length 2 b) (hb : b.length ≤ 8) : joinT nlS ((textLines so b).map D.str) = some (.str (textM so b)) := by
  refine join_fits (fits_of (k := 42) (fun y hy => (text_good h ok y hy).1) ?_)
  have h3 : nlS.length = 1 := by decide +kernel
  have := text_count ok hb
  rw [h3]; omega
theorem text_split {so : List Bool} {b : List Sm} (h : so.length ≤ 6) (ok : smsOk so.length 2 b) (hb : b.length ≤ 8) (s : S) : dSplit (.str (textM so b)) (.str nlS) s = some (.lst ((textLines so b).map .str)) := by
  have h1 : (nlS.length == 0) = false := by decide +kernel
  have h3 : nlS.length = 1 := by decide +kernel
  have h4 : sizeLine = 16777216 := sizeLine_eq
  have hc := text_count ok hb
  have h2 := join_len nlS (ys := textLines so b) (k := 42) fun y hy => (text_good h ok y hy).1
  rw [h3] at h2
  have e := split_join nl_code nl_kind (ps := textLines so b) (List.cons_ne_nil _ _) fun y hy => (text_good h ok y hy).2
  show (if (nlS.length == 0) = false ∧ (textM so b).length + 2 ≤ sizeLine then some (D.lst ((Txt.split (textM so b) nlS).map .str)) else none) = _
  have h5 : (textM so b).length ≤ (textLines so b).length * (42 + 1) := h2
  rw [if_pos ⟨h1, by omega⟩]
  show some (D.lst ((Txt.split (Str.join nlS (textLines so b)) nlS).map .str)) = _
  rw [e]
theorem sorts_split {so : List Bool} (h0 : 1 ≤ so.length) (h : so.length ≤ 6) (s : S) : dSplit (.str (sortsLine so)) (.str spS) s = some (.lst (so.map sortD)) := by
  have h1 : (spS.length == 0) = false := by decide +kernel
  have h4 : sizeLine = 16777216 := sizeLine_eq
  have hg := (sorts_good h).1
  have e := split_join sp_code sp_kind (ps := so.map sortS) (fun z => by have := congrArg List.length z; rw [List.length_map, List.length_nil] at this; omega) fun y hy => (sorts_words so y hy).2.1
  show (if (spS.length == 0) = false ∧ (sortsLine so).length + 2 ≤ sizeLine then some (D.lst ((Txt.split (sortsLine so) spS).map .str)) else none) = _
  rw [if_pos ⟨h1, by omega⟩]
  show some (D.lst ((Txt.split (Str.join spS (so.map sortS)) spS).map .str)) = _
  rw [e, sort_str]
end Fw

set_option Elab.async false
set_option linter.all false
set_option maxRecDepth 100000
set_option maxHeartbeats 4000000
/-! Pt2: a sum of lists that nobody else has; what a body stands for, from its data. -/
namespace Fw
open PySem PySem.Spec PyProof.Rows L2
/-- an owned list, or data, with data behind it -/
@[simp] def dAddO : G2 := fun x y s => match x, y with
  | .ref a, .lst ys => (match s a with
    | some (.lst xs) => if okLen (xs.length + ys.length) = true then some (.lst (xs ++ ys)) else none
    | _ => none)
  | _, _ => none
theorem g_addO {K : PySem.W.Frag} : GOp K (rAddA K) dAddO := by
  intro h s H x y dx dy d Q si rx ry q w
  unfold dAddO at q
  split at q
  · rename_i a ys
    split at q
    · rename_i xs e
      split at q
      · rename_i hl
        cases q
        cases rep_ref rx
        obtain ⟨us, e2, ra⟩ := si.ob a _ e
        obtain ⟨b, zs, rfl, qb, rb⟩ := rep_lst ry
        exact .inr (.inr (.inr ⟨a, b, us, zs, rfl, rfl, e2, hide_ext _ _ _ _ qb, by rw [ra.length, rb.length]; exact okLen_le hl, fun p hp => w _ _ (Step.new si hp _) (new_lst si hp (ra.append rb))⟩))
      · cases q
    · cases q
  · cases q
section
variable {X : Cx} {a b : Expr} {fa fb : FE} {pos : Pos}
def oAdd (fa fb : FE) : FOw := fun δ s => (fa δ s).bind fun p => (fb δ p.2).bind fun q => match p.1, q.1 with
  | .lst xs, .lst ys => if okLen (xs.length + ys.length) = true then some (.lst (xs ++ ys), q.2) else none
  | _, _ => none
theorem o_add (ha : PE X a (tD X.K fa)) (hb : PE X b (tD X.K fb)) : PE X (.BinOp a .Add b pos) (tO X.K (oAdd fa fb)) := imp_e (pe_op op_addA ha hb) fun σ H Q ⟨h, s, δ, u, s', er, si, q, w⟩ => by
  obtain ⟨⟨x, s1⟩, q1, q⟩ := bind_some q
  obtain ⟨⟨y, s2⟩, q2, q⟩ := bind_some q
  refine ⟨h, s, δ, x, s1, er, si, q1, fun v H1 st1 r1 => ⟨h, s1, δ, y, s2, er.mono (st1.ext si), st1.si, q2, fun u2 H2 st2 r2 => ?_⟩⟩
  dsimp only at q
  split at q
  · rename_i xs ys
    split at q
    · rename_i hl
      cases q
      obtain ⟨l, us, rfl, qa, ra⟩ := rep_lst (st2.rep st1.si r1)
      obtain ⟨l2, zs, rfl, qb, rb⟩ := rep_lst r2
      have g12 := (Grow.of st1).trans si (Grow.of st2)
      exact .inr (.inr (.inr ⟨l, l2, us, zs, rfl, rfl, hide_ext _ _ _ _ qa, hide_ext _ _ _ _ qb, by rw [ra.length, rb.length]; exact okLen_le hl, fun p hp => w p _ _ (g12.back si hp) (g12.trans si (Grow.alloc st2.si hp _ _ ⟨_, rfl, ra.append rb⟩))⟩))
    · cases q
  · cases q
end
theorem nats_inj : ∀ {l m : List Nat}, l.map natD = m.map natD → l = m
  | [], [], _ => rfl
  | [], _ :: _, h => by cases h
  | _ :: _, [], h => by cases h
  | a :: l, b :: m, h => by
    rw [List.map_cons, List.map_cons] at h
    injection h with h1 h2
    have : (a : Int) = (b : Int) := by injection h1
    rw [nats_inj h2, show a = b by omega]
theorem sort_inj {a b : Bool} (h : sortD a = sortD b) : a = b := by
  cases a <;> cases b <;> first | rfl | (simp [sortD] at h)
theorem nat_eq {a b : Nat} : ((a : Int) = (b : Int)) = (a = b) := propext ⟨fun h => by omega, fun h => by omega⟩
mutual
theorem smD_inj : ∀ (a a' : Sm), smD a = smD a' → a = a'
  | .sum x ts n, a', h => by
    cases a' <;> simp [smD, natD, natsD, nat_eq] at h
    obtain ⟨h1, h2, h3⟩ := h
    rw [h1, nats_inj h2, h3]
  | .ite x p q, a', h => by
    cases a' <;> simp [smD, natD, nat_eq] at h
    obtain ⟨h1, h2, h3⟩ := h
    rw [h1, smsD_inj _ _ h2, smsD_inj _ _ h3]
  | .times n b, a', h => by
    cases a' <;> simp [smD, natD, nat_eq] at h
    rw [h.1, smsD_inj _ _ h.2]
  | .whl x b, a', h => by
    cases a' <;> simp [smD, natD, nat_eq] at h
    rw [h.1, smsD_inj _ _ h.2]
  | .print x, a', h => by
    cases a' <;> simp [smD, natD, nat_eq] at h
    rw [h]
  | .stop, a', h => by
    cases a' <;> simp [smD, natD, nat_eq] at h
    rfl
  | .split x y, a', h => by
    cases a' <;> simp [smD, natD, nat_eq] at h
    rw [h.1, h.2]
  | .keep t x y, a', h => by
    cases a' <;> simp [smD, natD, nat_eq] at h
    rw [sort_inj h.1, h.2.1, h.2.2]
  | .fetch t x y, a', h => by
    cases a' <;> simp [smD, natD, nat_eq] at h
    rw [sort_inj h.1, h.2.1, h.2.2]
theorem smsD_inj : ∀ (a a' : List Sm), smsD a = smsD a' → a = a'
  | [], [], _ => rfl
  | [], _ :: _, h => by cases h
  | _ :: _, [], h => by cases h
  | a :: b, a' :: b', h => by
    rw [smsD, smsD] at h
    injection h with h1 h2
    rw [smD_inj _ _ h1, smsD_inj _ _ h2]
end
open Classical in
noncomputable def linesF : Fr → S → Option D := fun δ _ => if h : ∃ b : List Sm, δ[0]? = some (some (bodyD b)) then some (.lst ((linesM h.choose).map .str)) else none
theorem linesF_eq {δ : Fr} {s : S} {b : List Sm} (h : δ[0]? = some (some (bodyD b))) : linesF δ s = some (.lst ((linesM b).map .str)) := by
  have hh : ∃ b : List Sm, δ[0]? = some (some (bodyD b)) := ⟨b, h⟩
  have e : hh.choose = b := by
    have h1 := h.symm.trans hh.choose_spec
    injection h1 with h1
    injection h1 with h1
    injection h1 with h1
    exact (smsD_inj _ _ h1).symm
  unfold linesF
  rw [dif_pos hh, e]
end Fw

set_option Elab.async false
set_option linter.all false
set_option maxRecDepth 100000
set_option maxHeartbeats 4000000
/-! Pt3: how what must hold behind a statement is shown. -/
namespace Fw
open PySem PySem.Spec PyProof.Rows L2
section
variable {f : FS} {fi : FI} {ft : FG} {tt : FT} {T T1 T2 Tb : FT2} {δ δ1 : Fr} {s s1 : S} {Post : Out → S → Prop} {d : D}
theorem TSeq_own {i : Nat} {fo : FOw} {u : OO} (e : fo δ s = some (u, s1)) (h : ∀ a, s a = none → T2 (δ.set i (some (.ref a))) (supd s1 a u) Post) : TSeq (TOwn i fo) T2 δ s Post := ⟨u, s1, e, h⟩
theorem TSeq_for {ds : List D} (Iv : Nat → Fr → S → Prop) (e : fi δ s = some (ds, s1)) (h0 : Iv 0 δ s1) (hs : ∀ i d δ s, ds[i]? = some d → Iv i δ s → ∃ δ1, ft d δ = some δ1 ∧ Tb δ1 s (loopPost Iv i (seqPost T2 Post))) (h1 : ∀ δ s, Iv ds.length δ s → T2 δ s Post) : TSeq (TFor fi ft Tb) T2 δ s Post := ⟨ds, s1, e, Iv, h0, hs, h1⟩
theorem TSeq_if_t (e : tt δ s = some (true, s1)) (h : T1 δ s1 (seqPost T Post)) : TSeq (TIf tt T1 T2) T δ s Post := ⟨true, s1, e, h⟩
theorem TSeq_if_f (e : tt δ s = some (false, s1)) (h : T2 δ s1 (seqPost T Post)) : TSeq (TIf tt T1 T2) T δ s Post := ⟨false, s1, e, by rw [if_neg Bool.false_ne_true]; exact h⟩
theorem TSeq_of (e : f δ s = some (.nx δ1, s1)) (h : T2 δ1 s1 Post) : TSeq (TOf f) T2 δ s Post := ⟨_, s1, e, h⟩
theorem TSeq_ret (e : f δ s = some (.rt d, s1)) (h : Post (.rt d) s1) : TSeq (TOf f) T2 δ s Post := ⟨_, s1, e, h⟩
theorem TNil_i (h : Post (.nx δ) s) : TNil δ s Post := h
end
theorem keep_supd {s s1 : S} {a : Addr} {u : OO} (h : keepS s s1 = s) (ha : s a = none) : keepS s (supd s1 a u) = s := by
  funext b
  have hb := congrFun h b
  unfold keepS at hb ⊢
  by_cases h0 : s b = none
  · rw [if_pos h0, h0]
  · rw [if_neg h0] at hb ⊢
    rw [supd_ne (fun e => h0 (by rw [e]; exact ha))]
    exact hb
theorem keep_none {s s1 : S} {a : Addr} (h : keepS s s1 = s) (ha : s1 a = none) : s a = none := by
  have hb := congrFun h a
  unfold keepS at hb
  by_cases h0 : s a = none
  · exact h0
  · rw [if_neg h0] at hb
    rw [← hb]; exact ha
theorem dStr1_s (z : Str) (s : S) : dStr1 [.str z] s = some (.str z) := rfl
theorem law_if : ∀ n, n < 10 → Str.ofString "if " ++ numS n = headS (.ite n [] []) ∧ (Str.ofString "if ").length + (numS n).length ≤ 10000000 := by decide +kernel
theorem law_times : ∀ n, n < 10 → Str.ofString "times" ++ Str.ofString " " ++ numS n = headS (.times n []) ∧ (Str.ofString "times" ++ Str.ofString " ").length + (numS n).length ≤ 10000000 := by decide +kernel
theorem law_while : ∀ n, n < 10 → Str.ofString "while" ++ Str.ofString " " ++ numS n = headS (.whl n []) ∧ (Str.ofString "while" ++ Str.ofString " ").length + (numS n).length ≤ 10000000 := by decide +kernel
theorem lines_step {b : List Sm} {i : Nat} {t : Sm} (ht : b[i]? = some t) : linesM (b.take (i + 1)) = linesM (b.take i) ++ lineM t := by
  have htk : b.take (i + 1) = b.take i ++ [t] := by rw [List.take_succ, ht]; rfl
  rw [htk]
  have app : ∀ x y : List Sm, linesM (x ++ y) = linesM x ++ linesM y := by
    intro x y
    induction x with
    | nil => rw [List.nil_append, linesM, List.nil_append]
    | cons z x ih => rw [List.cons_append, linesM, linesM, ih, List.append_assoc]
  rw [app, linesM, linesM, List.append_nil]
theorem join_ne {ts : List Nat} (h0 : ts ≠ []) (h : ts.length ≤ 2) (hv : ∀ t ∈ ts, t < 10) : Str.join (Str.ofString ".") (ts.map numS) ≠ Str.ofString "" := fun z => by
  have z := congrArg Str.length z
  have e0 : (Str.ofString "").length = 0 := by decide +kernel
  match ts, h0, h, hv, z with
  | [q], _, _, hv, z =>
    have z : (numS q).length = (Str.ofString "").length := z
    rw [num_len (hv q (by simp)), e0] at z
    omega
  | [q, q2], _, _, hv, z =>
    have z : (numS q ++ Str.ofString "." ++ numS q2).length = (Str.ofString "").length := z
    rw [str_app, str_app, num_len (hv q (by simp)), e0] at z
    omega
theorem join_nil : Str.join (Str.ofString ".") [] = Str.ofString "" := by decide +kernel
theorem sum_terms {ts : List Nat} (h : ts.length ≤ 2) (hv : ∀ t ∈ ts, t < 10) {δ : Fr} {s : S} (hδ : δ[3]? = some (some (.str (Str.join (Str.ofString ".") (ts.map numS))))) :
    fIf (fT (f2 dNe (fVar 3) (fC (.str (Str.ofString ""))))) (fVar 3) (fC (.str (Str.ofString "-"))) δ s = some (.str (termsS ts), s) := by
  unfold termsS
  by_cases h0 : ts = []
  · subst h0
    have e : Str.join (Str.ofString ".") (([] : List Nat).map numS) = Str.ofString "" := join_nil
    rw [e] at hδ
    simp [hδ, wS]
  · have := join_ne h0 h hv
    simp [hδ, this, h0, dotS]
end Fw

set_option Elab.async false
set_option linter.all false
set_option maxRecDepth 100000
set_option maxHeartbeats 4000000
/-! Nl: a law's statements by data, where the tables of code objects change too (lambdas made in its midst). -/
namespace Fw
open PySem PySem.Spec PyProof.Rows L2 LamX

/-! ### what is kept -/
theorem own_not {K : PySem.W.Frag} {h : Addr → Bool} {s : S} {H : Hp} (si : SI K h s H) {a : Addr} {o : HO} (e : H a = some o) (n1 : ∀ xs, o ≠ .lst xs) (n2 : ∀ xs, o ≠ .dK xs) (n3 : ∀ C d xs, o ≠ .ins C d xs) (n4 : ∀ ob u, o ≠ .frz ob u) : s a = none := by
  cases q : s a with
  | none => rfl
  | some u =>
    have r := si.ob a u q
    cases u with
    | lst ds => obtain ⟨xs, z, _⟩ := r; rw [e] at z; cases z; exact absurd rfl (n1 _)
    | dct ds => obtain ⟨xs, z, _⟩ := r; rw [e] at z; cases z; exact absurd rfl (n2 _)
    | ins C ds => obtain ⟨dx, xs, z, _⟩ := r; rw [e] at z; cases z; exact absurd rfl (n3 _ _ _)
    | fn ob more => have z := r.1; rw [e] at z; cases z; exact absurd rfl (n4 _ _)
theorem tabs_fr {K : PySem.W.Frag} {T : List (Addr × Str)} {h : Addr → Bool} {s : S} {H H' : Hp} (si : SI K h s H) (fr : ∀ a o, s a = none → H a = some o → H' a = some o) (t : Tabs T H) : Tabs T H' := fun p hp => by
  obtain ⟨ps, e1, e2, e3⟩ := t p hp
  refine ⟨ps, fr _ _ (own_not si e1 (fun _ z => nomatch z) (fun _ z => nomatch z) (fun _ _ _ z => nomatch z) fun _ _ z => nomatch z) e1, e2, fun pos cv hc => ?_⟩
  obtain ⟨c, c1, c2⟩ := e3 pos cv hc
  exact ⟨c, c1, fr _ _ (own_not si c2 (fun _ z => nomatch z) (fun _ z => nomatch z) (fun _ _ _ z => nomatch z) fun _ _ z => nomatch z) c2⟩
structure GrowN (K : PySem.W.Frag) (T : List (Addr × Str)) (h : Addr → Bool) (s : S) (H : Hp) (h' : Addr → Bool) (s' : S) (H' : Hp) : Prop where
  ext : Ext (hide h H) (hide h' H')
  si : SI K h' s' H'
  tab : Tabs T H'
section
variable {K : PySem.W.Frag} {T : List (Addr × Str)} {h h1 h2 : Addr → Bool} {s s1 s2 : S} {H H1 H2 : Hp}
theorem GrowN.of (si : SI K h s H) (t : Tabs T H) (g : Grow K h s H h1 s1 H1) : GrowN K T h s H h1 s1 H1 := ⟨g.ext si, g.si, tabs_fr si g.fr t⟩
theorem GrowN.step (si : SI K h s H) (t : Tabs T H) (g : Step K h s H s1 H1) : GrowN K T h s H h s1 H1 := GrowN.of si t (Grow.of g)
theorem GrowN.refl (si : SI K h s H) (t : Tabs T H) : GrowN K T h s H h s H := ⟨Ext.refl _, si, t⟩
theorem GrowN.trans (a : GrowN K T h s H h1 s1 H1) (b : GrowN K T h1 s1 H1 h2 s2 H2) : GrowN K T h s H h2 s2 H2 := ⟨a.ext.trans b.ext, b.si, b.tab⟩
end

/-! ### expressions and tests -/
def tNE (K : PySem.W.Frag) (T : List (Addr × Str)) (f : FE) : TE := fun σ H Q => ∃ (h : Addr → Bool) (s : S) (δ : Fr) (d : D) (s' : S), EnvR K (hide h H) σ δ ∧ SI K h s H ∧ Tabs T H ∧ f δ s = some (d, s') ∧
  ∀ v h' H', GrowN K T h s H h' s' H' → Rep K (hide h' H') v d → Q v H'
def tNT (K : PySem.W.Frag) (T : List (Addr × Str)) (f : FT) : TT := fun σ H Q => ∃ (h : Addr → Bool) (s : S) (δ : Fr) (d : Bool) (s' : S), EnvR K (hide h H) σ δ ∧ SI K h s H ∧ Tabs T H ∧ f δ s = some (d, s') ∧
  ∀ h' H', GrowN K T h s H h' s' H' → Q d H'
section
variable {X : Cx} {T : List (Addr × Str)} {e a b c : Expr} {fe fa fb : FE} {ta tb tt : FT} {rest : List Expr} {pos : Pos}
theorem ne_of (p : PE X e (tD X.K fe)) : PE X e (tNE X.K T fe) := imp_e p fun σ H Q ⟨h, s, δ, d, s', er, si, t, q, w⟩ => ⟨h, s, δ, d, s', er, si, q, fun v H' st r => w v h H' (GrowN.step si t st) r⟩
theorem nt_of (p : PT X e (tDT X.K tt)) : PT X e (tNT X.K T tt) := imp_t p fun σ H Q ⟨h, s, δ, d, s', er, si, t, q, w⟩ => ⟨h, s, δ, d, s', er, si, q, fun H' st => w h H' (GrowN.step si t st)⟩
theorem nt_tru (ha : PE X a (tNE X.K T fa)) (he : ∀ whole, isTrue a X.env whole = (do let v ← whole; standAt a.pos; holding [v] (truthy v)) := by intro _; rfl) : PT X a (tNT X.K T (fTru fa)) := imp_t (pt_truth ha he) fun σ H Q ⟨h, s, δ, d, s', er, si, t, q, w⟩ => by
  obtain ⟨⟨x, s1⟩, q1, q⟩ := bind_some q
  obtain ⟨k, q2, q⟩ := map_some q
  cases q
  exact ⟨h, s, δ, x, _, er, si, t, q1, fun v h' H1 st1 r1 => ⟨_, tru_ok' r1.un q2, w h' H1 st1⟩⟩
theorem ne_cmp {op : CmpOp} {r : R2} {g : G2} {pos : Pos} (ho : OpR X (compareOp op) r) (hg : GOp X.K r g) (ha : PE X a (tNE X.K T fa)) (hb : PE X b (tD X.K fb)) (hm : behindInMarks op b = false) : PE X (.Compare a [op] [b] pos) (tNE X.K T (f2 g fa fb)) :=
  imp_e (pe_cmpR ho ha hb hm) fun σ H Q ⟨h, s, δ, d, s', er, si, t, q, w⟩ => by
  obtain ⟨⟨x, s1⟩, q1, q⟩ := bind_some q
  obtain ⟨⟨y, s2⟩, q2, q⟩ := bind_some q
  obtain ⟨z, q3, q⟩ := map_some q
  cases q
  refine ⟨h, s, δ, x, s1, er, si, t, q1, fun v h1 H1 st1 r1 => ⟨h1, s1, δ, y, _, er.mono st1.ext, st1.si, q2, fun u H2 st2 r2 => ?_⟩⟩
  exact hg h1 _ H2 v u x y _ _ st2.si (st2.rep st1.si r1) r2 q3 fun z H3 st3 r3 => w z h1 H3 (st1.trans (GrowN.step st1.si st1.tab (st2.trans st3))) r3
theorem nt_cmp {op : CmpOp} {r : R2} {g : G2} {pos : Pos} (ho : OpR X (compareOp op) r) (hg : GOp X.K r g) (ha : PE X a (tNE X.K T fa)) (hb : PE X b (tD X.K fb)) (hm : behindInMarks op b = false) : PT X (.Compare a [op] [b] pos) (tNT X.K T (fT (f2 g fa fb))) :=
  imp_t (pt_cmpR ho ha hb hm) fun σ H Q ⟨h, s, δ, d, s', er, si, t, q, w⟩ => by
  obtain ⟨⟨y0, s0⟩, q0, q⟩ := bind_some q
  obtain ⟨⟨x, s1⟩, q1, q0⟩ := bind_some q0
  obtain ⟨⟨y, s2⟩, q2, q0⟩ := bind_some q0
  obtain ⟨z, q3, q0⟩ := map_some q0
  cases q0
  split at q
  rotate_left
  · cases q
  rename_i k s3 hz
  cases hz
  cases q
  refine ⟨h, s, δ, x, s1, er, si, t, q1, fun v h1 H1 st1 r1 => ⟨h1, s1, δ, y, s2, er.mono st1.ext, st1.si, q2, fun u H2 st2 r2 => ?_⟩⟩
  refine hg h1 s2 H2 v u x y _ _ st2.si (st2.rep st1.si r1) r2 q3 fun z H3 st3 r3 => ?_
  cases r3
  exact ⟨_, rfl, w h1 H3 (st1.trans (GrowN.step st1.si st1.tab (st2.trans st3)))⟩
theorem nt_not (ha : PT X a (tNT X.K T ta)) : PT X (.UnaryOp .Not a pos) (tNT X.K T (tNotF ta)) := imp_t (pt_not ha) fun σ H Q ⟨h, s, δ, d, s', er, si, t, q, w⟩ => by
  obtain ⟨⟨k, s1⟩, q1, q⟩ := map_some q
  cases q
  exact ⟨h, s, δ, k, _, er, si, t, q1, w⟩
theorem nw_and1 (ha : PT X a (tNT X.K T ta)) : PW X (.BoolOp .And [a] pos) (tNT X.K T ta) := pw_and1 ha
theorem nw_or1 (ha : PT X a (tNT X.K T ta)) : PW X (.BoolOp .Or [a] pos) (tNT X.K T ta) := pw_or1 ha
theorem nw_and (ha : PT X a (tNT X.K T ta)) (hb : PW X (.BoolOp .And (b :: rest) pos) (tNT X.K T tb)) : PW X (.BoolOp .And (a :: b :: rest) pos) (tNT X.K T (tAndF ta tb)) := imp_w (pw_and ha hb) fun σ H Q ⟨h, s, δ, d, s', er, si, t, q, w⟩ => by
  obtain ⟨⟨k, s1⟩, q1, q⟩ := bind_some q
  refine ⟨h, s, δ, k, s1, er, si, t, q1, fun h1 H1 st1 => ?_⟩
  cases k with
  | true => exact ⟨h1, s1, δ, d, s', er.mono st1.ext, st1.si, st1.tab, q, fun h2 H2 st2 => w h2 H2 (st1.trans st2)⟩
  | false => cases q; exact w h1 H1 st1
theorem nw_or (ha : PT X a (tNT X.K T ta)) (hb : PW X (.BoolOp .Or (b :: rest) pos) (tNT X.K T tb)) : PW X (.BoolOp .Or (a :: b :: rest) pos) (tNT X.K T (tOrF ta tb)) := imp_w (pw_or ha hb) fun σ H Q ⟨h, s, δ, d, s', er, si, t, q, w⟩ => by
  obtain ⟨⟨k, s1⟩, q1, q⟩ := bind_some q
  refine ⟨h, s, δ, k, s1, er, si, t, q1, fun h1 H1 st1 => ?_⟩
  cases k with
  | true => cases q; exact w h1 H1 st1
  | false => exact ⟨h1, s1, δ, d, s', er.mono st1.ext, st1.si, st1.tab, q, fun h2 H2 st2 => w h2 H2 (st1.trans st2)⟩
end

/-! ### statements -/
def tDN (K : PySem.W.Frag) (T : List (Addr × Str)) (F : FT2) : TS := fun D σ H => ∃ (h : Addr → Bool) (s : S) (δ : Fr) (Post : Out → S → Prop), EnvR K (hide h H) σ δ ∧ SI K h s H ∧ Tabs T H ∧ F δ s Post ∧
  ∀ o s' h' H', Post o s' → GrowN K T h s H h' s' H' → endR K h' D H' o
section
variable {X : Cx} {T : List (Addr × Str)} {tg iter c e : Expr} {st : Stmt} {sts b1 b2 body : List Stmt} {f : FS} {fe : FE} {fi : FI} {ft : FG} {g : TG} {tt : FT} {F F1 F2 Fb : FT2} {pos : Pos} {vs : List Nat}
theorem n_of (p : PS X st (tDP X.K F)) : PS X st (tDN X.K T F) := imp_s p fun D σ H ⟨h, s, δ, Post, er, si, t, q, w⟩ => ⟨h, s, δ, Post, er, si, q, fun o s' h' H' hp g => w o s' h' H' hp (GrowN.of si t g)⟩
theorem ns_of (p : PSs X sts (tDP X.K F)) : PSs X sts (tDN X.K T F) := imp_ss p fun D σ H ⟨h, s, δ, Post, er, si, t, q, w⟩ => ⟨h, s, δ, Post, er, si, q, fun o s' h' H' hp g => w o s' h' H' hp (GrowN.of si t g)⟩
theorem n_cons (h1 : PS X st (tDN X.K T F1)) (h2 : PSs X sts (tDN X.K T F2)) : PSs X (st :: sts) (tDN X.K T (TSeq F1 F2)) := imp_ss (pss_cons h1 h2) fun D σ H ⟨h, s, δ, Post, er, si, tb, t, w⟩ => by
  refine ⟨h, s, δ, seqPost F2 Post, er, si, tb, t, fun o s' h' H' hp gr => ?_⟩
  cases o with
  | nx δ1 => exact fun σ1 er1 => ⟨h', s', δ1, Post, er1, gr.si, gr.tab, hp, fun o s2 h2 H2 hp2 g2 => w o s2 h2 H2 hp2 (gr.trans g2)⟩
  | rt d => exact w (.rt d) s' h' H' hp gr
  | bk δ1 => exact w (.bk δ1) s' h' H' hp gr
  | ct δ1 => exact w (.ct δ1) s' h' H' hp gr
theorem n_nil : PSs X [] (tDN X.K T TNil) := ns_of dq_nil
theorem n_one (h1 : PS X st (tDN X.K T F)) : PSs X [st] (tDN X.K T (TSeq F TNil)) := n_cons h1 n_nil
theorem n_if (hc : PT X c (tNT X.K T tt)) (ha : PSs X b1 (tDN X.K T F1)) (hb : PSs X b2 (tDN X.K T F2)) : PS X (.If c b1 b2 pos) (tDN X.K T (TIf tt F1 F2)) := imp_s (ps_if hc ha hb) fun D σ H ⟨h, s, δ, Post, er, si, tb, ⟨k, s1, q, t⟩, w⟩ => by
  refine ⟨h, s, δ, k, s1, er, si, tb, q, fun h1 H1 st1 => ?_⟩
  cases k with
  | true => exact ⟨h1, s1, δ, Post, er.mono st1.ext, st1.si, st1.tab, t, fun o s2 h2 H2 hp g2 => w o s2 h2 H2 hp (st1.trans g2)⟩
  | false => exact ⟨h1, s1, δ, Post, er.mono st1.ext, st1.si, st1.tab, t, fun o s2 h2 H2 hp g2 => w o s2 h2 H2 hp (st1.trans g2)⟩
def TRet (fe : FE) : FT2 := fun δ s Post => ∃ d s1, fe δ s = some (d, s1) ∧ Post (.rt d) s1
theorem n_ret (he : PE X e (tNE X.K T fe)) : PS X (.Return (some e) pos) (tDN X.K T (TRet fe)) := imp_s (ps_ret he) fun D σ H ⟨h, s, δ, Post, er, si, tb, ⟨d, s1, q, hp⟩, w⟩ =>
  ⟨h, s, δ, d, s1, er, si, tb, q, fun v h' H' g r => w (.rt d) s1 h' H' hp g v r⟩
theorem n_for (hp : PassesOwn (model X.prog X.w) X.A X.env X.xe) (hc : X.calm = true) (hi : PI X tg iter (tDY X.K fi)) (hg : PG X tg g) (gt : GT X.K g ft vs) (hb : PSs X body (tDN X.K T Fb))
    (hs : ∀ x, foldedSetIterable iter X.env x = pure x := by intro _; rfl) : PS X (.For tg iter body [] pos) (tDN X.K T (TFor fi ft Fb)) := imp_s (ps_for hp hc hi hg hb hs) fun D σ H ⟨h, s, δ, Post, er, si, tab, ⟨ds, s1, q1, Iv, i0, iS, iE⟩, w⟩ => by
  refine ⟨h, s, δ, ds, s1, er, si, q1, fun J H1 st1 it => ?_⟩
  have g1 := GrowN.step si tab st1
  refine ⟨fun i m σ2 H2 => ∃ h2 s2 δ2, m = ds.length - i ∧ i ≤ ds.length ∧ GrowN X.K T h s1 H1 h2 s2 H2 ∧ EnvR X.K (hide h2 H2) σ2 δ2 ∧ Iv i δ2 s2, ⟨_, h, s1, δ, rfl, Nat.zero_le _, GrowN.refl st1.si g1.tab, er.mono (st1.ext si), i0⟩, ?_⟩
  rintro i m σ2 H2 ⟨h2, s2, δ2, rfl, hi', gr2, er2, iv⟩
  by_cases hlt : i < ds.length
  · have e1 : ds[i]? = some ds[i] := List.getElem?_eq_getElem hlt
    obtain ⟨δ3, q3, tb⟩ := iS i _ δ2 s2 e1 iv
    obtain ⟨go, yl⟩ := (it h2 s2 H2 gr2.ext gr2.si i).1 _ e1
    refine .inr ⟨go, fun σ' H' => (∃ m', m' < ds.length - i ∧ ∃ h2 s2 δ2, m' = ds.length - (i + 1) ∧ i + 1 ≤ ds.length ∧ GrowN X.K T h s1 H1 h2 s2 H' ∧ EnvR X.K (hide h2 H') σ' δ2 ∧ Iv (i + 1) δ2 s2), fun σ' H' z => z, fun x H3 y => ?_⟩
    obtain ⟨st3, r3⟩ := yl x H3 y
    have g3 := GrowN.step gr2.si gr2.tab st3
    refine gt (hide h2 H3) x σ2 H3 _ δ2 δ3 _ (hide_sub h2 H3) (er2.mono (st3.ext gr2.si)) r3 q3 fun σ3 er3 _ => ?_
    refine ⟨h2, s2, δ3, loopPost Iv i Post, er3, st3.si, g3.tab, tb, fun o s4 h4 H4 hp4 g4 => ?_⟩
    have g14 : GrowN X.K T h s1 H1 h4 s4 H4 := gr2.trans (g3.trans g4)
    cases o with
    | nx δ4 => exact fun σ' er' => ⟨_, by omega, h4, s4, δ4, rfl, hlt, g14, er', hp4⟩
    | ct δ4 => exact fun σ' er' => ⟨_, by omega, h4, s4, δ4, rfl, hlt, g14, er', hp4⟩
    | bk δ4 => exact w (.nx δ4) s4 h4 H4 hp4 (g1.trans g14)
    | rt d => exact w (.rt d) s4 h4 H4 hp4 (g1.trans g14)
  · have e : i = ds.length := by omega
    subst e
    exact .inl ⟨(it h2 s2 H2 gr2.ext gr2.si ds.length).2 (Nat.le_refl _), w (.nx δ2) s2 h2 H2 (iE δ2 s2 iv) (g1.trans gr2) σ2 er2⟩
end

/-! ### two stores, the second a thing made -/
def TPar2 (i j : Nat) (fa : FE) (fo : FOw) : FT2 := fun δ s Post => ∃ d s1 u s2, fa δ s = some (d, s1) ∧ fo δ s1 = some (u, s2) ∧ ∀ a, s a = none → Post (.nx ((δ.set i (some d)).set j (some (.ref a)))) (supd s2 a u)
theorem dq_par {X : Cx} {st : Stmt} {i j : Nat} {fa : FE} {fo : FOw} (p : PS X st (tPar i j (tCons (tD X.K fa) (tCons (tO X.K fo) tNil)))) : PS X st (tDP X.K (TPar2 i j fa fo)) := imp_s p fun D σ H ⟨h, s, δ, Post, er, si, ⟨d, s1, u, s2, q1, q2, hp⟩, w⟩ => by
  refine ⟨h, s, δ, d, s1, er, si, q1, fun v H1 st1 r1 => ⟨h, s1, δ, u, s2, er.mono (st1.ext si), st1.si, q2, fun p h' H' hpn gr => ⟨v, .ref p, rfl, ?_⟩⟩⟩
  have g := (Grow.of st1).trans si gr
  exact w (.nx _) _ h' H' (hp p (none_of si ((Grow.of st1).back si hpn))) g _ (((er.mono (g.ext si)).set (Rep.mono (gr.ext st1.si) _ _ r1) i).set (.ref p) j)
/-! ### lambdas -/
theorem hide_n {h : Addr → Bool} {H H' : Hp} (e : Ext H H') : Ext (hide h H) (hide h H') := fun a o q n => by
  unfold hide at q ⊢
  split at q
  · cases q
  · rename_i hx
    rw [if_neg hx]
    exact e a o q n
/-- nothing is hidden but what is owned -/
def tight (s : S) : Addr → Bool := fun a => (s a).isSome
theorem SI.tight_ext {K : PySem.W.Frag} {h : Addr → Bool} {s : S} {H : Hp} (i : SI K h s H) : Ext (hide h H) (hide (tight s) H) := fun a o q _ => by
  unfold hide at q ⊢
  split at q
  · cases q
  · rename_i hx
    rw [if_neg]
    · exact q
    · intro z
      obtain ⟨u, hu⟩ := Option.isSome_iff_exists.mp (show (s a).isSome = true from z)
      exact hx (i.own a u hu)
theorem SI.tight {K : PySem.W.Frag} {h : Addr → Bool} {s : S} {H : Hp} (i : SI K h s H) : SI K (Fw.tight s) s H :=
  ⟨fun a o e => by show (s a).isSome = true; rw [e]; rfl, fun a o e => (i.ob a o e).mono i.tight_ext, fun a e => by
    obtain ⟨u, hu⟩ := Option.isSome_iff_exists.mp (show (s a).isSome = true from e)
    exact (i.ob a u hu).there⟩
theorem RepO.mono_n {K : PySem.W.Frag} {H H' : Hp} {h : Addr → Bool} {a : Addr} {u : OO} (e : Ext H H') (r : RepO K (hide h H) (H a) u) : RepO K (hide h H') (H' a) u := by
  cases u with
  | lst ds => obtain ⟨xs, a, b⟩ := r; exact ⟨xs, e _ _ a fun ps z => (nomatch z), Reps.mono (hide_n e) _ _ b⟩
  | dct ds => obtain ⟨xs, a, b⟩ := r; exact ⟨xs, e _ _ a fun ps z => (nomatch z), b.1, Reps.mono (hide_n e) _ _ b.2⟩
  | ins C ds => obtain ⟨dx, xs, a, b, c, d⟩ := r; exact ⟨dx, xs, e _ _ a fun ps z => (nomatch z), b, c, d.1, Reps.mono (hide_n e) _ _ d.2⟩
  | fn ob more => exact ⟨e _ _ r.1 fun ps z => (nomatch z), fun p hp => ⟨(r.2 p hp).1, hide_n e _ _ (r.2 p hp).2 (r.2 p hp).1⟩⟩
theorem SI.toN {K : PySem.W.Frag} {s : S} {H H' : Hp} (i : SI K (Fw.tight s) s H) (e : Ext H H') : SI K (Fw.tight s) s H' :=
  ⟨i.own, fun a o q => (i.ob a o q).mono_n e, fun a z => by
    obtain ⟨u, hu⟩ := Option.isSome_iff_exists.mp (show (s a).isSome = true from z)
    exact ((i.ob a u hu).mono_n e).there⟩
/-- a def that raises C, by data -/
def spX (K : PySem.W.Frag) (C : Addr) (n : Nat) (g : List D → S → Option S) : Sp := fun vs H _ E => ∃ (h : Addr → Bool) (s : S) (ds : List D) (s' : S), Reps K (hide h H) vs ds ∧ ds.length = n ∧ SI K h s H ∧ g ds s = some s' ∧ ∀ H', Step K h s H s' H' → E (.ref C) none H'
/-- what a helper makes of work(): of C's exceptions true -/
def TTbad (CB : Addr) : (XK → Hp → VK → Prop) → Hp → VK → Prop := fun tl H Q => tl (fun cls d H' => cls = .ref CB ∧ d = none ∧ Q (.bl true) H') H fun _ H' => Q (.bl false) H'
def fLamX (n : Nat) (fs : FA) (gR : List D → S → Option S) : FE := fun δ s => (fs δ s).bind fun p => if p.1.length = n then (gR p.1 p.2).map fun s2 => (.bl true, s2) else none
theorem ne_lamX {X : Cx} {T : List (Addr × Str)} {e : Expr} {n : Nat} {CB : Addr} {fs : FA} {gR : List D → S → Option S} (p : PE X e (tLam T (TTbad CB) (fun E => tCall (spX X.K CB n gR) [] E (tDA X.K fs)))) : PE X e (tNE X.K T (fLamX n fs gR)) :=
  imp_e p fun σ H Q ⟨h, s, δ, d, s', er, si, t, q, w⟩ => by
  obtain ⟨⟨xs, s1⟩, q1, q⟩ := bind_some q
  dsimp only at q
  split at q
  rotate_left
  · cases q
  rename_i hl
  obtain ⟨s2, q2, q⟩ := map_some q
  cases q
  refine ⟨t, fun H1 eN t1 => ?_⟩
  have e1 : Ext (hide h H) (hide (tight s) H1) := si.tight_ext.trans (hide_n eN)
  have si1 : SI X.K (tight s) s H1 := si.tight.toN eN
  refine ⟨tight s, s, δ, xs, s1, er.mono e1, si1, q1, fun vs H2 st2 r2 => ⟨tight s, s1, xs, _, by rw [List.append_nil]; exact r2, hl, st2.si, q2, fun H3 st3 => ⟨rfl, rfl, ?_⟩⟩⟩
  have st := st2.trans st3
  exact w (.bl true) (tight s) H3 ⟨e1.trans (st.ext si1), st.si, tabs_fr si1 st.fr t1⟩ (.bl _)
end Fw

set_option Elab.async false
set_option linter.all false
set_option maxRecDepth 100000
set_option maxHeartbeats 4000000
/-! Ex: expressions, statements and defs that may raise, by data. -/
namespace Fw
open PySem PySem.Spec PyProof.Rows L2
abbrev FsD := Option (List (Str × D))
/-- what an expression comes to: a value, or an exception of the class at C with the fields fs -/
inductive RX where
  | ok (d : D)
  | ex (C : Addr) (fs : FsD)
inductive RXs where
  | ok (ds : List D)
  | ex (C : Addr) (fs : FsD)
inductive OX where
  | out (o : Out)
  | ex (C : Addr) (fs : FsD)
abbrev FX := Fr → S → Option (RX × S)
abbrev FXs := Fr → S → Option (RXs × S)
abbrev FSX := Fr → S → Option (OX × S)
abbrev FDX := List D → S → Option (RX × S)
/-- the exception's own dict -/
def excR (K : PySem.W.Frag) (h : Addr → Bool) (H : Hp) (fs : FsD) (dx : Option Addr) : Prop := match fs with
  | none => dx = none
  | some l => ∃ a vs, dx = some a ∧ H a = some (.xd vs) ∧ RepFs K (hide h H) vs l
def endE (K : PySem.W.Frag) (E : XK) (h : Addr → Bool) (H' : Hp) (Q : VK) : RX → Prop
  | .ok d => ∀ v, Rep K (hide h H') v d → Q v H'
  | .ex C fs => ∀ dx, excR K h H' fs dx → E (.ref C) dx H'
def endEs (K : PySem.W.Frag) (E : XK) (h : Addr → Bool) (H' : Hp) (Q : List V → Hp → Prop) : RXs → Prop
  | .ok ds => ∀ vs, Reps K (hide h H') vs ds → Q vs H'
  | .ex C fs => ∀ dx, excR K h H' fs dx → E (.ref C) dx H'
def endX (K : PySem.W.Frag) (E : XK) (h : Addr → Bool) (D : Ends) (H' : Hp) : OX → Prop
  | .out o => endR K h D H' o
  | .ex C fs => ∀ dx, excR K h H' fs dx → E (.ref C) dx H'
def tDE (K : PySem.W.Frag) (E : XK) (f : FX) : TE := fun σ H Q => ∃ (h : Addr → Bool) (s : S) (δ : Fr) (r : RX) (s' : S), EnvR K (hide h H) σ δ ∧ SI K h s H ∧ f δ s = some (r, s') ∧ ∀ H', Step K h s H s' H' → endE K E h H' Q r
def tDEs (K : PySem.W.Frag) (E : XK) (f : FXs) : TA := fun σ H Q => ∃ (h : Addr → Bool) (s : S) (δ : Fr) (r : RXs) (s' : S), EnvR K (hide h H) σ δ ∧ SI K h s H ∧ f δ s = some (r, s') ∧ ∀ H', Step K h s H s' H' → endEs K E h H' Q r
def tDX (K : PySem.W.Frag) (E : XK) (f : FSX) : TS := fun D σ H => ∃ (h : Addr → Bool) (s : S) (δ : Fr) (o : OX) (s' : S), EnvR K (hide h H) σ δ ∧ SI K h s H ∧ f δ s = some (o, s') ∧ ∀ H', Step K h s H s' H' → endX K E h D H' o
section
variable {X : Cx} {E : XK} {e a b c : Expr} {es : List Expr} {fe : FE} {fx : FX} {fs : FA} {fxs : FXs} {pos p : Pos}
def xOf (f : FE) : FX := fun δ s => (f δ s).map fun p => (.ok p.1, p.2)
theorem xe_of (p : PE X e (tD X.K fe)) : PE X e (tDE X.K E (xOf fe)) := imp_e p fun σ H Q ⟨h, s, δ, r, s', er, si, q, w⟩ => by
  obtain ⟨⟨d, s1⟩, q1, q⟩ := map_some q
  cases q
  exact ⟨h, s, δ, d, _, er, si, q1, fun v H1 st1 r1 => w H1 st1 v r1⟩
def xNil : FXs := fun _ s => some (.ok [], s)
def xCons (fe : FX) (fs : FXs) : FXs := fun δ s => (fe δ s).bind fun p => match p.1 with
  | .ok d => (fs δ p.2).map fun q => (match q.1 with
    | .ok ds => .ok (d :: ds)
    | .ex C x => .ex C x, q.2)
  | .ex C x => some (.ex C x, p.2)
theorem xa_nil : PA X [] (tDEs X.K E xNil) := imp_a pa_nil fun σ H Q ⟨h, s, δ, r, s', er, si, q, w⟩ => by
  cases q
  exact w H (Step.refl si) [] .nil
theorem xa_cons (ha : PE X e (tDE X.K E fx)) (hr : PA X es (tDEs X.K E fxs)) (hs : starEach (e :: es) X.env = (false, eval e X.env) :: starEach es X.env := by rfl) : PA X (e :: es) (tDEs X.K E (xCons fx fxs)) := imp_a (pa_cons ha hr hs) fun σ H Q ⟨h, s, δ, r, s', er, si, q, w⟩ => by
  obtain ⟨⟨x, s1⟩, q1, q⟩ := bind_some q
  refine ⟨h, s, δ, x, s1, er, si, q1, fun H1 st1 => ?_⟩
  cases x with
  | ok d =>
    intro v r1
    obtain ⟨⟨y, s2⟩, q2, q⟩ := map_some q
    cases q
    refine ⟨h, s1, δ, y, _, er.mono (st1.ext si), st1.si, q2, fun H2 st2 => ?_⟩
    have w' := w H2 (st1.trans st2)
    cases y with
    | ok ds => exact fun vs rs => w' (v :: vs) (.cons (st2.rep st1.si r1) rs)
    | ex C x => exact fun dx r => w' dx r
  | ex C x =>
    cases q
    exact fun dx r => w H1 st1 dx r
def xTup (fs : FXs) : FX := fun δ s => (fs δ s).bind fun p => match p.1 with
  | .ok ds => if okLen ds.length = true then some (.ok (.tup ds), p.2) else none
  | .ex C x => some (.ex C x, p.2)
theorem x_tup {x1 pos} (ha : PA X es (tDEs X.K E fxs)) : PE X (.Tuple es x1 pos) (tDE X.K E (xTup fxs)) := imp_e (pe_tupZ ha) fun σ H Q ⟨h, s, δ, r, s', er, si, q, w⟩ => by
  obtain ⟨⟨x, s1⟩, q1, q⟩ := bind_some q
  refine ⟨h, s, δ, x, s1, er, si, q1, fun H1 st1 => ?_⟩
  cases x with
  | ok ds =>
    intro vs rs
    dsimp only at q
    split at q
    · rename_i hl
      cases q
      refine ⟨?_, fun p o hp hd => ?_⟩
      · rw [rs.length]; exact okLen_le hl
      · exact w _ (st1.trans (Step.new st1.si hp _)) _ (new_tup st1.si hp hd rs)
    · cases q
  | ex C x =>
    cases q
    exact fun dx r => w H1 st1 dx r
/-! ### a def that may raise -/
def spDX (K : PySem.W.Frag) (n : Nat) (g : FDX) : Sp := fun vs H Q E => ∃ (h : Addr → Bool) (s : S) (ds : List D) (r : RX) (s' : S), Reps K (hide h H) vs ds ∧ ds.length = n ∧ SI K h s H ∧ g ds s = some (r, s') ∧ ∀ H', Step K h s H s' H' → endE K E h H' Q r
structure KnX (P : Program) (w : World) (K : PySem.W.Frag) (mg : Str → Option Value) (base : Heap) (x : Str) (n k : Nat) (g : FDX) : Prop where
  ex : ∃ (f : Addr) (fd : FuncData) (ps : List Str), FnOk P w K mg base (L2.CX P w) k f fd ps (spDX K n g) ∧ Binds K fd ps [] ∧ PySem.W.keepIn K (.ref f) = true ∧ mg x = some (.ref f)
theorem KnX.mono {P : Program} {w : World} {K : PySem.W.Frag} {mg : Str → Option Value} {base : Heap} {x : Str} {n j k : Nat} {g : FDX} (F : KnX P w K mg base x n j g) (h : j ≤ k) : KnX P w K mg base x n k g :=
  let ⟨f, fd, ps, a, b, c, d⟩ := F.ex; ⟨f, fd, ps, a.mono h, b, c, d⟩
def xCall (n : Nat) (g : FDX) (fs : FXs) : FX := fun δ s => (fs δ s).bind fun p => match p.1 with
  | .ok ds => if ds.length = n then g ds p.2 else none
  | .ex C x => some (.ex C x, p.2)
theorem x_kn {x : Str} {n k : Nat} {g : FDX} {W : WX} (F : KnX X.prog X.w X.K X.mg X.base x n k g) (hr : Room k X.A) (tk : Takes X W) (hW : ∀ cls d σ H, E cls d H → W cls d σ H) (hg : Gl X x) (ha : PA X (e :: es) (tDEs X.K E fxs)) (hdb : (x == ("__debug__" : Str)) = false := by decide)
    (he : starEach (e :: es) X.env = (false, eval e X.env) :: starEach es X.env := by rfl) (hpl : (backTo pos (starEach es X.env)).any (·.1) = false := by rfl) : PE X (.Call (.Name x p) (e :: es) [] pos) (tDE X.K E (xCall n g fxs)) := by
  obtain ⟨f, fd, ps, F1, F2, F3, F4⟩ := F.ex
  refine imp_e (pe_call F1 hr hg F4 F3 F2 .nil (passes_call (E := E) tk hW) ha hdb he hpl) fun σ H Q ⟨h, s, δ, r, s', er, si, q, w⟩ => ?_
  obtain ⟨⟨y, s1⟩, q1, q⟩ := bind_some q
  refine ⟨h, s, δ, y, s1, er, si, q1, fun H1 st1 => ?_⟩
  cases y with
  | ok ds =>
    intro vs rs
    dsimp only at q
    split at q
    · rename_i hl
      exact ⟨h, s1, ds, r, s', by rw [List.append_nil]; exact rs, hl, st1.si, q, fun H2 st2 => w H2 (st1.trans st2)⟩
    · cases q
  | ex C x =>
    cases q
    exact fun dx r => w H1 st1 dx r
/-! ### statements that may raise -/
variable {st : Stmt} {sts b1 b2 : List Stmt} {f : FS} {f1 f2 : FSX} {tt : FT} {tg : Expr} {g : TG} {ft : FG} {vs : List Nat}
def sOf (f : FS) : FSX := fun δ s => (f δ s).map fun p => (.out p.1, p.2)
theorem x_of (p : PS X st (tDS X.K f)) : PS X st (tDX X.K E (sOf f)) := imp_s p fun D σ H ⟨h, s, δ, o, s', er, si, q, w⟩ => by
  obtain ⟨⟨o1, s1⟩, q1, q⟩ := map_some q
  cases q
  exact ⟨h, s, δ, o1, _, er, si, q1, w⟩
theorem xs_of (p : PSs X sts (tDS X.K f)) : PSs X sts (tDX X.K E (sOf f)) := imp_ss p fun D σ H ⟨h, s, δ, o, s', er, si, q, w⟩ => by
  obtain ⟨⟨o1, s1⟩, q1, q⟩ := map_some q
  cases q
  exact ⟨h, s, δ, o1, _, er, si, q1, w⟩
theorem endX_step {K : PySem.W.Frag} {h : Addr → Bool} {s s1 s' : S} {H H1 : Hp} {D : Ends} {o : OX} (st1 : Step K h s H s1 H1) (w : ∀ H', Step K h s H s' H' → endX K E h D H' o) : ∀ H', Step K h s1 H1 s' H' → endX K E h D H' o := fun H2 st2 => w H2 (st1.trans st2)
def xSeq (f1 f2 : FSX) : FSX := fun δ s => (f1 δ s).bind fun p => match p.1 with
  | .out (.nx δ') => f2 δ' p.2
  | .out (.rt d) => some (.out (.rt d), p.2)
  | .out (.bk d) => some (.out (.bk d), p.2)
  | .out (.ct d) => some (.out (.ct d), p.2)
  | .ex C x => some (.ex C x, p.2)
theorem xs_cons (h1 : PS X st (tDX X.K E f1)) (h2 : PSs X sts (tDX X.K E f2)) : PSs X (st :: sts) (tDX X.K E (xSeq f1 f2)) := imp_ss (pss_cons h1 h2) fun D σ H ⟨h, s, δ, o, s', er, si, q, w⟩ => by
  obtain ⟨⟨o1, s1⟩, q1, q⟩ := bind_some q
  refine ⟨h, s, δ, o1, s1, er, si, q1, fun H1 st1 => ?_⟩
  cases o1 with
  | out o1 =>
    cases o1 with
    | nx δ1 => exact fun σ1 er1 => ⟨h, s1, δ1, o, s', er1, st1.si, q, endX_step st1 w⟩
    | rt d => cases q; exact w H1 st1
    | bk δ1 => cases q; exact w H1 st1
    | ct δ1 => cases q; exact w H1 st1
  | ex C x => cases q; exact fun dx r => w H1 st1 dx r
theorem xs_nil : PSs X [] (tDX X.K E (sOf fNx)) := xs_of dss_nil
theorem xs_one (h1 : PS X st (tDX X.K E f1)) : PSs X [st] (tDX X.K E (xSeq f1 (sOf fNx))) := xs_cons h1 xs_nil
def xIf (ta : FT) (f1 f2 : FSX) : FSX := fun δ s => (ta δ s).bind fun p => if p.1 = true then f1 δ p.2 else f2 δ p.2
theorem x_if (hc : PT X c (tDT X.K tt)) (ha : PSs X b1 (tDX X.K E f1)) (hb : PSs X b2 (tDX X.K E f2)) : PS X (.If c b1 b2 pos) (tDX X.K E (xIf tt f1 f2)) := imp_s (ps_if hc ha hb) fun D σ H ⟨h, s, δ, o, s', er, si, q, w⟩ => by
  obtain ⟨⟨k, s1⟩, q1, q⟩ := bind_some q
  refine ⟨h, s, δ, k, s1, er, si, q1, fun H1 st1 => ?_⟩
  cases k with
  | true => exact ⟨h, s1, δ, o, s', er.mono (st1.ext si), st1.si, q, endX_step st1 w⟩
  | false => exact ⟨h, s1, δ, o, s', er.mono (st1.ext si), st1.si, q, endX_step st1 w⟩
def xRet (fx : FX) : FSX := fun δ s => (fx δ s).map fun p => (match p.1 with
  | .ok d => .out (.rt d)
  | .ex C x => .ex C x, p.2)
theorem x_ret (he : PE X e (tDE X.K E fx)) : PS X (.Return (some e) pos) (tDX X.K E (xRet fx)) := imp_s (ps_ret he) fun D σ H ⟨h, s, δ, o, s', er, si, q, w⟩ => by
  obtain ⟨⟨r, s1⟩, q1, q⟩ := map_some q
  cases q
  refine ⟨h, s, δ, r, _, er, si, q1, fun H1 st1 => ?_⟩
  have w' := w H1 st1
  cases r with
  | ok d => exact fun v r1 => w' v r1
  | ex C x => exact fun dx r1 => w' dx r1
def xAsg (ft : FG) (fx : FX) : FSX := fun δ s => (fx δ s).bind fun p => match p.1 with
  | .ok d => (ft d δ).map fun δ' => (.out (.nx δ'), p.2)
  | .ex C x => some (.ex C x, p.2)
theorem x_asg (he : PE X e (tDE X.K E fx)) (hg : PG X tg g) (gt : GT X.K g ft vs) (hs : swapsWithSole [tg] e pos.line X.env = pure false := by rfl) (hw : swappedStores [tg] e X.env = pure none := by rfl)
    (h1 : (assignEach [tg] X.env).map (·.2) = [assign tg X.env] := by rfl) : PS X (.Assign [tg] e pos) (tDX X.K E (xAsg ft fx)) := imp_s (ps_asg he hg hs hw h1) fun D σ H ⟨h, s, δ, o, s', er, si, q, w⟩ => by
  obtain ⟨⟨r, s1⟩, q1, q⟩ := bind_some q
  refine ⟨h, s, δ, r, s1, er, si, q1, fun H1 st1 => ?_⟩
  cases r with
  | ok d =>
    intro v r1
    obtain ⟨δ1, q2, q⟩ := map_some q
    cases q
    exact gt (hide h H1) v σ H1 d δ δ1 _ (hide_sub h H1) (er.mono (st1.ext si)) r1 q2 fun σ' er' _ => w H1 st1 σ' er'
  | ex C x =>
    cases q
    exact fun dx r => w H1 st1 dx r
def xDrop (fx : FX) : FSX := fun δ s => (fx δ s).map fun p => (match p.1 with
  | .ok _ => .out (.nx δ)
  | .ex C x => .ex C x, p.2)
theorem x_expr (he : PE X e (tDE X.K E fx)) (hs : swapsWith e none pos.line X.env = pure false := by rfl) : PS X (.Expr e pos) (tDX X.K E (xDrop fx)) := imp_s (ps_expr he hs) fun D σ H ⟨h, s, δ, o, s', er, si, q, w⟩ => by
  obtain ⟨⟨r, s1⟩, q1, q⟩ := map_some q
  cases q
  refine ⟨h, s, δ, r, _, er, si, q1, fun H1 st1 => ?_⟩
  have w' := w H1 st1
  cases r with
  | ok d => exact fun v _ => w' σ (er.mono (st1.ext si))
  | ex C x => exact fun dx r1 => w' dx r1
/-- raise C('..') -/
def xRaise (C : Addr) : FSX := fun _ s => some (.ex C none, s)
theorem x_raise {C : Addr} {W : WX} (hc : X.calm = true) (tk : Takes X W) (hW : ∀ cls d σ H, E cls d H → W cls d σ H) (mk : PMk X e (fun _ H Q => Q (.ref C) none H)) : PS X (.Raise (some e) none pos) (tDX X.K E (xRaise C)) :=
  imp_s (ps_raise (W := W) hc tk mk) fun D σ H ⟨h, s, δ, o, s', er, si, q, w⟩ => by
  cases q
  exact hW _ _ _ _ (w H (Step.refl si) none rfl)
/-- raise C(x), the exception keeps x as its field nm -/
def tMk1 (C : Addr) (nm : Str) (ta : TA) : L2.St → Hp → XK → Prop := fun σ H Q => ta σ H fun vs H1 => ∃ v, vs = [v] ∧ ∀ d, H1 d = none → Q (.ref C) (some d) (upd H1 d (.xd [(nm, v)]))
def xRaise1 (C : Addr) (nm : Str) (fs : FA) : FSX := fun δ s => (fs δ s).bind fun p => match p.1 with
  | [x] => some (.ex C (some [(nm, x)]), p.2)
  | _ => none
theorem x_raise1 {C : Addr} {nm : Str} {W : WX} (hc : X.calm = true) (tk : Takes X W) (hW : ∀ cls d σ H, E cls d H → W cls d σ H) (mk : PMk X e (tMk1 C nm (tDA X.K fs))) : PS X (.Raise (some e) none pos) (tDX X.K E (xRaise1 C nm fs)) :=
  imp_s (ps_raise (W := W) hc tk mk) fun D σ H ⟨h, s, δ, o, s', er, si, q, w⟩ => by
  obtain ⟨⟨xs, s1⟩, q1, q⟩ := bind_some q
  dsimp only at q
  split at q
  · rename_i x
    cases q
    refine ⟨h, s, δ, [x], _, er, si, q1, fun vs H1 st1 r1 => ?_⟩
    obtain ⟨v, rfl, r⟩ := reps1 r1
    refine ⟨v, rfl, fun d hd => hW _ _ _ _ (w _ (st1.trans (Step.new st1.si hd _)) (some d) ⟨d, [(nm, v)], rfl, upd_same, rfl, .cons ((Step.new st1.si hd _).rep st1.si r) .nil⟩)⟩
  · cases q
/-! ### while -/
def loopX (tt : FT) (fb : FSX) : Nat → Fr → S → Option (OX × S)
  | 0, _, _ => none
  | n + 1, δ, s => (tt δ s).bind fun p => if p.1 = true then (fb δ p.2).bind fun q => match q.1 with
      | .out (.nx δ2) => loopX tt fb n δ2 q.2
      | .out (.ct δ2) => loopX tt fb n δ2 q.2
      | .out (.bk δ2) => some (.out (.nx δ2), q.2)
      | .out (.rt d) => some (.out (.rt d), q.2)
      | .ex C x => some (.ex C x, q.2)
    else some (.out (.nx δ), p.2)
theorem x_while {body : List Stmt} {fb : FSX} (n : Nat) (hp : PassesOwn (model X.prog X.w) X.A X.env X.xe) (hc : PT X c (tDT X.K tt)) (hb : PSs X body (tDX X.K E fb)) : PS X (.While c body [] pos) (tDX X.K E (loopX tt fb n)) := imp_s (ps_while hp hc hb) fun D σ H ⟨h, s, δ, o, s', er, si, q, w⟩ => by
  refine ⟨fun m σ2 H2 => ∃ s2 δ2, Step X.K h s H s2 H2 ∧ EnvR X.K (hide h H2) σ2 δ2 ∧ loopX tt fb m δ2 s2 = some (o, s'), ⟨n, s, δ, Step.refl si, er, q⟩, ?_⟩
  rintro m σ2 H2 ⟨s2, δ2, st2, er2, q2⟩
  cases m with
  | zero => cases q2
  | succ m =>
    obtain ⟨⟨b, s3⟩, q3, q2⟩ := bind_some q2
    refine ⟨h, s2, δ2, b, s3, er2, st2.si, q3, fun H3 st3 => ?_⟩
    cases b with
    | true =>
      obtain ⟨⟨o4, s4⟩, q4, q2⟩ := bind_some q2
      refine ⟨fun σ' H' => ∃ s2 δ2, Step X.K h s H s2 H' ∧ EnvR X.K (hide h H') σ' δ2 ∧ loopX tt fb m δ2 s2 = some (o, s'), fun σ' H' z => ⟨m, Nat.lt_succ_self m, z⟩, ?_⟩
      refine ⟨h, s3, δ2, o4, s4, er2.mono (st3.ext st2.si), st3.si, q4, fun H4 st4 => ?_⟩
      have st14 : Step X.K h s H s4 H4 := st2.trans (st3.trans st4)
      cases o4 with
      | out o4 =>
        cases o4 with
        | nx δ4 => exact fun σ' er' => ⟨s4, δ4, st14, er', q2⟩
        | ct δ4 => exact fun σ' er' => ⟨s4, δ4, st14, er', q2⟩
        | bk δ4 => cases q2; exact w H4 st14
        | rt d => cases q2; exact w H4 st14
      | ex C x => cases q2; exact fun dx r => w H4 st14 dx r
    | false =>
      cases q2
      exact w H3 (st2.trans st3) σ2 (er2.mono (st3.ext st2.si))
/-! ### a block with a list of its own -/
def toOX : RX → OX
  | .ok d => .out (.rt d)
  | .ex C x => .ex C x
def GoodX (i : Nat) (fo : FOw) (rest : FSX) (δ : Fr) (s : S) (r : RX) : Prop :=
  (∃ a, s a = none) ∧ ∃ u, fo δ s = some (u, s) ∧ ∀ a, s a = none → ∃ s2, rest (δ.set i (some (.ref a))) (supd s a u) = some (toOX r, s2) ∧ keepS s s2 = s
open Classical in
noncomputable def xOwnL (i : Nat) (fo : FOw) (rest : FSX) : FSX := fun δ s => if h : ∃ r, GoodX i fo rest δ s r then some (toOX h.choose, s) else none
theorem toOX_inj {r r' : RX} (h : toOX r = toOX r') : r = r' := by cases r <;> cases r' <;> cases h <;> rfl
theorem xOwnL_eq {i : Nat} {fo : FOw} {rest : FSX} {δ : Fr} {s : S} {r : RX} (g : GoodX i fo rest δ s r) : xOwnL i fo rest δ s = some (toOX r, s) := by
  have h : ∃ r, GoodX i fo rest δ s r := ⟨r, g⟩
  have e : h.choose = r := by
    obtain ⟨⟨a, ha⟩, u, e1, q⟩ := g
    obtain ⟨_, u', e1', q'⟩ := h.choose_spec
    rw [e1] at e1'
    cases e1'
    obtain ⟨s2, e2, _⟩ := q a ha
    obtain ⟨s3, e3, _⟩ := q' a ha
    rw [e2] at e3
    injection e3 with e3
    injection e3 with e3
    exact (toOX_inj e3).symm
  unfold xOwnL
  rw [dif_pos h, e]
theorem excR_back {K : PySem.W.Frag} {h h1 : Addr → Bool} {H : Hp} {fs : FsD} {dx : Option Addr} (e : Ext (hide h1 H) (hide h H)) (r : excR K h1 H fs dx) : excR K h H fs dx := by
  cases fs with
  | none => exact r
  | some l => obtain ⟨a, vs, e1, e2, e3⟩ := r; exact ⟨a, vs, e1, e2, e3.mono e⟩
theorem xs_ownL {i : Nat} {fo : FOw} {rest : FSX} (h1 : PS X st (tAsg (tO X.K fo) (gName i))) (h2 : PSs X sts (tDX X.K E rest)) : PSs X (st :: sts) (tDX X.K E (xOwnL i fo rest)) := imp_ss (pss_cons h1 h2) fun D σ H ⟨h, s, δ, o, s', er, si, q, w⟩ => by
  unfold xOwnL at q
  split at q
  · rename_i hg
    have hsp := hg.choose_spec
    generalize hg.choose = r at q hsp
    cases q
    obtain ⟨_, u, e1, q⟩ := hsp
    refine ⟨h, s, δ, u, s, er, si, e1, fun p h' H' hp g => ?_⟩
    obtain ⟨s2, e2, ek⟩ := q p (none_of si hp)
    refine ⟨h', _, _, _, s2, (er.mono (g.ext si)).set (.ref p) i, g.si, e2, fun H2 st2 => ?_⟩
    obtain ⟨a1, a2⟩ := g.done si st2
    rw [ek] at a1
    have w' := w H2 a1
    cases r with
    | ok d => exact fun v r => w' v (Rep.mono a2 _ _ r)
    | ex C x => exact fun dx r => w' dx (excR_back a2 r)
  · cases q
end
/-! ### a def that may raise, from its text -/
def xBody (n : Nat) (f : FSX) : FDX := fun ds s => (f (startD n ds) s).bind fun p => match p.1 with
  | .out (.rt d) => some (.ok d, p.2)
  | .out (.nx _) => some (.ok .non, p.2)
  | .ex C x => some (.ex C x, p.2)
  | _ => none
theorem knx_of {P : Program} {w : World} {K : PySem.W.Frag} {mg : Str → Option Value} {base : Heap} {x qual : Str} {st : Stmt} {f : Addr} {fd : FuncData} {N ps : List Str} {k : Nat} {fb : FSX} (F : Fun K x qual st f fd) (hm : mg x = some (.ref f)) (S : FnScope N ps (defScope st)) (bi : Binds K fd ps [])
    (hb : ∀ (cdv : Value) (A : Around) (outer : List Env) (s : Shared) (H : Hp) (E : XK), Room k (A.deeper (envOfC qual (defScope st) s.heap.objs.size f cdv)) → PSs (cxOf (L2.CX P w) P w K mg base N qual (defScope st) f cdv A outer s H E) (defBody st) (tDX K E fb)) :
    KnX P w K mg base x ps.length (k + 1) (xBody N.length fb) := by
  refine ⟨f, fd, ps, F.okX S (fun vs H Q E h => ?_) (fun cdv A outer s H vs Q E hr h => ⟨_, hb cdv A outer s H E hr, ?_⟩), bi, F.kp, hm⟩
  · obtain ⟨h', s', ds, r', s2, r, hl, _⟩ := h
    rw [r.length, hl]
  · obtain ⟨h', s', ds, r', s2, r, hl, si, q, w⟩ := h
    obtain ⟨⟨o, s3⟩, q1, q⟩ := bind_some (show (fb (startD N.length ds) s').bind _ = some (r', s2) from q)
    refine ⟨h', s', startD N.length ds, o, s3, env_start r, si, q1, fun H1 st1 => ?_⟩
    cases o with
    | out o =>
      cases o with
      | nx δ => cases q; exact fun σ er => w H1 st1 .non .non
      | rt d => cases q; exact fun v r => w H1 st1 v r
      | bk δ => cases q
      | ct δ => cases q
    | ex C x => cases q; exact fun dx r => w H1 st1 dx r
end Fw

set_option Elab.async false
set_option linter.all false
set_option maxRecDepth 100000
set_option maxHeartbeats 4000000
/-! Le: helper(lambda: E) in the midst of a law, E an expression that may raise, the helper answering by the exception. -/
namespace Fw
open PySem PySem.Spec PyProof.Rows L2 LamX
/-- what a helper makes of work(): hd of an exception, dv else -/
def TTres (hd : VK → XK) (dv : V) : (XK → Hp → VK → Prop) → Hp → VK → Prop := fun tl H Q => tl (hd Q) H fun _ H' => Q dv H'
def fLamE (fx : FX) (res : Addr → FsD → Option D) (dflt : D) : FE := fun δ s => (fx δ s).bind fun p => match p.1 with
  | .ok _ => some (dflt, p.2)
  | .ex C fs => (res C fs).map fun r => (r, p.2)
theorem ne_lamE {X : Cx} {T : List (Addr × Str)} {e : Expr} {fx : FX} {hd : VK → XK} {dv : V} {res : Addr → FsD → Option D} {dflt : D} (p : PE X e (tLam T (TTres hd dv) (fun E => tDE X.K E fx)))
    (hres : ∀ (C : Addr) (fs : FsD) (r : D) (h : Addr → Bool) (H' : Hp) (dx : Option Addr) (Q : VK), res C fs = some r → excR X.K h H' fs dx → (∀ v, Rep X.K (hide h H') v r → Q v H') → hd Q (.ref C) dx H') (hdv : ∀ H, Rep X.K H dv dflt) : PE X e (tNE X.K T (fLamE fx res dflt)) :=
  imp_e p fun σ H Q ⟨h, s, δ, d, s', er, si, t, q, w⟩ => by
  obtain ⟨⟨r, s1⟩, q1, q⟩ := bind_some q
  refine ⟨t, fun H1 eN t1 => ?_⟩
  have e1 : Ext (hide h H) (hide (tight s) H1) := si.tight_ext.trans (hide_n eN)
  have si1 : SI X.K (tight s) s H1 := si.tight.toN eN
  have gn : ∀ {s2 : S} {H2 : Hp}, Step X.K (tight s) s H1 s2 H2 → GrowN X.K T h s H (tight s) s2 H2 := fun st => ⟨e1.trans (st.ext si1), st.si, tabs_fr si1 st.fr t1⟩
  refine ⟨tight s, s, δ, r, s1, er.mono e1, si1, q1, fun H2 st2 => ?_⟩
  cases r with
  | ok d0 =>
    cases q
    exact fun v _ => w dv (tight s) H2 (gn st2) (hdv _)
  | ex C fs =>
    obtain ⟨r, q2, q⟩ := map_some q
    cases q
    exact fun dx rx => hres C fs _ (tight s) H2 dx Q q2 rx fun v rv => w v (tight s) H2 (gn st2) rv
end Fw

set_option Elab.async false
set_option linter.all false
set_option maxRecDepth 100000
set_option maxHeartbeats 4000000
/-! Xk: readings of what may raise, as continuations for simp. -/
namespace Fw
open PySem PySem.Spec PyProof.Rows L2
section
variable {f1 f2 : FSX} {fx : FX} {fs : FXs} {f : FS} {fe : FE} {fa : FA} {ta : FT} {ft : FG} {δ δ' : Fr} {s s' : S} {d : D} {ds : List D} {C : Addr} {x : FsD} {g : FDX} {n : Nat} {o : Out} {nm : Str}
def kXS (f2 : FSX) : Option (OX × S) → Option (OX × S)
  | some (.out (.nx δ'), s) => f2 δ' s
  | some (.out (.rt d), s) => some (.out (.rt d), s)
  | some (.out (.bk d), s) => some (.out (.bk d), s)
  | some (.out (.ct d), s) => some (.out (.ct d), s)
  | some (.ex C x, s) => some (.ex C x, s)
  | none => none
@[simp] theorem xSeq_e : xSeq f1 f2 δ s = kXS f2 (f1 δ s) := by
  unfold xSeq
  cases h : f1 δ s with
  | none => rfl
  | some p =>
    obtain ⟨o, s'⟩ := p
    cases o with
    | out o => cases o <;> rfl
    | ex C x => rfl
@[simp] theorem kXS_nx : kXS f2 (some (.out (.nx δ'), s)) = f2 δ' s := rfl
@[simp] theorem kXS_rt : kXS f2 (some (.out (.rt d), s)) = some (.out (.rt d), s) := rfl
@[simp] theorem kXS_ex : kXS f2 (some (.ex C x, s)) = some (.ex C x, s) := rfl
def kXI (f1 f2 : FSX) (δ : Fr) : Option (Bool × S) → Option (OX × S)
  | some (true, s) => f1 δ s
  | some (false, s) => f2 δ s
  | none => none
@[simp] theorem xIf_e : xIf ta f1 f2 δ s = kXI f1 f2 δ (ta δ s) := by
  unfold xIf
  cases h : ta δ s with
  | none => rfl
  | some p => obtain ⟨b, s'⟩ := p; cases b <;> rfl
@[simp] theorem kXI_t : kXI f1 f2 δ (some (true, s)) = f1 δ s := rfl
@[simp] theorem kXI_f : kXI f1 f2 δ (some (false, s)) = f2 δ s := rfl
def kXR : Option (RX × S) → Option (OX × S)
  | some (.ok d, s) => some (.out (.rt d), s)
  | some (.ex C x, s) => some (.ex C x, s)
  | none => none
@[simp] theorem xRet_e : xRet fx δ s = kXR (fx δ s) := by
  unfold xRet
  cases h : fx δ s with
  | none => rfl
  | some p => obtain ⟨b, s'⟩ := p; cases b <;> rfl
@[simp] theorem kXR_ok : kXR (some (.ok d, s)) = some (.out (.rt d), s) := rfl
@[simp] theorem kXR_ex : kXR (some (.ex C x, s)) = some (.ex C x, s) := rfl
def kXD (δ : Fr) : Option (RX × S) → Option (OX × S)
  | some (.ok _, s) => some (.out (.nx δ), s)
  | some (.ex C x, s) => some (.ex C x, s)
  | none => none
@[simp] theorem xDrop_e : xDrop fx δ s = kXD δ (fx δ s) := by
  unfold xDrop
  cases h : fx δ s with
  | none => rfl
  | some p => obtain ⟨b, s'⟩ := p; cases b <;> rfl
@[simp] theorem kXD_ok : kXD δ (some (.ok d, s)) = some (.out (.nx δ), s) := rfl
@[simp] theorem kXD_ex : kXD δ (some (.ex C x, s)) = some (.ex C x, s) := rfl
def kXA2 (s : S) : Option Fr → Option (OX × S)
  | some δ' => some (.out (.nx δ'), s)
  | none => none
def kXA (ft : FG) (δ : Fr) : Option (RX × S) → Option (OX × S)
  | some (.ok d, s) => kXA2 s (ft d δ)
  | some (.ex C x, s) => some (.ex C x, s)
  | none => none
@[simp] theorem xAsg_e : xAsg ft fx δ s = kXA ft δ (fx δ s) := by
  unfold xAsg
  cases h : fx δ s with
  | none => rfl
  | some p =>
    obtain ⟨b, s'⟩ := p
    cases b with
    | ok d =>
      show (ft d δ).map _ = kXA2 s' (ft d δ)
      cases ft d δ <;> rfl
    | ex C x => rfl
@[simp] theorem kXA_ok : kXA ft δ (some (.ok d, s)) = kXA2 s (ft d δ) := rfl
@[simp] theorem kXA_ex : kXA ft δ (some (.ex C x, s)) = some (.ex C x, s) := rfl
@[simp] theorem kXA2_s : kXA2 s (some δ') = some (.out (.nx δ'), s) := rfl
def kSO : Option (Out × S) → Option (OX × S)
  | some (o, s) => some (.out o, s)
  | none => none
@[simp] theorem sOf_e : sOf f δ s = kSO (f δ s) := by
  unfold sOf
  cases h : f δ s <;> rfl
@[simp] theorem kSO_s : kSO (some (o, s)) = some (.out o, s) := rfl
def kXO : Option (D × S) → Option (RX × S)
  | some (d, s) => some (.ok d, s)
  | none => none
@[simp] theorem xOf_e : xOf fe δ s = kXO (fe δ s) := by
  unfold xOf
  cases h : fe δ s <;> rfl
@[simp] theorem kXO_s : kXO (some (d, s)) = some (.ok d, s) := rfl
@[simp] theorem xNil_e : xNil δ s = some (.ok [], s) := rfl
def kXC2 (d : D) : Option (RXs × S) → Option (RXs × S)
  | some (.ok ds, s) => some (.ok (d :: ds), s)
  | some (.ex C x, s) => some (.ex C x, s)
  | none => none
def kXC (fs : FXs) (δ : Fr) : Option (RX × S) → Option (RXs × S)
  | some (.ok d, s) => kXC2 d (fs δ s)
  | some (.ex C x, s) => some (.ex C x, s)
  | none => none
@[simp] theorem xCons_e : xCons fx fs δ s = kXC fs δ (fx δ s) := by
  unfold xCons
  cases h : fx δ s with
  | none => rfl
  | some p =>
    obtain ⟨b, s'⟩ := p
    cases b with
    | ok d =>
      show (fs δ s').map _ = kXC2 d (fs δ s')
      cases h2 : fs δ s' with
      | none => rfl
      | some q => obtain ⟨c, s2⟩ := q; cases c <;> rfl
    | ex C x => rfl
@[simp] theorem kXC_ok : kXC fs δ (some (.ok d, s)) = kXC2 d (fs δ s) := rfl
@[simp] theorem kXC_ex : kXC fs δ (some (.ex C x, s)) = some (.ex C x, s) := rfl
@[simp] theorem kXC2_ok : kXC2 d (some (.ok ds, s)) = some (.ok (d :: ds), s) := rfl
@[simp] theorem kXC2_ex : kXC2 d (some (.ex C x, s)) = some (.ex C x, s) := rfl
def kXT : Option (RXs × S) → Option (RX × S)
  | some (.ok ds, s) => if okLen ds.length = true then some (.ok (.tup ds), s) else none
  | some (.ex C x, s) => some (.ex C x, s)
  | none => none
@[simp] theorem xTup_e : xTup fs δ s = kXT (fs δ s) := by
  unfold xTup
  cases h : fs δ s with
  | none => rfl
  | some p => obtain ⟨b, s'⟩ := p; cases b <;> rfl
@[simp] theorem kXT_ok : kXT (some (.ok ds, s)) = if okLen ds.length = true then some (.ok (.tup ds), s) else none := rfl
@[simp] theorem kXT_ex : kXT (some (.ex C x, s)) = some (.ex C x, s) := rfl
def kXK (n : Nat) (g : FDX) : Option (RXs × S) → Option (RX × S)
  | some (.ok ds, s) => if ds.length = n then g ds s else none
  | some (.ex C x, s) => some (.ex C x, s)
  | none => none
@[simp] theorem xCall_e : xCall n g fs δ s = kXK n g (fs δ s) := by
  unfold xCall
  cases h : fs δ s with
  | none => rfl
  | some p => obtain ⟨b, s'⟩ := p; cases b <;> rfl
@[simp] theorem kXK_ok : kXK n g (some (.ok ds, s)) = if ds.length = n then g ds s else none := rfl
@[simp] theorem kXK_ex : kXK n g (some (.ex C x, s)) = some (.ex C x, s) := rfl
def kXZ (C : Addr) (nm : Str) : Option (List D × S) → Option (OX × S)
  | some ([x], s) => some (.ex C (some [(nm, x)]), s)
  | _ => none
@[simp] theorem xRaise1_e : xRaise1 C nm fa δ s = kXZ C nm (fa δ s) := by
  unfold xRaise1
  cases h : fa δ s with
  | none => rfl
  | some p =>
    obtain ⟨l, s'⟩ := p
    match l with
    | [] => rfl
    | [x] => rfl
    | _ :: _ :: _ => rfl
@[simp] theorem kXZ_s : kXZ C nm (some ([d], s)) = some (.ex C (some [(nm, d)]), s) := rfl
@[simp] theorem xRaise_e : xRaise C δ s = some (.ex C none, s) := rfl
def kXB : Option (OX × S) → Option (RX × S)
  | some (.out (.rt d), s) => some (.ok d, s)
  | some (.out (.nx _), s) => some (.ok .non, s)
  | some (.ex C x, s) => some (.ex C x, s)
  | _ => none
theorem xBody_e : xBody n f1 ds s = kXB (f1 (startD n ds) s) := by
  unfold xBody
  cases h : f1 (startD n ds) s with
  | none => rfl
  | some p =>
    obtain ⟨o, s'⟩ := p
    cases o with
    | out o => cases o <;> rfl
    | ex C x => rfl
@[simp] theorem kXB_rt : kXB (some (.out (.rt d), s)) = some (.ok d, s) := rfl
@[simp] theorem kXB_nx : kXB (some (.out (.nx δ), s)) = some (.ok .non, s) := rfl
@[simp] theorem kXB_ex : kXB (some (.ex C x, s)) = some (.ex C x, s) := rfl
end
end Fw

set_option Elab.async false
set_option linter.all false
set_option maxRecDepth 100000
set_option maxHeartbeats 4000000
/-! We: what an except suite asks of an exception that may have fields. -/
namespace Fw
open PySem PySem.Spec PyProof.Rows L2 LamX
theorem pe_never {X : Cx} {e : Expr} : PE X e (fun _ _ _ => False) := ⟨fun _ _ _ _ _ _ h => h.elim⟩
theorem pss_never {X : Cx} {sts : List Stmt} : PSs X sts (fun _ _ _ => False) := ⟨fun _ _ _ _ _ _ h => h.elim⟩
/-- isinstance(e, c), e the exception that the suite holds, d its dict -/
def rIsE2 (K : PySem.W.Frag) (D a : Addr) (d : Option Addr) : List V → Hp → VK → Prop := fun xs H Q => ∃ (c : V) (cv : Value) (b : Bool), xs = [.ref a, c] ∧ (∀ u, RelV c u → u = cv) ∧ PySem.W.kitOne K (.ref D) cv = some b ∧ (d = none ∨ ∃ dd fs, d = some dd ∧ H dd = some (.xd fs)) ∧ Q (.bl b) H
theorem call_isE2 {X : Cx} {a D : Addr} {d : Option Addr} {oe : Obj} {pn : List (Addr × Obj)} (C : ExcC X.K D) (hz : Zc (.ref D) d oe) (hf : ∃ vs, oe.data = .fields vs) : CallR (X.suite a ((a, oe) :: pn)) (.builtin "isinstance") (rIsE2 X.K D a d) := by
  intro pins s σ H xs us Q I r h
  obtain ⟨c, cv, b, rfl, hcv, e, hd, q⟩ := h
  cases r with
  | cons rx rr =>
    cases rr with
    | cons rt rr =>
      cases rr
      cases rx
      have ec := hcv _ rt
      subst ec
      obtain ⟨hget, _⟩ := I.pin (a, oe) (List.mem_append.mpr (.inl List.mem_cons_self))
      obtain ⟨vs, hv⟩ := hf
      obtain ⟨od, J⟩ : ∃ od, PySem.W.InstAt s.heap a oe D od := by
        obtain ⟨oc, od, oda, osl⟩ := oe
        obtain ⟨h1, h2⟩ := hz
        dsimp only at h1 h2 hv
        subst h1 h2 hv
        rcases hd with rfl | ⟨dd, fs, rfl, hdd⟩
        · exact ⟨none, hget, rfl, rfl, trivial⟩
        · obtain ⟨u, hu⟩ := objOk_get (I.hok dd _ hdd)
          exact ⟨some u, hget, rfl, rfl, hu⟩
      have hcl : (PySem.W.clsIn X.K D).isSome = true := by
        have z := C.hd
        unfold PySem.W.hasDictIn at z
        cases e2 : PySem.W.clsIn X.K D with
        | none => rw [e2] at z; cases z
        | some cd => rfl
      exact PySem.W.kia_one (PySem.W.kitx_exc hcl C.hg C.hk C.hs C.ha C.hn C.ht C.hm) I.kIn J e (fun z => nomatch z) fun tk => ⟨.bl b, H, I.kept (t' := tk) fun _ _ z => z, rfl, q⟩
theorem suite_isE2 {Y : Cx} {a CB CX : Addr} {d : Option Addr} {oe : Obj} {pn : List (Addr × Obj)} {p p2 p3 p4 : Pos} {B : Str} (EC : ExcC Y.K CB) (hz : Zc (.ref CB) d oe) (hf : ∃ vs, oe.data = .fields vs) (hg : Gl Y "isinstance") (hmi : Y.mg "isinstance" = none) (hgB : Gl Y B) (hmB : Y.mg B = some (.ref CX)) (hN : Y.N[1]? = some ("e" : Str)) (hv : Vis Y.env.scope "e")
    (hd : (B == ("__debug__" : Str)) = false := by decide) :
    PE (Y.suite a ((a, oe) :: pn)) (.Call (.Name "isinstance" p) [.Name "e" p2, .Name B p3] [] p4) (tCB (rIsE2 Y.K CB a d) (tCons (tVar 1) (tCons (tC (.ref CX)) tNil))) :=
  pe_callB (X := Y.suite a ((a, oe) :: pn)) (call_isE2 EC hz hf) hg hmi (by decide +kernel) (pa_cons (pe_var (X := Y.suite a ((a, oe) :: pn)) hN hv (by decide) (by decide)) (pa_cons (pe_glob (X := Y.suite a ((a, oe) :: pn)) (v := .ref CX) hgB hmB rfl hd) pa_nil))
/-- a def that may raise, where it doesn't -/
def okOf (g : FDX) : FD := fun ds s => match g ds s with
  | some (.ok d, s') => some (d, s')
  | _ => none
theorem kn_of_knx {P : Program} {w : World} {K : PySem.W.Frag} {mg : Str → Option Value} {base : Heap} {x : Str} {n k : Nat} {g : FDX} (F : KnX P w K mg base x n k g) : Kn P w K mg base x n k (okOf g) := by
  obtain ⟨f, fd, ps, F1, hb, hk, hm⟩ := F.ex
  have conv : ∀ vs H Q E, spD K n (okOf g) vs H Q E → ∀ E', spDX K n g vs H Q E' := fun vs H Q E h E' => by
    obtain ⟨h', s, ds, d, s', r, hl, si, q, w⟩ := h
    have q' : (match g ds s with
      | some (.ok d, s') => some (d, s')
      | _ => none) = some (d, s') := q
    split at q'
    · rename_i d1 s1 e
      cases q'
      exact ⟨h', s, ds, .ok d, s', r, hl, si, e, fun H' st v rv => w v H' st rv⟩
    · cases q'
  refine ⟨f, fd, ps, ⟨fun vs H Q E h => F1.len vs H Q E (conv _ _ _ _ h E), fun A outer s H args us vs Q E hr e0 hbi hv h => ?_⟩, hb, hk, hm⟩
  refine codeAny_mono (F1.run A outer s H args us vs Q (fun _ _ _ => False) hr e0 hbi hv (conv _ _ _ _ h _)) (fun r s' q => ?_)
  cases r with
  | ok fl => cases fl <;> exact q
  | error e =>
    obtain ⟨_, _, _, _, _, _, _, _, _, _, _, _, z⟩ := (show L2.CX P w outer H s (fun _ _ _ => False) e s' from q)
    exact z.elim
end Fw

set_option Elab.async false
set_option linter.all false
set_option maxRecDepth 100000
set_option maxHeartbeats 4000000
/-! Lm: lambdas as values (with one default or none), kept in a list, called by a helper. -/
namespace Fw
open PySem PySem.Spec PyProof.Rows L2 LamX NdefX
open PySem.W (kdv_obj kdv_fn kdv_tup)
/-- a lambda's words -/
structure LmW where
  params : Arguments
  body : Expr
  scope : Scope
abbrev lmObj (X : Cx) (L : LmW) (dV doc pm ctv : Value) (c' : Addr) : Obj := kdv_obj "<lambda>" (X.env.qual ++ "<lambda>") L.params (.expr L.body) L.scope (cloFrom X.env.cells L.scope.names []) dV doc pm c' ctv
abbrev lmQ (X : Cx) : Str := X.env.qual ++ "<lambda>"
/-- what stands for the defaults -/
def DfOk (dV : Value) (more : List (Addr × HO)) (n : Nat) : Prop := (n = 0 ∧ dV = .none) ∨ (n = 1 ∧ ∃ (dt : Addr) (v : Value), dV = .ref dt ∧ (dt, HO.frz (kdv_tup [v]) trvO) ∈ more)
/-- u is such a lambda, made in the frame of X -/
def IsLm (X : Cx) (L : LmW) (u : OO) : Prop := ∃ (dV doc pm ctv : Value) (c' : Addr) (more : List (Addr × HO)), u = .fn (lmObj X L dV doc pm ctv c') more ∧ (c', CodeO c' (lmQ X)) ∈ more ∧ DfOk dV more L.params.defaults.length
section
variable {X : Cx} {pins : List (Addr × Obj)} {σ : L2.St} {H : Hp} {s : Shared}
theorem inv_frz {o : Obj} {t' : Nat} (ho : o.isFreed = false) (I : Inv X pins σ H s) : Inv X pins σ (upd H s.heap.objs.size (.frz o trvO)) { s with heap := s.heap.push o, toks := t' } := by
  have e : (s.heap.push o).get? s.heap.objs.size = some o := Heap.get?_push_size _ ho
  exact I.laid (a := s.heap.objs.size) (fun b u e => Heap.get?_push_of_some _ e) (Nat.le_refl _) ⟨e, trivial, ⟨_, e⟩, fun _ _ _ _ => trivial⟩
theorem lm_tail {T : List (Addr × Str)} {c P : Addr} {L : LmW} {pos : Pos} {dV : Value} {E : Value → Shared → Prop} {Q : Value → Shared → Prop} (I : Inv X pins σ H s) (TB : TabB X.base X.mg c P) (hcode : X.env.code = .ref c)
    (hm : (P, lmQ X) ∈ T) (hu : ∀ p ∈ T, p.1 = P → p.2 = lmQ X) (hT : Tabs T H) (hfree : ∀ y ∈ L.scope.names, y.2 = .free → ∃ c, X.env.cells.lookup y.1 = some c)
    (h : ∀ (f c' : Addr) (doc pm ctv : Value) (H1 : Hp) (s' : Shared), Inv X pins σ H1 s' → ExtN H H1 → (∀ b, H1 b = none → H b = none) → Tabs T H1 → H f = none → H1 f = some (.frz (lmObj X L dV doc pm ctv c') trvO) → H1 c' = some (CodeO c' (lmQ X)) → f ≠ c' → (H c' = none ∨ ∃ q, H c' = some (CodeO c' q)) → Q (.ref f) s') :
    wpAny (model X.prog X.w) X.A (makeTail "<lambda>" (lmQ X) L.params (.expr L.body) L.scope X.env dV .none none pos pos.line) Q E s := by
  obtain ⟨ps, hP, ht, ha⟩ := hT _ hm
  have bP : s.heap.BuiltinsAt X.mg P := TB.bm.keeps I.bk
  have hP' : s.heap.get? P = some { cls := .none, data := .fields ps } := I.hok P _ hP
  cases hc : codeAmong pos ps.toList with
  | none =>
    refine PySem.W.kdv_makeTail (mg := X.mg) (c := c) (P := P) (ps := ps) (closure_ok hfree) I.ok.glob (I.mod.glob.keeps I.bk) hcode (TB.code.keeps I.bk) hP' ht hc TB.gP bP fun c' ctv doc h' tk hx hge hlt hrec htb => ?_
    obtain ⟨c2, oc, vs, t, e2, hoc, hd, hv⟩ := hrec
    cases e2
    have nC : H c' = none := I.hok.fresh hge
    have I1 := inv_table (t' := tk) (more := #[rawInt pos.line, rawInt pos.col, .ref c']) (h' := h') I hP (fun b o hb e => hx b o hb e) htb hge ⟨oc, vs, t, hoc, hd, hv⟩
    have hE : ExtN H (upd (upd H P (.tbl (ps ++ #[rawInt pos.line, rawInt pos.col, .ref c']))) c' (CodeO c' (lmQ X))) := fun b o e n => by
      rw [upd_ne (ne_of_none e nC), upd_ne (fun z => n ps (Option.some.inj (e.symm.trans (by rw [z]; exact hP))))]
      exact e
    have eL : (ps ++ #[rawInt pos.line, rawInt pos.col, .ref c']).toList = ps.toList ++ [rawInt pos.line, rawInt pos.col, .ref c'] := by simp
    have T1 : Tabs T (upd (upd H P (.tbl (ps ++ #[rawInt pos.line, rawInt pos.col, .ref c']))) c' (CodeO c' (lmQ X))) := fun p hp => by
      by_cases hb : p.1 = P
      · rw [hu p hp hb, hb]
        refine ⟨_, by rw [upd_ne (ne_of_none hP nC), upd_same], by rw [eL]; exact PySem.TriplesOk_snoc _ _ _ _ ht, fun p' cv hcv => ?_⟩
        rw [eL] at hcv
        rcases among_app _ ht hcv with z | z
        · obtain ⟨c0, e1, e2⟩ := ha p' cv z
          exact ⟨c0, e1, hE _ _ e2 codeO_ne⟩
        · exact ⟨c', z, upd_same⟩
      · obtain ⟨ps', a1, a2, a3⟩ := hT p hp
        refine ⟨ps', by rw [upd_ne (ne_of_none a1 nC), upd_ne hb]; exact a1, a2, fun p' cv hcv => ?_⟩
        obtain ⟨c0, e1, e2⟩ := a3 p' cv hcv
        exact ⟨c0, e1, hE _ _ e2 codeO_ne⟩
    have nF := I1.hok.fresh (Nat.le_refl _)
    refine h h'.objs.size c' doc ((X.mg "__name__").getD .none) ctv _ _ (inv_frz (t' := tk) rfl I1) (fun b o e n => ?_) (fun b e => upd_none (upd_none (upd_none e))) (fun p hp => ?_) (I.hok.fresh (Nat.le_trans hge (Nat.le_of_lt hlt))) upd_same ?_ (Nat.ne_of_gt hlt) (.inl nC)
    · have e1 := hE b o e n
      exact (upd_ne (ne_of_none e1 nF)).trans e1
    · obtain ⟨ps', a1, a2, a3⟩ := T1 p hp
      refine ⟨ps', (upd_ne (ne_of_none a1 nF)).trans a1, a2, fun p' cv hcv => ?_⟩
      obtain ⟨c0, e1, e2⟩ := a3 p' cv hcv
      exact ⟨c0, e1, (upd_ne (ne_of_none e2 nF)).trans e2⟩
    · exact (upd_ne (Nat.ne_of_lt hlt)).trans upd_same
  | some cv =>
    obtain ⟨c', e, hco⟩ := ha pos cv hc
    subst e
    refine PySem.W.kdv_makeTailHit (mg := X.mg) (c := c) (P := P) (ps := ps) (closure_ok hfree) I.ok.glob (I.mod.glob.keeps I.bk) hcode (TB.code.keeps I.bk) hP' ht hc bP fun ctv doc h' tk hx hsz => ?_
    have I1 : Inv X pins σ H { s with heap := h', toks := tk } := I.kept hx
    have nF : H h'.objs.size = none := I1.hok.fresh (Nat.le_refl _)
    refine h h'.objs.size c' doc ((X.mg "__name__").getD .none) ctv _ _ (inv_frz (t' := tk) rfl I1) (fun b o e n => ?_) (fun b e => upd_none e) (fun p hp => ?_) nF upd_same ?_ (ne_of_none hco nF).symm (.inr ⟨_, hco⟩)
    · exact (upd_ne (ne_of_none e nF)).trans e
    · obtain ⟨ps', a1, a2, a3⟩ := hT p hp
      refine ⟨ps', (upd_ne (ne_of_none a1 nF)).trans a1, a2, fun p' cv hcv => ?_⟩
      obtain ⟨c0, e1, e2⟩ := a3 p' cv hcv
      exact ⟨c0, e1, (upd_ne (ne_of_none e2 nF)).trans e2⟩
    · exact (upd_ne (ne_of_none hco nF)).trans hco
theorem tabs_laid {T : List (Addr × Str)} {a : Addr} {o : HO} (hT : Tabs T H) (n : H a = none) : Tabs T (upd H a o) := fun p hp => by
  obtain ⟨ps', a1, a2, a3⟩ := hT p hp
  refine ⟨ps', (upd_ne (ne_of_none a1 n)).trans a1, a2, fun p' cv hcv => ?_⟩
  obtain ⟨c0, e1, e2⟩ := a3 p' cv hcv
  exact ⟨c0, e1, (upd_ne (ne_of_none e2 n)).trans e2⟩
/-- f is such a lambda at H1, made from H -/
def LmAt (X : Cx) (L : LmW) (H H1 : Hp) (f : Addr) (u : OO) : Prop := ∃ (dV doc pm ctv : Value) (c' : Addr) (more : List (Addr × HO)), u = .fn (lmObj X L dV doc pm ctv c') more ∧ (c', CodeO c' (lmQ X)) ∈ more ∧ DfOk dV more L.params.defaults.length ∧
  H1 f = some (.frz (lmObj X L dV doc pm ctv c') trvO) ∧ ∀ p ∈ more, (∀ ps, p.2 ≠ .tbl ps) ∧ H1 p.1 = some p.2 ∧ p.1 ≠ f ∧ (H p.1 = none ∨ ∃ q, H p.1 = some (CodeO p.1 q))
/-- a lambda's value -/
theorem lm_make {T : List (Addr × Str)} {c P : Addr} {L : LmW} {pos : Pos} {E : Value → Shared → Prop} {Q : Value → Shared → Prop} (I : Inv X pins σ H s) (TB : TabB X.base X.mg c P) (hcode : X.env.code = .ref c)
    (hm : (P, lmQ X) ∈ T) (hu : ∀ p ∈ T, p.1 = P → p.2 = lmQ X) (hT : Tabs T H) (hfree : ∀ y ∈ L.scope.names, y.2 = .free → ∃ c, X.env.cells.lookup y.1 = some c)
    (hk0 : L.params.kw_defaults = []) (hd0 : L.params.defaults = [] ∨ ∃ (i : Int) (j : Nat) (p : Pos), L.params.defaults = [.Constant (.int i) j p])
    (h : ∀ (f : Addr) (u : OO) (H1 : Hp) (s' : Shared), Inv X pins σ H1 s' → ExtN H H1 → Tabs T H1 → H f = none → LmAt X L H H1 f u → Q (.ref f) s') :
    wpAny (model X.prog X.w) X.A (eval (.Lambda L.params L.body L.scope pos) X.env) Q E s := by
  rcases hd0 with hd | ⟨i, j, p, hd⟩
  · have hdef : defaultsOf L.params X.env = ([], []) := by
      revert hk0 hd
      generalize L.params = ps
      intro hk0 hd
      obtain ⟨a1, a2, a3, a4, a5, a6, a7⟩ := ps
      dsimp only at hk0 hd
      subst hk0 hd
      rfl
    refine PySem.W.kla_eval hdef ?_
    rw [makeFunction_eq]
    simp only [List.zip_nil_right, List.filterMap_nil, List.isEmpty_nil, if_true, pure_bind]
    refine lm_tail I TB hcode hm hu hT hfree fun f c' doc pm ctv H1 s' I1 eN nn T1 f0 f1 c1 nfc hcc => ?_
    refine h f _ H1 s' I1 eN T1 f0 ⟨.none, doc, pm, ctv, c', [(c', CodeO c' (lmQ X))], rfl, List.mem_cons_self, .inl ⟨by rw [hd]; rfl, rfl⟩, f1, fun p hp => ?_⟩
    rw [List.mem_singleton.mp hp]
    exact ⟨fun ps => codeO_ne ps, c1, nfc.symm, hcc⟩
  · refine PySem.W.kdv_lam (by rw [hd]; rfl) hk0 ?_
    rw [hd]
    refine PySem.W.kdv_all1 (wpAny_Constant_int (PySem.W.kdv_all0 ?_))
    rw [makeFunction_eq]
    simp only [List.zip_nil_right, List.filterMap_nil, List.isEmpty_nil, List.isEmpty_cons, Bool.false_eq_true, if_false, if_true, pure_bind]
    refine wpAny_bind (wpAny_newTextTuple ?_)
    obtain ⟨hp, g, d, tk, os⟩ := s
    have nd : H hp.objs.size = none := I.hok.fresh (Nat.le_refl _)
    have I0 := inv_frz (o := kdv_tup [.int i tk]) (t' := tk + 1) rfl I
    refine lm_tail I0 TB hcode hm hu (tabs_laid hT nd) hfree fun f c' doc pm ctv H1 s' I1 eN nn T1 f0 f1 c1 nfc hcc => ?_
    have eN2 : ExtN H H1 := fun b o e n => eN b o ((upd_ne (ne_of_none e nd)).trans e) n
    have dt1 : H1 hp.objs.size = some (.frz (kdv_tup [.int i tk]) trvO) := eN _ _ upd_same fun ps z => nomatch z
    refine h f _ H1 s' I1 eN2 T1 (upd_none f0) ⟨.ref hp.objs.size, doc, pm, ctv, c', [(c', CodeO c' (lmQ X)), (hp.objs.size, .frz (kdv_tup [.int i tk]) trvO)], rfl, List.mem_cons_self, .inr ⟨by rw [hd]; rfl, hp.objs.size, .int i tk, rfl, by simp⟩, f1, fun p hp2 => ?_⟩
    simp only [List.mem_cons, List.mem_nil_iff, or_false] at hp2
    rcases hp2 with rfl | rfl
    · refine ⟨fun ps => codeO_ne ps, c1, nfc.symm, ?_⟩
      rcases hcc with z | ⟨q, z⟩
      · exact .inl (upd_none z)
      · by_cases e : c' = hp.objs.size
        · rw [e, upd_same] at z; cases z
        · rw [upd_ne e] at z
          exact .inr ⟨q, z⟩
    · refine ⟨fun ps z => (nomatch z), dt1, fun z => ?_, .inl nd⟩
      have z : hp.objs.size = f := z
      rw [← z, upd_same] at f0
      cases f0
end
/-! ### calling it -/
/-- its names: at most one parameter of its own, not a name of the frame; captured ones and globals -/
structure LmS (N : List Str) (sc scope : Scope) : Prop where
  kind : scope.kind = .function
  co : scope.isCoroutine = false
  gen : scope.isGenerator = false
  cel : ∀ y ∈ scope.names, y.2 ≠ .cell
  own : ∀ y ∈ scope.names, y.2 = .local → y.1 ∉ N
  free : ∀ y ∈ scope.names, y.2 = .free → sc.names.lookup y.1 = some .cell ∨ sc.names.lookup y.1 = some .free
def lmSB (N : List Str) (sc scope : Scope) : Bool :=
  decide (scope.kind = .function) && !scope.isCoroutine && !scope.isGenerator && scope.names.all fun y => !decide (y.2 = .cell) && (!decide (y.2 = .local) || decide (y.1 ∉ N)) && (!decide (y.2 = .free) || decide (sc.names.lookup y.1 = some .cell) || decide (sc.names.lookup y.1 = some .free))
theorem lmS_by {N : List Str} {sc scope : Scope} (h : lmSB N sc scope = true) : LmS N sc scope := by
  unfold lmSB at h
  simp only [Bool.and_eq_true, Bool.or_eq_true, Bool.not_eq_true', decide_eq_true_eq, decide_eq_false_iff_not, List.all_eq_true] at h
  obtain ⟨⟨⟨h1, h2⟩, h3⟩, h4⟩ := h
  refine ⟨h1, h2, h3, fun y hy => (h4 y hy).1.1, fun y hy e => (h4 y hy).1.2.elim (fun z => absurd e z) id, fun y hy e => ?_⟩
  rcases (h4 y hy).2 with (z | z) | z
  · exact absurd e z
  · exact .inl z
  · exact .inr z
theorem LmS.has {X : Cx} {scope : Scope} (L : LmS X.N X.env.scope scope) (ok : X.Ok) : ∀ y ∈ scope.names, y.2 = .free → ∃ c, X.env.cells.lookup y.1 = some c := fun y hy e => by
  rcases L.free y hy e with k | k
  · exact ok.has _ (.inl k)
  · exact ok.has _ (.inr k)
section
variable {X : Cx} {pins : List (Addr × Obj)} {σ : L2.St} {H HZ : Hp} {s s1 : Shared}
theorem lm_start {A : Around} {outer : List Env} {E : XK} {scope : Scope} {f c' : Addr} {h₁ : Heap} {tk : Nat} {m : Str → Option Value} (I : Inv X pins σ H s) (L : LmS X.N X.env.scope scope) (e0 : Env0 X.prog X.w X.K X.mg X.base A outer s1 HZ) (hd : A.handled = none)
    (un : Un (frs X.stack) [] H HZ s.heap s1.heap) (hns : h₁.Ns s1.heap.objs.size m) (kp : ∀ b o, s1.heap.get? b = some o → h₁.get? b = some o) :
    Inv (lamCx X A outer s1 HZ E scope f c') [] σ HZ { s1 with heap := h₁, toks := tk } := by
  have hfree := L.has I.ok
  have cm : ∀ {y c}, (cloFrom X.env.cells scope.names []).lookup y = some c → X.env.cells.lookup y = some c := fun {y c} e => clo_cm hfree e
  have look : ∀ {y}, scope.names.lookup y = some .free → ∃ c, (cloFrom X.env.cells scope.names []).lookup y = some c := fun {y} hl => by
    have hy : (y, NameKind.free) ∈ scope.names := PySem.mem_of_lookup hl
    exact mem_lookup (cloFrom_has (cells := X.env.cells) (acc := []) hy)
  have cellK : ∀ {c : Addr} {v : Option Value}, H c = none → s.heap.IsCell c v → h₁.IsCell c v := fun {c v} n ⟨o, ho, hd⟩ => by
    obtain ⟨sl, q⟩ := un.any ho n (by simp)
    exact ⟨_, kp _ _ q, hd⟩
  have noA : ∀ b : Addr, b ∉ (lamCx X A outer s1 HZ E scope f c').ex := fun b z => absurd (show b ∈ ([] : List Addr) from z) (by simp)
  refine ⟨⟨e0.mod, L.kind, rfl, rfl, Nat.le_refl _, fun y z c e1 e2 => I.ok.inj y z c (cm e1) (cm e2), fun y hy => ?_, fun y c z _ => ?_, fun _ => hd, Around.frames_deeper e0.frames, .inr ⟨rfl, rfl⟩, fun b z => absurd z (noA b), e0.bs, e0.bsz, fun b _ _ => noA b,
      fun b z => absurd z (noA b), e0.funs, e0.frf⟩,
    rfl, e0.bare, Un.kept kp, ⟨_, hns, fun i y v e1 e2 e3 => ?_⟩, fun y c e => ?_, e0.hok.fresh (Nat.le_refl _), fun y c e => ?_, fun q hq => absurd (show q ∈ ([] : List (Addr × Obj)) ++ [] from hq) (by simp), e0.hok.kept kp, I.len⟩
  · have hy : scope.names.lookup y = some .cell ∨ scope.names.lookup y = some .free := hy
    rcases hy with hy | hy
    · exact absurd rfl (L.cel _ (PySem.mem_of_lookup hy))
    · exact look hy
  · have z : false = true := z
    cases z
  · have e3 : Vis scope y := e3
    have hyN : y ∈ X.N := List.mem_of_getElem? e1
    rcases e3 with k | k | k
    · exact absurd hyN (L.own _ (PySem.mem_of_lookup k) rfl)
    · exact absurd rfl (L.cel _ (PySem.mem_of_lookup k))
    · obtain ⟨m, hn, hl⟩ := I.loc
      have hvis : Vis X.env.scope y := (L.free _ (PySem.mem_of_lookup k) rfl).elim (fun k => .inr (.inl k)) (fun k => .inr (.inr k))
      obtain ⟨w', r, q⟩ := hl i y v e1 e2 hvis
      obtain ⟨c2, h2⟩ := look k
      refine ⟨w', r, .inr ⟨.inr k, c2, h2, ?_⟩⟩
      have c1 := cm h2
      rcases q with ⟨k', _⟩ | ⟨_, c3, e', z⟩
      · have k' : X.env.scope.names.lookup y = some .local := k'
        rcases L.free _ (PySem.mem_of_lookup k) rfl with k2 | k2 <;> rw [show X.env.scope.names.lookup y = _ from k2] at k' <;> cases k'
      · rw [c1] at e'
        cases e'
        exact cellK (I.freeC y _ c1) z
  · obtain ⟨w', z⟩ := I.cell y c (cm e)
    exact ⟨w', cellK (I.freeC y c (cm e)) z⟩
  · obtain ⟨v, o, ho, hd⟩ := I.cell y c (cm e)
    exact un.free c o ho (I.freeC y c (cm e)) (by simp)
/-- how its arguments bind -/
def LmB (L : LmW) : Prop := (L.params.defaults = [] ∧ ∀ (q : Str) (cl : List (Str × Addr)) (doc pm cv ctv : Value), bindArgs (kdv_fn "<lambda>" q L.params (.expr L.body) L.scope cl .none doc pm cv ctv) ⟨[], []⟩ = pure []) ∨
  ∃ (a : Str), L.params.defaults.length = 1 ∧ L.scope.names.lookup a = some .local ∧ ∀ (q : Str) (cl : List (Str × Addr)) (dV doc pm cv ctv : Value), ∃ k : Option (Array Value) → Sem (List (Str × Value)), bindArgs (kdv_fn "<lambda>" q L.params (.expr L.body) L.scope cl dV doc pm cv ctv) ⟨[], []⟩ = seqItems? dV >>= k ∧ ∀ v, k (some #[v]) = pure [(a, v)]
/-- x(), in the def that got the lambda -/
theorem pe_act2 {CXg : CXT} {Eg : XK} {Ng : List Str} {qg : Str} {sg : Scope} {g f : Addr} {cdg : Value} {L : LmW} {k i : Nat} {a : Str} {pn : List (Addr × Obj)} {xe : Value → Shared → Prop} {W : WX} {E : XK} {tb : Addr → Addr → TE} {p1 p2 : Pos}
    (I : Inv X pins σ H s) (LS : LmS X.N X.env.scope L.scope) (LB : LmB L) {dV doc pm ctv : Value} {c' : Addr} (hf : H f = some (.frz (lmObj X L dV doc pm ctv c') trvO)) (hdv : (L.params.defaults.length = 0 ∧ dV = .none) ∨ (L.params.defaults.length = 1 ∧ ∃ (dt : Addr) (v : Value), dV = .ref dt ∧ H dt = some (.frz (kdv_tup [v]) trvO)))
    (tk : Takes ((cxOf CXg X.prog X.w X.K X.mg X.base Ng qg sg g cdg X.A X.stack s H Eg).tr pn xe) W) (hW : ∀ cls d σ' H', E cls d H' → W cls d σ' H') (hr : Room (k + 1) (X.A.deeper (envOfC qg sg s.heap.objs.size g cdg)))
    (hbody : ∀ (A : Around) (outer : List Env) (s : Shared) (H : Hp), Room k (A.deeper (lamEnv X L.scope s.heap.objs.size f c')) → PE (lamCx X A outer s H E L.scope f c') L.body (tb f c'))
    (hN : Ng[i]? = some a) (hv : Vis sg a) (hd : (a == ("__debug__" : Str)) = false := by decide) (hcd : (a == ("__classdict__" : Str)) = false := by decide) :
    PE ((cxOf CXg X.prog X.w X.K X.mg X.base Ng qg sg g cdg X.A X.stack s H Eg).tr pn xe) (.Call (.Name a p1) [] [] p2)
      (fun σZ HZ Q => σZ[i]? = some (some (.ref f)) ∧ HZ c' = some (CodeO c' (lmQ X)) ∧ tb f c' σ HZ Q) := by
  refine ⟨fun pinsZ sZ σZ HZ Q IZ h => ?_⟩
  obtain ⟨hs, hc, ht⟩ := h
  refine wpAny_Call_Name_kw (thn ((pe_var (pos := p1) (i := i) hN hv hd hcd).run pinsZ sZ σZ HZ (fun v H1 => v = .ref f ∧ H1 = HZ) IZ ⟨.ref f, hs, rfl, rfl⟩) fun u s1 ⟨v, H1, I1, r1, q1⟩ => ?_)
  obtain ⟨ev, eH⟩ := q1
  subst ev
  rw [eH] at I1
  obtain rfl : u = Value.ref f := r1
  have frz_at : ∀ {b : Addr} {o : Obj}, H b = some (.frz o trvO) → s1.heap.get? b = some o := fun e => (I1.hok _ _ (I1.base.frzs _ _ _ e)).1
  have of1 := frz_at hf
  refine PySem.W.callWith_F0 ⟨_, _, _, _, of1⟩ ?_
  have un : Un (frs X.stack) [] H HZ s.heap s1.heap := I1.base
  obtain ⟨⟨oc, vs, t, hoc, hdc, hvc⟩, _, _⟩ := I1.hok c' _ hc
  have body_of : ∀ binds : List (Str × Value), (∀ y ∈ binds, L.scope.names.lookup y.1 = some .local) → BindsTo s1 (kdv_fn "<lambda>" (lmQ X) L.params (.expr L.body) L.scope (cloFrom X.env.cells L.scope.names []) dV doc pm (.ref c') ctv) ⟨[], []⟩ binds → codeAny (model X.prog X.w) (X.A.deeper (envOfC qg sg s.heap.objs.size g cdg)) (.call (.ref f) ⟨[], []⟩) (CR (L2.CX X.prog X.w) (envOfC qg sg s.heap.objs.size g cdg :: X.stack) X.prog X.w HZ s1 Q E) s1 := by
    intro binds hloc hb
    refine PySem.W.kla_callFunE hr.depth of1 rfl LS.co LS.gen rfl ⟨c', oc, vs, t, rfl, hoc, hdc, hvc⟩ (hb _ _ _ _ ?_)
    refine wpAny_newFunctionEnv LS.cel hloc (fun h₁ hns hsb => ⟨I1.nolimit.fresh _ hsb, ?_⟩) LS.kind
    show codeAny _ _ (.expr L.body (lamEnv X L.scope s1.heap.objs.size f c')) _ _
    have kp : ∀ b o, s1.heap.get? b = some o → h₁.get? b = some o := fun b o e => hsb.extBut b o (Nat.ne_of_lt (Heap.lt_size e)) (Heap.get?_push_of_some _ e)
    have J : Inv (lamCx X (X.A.deeper (envOfC qg sg s.heap.objs.size g cdg)) (envOfC qg sg s.heap.objs.size g cdg :: X.stack) s1 HZ E L.scope f c') [] σ HZ { s1 with heap := h₁, toks := s1.toks + binds.length } :=
      lm_start I LS I1.env0 hr.hd un hns kp
    refine PySem.W.kla_codeExpr (wpAny_mono ((hbody _ _ s1 HZ (hr.deeper _)).run [] _ _ HZ Q J ht) (fun v s' hq => ?_) fun e s' hq => hq)
    obtain ⟨w', H', J', rv, q⟩ := hq
    exact ⟨w', H', J'.os, J'.bare, J'.base, J'.hok, rv, q⟩
  have rc : codeAny (model X.prog X.w) (X.A.deeper (envOfC qg sg s.heap.objs.size g cdg)) (.call (.ref f) ⟨[], []⟩) (CR (L2.CX X.prog X.w) (envOfC qg sg s.heap.objs.size g cdg :: X.stack) X.prog X.w HZ s1 Q E) s1 := by
    rcases LB with ⟨l0, hb⟩ | ⟨an, l1, hla, hb⟩
    · rcases hdv with ⟨_, rfl⟩ | ⟨e1, _⟩
      · exact body_of [] (fun y hy => absurd hy (by simp)) (.of_eq (hb _ _ _ _ _ _))
      · rw [l0] at e1; cases e1
    · rcases hdv with ⟨e1, _⟩ | ⟨_, dt, v, rfl, hdt⟩
      · rw [l1] at e1; cases e1
      · obtain ⟨kk, hb1, hb2⟩ := hb (lmQ X) (cloFrom X.env.cells L.scope.names []) (.ref dt) doc pm (.ref c') ctv
        exact body_of [(an, v)] (fun y hy => by rw [List.mem_singleton.mp hy]; exact hla) (BindsTo.of_defaults rfl (frz_at hdt) rfl hb1 (hb2 v))
  have hx : Passes (L2.CX X.prog X.w) ((cxOf CXg X.prog X.w X.K X.mg X.base Ng qg sg g cdg X.A X.stack s H Eg).tr pn xe) E := passes_call tk hW
  refine wpAny_call (codeAny_mono rc fun r s' hq => ?_)
  cases r with
  | error e => exact hx pinsZ σZ HZ s1 e s' I1 hq
  | ok fl =>
    cases fl with
    | ret u => exact I1.after hq
    | next => exact False.elim hq
    | brk => exact False.elim hq
    | cont => exact False.elim hq
end
end Fw

set_option Elab.async false
set_option linter.all false
set_option maxRecDepth 100000
set_option maxHeartbeats 4000000
/-! Lm2: expressions of a law by predicates, where lambdas are values. -/
namespace Fw
open PySem PySem.Spec PyProof.Rows L2 LamX NdefX
open PySem.W (kdv_obj kdv_fn kdv_tup)
abbrev FT1 := Fr → S → (D → S → Prop) → Prop
abbrev FTs := Fr → S → (List D → S → Prop) → Prop
abbrev FTb := Fr → S → (Bool → S → Prop) → Prop
def tNP (K : PySem.W.Frag) (T : List (Addr × Str)) (F : FT1) : TE := fun σ H Q => ∃ (h : Addr → Bool) (s : S) (δ : Fr) (Post : D → S → Prop), EnvR K (hide h H) σ δ ∧ SI K h s H ∧ Tabs T H ∧ F δ s Post ∧
  ∀ d s' h' H', Post d s' → GrowN K T h s H h' s' H' → ∀ v, Rep K (hide h' H') v d → Q v H'
def tNPs (K : PySem.W.Frag) (T : List (Addr × Str)) (F : FTs) : TA := fun σ H Q => ∃ (h : Addr → Bool) (s : S) (δ : Fr) (Post : List D → S → Prop), EnvR K (hide h H) σ δ ∧ SI K h s H ∧ Tabs T H ∧ F δ s Post ∧
  ∀ ds s' h' H', Post ds s' → GrowN K T h s H h' s' H' → ∀ vs, Reps K (hide h' H') vs ds → Q vs H'
def tNPb (K : PySem.W.Frag) (T : List (Addr × Str)) (F : FTb) : TT := fun σ H Q => ∃ (h : Addr → Bool) (s : S) (δ : Fr) (Post : Bool → S → Prop), EnvR K (hide h H) σ δ ∧ SI K h s H ∧ Tabs T H ∧ F δ s Post ∧
  ∀ b s' h' H', Post b s' → GrowN K T h s H h' s' H' → Q b H'
section
variable {X : Cx} {T : List (Addr × Str)} {e a b c o v : Expr} {es rest : List Expr} {fe fo : FE} {tt : FT} {F Fa Fb : FT1} {Fs : FTs} {Ft Fu : FTb} {pos p : Pos}
def P1 (fe : FE) : FT1 := fun δ s Post => ∃ d s', fe δ s = some (d, s') ∧ Post d s'
def Pb (tt : FT) : FTb := fun δ s Post => ∃ d s', tt δ s = some (d, s') ∧ Post d s'
theorem np_of (q : PE X e (tNE X.K T fe)) : PE X e (tNP X.K T (P1 fe)) := imp_e q fun σ H Q ⟨h, s, δ, Post, er, si, t, ⟨d, s', q, hp⟩, w⟩ => ⟨h, s, δ, d, s', er, si, t, q, fun v h' H' g r => w d s' h' H' hp g v r⟩
theorem npt_of (q : PT X e (tNT X.K T tt)) : PT X e (tNPb X.K T (Pb tt)) := imp_t q fun σ H Q ⟨h, s, δ, Post, er, si, t, ⟨d, s', q, hp⟩, w⟩ => ⟨h, s, δ, d, s', er, si, t, q, fun h' H' g => w d s' h' H' hp g⟩
def PNil : FTs := fun δ s Post => Post [] s
def PCons (F : FT1) (Fs : FTs) : FTs := fun δ s Post => F δ s fun d s1 => Fs δ s1 fun ds s2 => Post (d :: ds) s2
theorem npa_nil : PA X [] (tNPs X.K T PNil) := imp_a pa_nil fun σ H Q ⟨h, s, δ, Post, er, si, t, q, w⟩ => w [] s h H q (GrowN.refl si t) [] .nil
theorem npa_cons (ha : PE X e (tNP X.K T F)) (hr : PA X es (tNPs X.K T Fs)) (hs : starEach (e :: es) X.env = (false, eval e X.env) :: starEach es X.env := by rfl) : PA X (e :: es) (tNPs X.K T (PCons F Fs)) :=
  imp_a (pa_cons ha hr hs) fun σ H Q ⟨h, s, δ, Post, er, si, t, q, w⟩ => by
  refine ⟨h, s, δ, _, er, si, t, q, fun d s1 h1 H1 hp g1 v r => ⟨h1, s1, δ, _, er.mono g1.ext, g1.si, g1.tab, hp, fun ds s2 h2 H2 hp2 g2 vs rs => ?_⟩⟩
  exact w (d :: ds) s2 h2 H2 hp2 (g1.trans g2) (v :: vs) (.cons (Rep.mono g2.ext _ _ r) rs)
/-- a list of its own -/
def PLstO (Fs : FTs) : FT1 := fun δ s Post => Fs δ s fun ds s1 => okLen ds.length = true ∧ ∀ p, s1 p = none → Post (.ref p) (supd s1 p (.lst ds))
theorem np_lstO (ha : PA X es (tNPs X.K T Fs)) : PE X (.List es pos) (tNP X.K T (PLstO Fs)) := imp_e (pe_lst ha) fun σ H Q ⟨h, s, δ, Post, er, si, t, q, w⟩ => by
  refine ⟨h, s, δ, _, er, si, t, q, fun ds s1 h1 H1 ⟨hl, hp⟩ g1 vs rs => ⟨?_, fun p hpn => ?_⟩⟩
  · rw [rs.length]; exact okLen_le hl
  · exact w (.ref p) _ _ _ (hp p (none_of g1.si hpn)) (g1.trans (GrowN.of g1.si g1.tab (Grow.alloc g1.si hpn _ _ ⟨vs, rfl, rs⟩))) _ (.ref p)
/-- a list as data -/
def PLst (Fs : FTs) : FT1 := fun δ s Post => Fs δ s fun ds s1 => okLen ds.length = true ∧ Post (.lst ds) s1
theorem np_lst (ha : PA X es (tNPs X.K T Fs)) : PE X (.List es pos) (tNP X.K T (PLst Fs)) := imp_e (pe_lst ha) fun σ H Q ⟨h, s, δ, Post, er, si, t, q, w⟩ => by
  refine ⟨h, s, δ, _, er, si, t, q, fun ds s1 h1 H1 ⟨hl, hp⟩ g1 vs rs => ⟨?_, fun p hpn => ?_⟩⟩
  · rw [rs.length]; exact okLen_le hl
  · exact w (.lst ds) s1 h1 _ hp (g1.trans (GrowN.step g1.si g1.tab (Step.new g1.si hpn _))) _ (new_lst g1.si hpn rs)
def POp (g : G2) (Fa Fb : FT1) : FT1 := fun δ s Post => Fa δ s fun x s1 => Fb δ s1 fun y s2 => ∃ z, g x y s2 = some z ∧ Post z s2
theorem np_op {op : Operator} {r : R2} {g : G2} (ho : OpR X (binaryOp op) r) (hg : GOp X.K r g) (ha : PE X a (tNP X.K T Fa)) (hb : PE X b (tNP X.K T Fb)) : PE X (.BinOp a op b pos) (tNP X.K T (POp g Fa Fb)) :=
  imp_e (pe_op ho ha hb) fun σ H Q ⟨h, s, δ, Post, er, si, t, q, w⟩ => by
  refine ⟨h, s, δ, _, er, si, t, q, fun x s1 h1 H1 hp g1 v rv => ⟨h1, s1, δ, _, er.mono g1.ext, g1.si, g1.tab, hp, fun y s2 h2 H2 ⟨z, hz, hp2⟩ g2 u ru => ?_⟩⟩
  exact hg h2 _ H2 v u x y _ _ g2.si (Rep.mono g2.ext _ _ rv) ru hz fun z H3 st3 r3 => w _ s2 h2 H3 hp2 ((g1.trans g2).trans (GrowN.step g2.si g2.tab st3)) z r3
theorem np_cmp {op : CmpOp} {r : R2} {g : G2} (ho : OpR X (compareOp op) r) (hg : GOp X.K r g) (ha : PE X a (tNP X.K T Fa)) (hb : PE X b (tNP X.K T Fb)) (hm : behindInMarks op b = false) : PE X (.Compare a [op] [b] pos) (tNP X.K T (POp g Fa Fb)) :=
  imp_e (pe_cmpR ho ha hb hm) fun σ H Q ⟨h, s, δ, Post, er, si, t, q, w⟩ => by
  refine ⟨h, s, δ, _, er, si, t, q, fun x s1 h1 H1 hp g1 v rv => ⟨h1, s1, δ, _, er.mono g1.ext, g1.si, g1.tab, hp, fun y s2 h2 H2 ⟨z, hz, hp2⟩ g2 u ru => ?_⟩⟩
  exact hg h2 _ H2 v u x y _ _ g2.si (Rep.mono g2.ext _ _ rv) ru hz fun z H3 st3 r3 => w _ s2 h2 H3 hp2 ((g1.trans g2).trans (GrowN.step g2.si g2.tab st3)) z r3
def PTst (F : FT1) : FTb := fun δ s Post => F δ s fun x s1 => ∃ k, x = .bl k ∧ Post k s1
theorem npt_cmp {op : CmpOp} {r : R2} {g : G2} (ho : OpR X (compareOp op) r) (hg : GOp X.K r g) (ha : PE X a (tNP X.K T Fa)) (hb : PE X b (tNP X.K T Fb)) (hm : behindInMarks op b = false) : PT X (.Compare a [op] [b] pos) (tNPb X.K T (PTst (POp g Fa Fb))) :=
  imp_t (pt_cmpR ho ha hb hm) fun σ H Q ⟨h, s, δ, Post, er, si, t, q, w⟩ => by
  refine ⟨h, s, δ, _, er, si, t, q, fun x s1 h1 H1 hp g1 v rv => ⟨h1, s1, δ, _, er.mono g1.ext, g1.si, g1.tab, hp, fun y s2 h2 H2 ⟨z, hz, k, ek, hp2⟩ g2 u ru => ?_⟩⟩
  subst ek
  refine hg h2 _ H2 v u x y _ _ g2.si (Rep.mono g2.ext _ _ rv) ru hz fun z H3 st3 r3 => ?_
  cases r3
  exact ⟨_, rfl, w k s2 h2 H3 hp2 ((g1.trans g2).trans (GrowN.step g2.si g2.tab st3))⟩
def POr (Ft Fu : FTb) : FTb := fun δ s Post => Ft δ s fun k s1 => if k = true then Post true s1 else Fu δ s1 Post
theorem npw_or1 (ha : PT X a (tNPb X.K T Ft)) : PW X (.BoolOp .Or [a] pos) (tNPb X.K T Ft) := pw_or1 ha
theorem npw_or (ha : PT X a (tNPb X.K T Ft)) (hb : PW X (.BoolOp .Or (b :: rest) pos) (tNPb X.K T Fu)) : PW X (.BoolOp .Or (a :: b :: rest) pos) (tNPb X.K T (POr Ft Fu)) := imp_w (pw_or ha hb) fun σ H Q ⟨h, s, δ, Post, er, si, t, q, w⟩ => by
  refine ⟨h, s, δ, _, er, si, t, q, fun k s1 h1 H1 hp g1 => ?_⟩
  cases k with
  | true => exact w true s1 h1 H1 (by rw [if_pos rfl] at hp; exact hp) g1
  | false =>
    rw [if_neg Bool.false_ne_true] at hp
    exact ⟨h1, s1, δ, _, er.mono g1.ext, g1.si, g1.tab, hp, fun b s2 h2 H2 hp2 g2 => w b s2 h2 H2 hp2 (g1.trans g2)⟩
/-- l.append(v) -/
def PApp (fo : FE) (Fs : FTs) : FT1 := fun δ s Post => ∃ a s1 ds0, fo δ s = some (.ref a, s1) ∧ s1 a = some (.lst ds0) ∧ Fs δ s1 fun ys s2 => ∃ y ds, ys = [y] ∧ s2 a = some (.lst ds) ∧ okLen ds.length = true ∧ Post .non (supd s2 a (.lst (ds ++ [y])))
theorem np_app {apos : Pos} (q0 : PE X (.Call (.Attribute o "append" apos) [v] [] pos) (tBM X.K "list" rAppend (tD X.K fo) (tNPs X.K T Fs))) : PE X (.Call (.Attribute o "append" apos) [v] [] pos) (tNP X.K T (PApp fo Fs)) := imp_e q0 fun σ H Q ⟨h, s, δ, Post, er, si, t, ⟨a, s1, ds0, q1, e0, q⟩, w⟩ => by
  refine ⟨h, s, δ, _, s1, er, si, q1, fun v H1 st1 r1 => ?_⟩
  cases rep_ref r1
  obtain ⟨xs0, e00, _⟩ := st1.si.ob _ _ e0
  have g1 := GrowN.step si t st1
  refine ⟨Or.inl ⟨rfl, _, Or.inl (Or.inl e00)⟩, h, s1, δ, _, er.mono g1.ext, st1.si, g1.tab, q, fun ys s2 h2 H2 hp g2 vs rs => ?_⟩
  obtain ⟨y, ds, rfl, e, hl, hp⟩ := hp
  obtain ⟨u, rfl, r⟩ := reps1 rs
  obtain ⟨xs, e2, rx⟩ := g2.si.ob _ _ e
  refine ⟨a, xs, u, rfl, rfl, e2, by rw [rx.length]; exact okLen_lt hl, ?_⟩
  have st3 := g2.si.putL (o := .lst (xs ++ [u])) (w := .lst (ds ++ [y])) e ⟨_, rfl, rx.append (.cons r .nil)⟩
  exact w .non _ h2 _ hp ((g1.trans g2).trans (GrowN.step g2.si g2.tab st3)) .non .non
/-! ### a lambda -/
theorem si_addFn {K : PySem.W.Frag} {h : Addr → Bool} {s : S} {H H1 : Hp} {f : Addr} {u : OO} (si : SI K h s H) (eN : ExtN H H1) (hf : H f = none) (r : RepO K (hide (tight (supd s f u)) H1) (H1 f) u) :
    Ext (hide h H) (hide (tight (supd s f u)) H1) ∧ SI K (tight (supd s f u)) (supd s f u) H1 := by
  have hx : Ext (hide (tight s) H) (hide (tight (supd s f u)) H1) := fun a o q n => by
    unfold hide at q ⊢
    split at q
    · cases q
    · rename_i hb
      have hn : a ≠ f := ne_of_none q hf
      rw [if_neg]
      · exact eN a o q n
      · intro z
        refine hb ?_
        unfold tight at z ⊢
        rw [supd_ne hn] at z
        exact z
  refine ⟨si.tight_ext.trans hx, ⟨fun a o e => by show (supd s f u a).isSome = true; rw [e]; rfl, fun a o e => ?_, fun a e => ?_⟩⟩
  · by_cases ha : a = f
    · subst ha
      rw [supd_same] at e
      cases e
      exact r
    · rw [supd_ne ha] at e
      have q := si.tight.ob a o e
      have key : ∀ w, H a = some w → (∀ ps, w ≠ .tbl ps) → H1 a = some w := fun w e1 n => eN a w e1 n
      cases o with
      | lst ds => obtain ⟨xs, a1, b1⟩ := q; exact ⟨xs, key _ a1 fun ps z => (nomatch z), Reps.mono hx _ _ b1⟩
      | dct ds => obtain ⟨xs, a1, b1⟩ := q; exact ⟨xs, key _ a1 fun ps z => (nomatch z), b1.mono hx⟩
      | ins C ds => obtain ⟨dx, xs, a1, b1, c1, d1⟩ := q; exact ⟨dx, xs, key _ a1 fun ps z => (nomatch z), b1, c1, d1.mono hx⟩
      | fn ob more => exact ⟨key _ q.1 fun ps z => (nomatch z), fun p hp => ⟨(q.2 p hp).1, hx _ _ (q.2 p hp).2 (q.2 p hp).1⟩⟩
  · obtain ⟨o, ho⟩ := Option.isSome_iff_exists.mp (show (supd s f u a).isSome = true from e)
    by_cases ha : a = f
    · rw [ha]; exact r.there
    · rw [supd_ne ha] at ho
      have q := (si.tight.ob a o ho).there
      have q1 := si.tight.ob a o ho
      cases o with
      | lst ds => obtain ⟨xs, a1, _⟩ := q1; rw [eN a _ a1 fun ps z => (nomatch z)]; exact fun z => nomatch z
      | dct ds => obtain ⟨xs, a1, _⟩ := q1; rw [eN a _ a1 fun ps z => (nomatch z)]; exact fun z => nomatch z
      | ins C ds => obtain ⟨dx, xs, a1, _⟩ := q1; rw [eN a _ a1 fun ps z => (nomatch z)]; exact fun z => nomatch z
      | fn ob more => rw [eN a _ q1.1 fun ps z => (nomatch z)]; exact fun z => nomatch z
def PLm (X : Cx) (L : LmW) : FT1 := fun δ s Post => ∀ f u, s f = none → IsLm X L u → Post (.ref f) (supd s f u)
theorem np_lam {c P : Addr} {L : LmW} (TB : TabB X.base X.mg c P) (hcode : X.env.code = .ref c) (hm : (P, lmQ X) ∈ T) (hu : ∀ p ∈ T, p.1 = P → p.2 = lmQ X) (LS : LmS X.N X.env.scope L.scope)
    (hk0 : L.params.kw_defaults = []) (hd0 : L.params.defaults = [] ∨ ∃ (i : Int) (j : Nat) (p : Pos), L.params.defaults = [.Constant (.int i) j p]) : PE X (.Lambda L.params L.body L.scope pos) (tNP X.K T (PLm X L)) := by
  refine ⟨fun pins s0 σ H Q I ⟨h, s, δ, Post, er, si, t, q, w⟩ => ?_⟩
  refine lm_make I TB hcode hm hu t (LS.has I.ok) hk0 hd0 fun f u H1 s' I1 eN T1 f0 lm => ?_
  obtain ⟨dV, doc, pm, ctv, c', more, rfl, hc, hdf, f1, hmore⟩ := lm
  have hr : RepO X.K (hide (tight (supd s f (.fn (lmObj X L dV doc pm ctv c') more))) H1) (H1 f) (.fn (lmObj X L dV doc pm ctv c') more) := by
    refine ⟨f1, fun p hp => ⟨(hmore p hp).1, ?_⟩⟩
    obtain ⟨_, e1, nf, e3⟩ := hmore p hp
    unfold hide
    rw [if_neg]
    · exact e1
    · intro z
      unfold tight at z
      rw [supd_ne nf] at z
      rcases e3 with e3 | ⟨q, e3⟩
      · rw [none_of si e3] at z; cases z
      · rw [own_not si e3 (fun _ z => nomatch z) (fun _ z => nomatch z) (fun _ _ _ z => nomatch z) fun _ _ z => nomatch z] at z; cases z
  obtain ⟨ex, si1⟩ := si_addFn si eN f0 hr
  exact ⟨.ref f, H1, I1, rfl, w (.ref f) _ _ _ (q f _ (none_of si f0) ⟨dV, doc, pm, ctv, c', more, rfl, hc, hdf⟩) ⟨ex, si1, T1⟩ _ (.ref f)⟩
/-- helper(e), e one of some lambdas -/
def PWr (X : Cx) (fe : FE) (n : Nat) (lams : Nat → LmW) (fx : Nat → FX) (res : Addr → FsD → Option D) (dflt : D) : FT1 := fun δ s Post => ∃ f s1 i u d s2, fe δ s = some (.ref f, s1) ∧ i < n ∧ s1 f = some u ∧ IsLm X (lams i) u ∧ fLamE (fx i) res dflt δ s1 = some (d, s2) ∧ Post d s2
theorem np_wcall {n : Nat} {lams : Nat → LmW} {fx : Nat → FX} {hd : VK → XK} {dv : V} {res : Addr → FsD → Option D} {dflt : D} {x a : Str} {g : Addr} {k : Nat} {pg : Arguments} {bg : List Stmt} {sg : Scope} {dV kV doc pm cdv ct oc : Value} {an od : Option Addr} {osl : Array (Option Value)} {Ng : List Str}
    (hg : Gl X x) (hm : X.mg x = some (.ref g)) (hk : PySem.W.keepIn X.K (.ref g) = true)
    (lk : X.K.lookup g = some ⟨oc, od, .func (PySem.W.fnOf x x pg bg sg dV kV doc pm an cdv ct), osl⟩) (hcg : PySem.W.codeIn X.K cdv x = true) (hb : L2.Binds X.K (PySem.W.fnOf x x pg bg sg dV kV doc pm an cdv ct) [a] []) (Sg : FnScope Ng [a] sg) (hNg : Ng[0]? = some a) (hva : Vis sg a)
    (hG : GivesTo X Ng x sg g cdv bg a (lmQ X) (TTres hd dv)) (hr : Room (k + 2) X.A) (LS : ∀ i, i < n → LmS X.N X.env.scope (lams i).scope) (LB : ∀ i, i < n → LmB (lams i))
    (hbody : ∀ i, i < n → ∀ (A : Around) (outer : List Env) (s : Shared) (H : Hp) (E : XK) (f c' : Addr), Room k (A.deeper (lamEnv X (lams i).scope s.heap.objs.size f c')) → PE (lamCx X A outer s H E (lams i).scope f c') (lams i).body (tDE X.K E (fx i)))
    (hres : ∀ (C : Addr) (fs : FsD) (r : D) (h : Addr → Bool) (H' : Hp) (dx : Option Addr) (Q : VK), res C fs = some r → excR X.K h H' fs dx → (∀ v, Rep X.K (hide h H') v r → Q v H') → hd Q (.ref C) dx H') (hdv : ∀ H, Rep X.K H dv dflt)
    (he : PE X e (tD X.K fe)) (hs : starEach [e] X.env = (false, eval e X.env) :: starEach [] X.env := by rfl)
    (hdb : (x == ("__debug__" : Str)) = false := by decide) (hda : (a == ("__debug__" : Str)) = false := by decide) (hcd : (a == ("__classdict__" : Str)) = false := by decide) :
    PE X (.Call (.Name x p) [e] [] pos) (tNP X.K T (PWr X fe n lams fx res dflt)) := by
  refine ⟨fun pins s σ H Q I ⟨h, st, δ, Post, er, si, t, ⟨f, st1, i, u, d, st2, q1, hi, hu, isl, q2, hp⟩, w⟩ => ?_⟩
  obtain ⟨dVl, docl, pml, ctvl, c', more, rfl, hc, hdf⟩ := isl
  have ha : PA X [e] (tDA X.K (fCons fe fNil)) := da_cons he da_nil hs
  refine wpAny_Call_Name_kw (ld_glob I hg hm ?_ hdb)
  refine PySem.W.callWith_K (h₀ := X.base) I.ok.mod.kin hk (thn (ha.run pos pins s σ H (fun vs H1 => vs = [.ref f] ∧ Step X.K h st H st1 H1) I ⟨h, st, δ, [.ref f], st1, er, si, by simp [fCons, fNil, q1], fun vs H1 st1' rs => ?_⟩) fun us s1 ⟨vs, H1, I1, r1, evs, g1⟩ => ⟨I1.kIn, ?_⟩) hs (by rfl)
  · obtain ⟨v, rfl, r⟩ := reps1 rs
    cases rep_ref r
    exact ⟨rfl, st1'⟩
  subst evs
  have rob := g1.si.ob f _ hu
  have unh : ∀ {b : Addr} {o : HO}, hide h H1 b = some o → H1 b = some o := fun e => hide_ext _ _ _ _ e
  have hcode := unh (rob.2 _ hc).2
  have hdvs : ((lams i).params.defaults.length = 0 ∧ dVl = .none) ∨ ((lams i).params.defaults.length = 1 ∧ ∃ (dt : Addr) (v : Value), dVl = .ref dt ∧ H1 dt = some (.frz (kdv_tup [v]) trvO)) := by
    rcases hdf with z | ⟨z, dt, v, e1, e2⟩
    · exact .inl z
    · exact .inr ⟨z, dt, v, e1, unh (rob.2 _ e2).2⟩
  obtain ⟨u0, us', rfl⟩ : ∃ u0 us', us = u0 :: us' := by cases r1; exact ⟨_, _, rfl⟩
  have hu0 : u0 = .ref f := by cases r1 with | cons a _ => exact a
  have hus : us' = [] := by cases r1 with | cons _ b => cases b; rfl
  subst hu0 hus
  have gN := GrowN.step si t g1
  have tt : TTres hd dv (fun E H' Q' => tDE X.K E (fx i) σ H' Q') H1 Q := by
    obtain ⟨⟨r, s3⟩, q3, q2⟩ := bind_some q2
    refine ⟨h, st1, δ, r, s3, er.mono gN.ext, g1.si, q3, fun H2 st2 => ?_⟩
    have gn : ∀ {s' : S}, Step X.K h st1 H1 s' H2 → GrowN X.K T h st H h s' H2 := fun st => gN.trans (GrowN.step g1.si gN.tab st)
    cases r with
    | ok d0 =>
      cases q2
      exact fun v _ => w _ _ h H2 hp (gn st2) dv (hdv _)
    | ex C fs =>
      obtain ⟨r, q4, q5⟩ := map_some q2
      cases q5
      exact fun dx rx => hres C fs _ h H2 dx Q q4 rx fun v rv => w _ _ h H2 hp (gn st2) v rv
  have rc : codeAny (model X.prog X.w) X.A (.call (.ref g) ⟨[.ref f], []⟩) (CR C8.CX0 X.stack X.prog X.w H1 s1 Q C8.E0) s1 := by
    refine run_ofS (N := Ng) (ps := [a]) (us := [.ref f]) (vs := [.ref f]) lk hcg Sg hr I1.env0 (hb s1 [.ref f] I1.kIn rfl) (.cons rfl .nil) rfl fun hr' => ?_
    obtain ⟨t', ht', hq'⟩ := hG f c' s1 H1 Q (fun E H' Q' => tDE X.K E (fx i) σ H' Q') (fun W pn xe E p1 p2 tk hW => pe_act2 (i := 0) (L := lams i) (tb := fun _ _ => tDE X.K E (fx i)) I1 (LS i hi) (LB i hi) rob.1 hdvs tk hW hr' (fun A outer s H hr2 => hbody i hi A outer s H E f c' hr2) hNg hva hda hcd) hcode tt
    exact ⟨t', ht'.nox, hq'⟩
  refine wpAny_call (codeAny_mono rc fun r s2 hq => ?_)
  cases r with
  | error e => exact (show False from hq).elim
  | ok fl =>
    cases fl with
    | ret u => exact I1.after hq
    | next => exact False.elim hq
    | brk => exact False.elim hq
    | cont => exact False.elim hq
/-! ### statements -/
variable {st : Stmt} {b1 b2 : List Stmt} {F1 F2 : FT2}
def PSet (i : Nat) (F : FT1) : FT2 := fun δ s Post => F δ s fun d s' => Post (.nx (δ.set i (some d))) s'
theorem n_setP {i : Nat} (h1 : PS X st (tAsg (tNP X.K T F) (gName i))) : PS X st (tDN X.K T (PSet i F)) := imp_s h1 fun D σ H ⟨h, s, δ, Post, er, si, t, q, w⟩ =>
  ⟨h, s, δ, _, er, si, t, q, fun d s' h' H' hp g v r => w (.nx _) s' h' H' hp g _ ((er.mono g.ext).set r i)⟩
def PDrop (F : FT1) : FT2 := fun δ s Post => F δ s fun _ s' => Post (.nx δ) s'
theorem n_exprP (he : PE X e (tNP X.K T F)) (hs : swapsWith e none pos.line X.env = pure false := by rfl) : PS X (.Expr e pos) (tDN X.K T (PDrop F)) := imp_s (ps_expr he hs) fun D σ H ⟨h, s, δ, Post, er, si, t, q, w⟩ =>
  ⟨h, s, δ, _, er, si, t, q, fun d s' h' H' hp g v r => w (.nx δ) s' h' H' hp g σ (er.mono g.ext)⟩
def PRet (F : FT1) : FT2 := fun δ s Post => F δ s fun d s' => Post (.rt d) s'
theorem n_retP (he : PE X e (tNP X.K T F)) : PS X (.Return (some e) pos) (tDN X.K T (PRet F)) := imp_s (ps_ret he) fun D σ H ⟨h, s, δ, Post, er, si, t, q, w⟩ =>
  ⟨h, s, δ, _, er, si, t, q, fun d s' h' H' hp g v r => w (.rt d) s' h' H' hp g v r⟩
def PIf (Ft : FTb) (F1 F2 : FT2) : FT2 := fun δ s Post => Ft δ s fun k s1 => if k = true then F1 δ s1 Post else F2 δ s1 Post
theorem n_ifP (hc : PT X c (tNPb X.K T Ft)) (ha : PSs X b1 (tDN X.K T F1)) (hb : PSs X b2 (tDN X.K T F2)) : PS X (.If c b1 b2 pos) (tDN X.K T (PIf Ft F1 F2)) := imp_s (ps_if hc ha hb) fun D σ H ⟨h, s, δ, Post, er, si, t, q, w⟩ => by
  refine ⟨h, s, δ, _, er, si, t, q, fun k s1 h1 H1 hp st1 => ?_⟩
  cases k with
  | true => exact ⟨h1, s1, δ, Post, er.mono st1.ext, st1.si, st1.tab, by rw [if_pos rfl] at hp; exact hp, fun o s2 h2 H2 hp g2 => w o s2 h2 H2 hp (st1.trans g2)⟩
  | false => exact ⟨h1, s1, δ, Post, er.mono st1.ext, st1.si, st1.tab, by rw [if_neg Bool.false_ne_true] at hp; exact hp, fun o s2 h2 H2 hp g2 => w o s2 h2 H2 hp (st1.trans g2)⟩
end
end Fw

set_option Elab.async false
set_option linter.all false
set_option maxRecDepth 100000
set_option maxHeartbeats 4000000
/-! Sx: an own exception class over one over ValueError: __init__ says super().__init__('..') and self.f = x. -/
namespace Fw
open PySem PySem.Spec PyProof.Rows L2 NdefX
open PySem.W (clsIn mroIn nsIn codeIn ks_superIn kxs_mw)
/-- the def's place in the written part -/
structure SupI (P : Program) (K : PySem.W.Frag) (x qual : Str) (st : Stmt) (f C c cc : Addr) (fd : FuncData) : Prop where
  fn : ∃ (oc : Value) (od : Option Addr) (kV doc pm : Value) (an : Option Addr) (ct : Value) (osl : Array (Option Value)),
    fd = PySem.W.fnX x qual (defArgs st) (defBody st) (defScope st) [("__class__", cc)] .none kV doc pm an (.ref c) ct ∧ K.lookup f = some ⟨oc, od, .func fd, osl⟩
  code : codeIn K (.ref c) qual = true
  file : ∃ (ccl : Value) (cdd : Option Addr) (vs : Array Value) (ccs : Array (Option Value)) (file : Str) (tf : Tok), K.lookup c = some ⟨ccl, cdd, .fields vs, ccs⟩ ∧ vs[2]? = some (.str file tf) ∧ ((P.main.file : Str) == file) = true
  cell : ∃ (cl : Value) (cld : Option Addr) (csl : Array (Option Value)), K.lookup cc = some ⟨cl, cld, .cell (some (.ref C)), csl⟩
  sub : mroIn K C (.ref C) = some true
  sup : ks_superIn K C C "__init__" = some (some (.builtin "ValueError.__init__"))
  subV : PySem.W.subIn K (.ref C) (.type "ValueError") = some true
  op : nsIn K cStatics "thirdparty.any" = some none
  htop : (P.main.scope.names.lookup ("super" : Str)).isSome = false
section
variable {prog : Program} {w : World} {A : Around} {E : Value → Shared → Prop} {h : Heap} {g : Array GenState} {d : Drawn} {t : Nat} {os : OsState}
variable {nm q : Str} {C N : Addr} {bs bm : List Value} {hdct : Bool} {sn : List Str} {sub : List Value} {ab : Bool} {col : Option Bool} {dd : Option Addr} {k0 k1 k2 k3 k5 : Option Value}
theorem call_bwV {u e t0 : Addr} {rest : List Value} {Q : Value → Shared → Prop}
    (hC : h.get? C = some (excClassObj nm q C N bs bm hdct sn sub ab col dd k0 k1 k2 k3 k5 "ValueError.__new__")) (he : h.get? e = some (HandSPX.excO C t0)) (hu : h.get? u = some (kxs_mw "ValueError.__init__" e)) (hrest : rest.length ≤ sizeLine)
    (hq : ∀ h' t1, (∀ b o, b ≠ e → h.get? b = some o → h'.get? b = some o) → h'.get? e = some (HandSPX.excO C t1) → Q .none ⟨h', g, d, t, os⟩) :
    wpAny (model prog w) A (call (.ref u) rest) Q E ⟨h, g, d, t, os⟩ := by
  refine wpAny_call (codeAny_of_tree ?_)
  show wpAny _ A.in1 (callAny (.ref u) ⟨rest, []⟩) _ _ _
  simp only [callAny]
  refine wpAny_bind (wpAny_load hu ?_)
  simp only [kxs_mw, show (Value.type "method-wrapper" == Value.type "method" || Value.type "method-wrapper" == Value.type "builtin_function_or_method" || Value.type "method-wrapper" == Value.type "method-wrapper") = true by decide, if_true]
  refine PySem.W.KFB.if_so (by decide) ?_
  refine wpAny_bind (PySem.W.check_bound_init F.excBase_ValueError.toExcCallFacts hC he rfl ?_)
  refine wpAny_bind (wpAny_pure (wpAny_pure ?_))
  refine ⟨plainId_quiet F.excBase_ValueError.init.plain _, codeAny_builtin F.excBase_ValueError.initEntry ?_⟩
  refine PySem.W.exc_init_tree (cls := .ref C) (t0 := t0) (dv := none) (c2 := .none) (c3 := .none) (b4 := .bool false) he hrest (fun h' k e' t' => hq h' _ k e')
end
theorem look1 {k y : Str} {c c1 : Addr} (e : [(k, c)].lookup y = some c1) : y = k ∧ c1 = c := by
  cases h : (y == k) with
  | true =>
    simp only [List.lookup, h] at e
    exact ⟨by simpa using h, (Option.some.inj e).symm⟩
  | false =>
    simp only [List.lookup, h] at e
    cases e
/-- what the def at f promises -/
def spIn (C : Addr) (nm : Str) : Sp := fun vs H Q _ => ∃ (a : Addr) (v : V), vs = [.ref a, v] ∧ H a = some (exo a C none) ∧ ∀ d, H d = none → d ≠ a → Q .non (upd (upd H d (exd d [(nm, v)])) a (exo a C (some d)))
section
variable {P : Program} {w : World} {K : PySem.W.Frag} {mg : Str → Option Value} {base : Heap}
theorem init_fn {CX : CXT} {x qual : Str} {st : Stmt} {f C c cc : Addr} {fd : FuncData} {k : Nat} {nm msg ln : Str} {j : Nat} {p0 p1 p2 p3 p4 p5 p6 p7 p8 p9 : Pos} (S : SupI P K x qual st f C c cc fd) (T : OexC K C) (hno : PySem.W.findIn K (.ref C) nm = some none)
    (hmS : mg "super" = none) (nd : [("self" : Str), ln, "__class__"].Nodup)
    (hst : defBody st = [.Expr (.Call (.Attribute (.Call (.Name "super" p0) [] [] p1) "__init__" p2) [.Constant (.str msg) j p3] [] p4) p5, .Assign [.Attribute (.Name "self" p6) nm p7] (.Name ln p8) p9])
    (hsc : NScope [("self" : Str), ln, "__class__"] [("self" : Str), ln] ["__class__"] (defScope st)) (hks : (defScope st).names.lookup ("super" : Str) = some .globalImplicit) (hp : ∃ ar, ((defArgs st).posonlyargs ++ (defArgs st).args).head? = some ar ∧ ar.arg = "self")
    (hd : (ln == ("__debug__" : Str)) = false) (hcd : (ln == ("__classdict__" : Str)) = false)
    {pl : Sem Bool} (hme : ∀ env : Env, eval (.Call (.Attribute (.Call (.Name "super" p0) [] [] p1) "__init__" p2) [.Constant (.str msg) j p3] [] p4) env = (do
      let ov ← attributeBase (.Call (.Name "super" p0) [] [] p1) "__init__" env (eval (.Call (.Name "super" p0) [] [] p1) env)
      standAt p2.atName
      let (f, first) ← holding [ov] (getMethod ov "__init__" pl)
      callWith p4 f first (backTo p4 (starEach [.Constant (.str msg) j p3] env)) []))
    (hsw : ∀ env : Env, swapsWith (.Name ln p8) (some (.Attribute (.Name "self" p6) nm p7)) p9.line env = pure false) :
    FnOk P w K mg base CX (k + 1) f fd [("self" : Str), ln] (spIn C nm) := by
  obtain ⟨oc, od, kV, doc, pm, an, ct, osl, rfl, lk⟩ := S.fn
  refine ⟨fun vs H Q E ⟨a, v, e, _⟩ => by rw [e]; rfl, fun A outer s H args us vs Q E hr e0 hb r hsp => ?_⟩
  obtain ⟨a, v, rfl, ea, hq⟩ := hsp
  have KX : K.In s.heap := e0.mod.kin.keeps fun b o e => (e0.bs b o e).1
  have lim : s.heap.NoLimit := e0.mod.nolimit.keeps fun b o e => (e0.bs b o e).1
  obtain ⟨ccl, cdd, vsC, ccs, file, tf, lkc, hvs, hfile⟩ := S.file
  obtain ⟨cl, cld, csl, lkcell⟩ := S.cell
  obtain ⟨nmC, qC, NC, bs, bm, sn, sub, ab, col, dd, k0, k1, k2, k3, k5, hC, hbm⟩ := T.cls
  have hcl : PySem.W.clsIn K C = some { name := nmC, bases := bs, mro := .ref C :: bm, ns := NC, qualname := qC, hasDict := true, slotNames := sn, subclasses := sub, abstract := ab, collection := col, hasDel := false } := by unfold PySem.W.clsIn; rw [hC] <;> rfl
  let F : NF := ⟨x, qual, defArgs st, defBody st, defScope st, [("__class__", cc)], c⟩
  have hcc0 : H cc = none := (e0.bs _ _ (e0.mod.kin _ _ lkcell)).2
  have hcell : ∀ h₁ : Heap, (∀ b o, s.heap.get? b = some o → h₁.get? b = some o) → h₁.IsCell cc (some (.ref C)) := fun h₁ kp => ⟨_, kp _ _ (KX _ _ lkcell), rfl⟩
  have CA : CellsAt F.cl ["__class__"] [some (V.ref C)] s.heap H := by
    refine ⟨rfl, fun y c1 e => ?_, fun y z c1 e1 e2 => ?_, fun i y e => ?_⟩
    · obtain ⟨_, rfl⟩ := look1 e
      exact ⟨hcc0, _, hcell _ fun b o e => e⟩
    · rw [(look1 e1).1, (look1 e2).1]
    · match i, e with
      | 0, e =>
        cases e
        exact ⟨cc, rfl, fun v ev => by cases ev; exact ⟨.ref C, rfl, hcell _ fun b o e => e⟩⟩
  refine PySem.ks_codeAny_call_defAt (body := defBody st) (binds := [("self" : Str), ln].zip us) hr.depth (KX _ _ lk) rfl lim (PySem.W.codeRec_of KX S.code) rfl hb hsc.nocell (fun ⟨n, _⟩ hy => hsc.par n (List.of_mem_zip hy).1) (fun h₁ hns kp => ?_) hsc.co hsc.gen hsc.kind
  have I : Inv (ncx CX P w K mg base [("self" : Str), ln, "__class__"] F f A outer s H E) [] (startF [("self" : Str), ln, "__class__"] [.ref a, v] [some (V.ref C)]) H { s with heap := h₁, toks := s.toks + ([("self" : Str), ln].zip us).length } := inv_startN hsc hr.hd e0 rfl r CA hns kp
  obtain ⟨ar, har, harg⟩ := hp
  obtain ⟨u1, us1, rfl⟩ : ∃ u1 us1, us = u1 :: us1 := by cases r; exact ⟨_, _, rfl⟩
  have hu1 : u1 = .ref a := by cases r with | cons r1 _ => exact r1
  subst hu1
  have X1 : K.In h₁ := KX.keeps kp
  obtain ⟨t1, ho⟩ := exo_at I.hok ea
  have hCh := X1 _ _ hC
  rw [hst]
  refine PySem.ks_wpAt_execs_cons (PySem.ks_wpAt_Expr_any (PySem.ks_wpAt_MethodCall (pl := pl) ?_ (hme _)) ?hi ?hs)
  case hi =>
    unfold interactive
    show ((defScope st).kind == ScopeKind.module && _) = false
    rw [hsc.kind] <;> rfl
  case hs => rfl
  refine PySem.ks_wpAt_super_base (env := envF F f s.heap.objs.size) (fd := PySem.W.fnX x qual (defArgs st) (defBody st) (defScope st) [("__class__", cc)] .none kV doc pm an (.ref c) ct) (of := ⟨oc, od, .func (PySem.W.fnX x qual (defArgs st) (defBody st) (defScope st) [("__class__", cc)] .none kV doc pm an (.ref c) ct), osl⟩) (oc := ⟨ccl, cdd, .fields vsC, ccs⟩) (ar := ar) (cc := c) hks (hsc.frk _ (by simp)) rfl rfl (X1 _ _ lk) rfl har rfl (X1 _ _ lkc) rfl hvs hfile S.htop ?_
  obtain ⟨mb, hb1, hb2⟩ := I.mod.blt
  refine PySem.W.ks_loadName_global hsc.kind hks (Calls.loadGlobal_builtin (env := envF F f s.heap.objs.size) (I.mod.glob.keeps I.bk) hmS (hb1.keeps I.bk) ((hb2 "super" (by decide)).trans (show bootBuiltins "super" = some (.type "super") by decide +kernel)) ⟨rfl, ?_⟩)
  refine wpAny_loadName_free (env := envF F f s.heap.objs.size) hsc.kind (hsc.frk _ (by simp)) rfl (hcell _ kp) ?_
  rw [harg]
  refine wpAny_loadName_local (env := envF F f s.heap.objs.size) hsc.kind (hsc.par _ (by simp)) hns (zip_look (ps := [("self" : Str), ln]) (us := .ref a :: us1) (i := 0) (List.Nodup.sublist (by simp) nd) rfl rfl) ?_
  refine ks_wpAny_isType_cls hCh rfl ⟨rfl, ?_⟩
  refine ks_wpAny_call_super hCh rfl ho rfl (fun c e => by cases e) (PySem.W.looks_mroIn X1 S.sub) (fun h2 e2 kp2 => ?_)
  have X2 : K.In h2 := X1.keeps kp2
  have I2 : Inv (ncx CX P w K mg base [("self" : Str), ln, "__class__"] F f A outer s H E) [] (startF [("self" : Str), ln, "__class__"] [.ref a, v] [some (V.ref C)]) H { s with heap := h2, toks := s.toks + ([("self" : Str), ln].zip (Value.ref a :: us1)).length + 1 } := I.kept kp2
  have hsup : PySem.W.alongIn K "__init__" (((.ref C :: bm).dropWhile (· != .ref C)).drop 1) = some (some (.builtin "ValueError.__init__")) := by
    have z := S.sup
    unfold ks_superIn at z
    rw [hcl] at z
    exact z
  have hxC : a ≠ C := fun z => by
    rw [z, hCh] at ho
    cases ho
  have IA : PySem.W.InstAt h2 a ({ cls := .ref C, dict := none, data := .fields #[.ref t1, .none, .none, .none, .bool false, .none] } : Obj) C none := ⟨kp2 _ _ ho, rfl, rfl, trivial⟩
  refine PySem.W.kxs_getMethod PySem.W.kxs_ValueError e2 (PySem.W.looks_opaque X2 S.op) (l₀ := .ref C :: bm) (fun A Q E s k q => wpAny_bind ((PySem.W.looks_clsIn X2 hcl) A _ E s k (wpAny_pure q))) rfl X2 hsup (IA.type.andThen (PySem.W.looks_subIn X2 S.subV)) hxC (by decide) ?_
  have kp3 : ∀ b o, h2.get? b = some o → (h2.push (kxs_mw "ValueError.__init__" a)).get? b = some o := fun b o e => Heap.get?_push_of_some _ e
  have I3 : Inv (ncx CX P w K mg base [("self" : Str), ln, "__class__"] F f A outer s H E) [(h2.objs.size, kxs_mw "ValueError.__init__" a)] (startF [("self" : Str), ln, "__class__"] [.ref a, v] [some (V.ref C)]) H { s with heap := h2.push (kxs_mw "ValueError.__init__" a), toks := s.toks + ([("self" : Str), ln].zip (Value.ref a :: us1)).length + 1 } := by
    refine Inv.pins_of (I2.kept kp3) fun p hp => ?_
    rw [List.mem_singleton.mp hp]
    exact ⟨Heap.get?_push_size _ rfl, I2.hok.fresh (Nat.le_refl _), Nat.ne_of_gt I2.lt, I2.nofs (Nat.le_refl _), fun v z => by cases z⟩
  refine PySem.W.kxs_callWith (i := "ValueError.__init__") (x := a) rfl ?_
  refine PySem.Calls.evalArgs_plain (thn ((pa_cons (X := ncx CX P w K mg base [("self" : Str), ln, "__class__"] F f A outer s H E) pe_str pa_nil).run p4 _ _ _ H (fun vs H1 => vs = [V.str msg] ∧ H = H1) I3 ⟨rfl, rfl⟩) fun us s1 ⟨vs, H1, J1, r1, ev, eH⟩ => ?_)
  subst ev
  subst eH
  have hu := (J1.pin _ (List.mem_append_right _ List.mem_cons_self)).1
  refine ⟨hu, ?_⟩
  obtain ⟨t2, ho2⟩ := exo_at J1.hok ea
  obtain ⟨hp1, g1, d1, tk1, os1⟩ := s1
  refine call_bwV (J1.kIn _ _ hC) ho2 hu (show us.length ≤ sizeLine by rw [← r1.length, sizeLine_eq]; simp) fun h4 t4 k4 hx4 => ?_
  have J := J1.write (t' := tk1) (x := a) (e := a) (o := exo a C none) (by rw [ea]; exact True.intro) (.inl rfl) k4 ⟨_, hx4⟩ (exo_ok hx4)
  have eu : upd H a (exo a C none) = H := by
    funext b
    by_cases hb : b = a
    · rw [hb, upd_same, ea]
    · rw [upd_ne hb]
  rw [eu] at J
  refine wpAt_of_wpAny ?_
  have hPS := PSs.run (pss_one (ps_ost (X := ncx CX P w K mg base [("self" : Str), ln, "__class__"] F f A outer s H E) (pe_var (i := 0) rfl (.inl (hsc.par "self" (by simp))) (by decide) (by decide)) (pe_var (i := 1) rfl (.inl (hsc.par ln (by simp))) hd hcd) (hsw _))) _ _ _ H { nx := fun _ H' => Q .non H', rt := Q } J
    ⟨v, rfl, .ref a, rfl, a, C, rfl, T, hno, .inl ⟨ea, fun dx n ne => hq dx n ne⟩⟩
  refine wpAny_mono hPS (fun fl s' hs => ?_) fun e s' hs => hs
  have fin : ∀ {pins : List (Addr × Obj)} {σ' : L2.St} {H' : Hp} {v : V} {u : Value}, Inv (ncx CX P w K mg base [("self" : Str), ln, "__class__"] F f A outer s H E) pins σ' H' s' → L2.RelV v u → Q v H' → CE outer P w H s Q u s' :=
    fun {pins σ' H' v u} J rv q => ⟨v, H', J.os, J.bare, J.base, J.hok, rv, q⟩
  cases fl with
  | ret u =>
    obtain ⟨v, σ', H', J, rv, q⟩ := hs
    exact fin J rv q
  | next =>
    obtain ⟨σ', H', J, q⟩ := hs
    exact fin (v := V.non) (u := Value.none) J rfl q
  | brk =>
    obtain ⟨_, _, _, q⟩ := hs
    exact False.elim q
  | cont =>
    obtain ⟨_, _, _, q⟩ := hs
    exact False.elim q
def tUp (ta : TA) : TA := fun σ H Q => ∃ Q0, ta σ H Q0 ∧ ∀ vs H1, Q0 vs H1 → Q vs H1
theorem pa_up {X : Cx} {es : List Expr} {ta : TA} (ha : PA X es ta) : PA X es (tUp ta) := ⟨fun pos pins s σ H Q I ⟨Q0, h, hq⟩ => thn (ha.run pos pins s σ H Q0 I h) fun us s1 ⟨vs, H1, I1, r, q⟩ => ⟨vs, H1, I1, r, hq vs H1 q⟩⟩
theorem ex_heap {H1 : Hp} {a C d : Addr} {fs : List (Str × V)} (ha : H1 a = none) (hda : d ≠ a) : upd (del (upd (upd H1 d (exd d fs)) a (exo a C (some d))) a) d (.xd fs) = upd H1 d (.xd fs) := by
  funext b
  by_cases hd : b = d
  · rw [hd, upd_same, upd_same]
  · rw [upd_ne hd, upd_ne hd]
    by_cases hb : b = a
    · rw [hb, del_same, ha]
    · rw [del_ne hb, upd_ne hb, upd_ne hd]
/-- C(e), C over a class over ValueError, its __init__ keeping e as its field nm -/
theorem pmk_init {X : Cx} {x nm : Str} {e : Expr} {ta : TA} {p pos : Pos} {C fI : Addr} {k : Nat} {fd : FuncData} {ps : List Str} (T : OexC X.K C) (iC : PySem.W.findIn X.K (.ref C) "__init__" = some (some (.ref fI))) (tI : PySem.W.typeIn X.K (.ref fI) = some (.type "function"))
    (F1 : FnOk X.prog X.w X.K X.mg X.base CX0 k fI fd ps (spIn C nm)) (hr : Room (k + 1) X.A) (hb : Binds X.K fd ps []) (hg : Gl X x) (hm : X.mg x = some (.ref C)) (ha : PA X [e] ta)
    (hdb : (x == ("__debug__" : Str)) = false := by decide) (he : starEach [e] X.env = (false, eval e X.env) :: starEach [] X.env := by rfl) : PMk X (.Call (.Name x p) [e] [] pos) (tMk1 C nm ta) := by
  intro pins s σ H Q I h
  refine pmk_oex (dvs := []) T iC tI F1 hr hb .nil (fun _ _ _ _ _ _ _ h => h.elim) hg hm (pa_up ha) hdb he rfl pins s σ H Q I ⟨_, h, ?_⟩
  rintro vs H1 ⟨v, rfl, q⟩
  refine ⟨by simp, fun a h0 => ⟨a, v, rfl, upd_same, fun d hd hda => ?_⟩⟩
  rw [upd_ne hda] at hd
  have e2 : upd (upd (upd H1 a (exo a C none)) d (exd d [(nm, v)])) a (exo a C (some d)) = upd (upd H1 d (exd d [(nm, v)])) a (exo a C (some d)) := by
    funext b
    by_cases hb : b = a
    · rw [hb, upd_same, upd_same]
    · rw [upd_ne hb, upd_ne hb]
      by_cases hbd : b = d
      · rw [hbd, upd_same, upd_same]
      · rw [upd_ne hbd, upd_ne hbd, upd_ne hb]
  rw [e2]
  refine ⟨rfl, d, [(nm, v)], upd_same, ?_, hd, ?_⟩
  · rw [upd_ne hda, upd_same]
  · rw [ex_heap h0 hda]
    exact q d hd
end
end Fw

set_option Elab.async false
set_option linter.all false
set_option maxRecDepth 100000
set_option maxHeartbeats 4000000
/-! Xr: what raises first: the rest is never done. -/
namespace Fw
open PySem PySem.Spec PyProof.Rows L2
section
variable {X : Cx} {E : XK} {e a b c : Expr} {fx : FX} {sts b1 b2 : List Stmt} {pos p : Pos} {δ : Fr} {s : S} {d : D} {C : Addr} {x : FsD}
theorem pts_never {ifs : List Expr} : PTs X ifs (fun _ _ _ => False) := ⟨fun _ _ _ _ _ _ h => h.elim⟩
def xStop : FSX := fun _ _ => none
theorem xs_stop : PSs X sts (tDX X.K E xStop) := imp_ss pss_never fun D σ H ⟨h, s, δ, o, s', er, si, q, w⟩ => nomatch q
def xEx (fx : FX) : FX := fun δ s => match fx δ s with
  | some (.ex C x, s') => some (.ex C x, s')
  | _ => none
def kXE : Option (RX × S) → Option (RX × S)
  | some (.ex C x, s) => some (.ex C x, s)
  | _ => none
@[simp] theorem xEx_e : xEx fx δ s = kXE (fx δ s) := by
  unfold xEx
  cases h : fx δ s with
  | none => rfl
  | some p => obtain ⟨o, s'⟩ := p; cases o <;> rfl
@[simp] theorem kXE_ex : kXE (some (.ex C x, s)) = some (.ex C x, s) := rfl
/-- what is begun with it raises -/
theorem ex_first {K : PySem.W.Frag} {σ : L2.St} {H : Hp} {Q : VK} {R : VK} (q : tDE K E (xEx fx) σ H Q) : tDE K E fx σ H R := by
  obtain ⟨h, s, δ, r, s', er, si, q, w⟩ := q
  unfold xEx at q
  split at q
  · rename_i C x s1 e
    cases q
    exact ⟨h, s, δ, _, _, er, si, e, fun H1 st1 => w H1 st1⟩
  · cases q
theorem x_cmpL {op : CmpOp} {r : R2} (ho : OpR X (compareOp op) r) (ha : PE X a (tDE X.K E fx)) (hm : behindInMarks op b = false) : PE X (.Compare a [op] [b] pos) (tDE X.K E (xEx fx)) := imp_e (pe_cmpR ho ha pe_never hm) fun σ H Q q => ex_first q
theorem x_lcL {elt tg iter : Expr} {ifs : List Expr} {scope : Scope} {own : List (Str × Nat)} {g : TG} (hc : X.calm = true) (hN : X.N.Nodup) (hi : PE X iter (tDE X.K E fx)) (ok : BlkOk X.N X.env.scope scope own)
    (hg : ∀ (s : Shared) (H : Hp) (C : Addr) (cl : List (Str × Addr)) (fp : List Addr), PG (X.blk s H scope (compEnvC scope cl C X.env) fp) tg g) (hs : ∀ x, foldedSetIterable iter X.env x = pure x := by intro _; rfl) :
    PE X (.ListComp elt [⟨tg, iter, ifs, 0⟩] scope pos) (tDE X.K E (xEx fx)) := imp_e (pe_lc hc hN (pi_tup hi) ok hg (fun _ _ _ _ _ => pts_never) (fun _ _ _ _ _ => pe_never) hs) fun σ H Q q => ex_first q
def xExS (fx : FX) : FSX := fun δ s => match fx δ s with
  | some (.ex C x, s') => some (.ex C x, s')
  | _ => none
def kXF : Option (RX × S) → Option (OX × S)
  | some (.ex C x, s) => some (.ex C x, s)
  | _ => none
@[simp] theorem xExS_e : xExS fx δ s = kXF (fx δ s) := by
  unfold xExS
  cases h : fx δ s with
  | none => rfl
  | some p => obtain ⟨o, s'⟩ := p; cases o <;> rfl
@[simp] theorem kXF_ex : kXF (some (.ex C x, s)) = some (.ex C x, s) := rfl
theorem x_ifNL (ha : PE X a (tDE X.K E fx)) (he : ∀ whole, isTrue a X.env whole = (do let v ← whole; standAt a.pos; holding [v] (truthy v)) := by intro _; rfl) : PS X (.If (.UnaryOp .Not a p) b1 b2 pos) (tDX X.K E (xExS fx)) := imp_s (ps_if (pt_not (pt_val ha he)) pss_never pss_never) fun D σ H ⟨h, s, δ, o, s', er, si, q, w⟩ => by
  unfold xExS at q
  split at q
  · rename_i C x s1 e
    cases q
    exact ⟨h, s, δ, _, _, er, si, e, fun H1 st1 => w H1 st1⟩
  · cases q
end
/-- an own error of the module, without fields -/
structure ExA (K : PySem.W.Frag) (mg : Str → Option Value) (x : Str) (C : Addr) : Prop where
  q : PySem.W.excIn K C [.type "ValueError", .type "Exception", .type "BaseException", .type "object"] "ValueError.__new__" = true
  g : mg x = some (.ref C)
  k : PySem.W.keepIn K (.ref C) = true
  s : PySem.W.subIn K (.ref C) (.type "BaseException") = some true
  t : PySem.W.typeIn K (.ref C) = some (.type "type")
end Fw

set_option Elab.async false
set_option linter.all false
set_option maxRecDepth 100000
namespace Fw
open PySem PySem.Spec PyProof.Rows L2
def top (i : Nat) : Stmt := PySem.Challenge.pw_flowborder_k08_whole_refused.main.body.getD i (.Pass ⟨0, 0, 0, 0⟩)
abbrev s_is_program : Stmt := top 17
theorem sc_is_program : FnScope ["value"] ["value"] (defScope s_is_program) := ⟨rfl, rfl, rfl, by decide +kernel, rfl, by decide +kernel, by decide +kernel⟩
abbrev s_check_program : Stmt := top 18
theorem sc_check_program : FnScope ["value"] ["value"] (defScope s_check_program) := ⟨rfl, rfl, rfl, by decide +kernel, rfl, by decide +kernel, by decide +kernel⟩
abbrev s_is_pair : Stmt := top 19
theorem sc_is_pair : FnScope ["value"] ["value"] (defScope s_is_pair) := ⟨rfl, rfl, rfl, by decide +kernel, rfl, by decide +kernel, by decide +kernel⟩
abbrev s_is_sorts : Stmt := top 20
theorem sc_is_sorts : FnScope ["value", "word"] ["value"] (defScope s_is_sorts) := ⟨rfl, rfl, rfl, by decide +kernel, rfl, by decide +kernel, by decide +kernel⟩
abbrev s_is_sort : Stmt := top 21
theorem sc_is_sort : FnScope ["value"] ["value"] (defScope s_is_sort) := ⟨rfl, rfl, rfl, by decide +kernel, rfl, by decide +kernel, by decide +kernel⟩
abbrev s_is_number : Stmt := top 22
theorem sc_is_number : FnScope ["value", "most"] ["value", "most"] (defScope s_is_number) := ⟨rfl, rfl, rfl, by decide +kernel, rfl, by decide +kernel, by decide +kernel⟩
abbrev s_is_whole_body : Stmt := top 23
theorem sc_is_whole_body : FnScope ["value", "names"] ["value", "names"] (defScope s_is_whole_body) := ⟨rfl, rfl, rfl, by decide +kernel, rfl, by decide +kernel, by decide +kernel⟩
abbrev s_is_body : Stmt := top 24
theorem sc_is_body : FnScope ["value", "names", "most", "depth", "statement"] ["value", "names", "most", "depth"] (defScope s_is_body) := ⟨rfl, rfl, rfl, by decide +kernel, rfl, by decide +kernel, by decide +kernel⟩
abbrev s_is_statement : Stmt := top 25
theorem sc_is_statement : FnScope ["value", "names", "depth", "kinds", "items", "kind", "item"] ["value", "names", "depth"] (defScope s_is_statement) := ⟨rfl, rfl, rfl, by decide +kernel, rfl, by decide +kernel, by decide +kernel⟩
abbrev s_is_item : Stmt := top 26
theorem sc_is_item : FnScope ["kind", "value", "names", "depth"] ["kind", "value", "names", "depth"] (defScope s_is_item) := ⟨rfl, rfl, rfl, by decide +kernel, rfl, by decide +kernel, by decide +kernel⟩
abbrev s_is_terms : Stmt := top 27
theorem sc_is_terms : FnScope ["value", "names", "name"] ["value", "names"] (defScope s_is_terms) := ⟨rfl, rfl, rfl, by decide +kernel, rfl, by decide +kernel, by decide +kernel⟩
abbrev s_is_design : Stmt := top 31
theorem sc_is_design : FnScope ["value", "word"] ["value"] (defScope s_is_design) := ⟨rfl, rfl, rfl, by decide +kernel, rfl, by decide +kernel, by decide +kernel⟩
abbrev s_is_word : Stmt := top 32
theorem sc_is_word : FnScope ["value"] ["value"] (defScope s_is_word) := ⟨rfl, rfl, rfl, by decide +kernel, rfl, by decide +kernel, by decide +kernel⟩
abbrev s_check_design : Stmt := top 33
theorem sc_check_design : FnScope ["value"] ["value"] (defScope s_check_design) := ⟨rfl, rfl, rfl, by decide +kernel, rfl, by decide +kernel, by decide +kernel⟩
abbrev s_with_word : Stmt := top 34
theorem sc_with_word : FnScope ["design", "word"] ["design", "word"] (defScope s_with_word) := ⟨rfl, rfl, rfl, by decide +kernel, rfl, by decide +kernel, by decide +kernel⟩
abbrev s_lots_in : Stmt := top 37
theorem sc_lots_in : FnScope ["design"] ["design"] (defScope s_lots_in) := ⟨rfl, rfl, rfl, by decide +kernel, rfl, by decide +kernel, by decide +kernel⟩
abbrev s_is_sound : Stmt := top 38
theorem sc_is_sound : FnScope ["design"] ["design"] (defScope s_is_sound) := ⟨rfl, rfl, rfl, by decide +kernel, rfl, by decide +kernel, by decide +kernel⟩
abbrev s_breaker : Stmt := top 39
theorem sc_breaker : FnScope ["design", "lot", "body"] ["design"] (defScope s_breaker) := ⟨rfl, rfl, rfl, by decide +kernel, rfl, by decide +kernel, by decide +kernel⟩
abbrev s_greatest_sound : Stmt := top 40
theorem sc_greatest_sound : FnScope ["design", "held"] ["design"] (defScope s_greatest_sound) := ⟨rfl, rfl, rfl, by decide +kernel, rfl, by decide +kernel, by decide +kernel⟩
abbrev s_fewest_drops : Stmt := top 41
theorem sc_fewest_drops : FnScope ["design", "held", "words", "many", "chosen", "lot"] ["design"] (defScope s_fewest_drops) := ⟨rfl, rfl, rfl, by decide +kernel, rfl, by decide +kernel, by decide +kernel⟩
abbrev s_held_lots : Stmt := top 42
theorem sc_held_lots : FnScope ["design", "lot", "body"] ["design"] (defScope s_held_lots) := ⟨rfl, rfl, rfl, by decide +kernel, rfl, by decide +kernel, by decide +kernel⟩
abbrev s_holds : Stmt := top 43
theorem sc_holds : FnScope ["design", "lot", "word"] ["design", "lot"] (defScope s_holds) := ⟨rfl, rfl, rfl, by decide +kernel, rfl, by decide +kernel, by decide +kernel⟩
abbrev s_meets : Stmt := top 44
theorem sc_meets : FnScope ["words", "lot", "word"] ["words", "lot"] (defScope s_meets) := ⟨rfl, rfl, rfl, by decide +kernel, rfl, by decide +kernel, by decide +kernel⟩
abbrev s_sound_above : Stmt := top 45
theorem sc_sound_above : FnScope ["design", "found", "word", "longer", "held"] ["design"] (defScope s_sound_above) := ⟨rfl, rfl, rfl, by decide +kernel, rfl, by decide +kernel, by decide +kernel⟩
abbrev s_is_greatest : Stmt := top 46
theorem sc_is_greatest : FnScope ["design", "further", "word", "held"] ["design"] (defScope s_is_greatest) := ⟨rfl, rfl, rfl, by decide +kernel, rfl, by decide +kernel, by decide +kernel⟩
abbrev s_small_program : Stmt := top 47
theorem sc_small_program : FnScope ["body"] ["body"] (defScope s_small_program) := ⟨rfl, rfl, rfl, by decide +kernel, rfl, by decide +kernel, by decide +kernel⟩
abbrev s_two_runs : Stmt := top 48
theorem sc_two_runs : FnScope ["body"] ["body"] (defScope s_two_runs) := ⟨rfl, rfl, rfl, by decide +kernel, rfl, by decide +kernel, by decide +kernel⟩
abbrev s_fault : Stmt := top 50
theorem sc_fault : FnScope ["design", "program", "sorts", "body"] ["design", "program"] (defScope s_fault) := ⟨rfl, rfl, rfl, by decide +kernel, rfl, by decide +kernel, by decide +kernel⟩
abbrev s_lets_by : Stmt := top 51
theorem sc_lets_by : FnScope ["design", "program"] ["design", "program"] (defScope s_lets_by) := ⟨rfl, rfl, rfl, by decide +kernel, rfl, by decide +kernel, by decide +kernel⟩
abbrev s_first_fault : Stmt := top 52
theorem sc_first_fault : FnScope ["design", "sorts", "body", "under", "at", "statement", "within"] ["design", "sorts", "body", "under"] (defScope s_first_fault) := ⟨rfl, rfl, rfl, by decide +kernel, rfl, by decide +kernel, by decide +kernel⟩
abbrev s_fault_within : Stmt := top 53
theorem sc_fault_within : FnScope ["design", "sorts", "statement", "under", "word"] ["design", "sorts", "statement", "under"] (defScope s_fault_within) := ⟨rfl, rfl, rfl, by decide +kernel, rfl, by decide +kernel, by decide +kernel⟩
abbrev s_fault_in_branches : Stmt := top 54
theorem sc_fault_in_branches : FnScope ["design", "sorts", "statement", "under", "side", "branch", "within"] ["design", "sorts", "statement", "under"] (defScope s_fault_in_branches) := ⟨rfl, rfl, rfl, by decide +kernel, rfl, by decide +kernel, by decide +kernel⟩
abbrev s_may_stand : Stmt := top 55
theorem sc_may_stand : FnScope ["design", "sorts", "statement", "under", "rule"] ["design", "sorts", "statement", "under"] (defScope s_may_stand) := ⟨rfl, rfl, rfl, by decide +kernel, rfl, by decide +kernel, by decide +kernel⟩
abbrev s_is_secret : Stmt := top 56
theorem sc_is_secret : FnScope ["sorts", "name"] ["sorts", "name"] (defScope s_is_secret) := ⟨rfl, rfl, rfl, by decide +kernel, rfl, by decide +kernel, by decide +kernel⟩
abbrev s_may_change : Stmt := top 57
theorem sc_may_change : FnScope ["design", "sort", "from_secret", "under"] ["design", "sort", "from_secret", "under"] (defScope s_may_change) := ⟨rfl, rfl, rfl, by decide +kernel, rfl, by decide +kernel, by decide +kernel⟩
abbrev s_sum_may_stand : Stmt := top 58
theorem sc_sum_may_stand : FnScope ["design", "sorts", "statement", "under", "name", "terms", "from_secret", "term"] ["design", "sorts", "statement", "under"] (defScope s_sum_may_stand) := ⟨rfl, rfl, rfl, by decide +kernel, rfl, by decide +kernel, by decide +kernel⟩
abbrev s_if_may_stand : Stmt := top 59
theorem sc_if_may_stand : FnScope ["design", "sorts", "statement", "under"] ["design", "sorts", "statement", "under"] (defScope s_if_may_stand) := ⟨rfl, rfl, rfl, by decide +kernel, rfl, by decide +kernel, by decide +kernel⟩
abbrev s_times_may_stand : Stmt := top 60
theorem sc_times_may_stand : FnScope ["design", "sorts", "statement", "under"] ["design", "sorts", "statement", "under"] (defScope s_times_may_stand) := ⟨rfl, rfl, rfl, by decide +kernel, rfl, by decide +kernel, by decide +kernel⟩
abbrev s_while_may_stand : Stmt := top 61
theorem sc_while_may_stand : FnScope ["design", "sorts", "statement", "under"] ["design", "sorts", "statement", "under"] (defScope s_while_may_stand) := ⟨rfl, rfl, rfl, by decide +kernel, rfl, by decide +kernel, by decide +kernel⟩
abbrev s_print_may_stand : Stmt := top 62
theorem sc_print_may_stand : FnScope ["design", "sorts", "statement", "under"] ["design", "sorts", "statement", "under"] (defScope s_print_may_stand) := ⟨rfl, rfl, rfl, by decide +kernel, rfl, by decide +kernel, by decide +kernel⟩
abbrev s_stop_may_stand : Stmt := top 63
theorem sc_stop_may_stand : FnScope ["design", "sorts", "statement", "under"] ["design", "sorts", "statement", "under"] (defScope s_stop_may_stand) := ⟨rfl, rfl, rfl, by decide +kernel, rfl, by decide +kernel, by decide +kernel⟩
abbrev s_split_may_stand : Stmt := top 64
theorem sc_split_may_stand : FnScope ["design", "sorts", "statement", "under", "name", "by"] ["design", "sorts", "statement", "under"] (defScope s_split_may_stand) := ⟨rfl, rfl, rfl, by decide +kernel, rfl, by decide +kernel, by decide +kernel⟩
abbrev s_keep_may_stand : Stmt := top 65
theorem sc_keep_may_stand : FnScope ["design", "sorts", "statement", "under", "table", "place", "name"] ["design", "sorts", "statement", "under"] (defScope s_keep_may_stand) := ⟨rfl, rfl, rfl, by decide +kernel, rfl, by decide +kernel, by decide +kernel⟩
abbrev s_fetch_may_stand : Stmt := top 66
theorem sc_fetch_may_stand : FnScope ["design", "sorts", "statement", "under", "table", "name", "place", "from_secret"] ["design", "sorts", "statement", "under"] (defScope s_fetch_may_stand) := ⟨rfl, rfl, rfl, by decide +kernel, rfl, by decide +kernel, by decide +kernel⟩
abbrev s_strengths : Stmt := top 74
theorem sc_strengths : FnScope ["design", "word"] ["design"] (defScope s_strengths) := ⟨rfl, rfl, rfl, by decide +kernel, rfl, by decide +kernel, by decide +kernel⟩
abbrev s_lets_by_all : Stmt := top 75
theorem sc_lets_by_all : FnScope ["one", "other"] ["one", "other"] (defScope s_lets_by_all) := ⟨rfl, rfl, rfl, by decide +kernel, rfl, by decide +kernel, by decide +kernel⟩
abbrev s_parting : Stmt := top 76
theorem sc_parting : FnScope ["one", "other", "lacking"] ["one", "other"] (defScope s_parting) := ⟨rfl, rfl, rfl, by decide +kernel, rfl, by decide +kernel, by decide +kernel⟩
abbrev s_sees_all : Stmt := top 77
theorem sc_sees_all : FnScope ["one", "other"] ["one", "other"] (defScope s_sees_all) := ⟨rfl, rfl, rfl, by decide +kernel, rfl, by decide +kernel, by decide +kernel⟩
abbrev s_unseen : Stmt := top 78
theorem sc_unseen : FnScope ["one", "other", "lacking"] ["one", "other"] (defScope s_unseen) := ⟨rfl, rfl, rfl, by decide +kernel, rfl, by decide +kernel, by decide +kernel⟩
abbrev s_is_strength : Stmt := top 79
theorem sc_is_strength : FnScope ["design", "word", "branch"] ["design", "word"] (defScope s_is_strength) := ⟨rfl, rfl, rfl, by decide +kernel, rfl, by decide +kernel, by decide +kernel⟩
abbrev s_lacking_strengths : Stmt := top 80
theorem sc_lacking_strengths : FnScope ["one", "other", "had", "word"] ["one", "other"] (defScope s_lacking_strengths) := ⟨rfl, rfl, rfl, by decide +kernel, rfl, by decide +kernel, by decide +kernel⟩
abbrev s_lacking_sights : Stmt := top 81
theorem sc_lacking_sights : FnScope ["one", "other", "word"] ["one", "other"] (defScope s_lacking_sights) := ⟨rfl, rfl, rfl, by decide +kernel, rfl, by decide +kernel, by decide +kernel⟩
abbrev s_parting_body : Stmt := top 82
theorem sc_parting_body : FnScope ["design", "word", "statement"] ["design", "word"] (defScope s_parting_body) := ⟨rfl, rfl, rfl, by decide +kernel, rfl, by decide +kernel, by decide +kernel⟩
abbrev s_run : Stmt := top 86
theorem sc_run : FnScope ["program", "start"] ["program", "start"] (defScope s_run) := ⟨rfl, rfl, rfl, by decide +kernel, rfl, by decide +kernel, by decide +kernel⟩
abbrev s_is_start : Stmt := top 87
theorem sc_is_start : FnScope ["program", "value", "number"] ["program", "value"] (defScope s_is_start) := ⟨rfl, rfl, rfl, by decide +kernel, rfl, by decide +kernel, by decide +kernel⟩
abbrev s_check_start : Stmt := top 88
theorem sc_check_start : FnScope ["program", "value"] ["program", "value"] (defScope s_check_start) := ⟨rfl, rfl, rfl, by decide +kernel, rfl, by decide +kernel, by decide +kernel⟩
abbrev s_outcome : Stmt := top 89
theorem sc_outcome : FnScope ["program", "start", "state", "halt", "how", "tables", "sort"] ["program", "start"] (defScope s_outcome) := ⟨rfl, rfl, rfl, by decide +kernel, rfl, by decide +kernel, by decide +kernel⟩
abbrev s_State_init : Stmt := inClass (top 90) 0
theorem sc_State_init : FnScope ["self", "start", "sort"] ["self", "start"] (defScope s_State_init) := ⟨rfl, rfl, rfl, by decide +kernel, rfl, by decide +kernel, by decide +kernel⟩
abbrev s_do_body : Stmt := top 91
theorem sc_do_body : FnScope ["state", "body", "statement", "action", "halt"] ["state", "body"] (defScope s_do_body) := ⟨rfl, rfl, rfl, by decide +kernel, rfl, by decide +kernel, by decide +kernel⟩
abbrev s_do_sum : Stmt := top 92
theorem sc_do_sum : FnScope ["state", "statement", "name", "terms", "number", "term"] ["state", "statement"] (defScope s_do_sum) := ⟨rfl, rfl, rfl, by decide +kernel, rfl, by decide +kernel, by decide +kernel⟩
abbrev s_do_if : Stmt := top 93
theorem sc_do_if : FnScope ["state", "statement", "name", "first", "second", "branch"] ["state", "statement"] (defScope s_do_if) := ⟨rfl, rfl, rfl, by decide +kernel, rfl, by decide +kernel, by decide +kernel⟩
abbrev s_do_times : Stmt := top 94
theorem sc_do_times : FnScope ["state", "statement", "turns", "body", "_", "halt"] ["state", "statement"] (defScope s_do_times) := ⟨rfl, rfl, rfl, by decide +kernel, rfl, by decide +kernel, by decide +kernel⟩
abbrev s_do_while : Stmt := top 95
theorem sc_do_while : FnScope ["state", "statement", "name", "body", "halt"] ["state", "statement"] (defScope s_do_while) := ⟨rfl, rfl, rfl, by decide +kernel, rfl, by decide +kernel, by decide +kernel⟩
abbrev s_do_print : Stmt := top 96
theorem sc_do_print : FnScope ["state", "statement"] ["state", "statement"] (defScope s_do_print) := ⟨rfl, rfl, rfl, by decide +kernel, rfl, by decide +kernel, by decide +kernel⟩
abbrev s_do_stop : Stmt := top 97
theorem sc_do_stop : FnScope ["state", "statement"] ["state", "statement"] (defScope s_do_stop) := ⟨rfl, rfl, rfl, by decide +kernel, rfl, by decide +kernel, by decide +kernel⟩
abbrev s_do_split : Stmt := top 98
theorem sc_do_split : FnScope ["state", "statement", "name", "by"] ["state", "statement"] (defScope s_do_split) := ⟨rfl, rfl, rfl, by decide +kernel, rfl, by decide +kernel, by decide +kernel⟩
abbrev s_do_keep : Stmt := top 99
theorem sc_do_keep : FnScope ["state", "statement", "table", "place", "name"] ["state", "statement"] (defScope s_do_keep) := ⟨rfl, rfl, rfl, by decide +kernel, rfl, by decide +kernel, by decide +kernel⟩
abbrev s_do_fetch : Stmt := top 100
theorem sc_do_fetch : FnScope ["state", "statement", "table", "name", "place"] ["state", "statement"] (defScope s_do_fetch) := ⟨rfl, rfl, rfl, by decide +kernel, rfl, by decide +kernel, by decide +kernel⟩
abbrev s_alike : Stmt := top 104
theorem sc_alike : FnScope ["design", "program", "one", "other", "sorts"] ["design", "program", "one", "other"] (defScope s_alike) := ⟨rfl, rfl, rfl, by decide +kernel, rfl, by decide +kernel, by decide +kernel⟩
abbrev s_leak : Stmt := top 105
theorem sc_leak : FnScope ["design", "program", "start", "sorts", "seen", "other"] ["design", "program", "start"] (defScope s_leak) := ⟨rfl, rfl, rfl, by decide +kernel, rfl, by decide +kernel, by decide +kernel⟩
abbrev s_starts_like : Stmt := top 106
theorem sc_starts_like : FnScope ["sorts", "start", "starts", "sort", "number", "choices", "begun", "choice"] ["sorts", "start"] (defScope s_starts_like) := ⟨rfl, rfl, rfl, by decide +kernel, rfl, by decide +kernel, by decide +kernel⟩
abbrev s_open_numbers : Stmt := top 107
theorem sc_open_numbers : FnScope ["sorts", "numbers", "sort", "number"] ["sorts", "numbers"] (defScope s_open_numbers) := ⟨rfl, rfl, rfl, by decide +kernel, rfl, by decide +kernel, by decide +kernel⟩
abbrev s_look_alike : Stmt := top 108
theorem sc_look_alike : FnScope ["design", "sorts", "one", "other"] ["design", "sorts", "one", "other"] (defScope s_look_alike) := ⟨rfl, rfl, rfl, by decide +kernel, rfl, by decide +kernel, by decide +kernel⟩
abbrev s_is_finished : Stmt := top 109
theorem sc_is_finished : FnScope ["seen"] ["seen"] (defScope s_is_finished) := ⟨rfl, rfl, rfl, by decide +kernel, rfl, by decide +kernel, by decide +kernel⟩
abbrev s_same_at_end : Stmt := top 110
theorem sc_same_at_end : FnScope ["design", "sorts", "one", "other"] ["design", "sorts", "one", "other"] (defScope s_same_at_end) := ⟨rfl, rfl, rfl, by decide +kernel, rfl, by decide +kernel, by decide +kernel⟩
abbrev s_one_begins_other : Stmt := top 111
theorem sc_one_begins_other : FnScope ["one", "other", "shared"] ["one", "other"] (defScope s_one_begins_other) := ⟨rfl, rfl, rfl, by decide +kernel, rfl, by decide +kernel, by decide +kernel⟩
abbrev s_write_program : Stmt := top 114
theorem sc_write_program : FnScope ["program", "sorts", "body"] ["program"] (defScope s_write_program) := ⟨rfl, rfl, rfl, by decide +kernel, rfl, by decide +kernel, by decide +kernel⟩
abbrev s_write_numbers : Stmt := top 115
theorem sc_write_numbers : FnScope ["numbers", "number"] ["numbers"] (defScope s_write_numbers) := ⟨rfl, rfl, rfl, by decide +kernel, rfl, by decide +kernel, by decide +kernel⟩
abbrev s_body_lines : Stmt := top 116
theorem sc_body_lines : FnScope ["body", "lines", "statement"] ["body"] (defScope s_body_lines) := ⟨rfl, rfl, rfl, by decide +kernel, rfl, by decide +kernel, by decide +kernel⟩
abbrev s_statement_lines : Stmt := top 117
theorem sc_statement_lines : FnScope ["statement", "word", "_", "name", "first", "second", "item"] ["statement"] (defScope s_statement_lines) := ⟨rfl, rfl, rfl, by decide +kernel, rfl, by decide +kernel, by decide +kernel⟩
abbrev s_item_word : Stmt := top 118
theorem sc_item_word : FnScope ["item"] ["item"] (defScope s_item_word) := ⟨rfl, rfl, rfl, by decide +kernel, rfl, by decide +kernel, by decide +kernel⟩
abbrev s_l_taken : Stmt := top 120
theorem sc_l_taken : FnScope ["row", "many", "found", "cell"] ["row", "many"] (defScope s_l_taken) := ⟨rfl, rfl, rfl, by decide +kernel, rfl, by decide +kernel, by decide +kernel⟩
abbrev s_l_pick : Stmt := top 121
theorem sc_l_pick : FnScope ["row", "kinds"] ["row", "kinds"] (defScope s_l_pick) := ⟨rfl, rfl, rfl, by decide +kernel, rfl, by decide +kernel, by decide +kernel⟩
abbrev s_l_words : Stmt := top 122
theorem sc_l_words : FnScope ["some"] [] (defScope s_l_words) := ⟨rfl, rfl, rfl, by decide +kernel, rfl, by decide +kernel, by decide +kernel⟩
abbrev s_l_design : Stmt := top 123
theorem sc_l_design : FnScope ["row", "odds", "word"] ["row"] (defScope s_l_design) := ⟨rfl, rfl, rfl, by decide +kernel, rfl, by decide +kernel, by decide +kernel⟩
abbrev s_l_lots : Stmt := top 124
theorem sc_l_lots : FnScope ["found"] [] (defScope s_l_lots) := ⟨rfl, rfl, rfl, by decide +kernel, rfl, by decide +kernel, by decide +kernel⟩
abbrev s_l_told : Stmt := top 125
theorem sc_l_told : FnScope ["lot", "up", "down", "shown", "inner"] ["lot"] (defScope s_l_told) := ⟨rfl, rfl, rfl, by decide +kernel, rfl, by decide +kernel, by decide +kernel⟩
abbrev s_l_into : Stmt := top 126
theorem sc_l_into : FnScope ["words", "secret", "source", "under"] ["words", "secret", "source", "under"] (defScope s_l_into) := ⟨rfl, rfl, rfl, by decide +kernel, rfl, by decide +kernel, by decide +kernel⟩
abbrev s_l_stands : Stmt := top 127
theorem sc_l_stands : FnScope ["words", "sorts", "one", "under", "hidden", "sort", "word", "x", "bad", "source", "table"] ["words", "sorts", "one", "under"] (defScope s_l_stands) := ⟨rfl, rfl, rfl, by decide +kernel, rfl, by decide +kernel, by decide +kernel⟩
abbrev s_l_check : Stmt := top 128
theorem sc_l_check : FnScope ["words", "sorts", "body", "under", "k", "one", "below", "side", "place"] ["words", "sorts", "body", "under"] (defScope s_l_check) := ⟨rfl, rfl, rfl, by decide +kernel, rfl, by decide +kernel, by decide +kernel⟩
abbrev s_l_statement : Stmt := top 129
theorem sc_l_statement : FnScope ["row", "many", "deep", "x", "y", "z", "plain", "word", "turn", "first"] ["row", "many", "deep"] (defScope s_l_statement) := ⟨rfl, rfl, rfl, by decide +kernel, rfl, by decide +kernel, by decide +kernel⟩
abbrev s_l_sorts : Stmt := top 130
theorem sc_l_sorts : FnScope ["row", "found", "turn"] ["row"] (defScope s_l_sorts) := ⟨rfl, rfl, rfl, by decide +kernel, rfl, by decide +kernel, by decide +kernel⟩
abbrev s_l_program : Stmt := top 131
theorem sc_l_program : FnScope ["row", "words", "sorts", "body", "told", "turn", "one"] ["row", "words"] (defScope s_l_program) := ⟨rfl, rfl, rfl, by decide +kernel, rfl, by decide +kernel, by decide +kernel⟩
abbrev s_l_wrong : Stmt := top 132
theorem sc_l_wrong : FnScope ["work", "e"] ["work"] (defScope s_l_wrong) := ⟨rfl, rfl, rfl, by decide +kernel, rfl, by decide +kernel, by decide +kernel⟩
abbrev s_law : Stmt := top 133
theorem sc_law : FnScope ["script", "row", "design", "sorts", "body", "bad", "works", "far", "items", "item", "at", "odd", "part"] ["script"] (defScope s_law) := ⟨rfl, rfl, rfl, by decide +kernel, rfl, by decide +kernel, by decide +kernel⟩
end Fw

set_option Elab.async false
set_option linter.all false
set_option maxRecDepth 100000
set_option maxHeartbeats 4000000
namespace Fw
open PySem PySem.Spec PyProof.Rows L2
section
variable {P : Program} {w : World} {K : PySem.W.Frag} {mg : Str → Option Value} {base : Heap}
def nokD (k : Int) : D → Bool
  | .int i => decide (0 ≤ i) && decide (i ≤ k)
  | _ => false
def sortB (x : Str) : Bool := wS "open" == x || wS "secret" == x
theorem blsD_mp {α : Type} (p : α → Bool) : ∀ ds : List α, blsD (ds.map fun d => .bl (p d)) = some (ds.map p)
  | [] => rfl
  | d :: ds => by
    show (blsD (ds.map fun d => .bl (p d))).map _ = _
    rw [blsD_mp p ds]; rfl
theorem all_map {α : Type} (p : α → Bool) (ds : List α) : (ds.map p).all id = ds.all p := by rw [List.all_map]; rfl
/-- what stands where terms stand -/
def TermX (d : D) : Prop := d = .int 0 ∨ d = .lst [.int 0] ∨ ∃ ds, d = .tup ds ∧ ds.length ≤ 1000 ∧ ∀ x ∈ ds, simpD x = true
def termB (m : Nat) : D → Bool
  | .tup ds => decide (ds.length ≤ 2) && ds.all (nokD ((m : Int) - 1))
  | _ => false
/-- an if within an if -/
def stIf : Nat → D
  | 0 => .tup [strD "if", .int 0, .tup [], .tup []]
  | n + 1 => .tup [strD "if", .int 0, .tup [stIf n], .tup []]
def stopD : D := .tup [strD "stop"]
/-- what stands where a body stands, with so many bodies around -/
def bodyX : Nat → List (D × Bool)
  | 0 => [(.tup [], true), (.lst [], false), (.tup [stopD, stopD, stopD, stopD, stopD], false), (.tup [stIf 1], false)]
  | 1 => [(.tup [], true), (.tup [stIf 0], false)]
  | _ => [(.tup [], false)]
/-- what the law tries in place of a statement -/
def items1 (m : Nat) : List D := [.non, .tup [], .tup [strD "sum", .int 0, .tup [], .int 10], .tup [strD "sum", .int 0, .int 0, .int 1], .tup [strD "sum", natD m, .tup [], .int 1], .tup [strD "sum", .int 0, .tup [natD m], .int 1], .tup [strD "sum", .int 0, .tup [.int 0, .int 0, .int 0], .int 1], .tup [strD "sum", .int 0, .lst [.int 0], .int 1]]
def items2 (m : Nat) : List D := [.tup [strD "if", .int 0, .tup []], .tup [strD "if", .int 0, .tup [], .tup [], .tup []], .tup [strD "if", natD m, .tup [], .tup []], .tup [strD "if", .int 0, .lst [], .tup []], .tup [strD "times", .int 4, .tup []], .tup [strD "times", .int (-1), .tup []], .tup [strD "while", natD m, .tup []]]
def items3 (m : Nat) : List D := [.tup [strD "print"], .tup [strD "print", natD m], .tup [strD "stop", .int 0], .tup [strD "split", .int 0], .tup [strD "split", .int 0, natD m], .tup [strD "keep", strD "Open", .int 0, .int 0], .tup [strD "keep", .int 0, .int 0], .tup [strD "fetch", strD "open", .int 0]]
def items4 : List D := [.tup [strD "while", .int 0, .tup [stopD, stopD, stopD, stopD, stopD]], .tup [strD "if", .int 0, .tup [stIf 1], .tup []], .tup [strD "hop"], .lst [strD "stop"], strD "stop", .tup [strD "print", .bl true], .tup [.non]]
def stX (m : Nat) : Nat → List D
  | 0 => items1 m ++ items2 m ++ items3 m ++ items4
  | 1 => [stIf 1]
  | _ => [stIf 0]
def P_is_numberX (g : FD) : Prop := ∀ (d : D) (k : Int) (s : S), simpD d = true → g [d, .int k] s = some (.bl (nokD k d), s)
def P_is_sortX (g : FD) : Prop := (∀ (x : Str) (s : S), g [.str x] s = some (.bl (sortB x), s)) ∧ ∀ s, g [.non] s = some (.bl false, s)
def P_is_sortsX (g : FD) : Prop := ∀ (d : D) (s : S), (∃ ds : List D, d = .lst ds) ∨ d = .tup [] ∨ d = .tup [strD "Open"] ∨ d = .tup [.non] ∨ d = .tup (List.replicate 7 (strD "open")) → g [d] s = some (.bl false, s)
def P_is_termsX (g : FD) : Prop := ∀ (d : D) (m : Nat) (s : S), TermX d → g [d, .int m] s = some (.bl (termB m d), s)
structure P_itemX (k : Nat) (g : FD) : Prop where
  nm : ∀ (d : D) (m : Nat) (s : S), simpD d = true → g [strD "name", d, .int m, .int k] s = some (.bl (nokD ((m : Int) - 1) d), s)
  nb : ∀ (d : D) (m : Nat) (s : S), simpD d = true → g [strD "number", d, .int m, .int k] s = some (.bl (nokD 9 d), s)
  tn : ∀ (d : D) (m : Nat) (s : S), simpD d = true → g [strD "turns", d, .int m, .int k] s = some (.bl (nokD 3 d), s)
  so : ∀ (x : Str) (m : Nat) (s : S), g [strD "sort", .str x, .int m, .int k] s = some (.bl (sortB x), s)
  ts : ∀ (d : D) (m : Nat) (s : S), TermX d → g [strD "terms", d, .int m, .int k] s = some (.bl (termB m d), s)
  bd : ∀ (d : D) (b : Bool) (m : Nat) (s : S), 1 ≤ m → (d, b) ∈ bodyX k → g [strD "body", d, .int m, .int k] s = some (.bl b, s)
def P_stmtX (k : Nat) (g : FD) : Prop := ∀ (t : D) (m : Nat) (s : S), 1 ≤ m → t ∈ stX m k → g [t, .int m, .int k] s = some (.bl false, s)
def P_bodyX (k : Nat) (g : FD) : Prop := ∀ (d : D) (b : Bool) (m : Nat) (s : S), 1 ≤ m → (d, b) ∈ bodyX k → g [d, .int m, .int 4, .int (k + 1 : Nat)] s = some (.bl b, s)
def P_is_pairX (g : FD) : Prop := ∀ (d : D) (s : S), d = .non ∨ (∃ ds : List D, d = .lst ds) ∨ d = .tup [] ∨ (∃ a, d = .tup [a]) ∨ (∃ a b c, d = .tup [a, b, c]) → g [d] s = some (.bl false, s)
theorem ok_is_pair {f : Addr} {fd : FuncData} (F : Fun K "is_pair" "is_pair" s_is_pair f fd) (hm : mg "is_pair" = some (.ref f)) (B : Bi mg) :
    ∃ g, Kn P w K mg base "is_pair" 1 1 g ∧ P_is_pair g ∧ P_is_pairX g := by
  refine ⟨_, (kn_of (k := 0) F hm sc_is_pair (F.binds (ps := ["value"]) fun _ _ _ _ _ _ us hl => match us, hl with | [_], _ => rfl) fun cdv A outer s H E hr => (dss_one (ds_ret (d_and (d_isI (t := .tuple) rfl (B.get "isinstance") (d_var 0 (pv 0)) rfl (B.get "tuple") (by decide +kernel)) (d_one (d_cmp (op_eqA hr.units) g_eq (d_callB call_len g_len rfl (B.get "len") (by decide +kernel) (da_cons (d_var 0 (pv 0)) da_nil)) d_int (nomark _))))))), ?_, ?_⟩
  · intro a b s
    simp
  · intro d s h
    rcases h with rfl | ⟨ds, rfl⟩ | rfl | ⟨a, rfl⟩ | ⟨a, b, c, rfl⟩ <;> simp
theorem ok_is_sort {f : Addr} {fd : FuncData} (F : Fun K "is_sort" "is_sort" s_is_sort f fd) (hm : mg "is_sort" = some (.ref f)) (B : Bi mg) (g_SORTS : Gc K mg "SORTS" (.tup [strD "open", strD "secret"])) :
    ∃ g, Kn P w K mg base "is_sort" 1 1 g ∧ P_is_sort g ∧ P_is_sortX g := by
  refine ⟨_, (kn_of (k := 0) F hm sc_is_sort (F.binds (ps := ["value"]) fun _ _ _ _ _ _ us hl => match us, hl with | [_], _ => rfl) fun cdv A outer s H E hr => (dss_one (ds_ret (d_and (d_isI (t := .str) rfl (B.get "isinstance") (d_var 0 (pv 0)) rfl (B.get "str") (by decide +kernel)) (d_one (d_cmp op_in_seq g_in (d_var 0 (pv 0)) (d_gc g_SORTS rfl) (by with_unfolding_all rfl))))))), ?_, ?_, ?_⟩
  · intro t s
    cases t <;> simp [sortD]
  · intro x s
    simp [sortB, wS]
  · intro s
    simp
theorem ok_is_number {f : Addr} {fd : FuncData} (F : Fun K "is_number" "is_number" s_is_number f fd) (hm : mg "is_number" = some (.ref f)) (B : Bi mg) :
    ∃ g, Kn P w K mg base "is_number" 2 1 g ∧ P_is_number g ∧ P_is_numberX g := by
  refine ⟨_, (kn_of (k := 0) F hm sc_is_number (F.binds (ps := ["value", "most"]) fun _ _ _ _ _ _ us hl => match us, hl with | [_, _], _ => rfl) fun cdv A outer s H E hr => (dss_one (ds_ret (d_and (d_isI (t := .int) rfl (B.get "isinstance") (d_var 0 (pv 0)) rfl (B.get "int") (by decide +kernel)) (d_and (d_not (d_isI (t := .bool) rfl (B.get "isinstance") (d_var 0 (pv 0)) rfl (B.get "bool") (by decide +kernel))) (d_one (d_chain op_le op_le g_cmpI g_cmpI d_int (d_var 0 (pv 0)) (d_var 1 (pv 1))))))))), ?_, ?_⟩
  · intro n k s h
    simp [h]
  · intro d k s h
    cases d with
    | int i => by_cases h0 : 0 ≤ i <;> simp [nokD, h0]
    | non => simp [nokD]
    | bl b => simp [nokD]
    | _ => simp [simpD] at h
theorem ok_is_sorts {f : Addr} {fd : FuncData} (F : Fun K "is_sorts" "is_sorts" s_is_sorts f fd) (hm : mg "is_sorts" = some (.ref f)) (B : Bi mg) (g_MOST_NAMES : Gc K mg "MOST_NAMES" (.int 6)) {gs : FD} (k_is_sort : Kn P w K mg base "is_sort" 1 1 gs) (ps : P_is_sort gs) (psX : P_is_sortX gs) :
    ∃ g, Kn P w K mg base "is_sorts" 1 2 g ∧ P_is_sorts g ∧ P_is_sortsX g := by
  refine ⟨_, (kn_of (k := 1) F hm sc_is_sorts (F.binds (ps := ["value"]) fun _ _ _ _ _ _ us hl => match us, hl with | [_], _ => rfl) fun cdv A outer s H E hr => (dss_cons (ds_if (PW.pt (dw_or (dt_not (dt_tru (d_isI (t := .tuple) rfl (B.get "isinstance") (d_var 0 (pv 0)) rfl (B.get "tuple") (by decide +kernel)))) (dw_or1 (dt_not (dt_chain op_le op_le g_cmpI g_cmpI d_int (d_callB call_len g_len rfl (B.get "len") (by decide +kernel) (da_cons (d_var 0 (pv 0)) da_nil)) (d_gc g_MOST_NAMES rfl)))))) (dss_one (ds_ret d_bl)) dss_nil)
  (dss_one (ds_ret (d_callB (cr_all rfl) g_all rfl (B.get "all") (by decide +kernel) (da_cons (d_lc (own := [("word", 1)]) rfl sc_is_sorts.nd (di_items (d_var 0 (pv 0))) (blkOk_by (N := ["value", "word"]) (sc := defScope s_is_sorts) (by decide +kernel)) (gt_name (i := 1) (vs := [1]) (by decide)) (fun _ _ _ _ _ => (pg_name (i := 1) sc_is_sorts.nd rfl (Or.inl rfl))) (fun _ _ _ _ _ => dts_nil) (fun _ _ _ _ _ => (d_kn k_is_sort (hr.mono (by omega)) rfl (da_cons (d_var 1 (pv 1)) da_nil)))) da_nil)))))), ?_, ?_⟩
  · intro so s h1 h2
    have hc : ∀ (δ : Fr), 1 < δ.length → compL (gtName 1) tTrue (fCall 1 gs (fCons (fVar 1) fNil)) (so.map sortD) δ s = some (List.replicate (so.map sortD).length (.bl true), s) := fun δ hl => compL_true _ fun d hd => by
      obtain ⟨t, _, rfl⟩ := List.mem_map.mp hd
      refine ⟨_, rfl, ?_⟩
      simp [hl, ps t s]
    have h3 : so.length ≤ 10000000 := by omega
    have h4 : (1 : Int) ≤ (so.length : Nat) := by omega
    have h5 : ((so.length : Nat) : Int) ≤ 6 := by omega
    simp [sortsD, h3, h4, h5, hc]
  · intro d s h
    have w1 := psX.1 (Str.ofString "Open") s
    have w2 := psX.2 s
    have w3 : sortB (Str.ofString "Open") = false := by decide +kernel
    rw [w3] at w1
    rcases h with ⟨ds, rfl⟩ | rfl | rfl | rfl | rfl
    · simp
    · simp
    · simp [strD, compL, w1]
    · simp [compL, w2]
    · simp
theorem ok_is_terms {f : Addr} {fd : FuncData} (F : Fun K "is_terms" "is_terms" s_is_terms f fd) (hm : mg "is_terms" = some (.ref f)) (B : Bi mg) (g_MOST_TERMS : Gc K mg "MOST_TERMS" (.int 2)) {gn : FD} (k_is_number : Kn P w K mg base "is_number" 2 1 gn) (pn : P_is_number gn) (pnX : P_is_numberX gn) :
    ∃ g, Kn P w K mg base "is_terms" 2 2 g ∧ P_is_terms g ∧ P_is_termsX g := by
  refine ⟨_, (kn_of (k := 1) F hm sc_is_terms (F.binds (ps := ["value", "names"]) fun _ _ _ _ _ _ us hl => match us, hl with | [_, _], _ => rfl) fun cdv A outer s H E hr => (dss_cons (ds_if (PW.pt (dw_or (dt_not (dt_tru (d_isI (t := .tuple) rfl (B.get "isinstance") (d_var 0 (pv 0)) rfl (B.get "tuple") (by decide +kernel)))) (dw_or1 (dt_cmp op_gt g_cmpI (d_callB call_len g_len rfl (B.get "len") (by decide +kernel) (da_cons (d_var 0 (pv 0)) da_nil)) (d_gc g_MOST_TERMS rfl) (nomark _))))) (dss_one (ds_ret d_bl)) dss_nil)
  (dss_one (ds_ret (d_callB (cr_all rfl) g_all rfl (B.get "all") (by decide +kernel) (da_cons (d_lc (own := [("name", 2)]) rfl sc_is_terms.nd (di_items (d_var 0 (pv 0))) (blkOk_by (N := ["value", "names", "name"]) (sc := defScope s_is_terms) (by decide +kernel)) (gt_name (i := 2) (vs := [2]) (by decide)) (fun _ _ _ _ _ => (pg_name (i := 2) sc_is_terms.nd rfl (Or.inl rfl))) (fun _ _ _ _ _ => dts_nil) (fun _ _ _ _ _ => (d_kn k_is_number (hr.mono (by omega)) rfl (da_cons (d_var 2 (pv 2)) (da_cons (d_op op_sub g_sub (d_var 1 (pv 1)) d_int) da_nil))))) da_nil)))))), ?_, ?_⟩
  · intro ts m s h1 h2
    have hc : ∀ (δ : Fr), δ[1]? = some (some (.int (m : Nat))) → 2 < δ.length → compL (gtName 2) tTrue (fCall 2 gn (fCons (fVar 2) (fCons (f2 dSub (fVar 1) (fC (.int 1))) fNil))) (ts.map natD) δ s = some (List.replicate (ts.map natD).length (.bl true), s) := fun δ q1 hl => compL_true _ fun d hd => by
      obtain ⟨t, ht, rfl⟩ := List.mem_map.mp hd
      refine ⟨_, rfl, ?_⟩
      have := h2 t ht
      have hp := pn t ((m : Int) - 1) s (by omega)
      simp [hl, natD, q1, hp]
    have h3 : ts.length ≤ 10000000 := by omega
    have h5 : ¬ ((2 : Int) < (ts.length : Nat)) := by omega
    simp [natsD, h3, h5, hc]
  · intro d m s h
    rcases h with rfl | rfl | ⟨ds, rfl, h1, h2⟩
    · simp [termB]
    · simp [termB]
    have hc : ∀ (δ : Fr), δ[1]? = some (some (.int (m : Nat))) → 2 < δ.length → compL (gtName 2) tTrue (fCall 2 gn (fCons (fVar 2) (fCons (f2 dSub (fVar 1) (fC (.int 1))) fNil))) ds δ s = some (ds.map (fun d => .bl (nokD ((m : Int) - 1) d)), s) := fun δ q1 hl => compL_map _ _ fun d hd => by
      refine ⟨_, rfl, ?_⟩
      have hp := pnX d ((m : Int) - 1) s (h2 d hd)
      simp [hl, q1, hp]
    have h3 : ds.length ≤ 10000000 := by omega
    have hb := blsD_mp (nokD ((m : Int) - 1)) ds
    have ha := all_map (nokD ((m : Int) - 1)) ds
    by_cases h5 : ds.length ≤ 2
    · have h6 : ¬ ((2 : Int) < (ds.length : Nat)) := by omega
      have h7 : ¬ (2 < ds.length) := by omega
      simp [termB, h3, h5, h6, h7, hc, hb, ha, -List.all_map]
    · have h6 : ((2 : Int) < (ds.length : Nat)) := by omega
      have h7 : 2 < ds.length := by omega
      simp [termB, h3, h5, h6, h7]
theorem ok_is_item {f : Addr} {fd : FuncData} (F : Fun K "is_item" "is_item" s_is_item f fd) (hm : mg "is_item" = some (.ref f)) (B : Bi mg) (g_HIGHEST : Gc K mg "HIGHEST" (.int 9)) (g_MOST_TURNS : Gc K mg "MOST_TURNS" (.int 3)) (g_MOST_WITHIN : Gc K mg "MOST_WITHIN" (.int 2)) (g_MOST_INNER_STATEMENTS : Gc K mg "MOST_INNER_STATEMENTS" (.int 4))
    {gn gs gt gb : FD} {lv d e : Nat} (hlv : 2 ≤ lv) (k_is_number : Kn P w K mg base "is_number" 2 1 gn) (pn : P_is_number gn) (pnX : P_is_numberX gn) (k_is_sort : Kn P w K mg base "is_sort" 1 1 gs) (ps : P_is_sort gs) (psX : P_is_sortX gs) (k_is_terms : Kn P w K mg base "is_terms" 2 2 gt) (pt : P_is_terms gt) (ptX : P_is_termsX gt)
    (k_is_body : Kn P w K mg base "is_body" 4 lv gb) (pb : 0 < d → P_is_body (d - 1) gb) (he : e ≤ 2) (pbX : e < 2 → P_bodyX e gb) :
    ∃ g, Kn P w K mg base "is_item" 4 (lv + 1) g ∧ P_is_item d g ∧ P_itemX e g := by
  refine ⟨_, (kn_of (k := lv) F hm sc_is_item (F.binds (ps := ["kind", "value", "names", "depth"]) fun _ _ _ _ _ _ us hl => match us, hl with | [_, _, _, _], _ => rfl) fun cdv A outer s H E hr => (dss_cons (ds_if (dt_cmp (op_eqA hr.units) g_eq (d_var 0 (pv 0)) d_str (nomark _)) (dss_one (ds_ret (d_kn k_is_number (hr.mono (by omega)) rfl (da_cons (d_var 1 (pv 1)) (da_cons (d_op op_sub g_sub (d_var 2 (pv 2)) d_int) da_nil))))) dss_nil)
  (dss_cons (ds_if (dt_cmp (op_eqA hr.units) g_eq (d_var 0 (pv 0)) d_str (nomark _)) (dss_one (ds_ret (d_kn k_is_number (hr.mono (by omega)) rfl (da_cons (d_var 1 (pv 1)) (da_cons (d_gc g_HIGHEST rfl) da_nil))))) dss_nil)
  (dss_cons (ds_if (dt_cmp (op_eqA hr.units) g_eq (d_var 0 (pv 0)) d_str (nomark _)) (dss_one (ds_ret (d_kn k_is_number (hr.mono (by omega)) rfl (da_cons (d_var 1 (pv 1)) (da_cons (d_gc g_MOST_TURNS rfl) da_nil))))) dss_nil)
  (dss_cons (ds_if (dt_cmp (op_eqA hr.units) g_eq (d_var 0 (pv 0)) d_str (nomark _)) (dss_one (ds_ret (d_kn k_is_sort (hr.mono (by omega)) rfl (da_cons (d_var 1 (pv 1)) da_nil)))) dss_nil)
  (dss_cons (ds_if (dt_cmp (op_eqA hr.units) g_eq (d_var 0 (pv 0)) d_str (nomark _)) (dss_one (ds_ret (d_kn k_is_terms (hr.mono (by omega)) rfl (da_cons (d_var 1 (pv 1)) (da_cons (d_var 2 (pv 2)) da_nil))))) dss_nil)
  (dss_one (ds_ret (d_and (d_cmp op_lt g_cmpI (d_var 3 (pv 3)) (d_gc g_MOST_WITHIN rfl) (nomark _)) (d_one (d_kn k_is_body (hr.mono (by omega)) rfl (da_cons (d_var 1 (pv 1)) (da_cons (d_var 2 (pv 2)) (da_cons (d_gc g_MOST_INNER_STATEMENTS rfl) (da_cons (d_op op_addA g_add (d_var 3 (pv 3)) d_int) da_nil))))))))))))))), ?_, ?_⟩
  · intro m k s hk
    refine ⟨fun x hx => ?_, fun n hn => ?_, fun n hn => ?_, fun t => ?_, fun ts h1 h2 => ?_, fun b hd ok hb => ?_⟩
    · have := pn x ((m : Int) - 1) s (by omega)
      simp [natD, this]
    · have := pn n 9 s (by omega)
      simp [natD, this]
    · have := pn n 3 s (by omega)
      simp [natD, this]
    · have := ps t s
      cases t <;> simp [sortD] at this ⊢ <;> simp [this]
    · have := pt ts m s h1 h2
      simp only [natsD] at this ⊢
      simp [this]
    · have := pb hd b m 4 (k + 1) s ok hb (by omega) (by omega)
      simp only [bodyD] at this ⊢
      have h2 : ((k : Nat) : Int) < 2 := by omega
      push_cast at this
      simp [h2, this]
  · refine ⟨fun d m s h => ?_, fun d m s h => ?_, fun d m s h => ?_, fun x m s => ?_, fun d m s h => ?_, fun x b m s hm1 h => ?_⟩
    · have := pnX d ((m : Int) - 1) s h
      simp [this]
    · have := pnX d 9 s h
      simp [this]
    · have := pnX d 3 s h
      simp [this]
    · have := psX.1 x s
      simp [this]
    · have := ptX d m s h
      simp [this]
    · by_cases h2 : e < 2
      · have := pbX h2 x b m s hm1 h
        have h3 : ((e : Nat) : Int) < 2 := by omega
        push_cast at this
        simp [h3, this]
      · have : e = 2 := by omega
        subst this
        simp only [bodyX, List.mem_singleton, Prod.mk.injEq] at h
        obtain ⟨rfl, rfl⟩ := h
        simp

end
end Fw

set_option Elab.async false
set_option linter.all false
set_option maxRecDepth 100000
set_option maxHeartbeats 4000000
namespace Fw
open PySem PySem.Spec PyProof.Rows L2
section
variable {P : Program} {w : World} {K : PySem.W.Frag} {mg : Str → Option Value} {base : Heap}
theorem ok_is_statement {f : Addr} {fd : FuncData} (F : Fun K "is_statement" "is_statement" s_is_statement f fd) (hm : mg "is_statement" = some (.ref f)) (B : Bi mg) {aF : Addr} (g_FORMS : Gc K mg "FORMS" (.ref aF)) (G_FORMS : GK K w formsL aF)
    {gi : FD} {lv d e : Nat} (he : e ≤ 2) (k_is_item : Kn P w K mg base "is_item" 4 lv gi) (pi : P_is_item d gi) (px : P_itemX e gi) :
    ∃ g, Kn P w K mg base "is_statement" 3 (lv + 1) g ∧ P_is_statement d g ∧ P_stmtX e g := by
  refine ⟨_, (kn_of (k := lv) F hm sc_is_statement (F.binds (ps := ["value", "names", "depth"]) fun _ _ _ _ _ _ us hl => match us, hl with | [_, _, _], _ => rfl) fun cdv A outer s H E hr => (dss_cons (ds_if (PW.pt (dw_or (dt_not (dt_tru (d_isI (t := .tuple) rfl (B.get "isinstance") (d_var 0 (pv 0)) rfl (B.get "tuple") (by decide +kernel)))) (dw_or1 (dt_not (dt_tru (d_var 0 (pv 0))))))) (dss_one (ds_ret d_bl)) dss_nil)
  (dss_cons (ds_if (PW.pt (dw_or (dt_not (dt_tru (d_isI (t := .str) rfl (B.get "isinstance") (d_ix (d_var 0 (pv 0)) d_int (fun _ _ => rfl)) rfl (B.get "str") (by decide +kernel)))) (dw_or1 (dt_notInK G_FORMS (d_ix (d_var 0 (pv 0)) d_int (fun _ _ => rfl)) (d_gc g_FORMS rfl))))) (dss_one (ds_ret d_bl)) dss_nil)
  (dss_cons (ds_set (i := 3) sc_is_statement.nd rfl (Or.inl rfl) (d_itemK G_FORMS (d_gc g_FORMS rfl) (d_ix (d_var 0 (pv 0)) d_int (fun _ _ => rfl)) (fun _ _ => rfl)))
  (dss_cons (ds_set (i := 4) sc_is_statement.nd rfl (Or.inl rfl) (d_slice (d_var 0 (pv 0)) (do_yes d_int) do_no))
  (dss_cons (ds_if (dt_cmp (op_neA hr.units) g_ne (d_callB call_len g_len rfl (B.get "len") (by decide +kernel) (da_cons (d_var 4 (pv 4)) da_nil)) (d_callB call_len g_len rfl (B.get "len") (by decide +kernel) (da_cons (d_var 3 (pv 3)) da_nil)) (nomark _)) (dss_one (ds_ret d_bl)) dss_nil)
  (dss_one (ds_ret (d_callB (cr_all rfl) g_all rfl (B.get "all") (by decide +kernel) (da_cons (d_lc (own := [("kind", 5), ("item", 6)]) rfl sc_is_statement.nd (di_zip rfl (B.get "zip") (da_cons (d_var 3 (pv 3)) (da_cons (d_var 4 (pv 4)) da_nil))) (blkOk_by (N := ["value", "names", "depth", "kinds", "items", "kind", "item"]) (sc := defScope s_is_statement) (by decide +kernel)) (gt_pair (i := 5) (j := 6) (vs := [5, 6]) (by decide) (by decide)) (fun _ _ _ _ _ => (pg_tup rfl (pgs_cons (pg_name (i := 5) sc_is_statement.nd rfl (Or.inl rfl)) (pgs_cons (pg_name (i := 6) sc_is_statement.nd rfl (Or.inl rfl)) pgs_nil)))) (fun _ _ _ _ _ => dts_nil) (fun _ _ _ _ _ => (d_kn k_is_item (hr.mono (by omega)) rfl (da_cons (d_var 5 (pv 5)) (da_cons (d_var 6 (pv 6)) (da_cons (d_var 1 (pv 1)) (da_cons (d_var 2 (pv 2)) da_nil))))))) da_nil)))))))))), ?_, ?_⟩
  · intro a m k s ok hk
    obtain ⟨p1, p2, p3, p4, p5, p6⟩ := pi m k s hk
    cases a with
    | sum x ts n =>
      obtain ⟨h1, h2, h3, h4⟩ := ok
      have a1 := p1 x h1
      have a2 := p5 ts h2 h3
      have a3 := p2 n h4
      simp only [natsD, natD, strD] at a1 a2 a3
      simp [smD, natD, formsL, List.lookup_cons, compL, a1, a2, a3]
    | ite x p q =>
      obtain ⟨h1, h2, h3, hd, h4, h5⟩ := ok
      have a1 := p1 x h1
      have a2 := p6 p hd h4 h2
      have a3 := p6 q hd h5 h3
      simp only [bodyD, natD, strD] at a1 a2 a3
      simp [smD, natD, formsL, List.lookup_cons, compL, a1, a2, a3]
    | times n b =>
      obtain ⟨h1, h2, hd, h4⟩ := ok
      have a1 := p3 n h1
      have a2 := p6 b hd h4 h2
      simp only [bodyD, natD, strD] at a1 a2
      simp [smD, natD, formsL, List.lookup_cons, compL, a1, a2]
    | whl x b =>
      obtain ⟨h1, h2, hd, h4⟩ := ok
      have a1 := p1 x h1
      have a2 := p6 b hd h4 h2
      simp only [bodyD, natD, strD] at a1 a2
      simp [smD, natD, formsL, List.lookup_cons, compL, a1, a2]
    | print x =>
      have a1 := p1 x ok
      simp only [natD, strD] at a1
      simp [smD, natD, formsL, List.lookup_cons, compL, a1]
    | stop => simp [smD, natD, formsL, List.lookup_cons, compL]
    | split x y =>
      obtain ⟨h1, h2⟩ := ok
      have a1 := p1 x h1
      have a2 := p1 y h2
      simp only [natD, strD] at a1 a2
      simp [smD, natD, formsL, List.lookup_cons, compL, a1, a2]
    | keep t x y =>
      obtain ⟨h1, h2⟩ := ok
      have a1 := p1 x h1
      have a2 := p1 y h2
      have a3 := p4 t
      simp only [natD, strD] at a1 a2 a3
      simp [smD, natD, formsL, List.lookup_cons, compL, a1, a2, a3]
    | fetch t x y =>
      obtain ⟨h1, h2⟩ := ok
      have a1 := p1 x h1
      have a2 := p1 y h2
      have a3 := p4 t
      simp only [natD, strD] at a1 a2 a3
      simp [smD, natD, formsL, List.lookup_cons, compL, a1, a2, a3]
  · intro t m s hm1 ht
    have n0 := px.nm (.int 0) m s rfl
    have hn0 : nokD ((m : Int) - 1) (.int 0) = true := by simp [nokD]; omega
    rw [hn0] at n0
    have nf := px.nm (natD m) m s rfl
    have hnf : nokD ((m : Int) - 1) (natD m) = false := by simp [nokD, natD]; omega
    rw [hnf] at nf
    have nt := px.nm (.bl true) m s rfl
    have b10 := px.nb (.int 10) m s rfl
    have b1 := px.nb (.int 1) m s rfl
    have t4 := px.tn (.int 4) m s rfl
    have t1 := px.tn (.int (-1)) m s rfl
    have so := px.so (Str.ofString "Open") m s
    have hso : sortB (Str.ofString "Open") = false := by decide +kernel
    rw [hso] at so
    have s0 := px.ts (.tup []) m s (.inr (.inr ⟨[], rfl, by simp, by simp⟩))
    have s1 := px.ts (.int 0) m s (.inl rfl)
    have s2 := px.ts (.tup [natD m]) m s (.inr (.inr ⟨_, rfl, by simp, by simp [simpD, natD]⟩))
    have hs2 : termB m (.tup [natD m]) = false := by simp [termB, hnf]
    rw [hs2] at s2
    have s3 := px.ts (.tup [.int 0, .int 0, .int 0]) m s (.inr (.inr ⟨_, rfl, by simp, by simp [simpD]⟩))
    have s4 := px.ts (.lst [.int 0]) m s (.inr (.inl rfl))
    simp only [natD, strD, nokD] at n0 nf nt b10 b1 t4 t1 so s0 s1 s2 s3 s4
    simp [termB] at nt b10 b1 t4 t1 s0 s1 s3 s4
    have z0 : ((0 : Nat) : Int) = 0 := rfl
    have z1 : ((1 : Nat) : Int) = 1 := rfl
    have z2 : ((2 : Nat) : Int) = 2 := rfl
    rcases (show e = 0 ∨ e = 1 ∨ e = 2 by omega) with rfl | rfl | rfl
    · have d0 := px.bd (.tup []) true m s hm1 (by simp [bodyX])
      have d1 := px.bd (.lst []) false m s hm1 (by simp [bodyX])
      have d2 := px.bd (.tup [stopD, stopD, stopD, stopD, stopD]) false m s hm1 (by simp [bodyX])
      have d3 := px.bd (.tup [stIf 1]) false m s hm1 (by simp [bodyX])
      simp only [stX, List.mem_append] at ht
      simp only [strD, z0] at d0 d1 d2 d3 n0 nf nt b10 b1 t4 t1 so s0 s1 s2 s3 s4
      rcases ht with ((ht | ht) | ht) | ht
      · simp only [items1, List.mem_cons, List.mem_nil_iff, or_false] at ht
        rcases ht with rfl | rfl | rfl | rfl | rfl | rfl | rfl | rfl <;> simp [strD, natD, formsL, List.lookup_cons, compL, n0, nf, b10, b1, s0, s1, s2, s3, s4]
      · simp only [items2, List.mem_cons, List.mem_nil_iff, or_false] at ht
        rcases ht with rfl | rfl | rfl | rfl | rfl | rfl | rfl <;> simp [strD, natD, formsL, List.lookup_cons, compL, n0, nf, t4, t1, d0, d1]
      · simp only [items3, List.mem_cons, List.mem_nil_iff, or_false] at ht
        rcases ht with rfl | rfl | rfl | rfl | rfl | rfl | rfl | rfl <;> simp [strD, natD, formsL, List.lookup_cons, compL, n0, nf, so]
      · simp only [items4, List.mem_cons, List.mem_nil_iff, or_false] at ht
        rcases ht with rfl | rfl | rfl | rfl | rfl | rfl | rfl <;> simp [strD, natD, formsL, List.lookup_cons, compL, n0, nt, d0, d2, d3]
    · have d0 := px.bd (.tup []) true m s hm1 (by simp [bodyX])
      have d1 := px.bd (.tup [stIf 0]) false m s hm1 (by simp [bodyX])
      simp only [strD, z1] at d0 d1 n0
      simp only [stX, List.mem_singleton] at ht
      subst ht
      have e1 : stIf 1 = .tup [strD "if", .int 0, .tup [stIf 0], .tup []] := rfl
      rw [e1]
      simp [strD, formsL, List.lookup_cons, compL, n0, d0, d1]
    · have d0 := px.bd (.tup []) false m s hm1 (by simp [bodyX])
      simp only [strD, z2] at d0 n0
      simp only [stX, List.mem_singleton] at ht
      subst ht
      have e1 : stIf 0 = .tup [strD "if", .int 0, .tup [], .tup []] := rfl
      rw [e1]
      simp [strD, formsL, List.lookup_cons, compL, n0, d0]

end
end Fw

set_option Elab.async false
set_option linter.all false
set_option maxRecDepth 100000
set_option maxHeartbeats 4000000
namespace Fw
open PySem PySem.Spec PyProof.Rows L2
section
variable {P : Program} {w : World} {K : PySem.W.Frag} {mg : Str → Option Value} {base : Heap}
abbrev partF : Str := Str.ofString "part"
/-- how check_program says that a value is no program -/
def BPMk (P : Program) (w : World) (K : PySem.W.Frag) (mg : Str → Option Value) (base : Heap) (CB : Addr) : Prop := ∀ (X : Cx) (fs : FA) (e : Expr) (p pos : Pos), X.prog = P → X.w = w → X.K = K → X.mg = mg → X.base = base → Room 2 X.A → Gl X "BadProgram" → PA X [e] (tDA X.K fs) →
  starEach [e] X.env = (false, eval e X.env) :: starEach [] X.env → PMk X (.Call (.Name "BadProgram" p) [e] [] pos) (tMk1 CB partF (tDA X.K fs))
/-- a body of nine, a list, one with a wrong statement in its midst -/
def BodyTop (m : Nat) (d : D) : Prop := (∃ ds : List D, d = .lst ds) ∨ d = .tup (List.replicate 9 stopD) ∨ ∃ (b1 b2 : List Sm) (t : D), d = .tup (smsD b1 ++ t :: smsD b2) ∧ smsOk m 2 b1 ∧ smsOk m 2 b2 ∧ t ∈ stX m 0 ∧ b1.length + b2.length ≤ 7
def PairX (d : D) : Prop := d = .non ∨ (∃ ds : List D, d = .lst ds) ∨ d = .tup [] ∨ (∃ a, d = .tup [a]) ∨ (∃ a b c, d = .tup [a, b, c])
def SortsX (d : D) : Prop := (∃ ds : List D, d = .lst ds) ∨ d = .tup [] ∨ d = .tup [strD "Open"] ∨ d = .tup [.non] ∨ d = .tup (List.replicate 7 (strD "open"))
/-- what is no program, and the part that is wrong -/
def BadP (p part : D) : Prop := (PairX p ∧ part = .non) ∨ (∃ d1 d2, p = .tup [d1, d2] ∧ SortsX d1 ∧ part = .int 0) ∨ ∃ (so : List Bool) (d2 : D), p = .tup [sortsD so, d2] ∧ 1 ≤ so.length ∧ so.length ≤ 6 ∧ BodyTop so.length d2 ∧ part = .int 1
def P_bodyTop (g : FD) : Prop := ∀ (d : D) (m : Nat) (s : S), 1 ≤ m → BodyTop m d → g [d, .int m, .int 8, .int 0] s = some (.bl false, s)
def P_wholeX (g : FD) : Prop := ∀ (d : D) (m : Nat) (s : S), 1 ≤ m → BodyTop m d → g [d, .int m] s = some (.bl false, s)
def P_is_program (g : FD) : Prop := (∀ (p part : D) (s : S), BadP p part → g [p] s = some (.bl false, s)) ∧ ∀ (so : List Bool) (b : List Sm) (s : S), 1 ≤ so.length → so.length ≤ 6 → smsOk so.length 2 b → b.length ≤ 8 → g [.tup [sortsD so, bodyD b]] s = some (.bl true, s)
def P_cpX (CB : Addr) (BP : D → D → Prop) (g : FDX) : Prop := ∀ (p part : D) (s : S), BP p part → g [p] s = some (.ex CB (some [(partF, part)]), s)
theorem ok_is_body {f : Addr} {fd : FuncData} (F : Fun K "is_body" "is_body" s_is_body f fd) (hm : mg "is_body" = some (.ref f)) (B : Bi mg) {gs : FD} {lv d e : Nat} (k_is_statement : Kn P w K mg base "is_statement" 3 lv gs) (ps : P_is_statement d gs) (px : P_stmtX e gs) :
    ∃ g, Kn P w K mg base "is_body" 4 (lv + 1) g ∧ P_is_body d g ∧ (∀ j, j < 2 → e = j + 1 → P_bodyX j g) ∧ (d = 2 → e = 0 → P_bodyTop g) := by
  refine ⟨_, (kn_of (k := lv) F hm sc_is_body (F.binds (ps := ["value", "names", "most", "depth"]) fun _ _ _ _ _ _ us hl => match us, hl with | [_, _, _, _], _ => rfl) fun cdv A outer s H E hr => (dss_cons (ds_if (PW.pt (dw_or (dt_not (dt_tru (d_isI (t := .tuple) rfl (B.get "isinstance") (d_var 0 (pv 0)) rfl (B.get "tuple") (by decide +kernel)))) (dw_or1 (dt_cmp op_gt g_cmpI (d_callB call_len g_len rfl (B.get "len") (by decide +kernel) (da_cons (d_var 0 (pv 0)) da_nil)) (d_var 2 (pv 2)) (nomark _))))) (dss_one (ds_ret d_bl)) dss_nil)
  (dss_one (ds_ret (d_callB (cr_all rfl) g_all rfl (B.get "all") (by decide +kernel) (da_cons (d_lc (own := [("statement", 4)]) rfl sc_is_body.nd (di_items (d_var 0 (pv 0))) (blkOk_by (N := ["value", "names", "most", "depth", "statement"]) (sc := defScope s_is_body) (by decide +kernel)) (gt_name (i := 4) (vs := [4]) (by decide)) (fun _ _ _ _ _ => (pg_name (i := 4) sc_is_body.nd rfl (Or.inl rfl))) (fun _ _ _ _ _ => dts_nil) (fun _ _ _ _ _ => (d_kn k_is_statement (hr.mono (by omega)) rfl (da_cons (d_var 4 (pv 4)) (da_cons (d_var 1 (pv 1)) (da_cons (d_var 3 (pv 3)) da_nil)))))) da_nil)))))), ?_, ?_, ?_⟩
  · intro b m most k s ok hb hm hk
    have hc : ∀ (δ : Fr), δ[1]? = some (some (.int (m : Nat))) → δ[3]? = some (some (.int (k : Nat))) → 4 < δ.length → compL (gtName 4) tTrue (fCall 3 gs (fCons (fVar 4) (fCons (fVar 1) (fCons (fVar 3) fNil)))) (smsD b) δ s = some (List.replicate (smsD b).length (.bl true), s) := fun δ q1 q3 hl => compL_true _ fun d hd => by
      rw [smsD_map] at hd
      obtain ⟨a, ha, rfl⟩ := List.mem_map.mp hd
      refine ⟨_, rfl, ?_⟩
      have hp := ps a m k s (smsOk_iff.mp ok a ha) hk
      simp [hl, q1, q3, hp]
    have h3 : b.length ≤ 10000000 := by omega
    have h5 : ¬ ((most : Nat) : Int) < (b.length : Nat) := by omega
    simp [bodyD, smsD_length, h3, h5, hc]
  · intro j hj he x b m s hm1 hx
    subst he
    rcases (show j = 0 ∨ j = 1 by omega) with rfl | rfl
    · have t1 := px (stIf 1) m s hm1 (by simp [stX])
      simp only [bodyX, List.mem_cons, List.mem_nil_iff, or_false, Prod.mk.injEq] at hx
      have z1 : ((0 + 1 : Nat) : Int) = 1 := rfl
      rw [z1] at t1 ⊢
      rcases hx with ⟨rfl, rfl⟩ | ⟨rfl, rfl⟩ | ⟨rfl, rfl⟩ | ⟨rfl, rfl⟩ <;> simp [compL, t1]
    · have t1 := px (stIf 0) m s hm1 (by simp [stX])
      simp only [bodyX, List.mem_cons, List.mem_nil_iff, or_false, Prod.mk.injEq] at hx
      have z1 : ((1 + 1 : Nat) : Int) = 2 := rfl
      rw [z1] at t1 ⊢
      rcases hx with ⟨rfl, rfl⟩ | ⟨rfl, rfl⟩ <;> simp [compL, t1]
  · intro hd he x m s hm1 hx
    subst hd he
    rcases hx with ⟨ds, rfl⟩ | rfl | ⟨b1, b2, t, rfl, o1, o2, ht, hl⟩
    · simp
    · simp
    have t1 := px t m s hm1 ht
    obtain ⟨q, hq⟩ : ∃ q : D → Bool, ∀ x, q x = match gs [x, .int m, .int (0 : Nat)] s with
      | some (.bl b, _) => b
      | _ => false := ⟨_, fun _ => rfl⟩
    have hg : ∀ b : List Sm, smsOk m 2 b → ∀ x ∈ smsD b, gs [x, .int m, .int (0 : Nat)] s = some (.bl (q x), s) := fun b ok x hx => by
      rw [smsD_map] at hx
      obtain ⟨a, ha, rfl⟩ := List.mem_map.mp hx
      have hp := ps a m 0 s (smsOk_iff.mp ok a ha) (by omega)
      rw [hq, hp]
    have htq : q t = false := by rw [hq, t1]
    have hall : ∀ x ∈ smsD b1 ++ t :: smsD b2, gs [x, .int m, .int (0 : Nat)] s = some (.bl (q x), s) := fun x hx => by
      rcases List.mem_append.mp hx with hx | hx
      · exact hg b1 o1 x hx
      · rcases List.mem_cons.mp hx with rfl | hx
        · rw [htq]; exact t1
        · exact hg b2 o2 x hx
    obtain ⟨L, hL⟩ : ∃ L, L = smsD b1 ++ t :: smsD b2 := ⟨_, rfl⟩
    have hLl : L.length ≤ 8 := by rw [hL, List.length_append, List.length_cons, smsD_length, smsD_length]; omega
    have hLq : L.all q = false := by rw [hL, List.all_append, List.all_cons, htq]; simp
    rw [← hL] at hall ⊢
    have hc : ∀ (δ : Fr), δ[1]? = some (some (.int (m : Nat))) → δ[3]? = some (some (.int 0)) → 4 < δ.length → compL (gtName 4) tTrue (fCall 3 gs (fCons (fVar 4) (fCons (fVar 1) (fCons (fVar 3) fNil)))) L δ s = some (L.map (fun d => .bl (q d)), s) := fun δ q1 q3 hl => compL_map _ _ fun d hd => by
      refine ⟨_, rfl, ?_⟩
      have hp := hall d hd
      have z0 : ((0 : Nat) : Int) = 0 := rfl
      rw [z0] at hp
      simp [hl, q1, q3, hp]
    have hb := blsD_mp q L
    have ha := all_map q L
    rw [hLq] at ha
    have h3 : L.length ≤ 10000000 := by omega
    have h6 : ¬ ((8 : Int) < (L.length : Nat)) := by omega
    have h7 : ¬ (8 < L.length) := by omega
    simp [h3, h6, h7, hc, hb, ha, -List.all_map]
theorem ok_is_whole_body {f : Addr} {fd : FuncData} (F : Fun K "is_whole_body" "is_whole_body" s_is_whole_body f fd) (hm : mg "is_whole_body" = some (.ref f)) (B : Bi mg) (g_MOST_STATEMENTS : Gc K mg "MOST_STATEMENTS" (.int 8))
    {gb : FD} {lv : Nat} (k_is_body : Kn P w K mg base "is_body" 4 lv gb) (pb : P_is_body 2 gb) (px : P_bodyTop gb) :
    ∃ g, Kn P w K mg base "is_whole_body" 2 (lv + 1) g ∧ P_is_whole_body g ∧ P_wholeX g := by
  refine ⟨_, (kn_of (k := lv) F hm sc_is_whole_body (F.binds (ps := ["value", "names"]) fun _ _ _ _ _ _ us hl => match us, hl with | [_, _], _ => rfl) fun cdv A outer s H E hr => (dss_one (ds_ret (d_kn k_is_body (hr.mono (by omega)) rfl (da_cons (d_var 0 (pv 0)) (da_cons (d_var 1 (pv 1)) (da_cons (d_gc g_MOST_STATEMENTS rfl) (da_cons d_int da_nil)))))))), ?_, ?_⟩
  · intro b m s ok hb
    have := pb b m 8 0 s ok hb (by omega) (by omega)
    simp only [bodyD] at this ⊢
    simp at this ⊢
    simp [this]
  · intro d m s hm1 h
    have := px d m s hm1 h
    simp [this]
theorem ok_check_program {f CB : Addr} {fd : FuncData} (F : Fun K "check_program" "check_program" s_check_program f fd) (hm : mg "check_program" = some (.ref f)) (B : Bi mg) (mk_BP : BPMk P w K mg base CB) {gp gs gb : FD} {lv : Nat} (hlv : 2 ≤ lv) (k_is_pair : Kn P w K mg base "is_pair" 1 1 gp) (pp : P_is_pair gp) (ppX : P_is_pairX gp)
    (k_is_sorts : Kn P w K mg base "is_sorts" 1 2 gs) (ps : P_is_sorts gs) (psX : P_is_sortsX gs) (k_is_whole_body : Kn P w K mg base "is_whole_body" 2 lv gb) (pbX : P_wholeX gb) :
    ∃ g, KnX P w K mg base "check_program" 1 (lv + 1) g ∧ P_cpX CB BadP g := by
  refine ⟨_, (knx_of (k := lv) F hm sc_check_program (F.binds (ps := ["value"]) fun _ _ _ _ _ _ us hl => match us, hl with | [_], _ => rfl) fun cdv A outer s H E hr => (xs_cons (x_if (dt_not (dt_tru (d_kn k_is_pair (hr.mono (by omega)) rfl (da_cons (d_var 0 (pv 0)) da_nil)))) (xs_one (x_raise1 rfl (takes_of rfl rfl rfl rfl) (fun _ _ _ _ h => h) (mk_BP _ _ _ _ _ rfl rfl rfl rfl rfl (hr.mono (by omega)) rfl (da_cons d_non da_nil) rfl))) xs_nil)
  (xs_cons (x_if (dt_not (dt_tru (d_kn k_is_sorts (hr.mono (by omega)) rfl (da_cons (d_ix (d_var 0 (pv 0)) d_int (fun _ _ => rfl)) da_nil)))) (xs_one (x_raise1 rfl (takes_of rfl rfl rfl rfl) (fun _ _ _ _ h => h) (mk_BP _ _ _ _ _ rfl rfl rfl rfl rfl (hr.mono (by omega)) rfl (da_cons d_int da_nil) rfl))) xs_nil)
  (xs_one (x_if (dt_not (dt_tru (d_kn k_is_whole_body (hr.mono (by omega)) rfl (da_cons (d_ix (d_var 0 (pv 0)) d_int (fun _ _ => rfl)) (da_cons (d_callB call_len g_len rfl (B.get "len") (by decide +kernel) (da_cons (d_ix (d_var 0 (pv 0)) d_int (fun _ _ => rfl)) da_nil)) da_nil))))) (xs_one (x_raise1 rfl (takes_of rfl rfl rfl rfl) (fun _ _ _ _ h => h) (mk_BP _ _ _ _ _ rfl rfl rfl rfl rfl (hr.mono (by omega)) rfl (da_cons d_int da_nil) rfl))) xs_nil))))), ?_⟩
  intro p part s h
  have e0 : startD 1 [p] = [some p] := rfl
  rw [xBody_e]
  simp only [List.length_cons, List.length_nil, Nat.zero_add, Nat.reduceAdd, e0]
  rcases h with ⟨h, rfl⟩ | ⟨d1, d2, rfl, h, rfl⟩ | ⟨so, d2, rfl, h1, h2, h, rfl⟩
  · have a1 := ppX p s h
    simp [a1]
  · have a1 := pp d1 d2 s
    have a2 := psX d1 s h
    simp [a1, a2]
  · have a1 := pp (sortsD so) d2 s
    have a2 := ps so s h1 h2
    have a3 := pbX d2 so.length s h1 h
    have h3 : so.length ≤ 10000000 := by omega
    simp only [sortsD] at a1 a2 a3 ⊢
    simp [a1, a2, a3, h3]
theorem ok_is_program {f : Addr} {fd : FuncData} (F : Fun K "is_program" "is_program" s_is_program f fd) (hm : mg "is_program" = some (.ref f)) (B : Bi mg) {gp gs gb : FD} {lv : Nat} (hlv : 2 ≤ lv) (k_is_pair : Kn P w K mg base "is_pair" 1 1 gp) (pp : P_is_pair gp) (ppX : P_is_pairX gp)
    (k_is_sorts : Kn P w K mg base "is_sorts" 1 2 gs) (ps : P_is_sorts gs) (psX : P_is_sortsX gs) (k_is_whole_body : Kn P w K mg base "is_whole_body" 2 lv gb) (pb : P_is_whole_body gb) (pbX : P_wholeX gb) :
    ∃ g, Kn P w K mg base "is_program" 1 (lv + 1) g ∧ P_is_program g := by
  refine ⟨_, (kn_of (k := lv) F hm sc_is_program (F.binds (ps := ["value"]) fun _ _ _ _ _ _ us hl => match us, hl with | [_], _ => rfl) fun cdv A outer s H E hr => (dss_one (ds_ret (d_and (d_kn k_is_pair (hr.mono (by omega)) rfl (da_cons (d_var 0 (pv 0)) da_nil)) (d_and (d_kn k_is_sorts (hr.mono (by omega)) rfl (da_cons (d_ix (d_var 0 (pv 0)) d_int (fun _ _ => rfl)) da_nil)) (d_one (d_kn k_is_whole_body (hr.mono (by omega)) rfl (da_cons (d_ix (d_var 0 (pv 0)) d_int (fun _ _ => rfl)) (da_cons (d_callB call_len g_len rfl (B.get "len") (by decide +kernel) (da_cons (d_ix (d_var 0 (pv 0)) d_int (fun _ _ => rfl)) da_nil)) da_nil))))))))), ?_, ?_⟩
  · intro p part s h
    rcases h with ⟨h, rfl⟩ | ⟨d1, d2, rfl, h, rfl⟩ | ⟨so, d2, rfl, h1, h2, h, rfl⟩
    · have a1 := ppX p s h
      simp [a1]
    · have a1 := pp d1 d2 s
      have a2 := psX d1 s h
      simp [a1, a2]
    · have a1 := pp (sortsD so) d2 s
      have a2 := ps so s h1 h2
      have a3 := pbX d2 so.length s h1 h
      have h3 : so.length ≤ 10000000 := by omega
      simp only [sortsD] at a1 a2 a3 ⊢
      simp [a1, a2, a3, h3]
  · intro so b s h1 h2 ok hb
    have a1 := pp (sortsD so) (bodyD b) s
    have a2 := ps so s h1 h2
    have a3 := pb b so.length s ok hb
    have h3 : so.length ≤ 10000000 := by omega
    simp only [sortsD, bodyD] at a1 a2 a3 ⊢
    simp [a1, a2, a3, h3]

end
end Fw

set_option Elab.async false
set_option linter.all false
set_option maxRecDepth 100000
set_option maxHeartbeats 4000000
namespace Fw
open PySem PySem.Spec PyProof.Rows L2
section
variable {P : Program} {w : World} {K : PySem.W.Frag} {mg : Str → Option Value} {base : Heap}
/-! ### designs and what is none -/
def desD (ws : List String) : D := .tup (ws.map strD)
def P_is_word (g : FD) : Prop := ∀ (x : String) (s : S), x ∈ wordsL → g [strD x] s = some (.bl true, s)
def P_is_wordX (g : FD) : Prop := (∀ s, g [strD "Ifs"] s = some (.bl false, s)) ∧ (∀ (n : Int) s, g [.int n] s = some (.bl false, s)) ∧ ∀ s, g [.non] s = some (.bl false, s)
def P_is_design (g : FD) : Prop := ∀ (ws : List String) (s : S), ws.Sublist wordsL → g [desD ws] s = some (.bl true, s)
/-- what the law tries in place of a design -/
def badDs : List D := [.non, .lst [strD "ifs"], .tup [strD "marks", strD "ifs"], .tup [strD "ifs", strD "ifs"], .tup [strD "Ifs"], strD "ifs", .tup [.int 0], .tup [strD "ifs", .non]]
def P_is_designX (g : FD) : Prop := ∀ d ∈ badDs, ∀ s, g [d] s = some (.bl false, s)
def P_cdX (CD : Addr) (g : FDX) : Prop := (∀ (ws : List String) (s : S), ws.Sublist wordsL → g [.tup (ws.map strD)] s = some (.ok .non, s)) ∧ ∀ d ∈ badDs, ∀ s, g [d] s = some (.ex CD none, s)
theorem words_len {ws : List String} (h : ws.Sublist wordsL) : ws.length ≤ 12 := h.length_le
theorem words_nodup : (wordsL.map Str.ofString).Nodup := by decide +kernel
theorem words_up : (wordsL.map Str.ofString).Pairwise fun a b => leT a b = true := by
  have h : ((wordsL.map Str.ofString).zip ((wordsL.map Str.ofString).drop 1)).all (fun p => leT p.1 p.2) = true := by decide +kernel
  exact sortedS_pw (by decide +kernel)
theorem txts_strs : ∀ ws : List String, txtsD (ws.map strD) = some (ws.map Str.ofString)
  | [] => rfl
  | w :: ws => by rw [List.map_cons, List.map_cons]; show (txtsD (ws.map strD)).map _ = _; rw [txts_strs ws]; rfl
theorem srt_words {ws : List String} (h : ws.Sublist wordsL) : srtT (ws.map Str.ofString) = ws.map Str.ofString :=
  srtT_self (List.Pairwise.sublist (h.map Str.ofString) words_up) (List.Pairwise.sublist (h.map Str.ofString) words_nodup)
theorem ok_is_word {f : Addr} {fd : FuncData} (F : Fun K "is_word" "is_word" s_is_word f fd) (hm : mg "is_word" = some (.ref f)) (B : Bi mg) (g_WORDS : Gc K mg "WORDS" (.tup (wordsL.map strD))) :
    ∃ g, Kn P w K mg base "is_word" 1 1 g ∧ P_is_word g ∧ P_is_wordX g := by
  refine ⟨_, (kn_of (k := 0) F hm sc_is_word (F.binds (ps := ["value"]) fun _ _ _ _ _ _ us hl => match us, hl with | [_], _ => rfl) fun cdv A outer s H E hr => (dss_one (ds_ret (d_and (d_isI (t := .str) rfl (B.get "isinstance") (d_var 0 (pv 0)) rfl (B.get "str") (by decide +kernel)) (d_one (d_cmp op_in_seq g_in (d_var 0 (pv 0)) (d_gc g_WORDS rfl) (by with_unfolding_all rfl))))))), ?_, ?_, ?_, ?_⟩
  · intro x s hx
    have e0 : startD 1 [strD x] = [some (strD x)] := rfl
    rw [fBody_e]
    simp only [List.length_cons, List.length_nil, Nat.zero_add, Nat.reduceAdd, e0]
    simp [strD, hx]
  · intro s
    have h : ¬ "Ifs" ∈ wordsL := by decide
    simp [strD, h]
  · intro n s
    simp
  · intro s
    simp
theorem ok_is_design {f : Addr} {fd : FuncData} (F : Fun K "is_design" "is_design" s_is_design f fd) (hm : mg "is_design" = some (.ref f)) (B : Bi mg) {gw : FD} (k_is_word : Kn P w K mg base "is_word" 1 1 gw) (pw : P_is_word gw) (px : P_is_wordX gw) :
    ∃ g, Kn P w K mg base "is_design" 1 2 g ∧ P_is_design g ∧ P_is_designX g := by
  refine ⟨_, (kn_of (k := 1) F hm sc_is_design (F.binds (ps := ["value"]) fun _ _ _ _ _ _ us hl => match us, hl with | [_], _ => rfl) fun cdv A outer s H E hr => (dss_cons (ds_if (dt_not (dt_tru (d_isI (t := .tuple) rfl (B.get "isinstance") (d_var 0 (pv 0)) rfl (B.get "tuple") (by decide +kernel)))) (dss_one (ds_ret d_bl)) dss_nil)
  (dss_cons (ds_if (dt_not (dt_tru (d_callB (cr_all rfl) g_all rfl (B.get "all") (by decide +kernel) (da_cons (d_lc (own := [("word", 1)]) rfl sc_is_design.nd (di_items (d_var 0 (pv 0))) (blkOk_by (N := ["value", "word"]) (sc := defScope s_is_design) (by decide +kernel)) (gt_name (i := 1) (vs := [1]) (by decide)) (fun _ _ _ _ _ => (pg_name (i := 1) sc_is_design.nd rfl (Or.inl rfl))) (fun _ _ _ _ _ => dts_nil) (fun _ _ _ _ _ => (d_kn k_is_word (hr.mono (by omega)) rfl (da_cons (d_var 1 (pv 1)) da_nil)))) da_nil)))) (dss_one (ds_ret d_bl)) dss_nil)
  (dss_one (ds_ret (d_cmp (op_eqA hr.units) g_eq (d_callTy call_list_of g_list rfl (B.get "list") (by decide +kernel) (da_cons (d_var 0 (pv 0)) da_nil)) (d_srtS rfl rfl (B.get "sorted") rfl (B.get "set") (d_var 0 (pv 0))) (nomark _))))))), ?_, ?_⟩
  · intro ws s hw
    have hl := words_len hw
    have e0 : startD 2 [desD ws] = [some (.tup (ws.map strD)), none] := rfl
    rw [fBody_e]
    simp only [List.length_cons, List.length_nil, Nat.zero_add, Nat.reduceAdd, e0]
    have hc : ∀ (δ : Fr), 1 < δ.length → compL (gtName 1) tTrue (fCall 1 gw (fCons (fVar 1) fNil)) (ws.map strD) δ s = some (List.replicate (ws.map strD).length (.bl true), s) := fun δ hl => compL_true _ fun d hd => by
      obtain ⟨x, hx, rfl⟩ := List.mem_map.mp hd
      refine ⟨_, rfl, ?_⟩
      have : gw [.str (Str.ofString x)] s = some (.bl true, s) := pw x s (hw.subset hx)
      simp [hl, this]
    have h3 : ws.length ≤ 10000000 := by omega
    have h4 : ws.length < 64 := by omega
    have h5 := kSrtS_s (s := s) (txts_strs ws) (by simpa using h4)
    have h6 : ((ws.map Str.ofString).map D.str) = ws.map strD := by rw [List.map_map]; rfl
    rw [srt_words hw, h6] at h5
    have h7 := deep_strs (ws := ws) fun x hx => hw.subset hx
    simp [h3, hc, h5, h7]
  · intro d hd s
    obtain ⟨x1, x2, x3⟩ := px
    have w1 := pw "ifs" s (by decide)
    have w2 := pw "marks" s (by decide)
    have w3 := x1 s
    have w4 := x2 0 s
    have w5 := x3 s
    have t1 := kSrtS_s (s := s) (txts_strs ["marks", "ifs"]) (by decide)
    have t2 := kSrtS_s (s := s) (txts_strs ["ifs", "ifs"]) (by decide)
    have q1 : onceT (["marks", "ifs"].map Str.ofString) = [Str.ofString "ifs", Str.ofString "marks"] := by decide +kernel
    have q2 : onceT (["ifs", "ifs"].map Str.ofString) = [Str.ofString "ifs"] := by decide +kernel
    have r1 : srtT (["marks", "ifs"].map Str.ofString) = ["ifs", "marks"].map Str.ofString := (srtT_of (by rw [q1]; exact List.Perm.refl _) (by decide +kernel)).symm
    have r2 : srtT (["ifs", "ifs"].map Str.ofString) = ["ifs"].map Str.ofString := (srtT_of (by rw [q2]; exact List.Perm.refl _) (by decide +kernel)).symm
    have n1 : deepD (.lst [strD "marks", strD "ifs"]) (.lst [strD "ifs", strD "marks"]) = some false := by decide +kernel
    have n2 : deepD (.lst [strD "ifs", strD "ifs"]) (.lst [strD "ifs"]) = some false := by decide +kernel
    rw [r1] at t1
    rw [r2] at t2
    simp only [strD, List.map_cons, List.map_nil] at w1 w2 w3 w4 w5 t1 t2 n1 n2
    simp only [badDs, List.mem_cons, List.mem_nil_iff, or_false] at hd
    rcases hd with rfl | rfl | rfl | rfl | rfl | rfl | rfl | rfl <;> simp [strD, compL, w1, w2, w3, w4, w5, t1, t2, n1, n2]
theorem ok_check_design {f CD : Addr} {fd : FuncData} (F : Fun K "check_design" "check_design" s_check_design f fd) (hm : mg "check_design" = some (.ref f)) (B : Bi mg) (EB : ExA K mg "BadDesign" CD) {gw : FD} (k_is_design : Kn P w K mg base "is_design" 1 2 gw) (pw : P_is_design gw) (px : P_is_designX gw) :
    ∃ g, KnX P w K mg base "check_design" 1 3 g ∧ P_cdX CD g := by
  refine ⟨_, (knx_of (k := 2) F hm sc_check_design (F.binds (ps := ["value"]) fun _ _ _ _ _ _ us hl => match us, hl with | [_], _ => rfl) fun cdv A outer s H E hr => (xs_one (x_if (dt_not (dt_tru (d_kn k_is_design (hr.mono (by omega)) rfl (da_cons (d_var 0 (pv 0)) da_nil)))) (xs_one (x_raise rfl (takes_of rfl rfl rfl rfl) (fun _ _ _ _ h => h) (pmk_own PySem.F.excBase_ValueError EB.q EB.g EB.k (raises_own EB.s EB.t) rfl))) xs_nil))), ?_, ?_⟩
  · intro ws s hw
    have h := pw ws s hw
    have e0 : startD 1 [.tup (ws.map strD)] = [some (desD ws)] := rfl
    rw [xBody_e]
    simp only [List.length_cons, List.length_nil, Nat.zero_add, Nat.reduceAdd, e0]
    simp [h]
  · intro d hd s
    have h := px d hd s
    have e0 : startD 1 [d] = [some d] := rfl
    rw [xBody_e]
    simp only [List.length_cons, List.length_nil, Nat.zero_add, Nat.reduceAdd, e0]
    simp [h]

end
end Fw

set_option Elab.async false
set_option linter.all false
set_option maxRecDepth 100000
set_option maxHeartbeats 4000000
namespace Fw
open PySem PySem.Spec PyProof.Rows L2
section
variable {P : Program} {w : World} {K : PySem.W.Frag} {mg : Str → Option Value} {base : Heap}
/-- of one design -/
def P_R1 (CD : Addr) (g : FDX) : Prop := ∀ d ∈ badDs, ∀ s, g [d] s = some (.ex CD none, s)
/-- of two designs -/
def P_R2 (CD : Addr) (g : FDX) : Prop := (∀ d ∈ badDs, ∀ e s, g [d, e] s = some (.ex CD none, s)) ∧ ∀ (ws : List String) (d : D) (s : S), ws.Sublist wordsL → d ∈ badDs → g [.tup (ws.map strD), d] s = some (.ex CD none, s)
/-- of a design and a program -/
def P_DP (CD CB : Addr) (BP : D → D → Prop) (g : FDX) : Prop := (∀ d ∈ badDs, ∀ e s, g [d, e] s = some (.ex CD none, s)) ∧ ∀ (ws : List String) (p part : D) (s : S), ws.Sublist wordsL → BP p part → g [.tup (ws.map strD), p] s = some (.ex CB (some [(partF, part)]), s)
def P_DP3 (CD CB : Addr) (BP : D → D → Prop) (g : FDX) : Prop := (∀ d ∈ badDs, ∀ e e2 s, g [d, e, e2] s = some (.ex CD none, s)) ∧ ∀ (ws : List String) (p part e2 : D) (s : S), ws.Sublist wordsL → BP p part → g [.tup (ws.map strD), p, e2] s = some (.ex CB (some [(partF, part)]), s)
def P_DP4 (CD CB : Addr) (BP : D → D → Prop) (g : FDX) : Prop := (∀ d ∈ badDs, ∀ e e2 e3 s, g [d, e, e2, e3] s = some (.ex CD none, s)) ∧ ∀ (ws : List String) (p part e2 e3 : D) (s : S), ws.Sublist wordsL → BP p part → g [.tup (ws.map strD), p, e2, e3] s = some (.ex CB (some [(partF, part)]), s)
def P_strX (CD : Addr) (g : FDX) : Prop := (∀ d ∈ badDs, ∀ s, g [d] s = some (.ex CD none, s)) ∧ ∀ (ws : List String) (s : S), ws.Sublist wordsL → g [.tup (ws.map strD)] s = some (.ok (.tup ((strengthsM ws).map strD)), s)
def P_is_strength (g : FD) : Prop := ∀ (ws : List String) (x : String) (s : S), g [.tup (ws.map strD), strD x] s = some (.bl (isStr ws x), s)
theorem okX_lots_in {f CD : Addr} {fd : FuncData} (F : Fun K "lots_in" "lots_in" s_lots_in f fd) (hm : mg "lots_in" = some (.ref f)) (B : Bi mg) {g0 : FDX} {lv : Nat} (k_check_design : KnX P w K mg base "check_design" 1 lv g0) (p0 : P_cdX CD g0) :
    ∃ g, KnX P w K mg base "lots_in" 1 (lv + 1) g ∧ P_R1 CD g := by
  refine ⟨_, (knx_of (k := lv) F hm sc_lots_in (F.binds (ps := ["design"]) fun _ _ _ _ _ _ us hl => match us, hl with | [_], _ => rfl) fun cdv A outer s H E hr => (xs_cons (x_expr (x_kn k_check_design (hr.mono (by omega)) (takes_of rfl rfl rfl rfl) (fun _ _ _ _ h => h) rfl (xa_cons (xe_of (d_var 0 (pv 0))) xa_nil)))
  xs_stop)), ?_⟩
  · intro d hd s
    have h := p0.2 d hd s
    have e0 : startD 1 [d] = [some d] := rfl
    rw [xBody_e]
    simp only [List.length_cons, List.length_nil, Nat.zero_add, Nat.reduceAdd, e0]
    simp [h]
theorem okX_is_sound {f CD : Addr} {fd : FuncData} (F : Fun K "is_sound" "is_sound" s_is_sound f fd) (hm : mg "is_sound" = some (.ref f)) (B : Bi mg) {g0 : FDX} {lv : Nat} (k_lots_in : KnX P w K mg base "lots_in" 1 lv g0) (p0 : P_R1 CD g0) :
    ∃ g, KnX P w K mg base "is_sound" 1 (lv + 1) g ∧ P_R1 CD g := by
  refine ⟨_, (knx_of (k := lv) F hm sc_is_sound (F.binds (ps := ["design"]) fun _ _ _ _ _ _ us hl => match us, hl with | [_], _ => rfl) fun cdv A outer s H E hr => (xs_one (x_ret (x_cmpL (op_eqA hr.units) (x_kn k_lots_in (hr.mono (by omega)) (takes_of rfl rfl rfl rfl) (fun _ _ _ _ h => h) rfl (xa_cons (xe_of (d_var 0 (pv 0))) xa_nil)) (nomark _))))), ?_⟩
  · intro d hd s
    have h := p0 d hd s
    have e0 : startD 1 [d] = [some d] := rfl
    rw [xBody_e]
    simp only [List.length_cons, List.length_nil, Nat.zero_add, Nat.reduceAdd, e0]
    simp [h]
theorem okX_breaker {f CD : Addr} {fd : FuncData} (F : Fun K "breaker" "breaker" s_breaker f fd) (hm : mg "breaker" = some (.ref f)) (B : Bi mg) {g0 : FDX} {lv : Nat} (k_check_design : KnX P w K mg base "check_design" 1 lv g0) (p0 : P_cdX CD g0) :
    ∃ g, KnX P w K mg base "breaker" 1 (lv + 1) g ∧ P_R1 CD g := by
  refine ⟨_, (knx_of (k := lv) F hm sc_breaker (F.binds (ps := ["design"]) fun _ _ _ _ _ _ us hl => match us, hl with | [_], _ => rfl) fun cdv A outer s H E hr => (xs_cons (x_expr (x_kn k_check_design (hr.mono (by omega)) (takes_of rfl rfl rfl rfl) (fun _ _ _ _ h => h) rfl (xa_cons (xe_of (d_var 0 (pv 0))) xa_nil)))
  xs_stop)), ?_⟩
  · intro d hd s
    have h := p0.2 d hd s
    have e0 : startD 3 [d] = [some d, none, none] := rfl
    rw [xBody_e]
    simp only [List.length_cons, List.length_nil, Nat.zero_add, Nat.reduceAdd, e0]
    simp [h]
theorem okX_greatest_sound {f CD : Addr} {fd : FuncData} (F : Fun K "greatest_sound" "greatest_sound" s_greatest_sound f fd) (hm : mg "greatest_sound" = some (.ref f)) (B : Bi mg) {g0 : FDX} {lv : Nat} (k_is_sound : KnX P w K mg base "is_sound" 1 lv g0) (p0 : P_R1 CD g0) :
    ∃ g, KnX P w K mg base "greatest_sound" 1 (lv + 1) g ∧ P_R1 CD g := by
  refine ⟨_, (knx_of (k := lv) F hm sc_greatest_sound (F.binds (ps := ["design"]) fun _ _ _ _ _ _ us hl => match us, hl with | [_], _ => rfl) fun cdv A outer s H E hr => (xs_cons (x_ifNL (x_kn k_is_sound (hr.mono (by omega)) (takes_of rfl rfl rfl rfl) (fun _ _ _ _ h => h) rfl (xa_cons (xe_of (d_var 0 (pv 0))) xa_nil)))
  xs_stop)), ?_⟩
  · intro d hd s
    have h := p0 d hd s
    have e0 : startD 2 [d] = [some d, none] := rfl
    rw [xBody_e]
    simp only [List.length_cons, List.length_nil, Nat.zero_add, Nat.reduceAdd, e0]
    simp [h]
theorem okX_fewest_drops {f CD : Addr} {fd : FuncData} (F : Fun K "fewest_drops" "fewest_drops" s_fewest_drops f fd) (hm : mg "fewest_drops" = some (.ref f)) (B : Bi mg) {g0 : FDX} {lv : Nat} (k_lots_in : KnX P w K mg base "lots_in" 1 lv g0) (p0 : P_R1 CD g0) :
    ∃ g, KnX P w K mg base "fewest_drops" 1 (lv + 1) g ∧ P_R1 CD g := by
  refine ⟨_, (knx_of (k := lv) F hm sc_fewest_drops (F.binds (ps := ["design"]) fun _ _ _ _ _ _ us hl => match us, hl with | [_], _ => rfl) fun cdv A outer s H E hr => (xs_cons (x_asg (x_kn k_lots_in (hr.mono (by omega)) (takes_of rfl rfl rfl rfl) (fun _ _ _ _ h => h) rfl (xa_cons (xe_of (d_var 0 (pv 0))) xa_nil)) (pg_name (i := 1) sc_fewest_drops.nd rfl (Or.inl rfl)) (gt_name (i := 1) (vs := [1]) (by decide)))
  xs_stop)), ?_⟩
  · intro d hd s
    have h := p0 d hd s
    have e0 : startD 6 [d] = [some d, none, none, none, none, none] := rfl
    rw [xBody_e]
    simp only [List.length_cons, List.length_nil, Nat.zero_add, Nat.reduceAdd, e0]
    simp [h]
theorem okX_fault {f CD CB : Addr} {BP : D → D → Prop} {fd : FuncData} (F : Fun K "fault" "fault" s_fault f fd) (hm : mg "fault" = some (.ref f)) (B : Bi mg) {g0 : FDX} {g1 : FDX} {lv : Nat} (k_check_design : KnX P w K mg base "check_design" 1 lv g0) (p0 : P_cdX CD g0) (k_check_program : KnX P w K mg base "check_program" 1 lv g1) (p1 : P_cpX CB BP g1) :
    ∃ g, KnX P w K mg base "fault" 2 (lv + 1) g ∧ P_DP CD CB BP g := by
  refine ⟨_, (knx_of (k := lv) F hm sc_fault (F.binds (ps := ["design", "program"]) fun _ _ _ _ _ _ us hl => match us, hl with | [_, _], _ => rfl) fun cdv A outer s H E hr => (xs_cons (x_expr (x_kn k_check_design (hr.mono (by omega)) (takes_of rfl rfl rfl rfl) (fun _ _ _ _ h => h) rfl (xa_cons (xe_of (d_var 0 (pv 0))) xa_nil)))
  (xs_cons (x_expr (x_kn k_check_program (hr.mono (by omega)) (takes_of rfl rfl rfl rfl) (fun _ _ _ _ h => h) rfl (xa_cons (xe_of (d_var 1 (pv 1))) xa_nil)))
  xs_stop))), ?_, ?_⟩
  · intro d hd e s
    have h := p0.2 d hd s
    have e0 : startD 4 [d, e] = [some d, some e, none, none] := rfl
    rw [xBody_e]
    simp only [List.length_cons, List.length_nil, Nat.zero_add, Nat.reduceAdd, e0]
    simp [h]
  · intro ws p part s hw hp
    have h := p0.1 ws s hw
    have h2 := p1 p part s hp
    have e0 : startD 4 [.tup (ws.map strD), p] = [some (.tup (ws.map strD)), some p, none, none] := rfl
    rw [xBody_e]
    simp only [List.length_cons, List.length_nil, Nat.zero_add, Nat.reduceAdd, e0]
    simp [h, h2]
theorem okX_lets_by {f CD CB : Addr} {BP : D → D → Prop} {fd : FuncData} (F : Fun K "lets_by" "lets_by" s_lets_by f fd) (hm : mg "lets_by" = some (.ref f)) (B : Bi mg) {g0 : FDX} {lv : Nat} (k_fault : KnX P w K mg base "fault" 2 lv g0) (p0 : P_DP CD CB BP g0) :
    ∃ g, KnX P w K mg base "lets_by" 2 (lv + 1) g ∧ P_DP CD CB BP g := by
  refine ⟨_, (knx_of (k := lv) F hm sc_lets_by (F.binds (ps := ["design", "program"]) fun _ _ _ _ _ _ us hl => match us, hl with | [_, _], _ => rfl) fun cdv A outer s H E hr => (xs_one (x_ret (x_cmpL op_isA (x_kn k_fault (hr.mono (by omega)) (takes_of rfl rfl rfl rfl) (fun _ _ _ _ h => h) rfl (xa_cons (xe_of (d_var 0 (pv 0))) (xa_cons (xe_of (d_var 1 (pv 1))) xa_nil))) (nomark _))))), ?_, ?_⟩
  · intro d hd e s
    have h := p0.1 d hd e s
    have e0 : startD 2 [d, e] = [some d, some e] := rfl
    rw [xBody_e]
    simp only [List.length_cons, List.length_nil, Nat.zero_add, Nat.reduceAdd, e0]
    simp [h]
  · intro ws p part s hw hp
    have h := p0.2 ws p part s hw hp
    have e0 : startD 2 [.tup (ws.map strD), p] = [some (.tup (ws.map strD)), some p] := rfl
    rw [xBody_e]
    simp only [List.length_cons, List.length_nil, Nat.zero_add, Nat.reduceAdd, e0]
    simp [h]
theorem okX_alike {f CD CB : Addr} {BP : D → D → Prop} {fd : FuncData} (F : Fun K "alike" "alike" s_alike f fd) (hm : mg "alike" = some (.ref f)) (B : Bi mg) {g0 : FDX} {g1 : FDX} {lv : Nat} (k_check_design : KnX P w K mg base "check_design" 1 lv g0) (p0 : P_cdX CD g0) (k_check_program : KnX P w K mg base "check_program" 1 lv g1) (p1 : P_cpX CB BP g1) :
    ∃ g, KnX P w K mg base "alike" 4 (lv + 1) g ∧ P_DP4 CD CB BP g := by
  refine ⟨_, (knx_of (k := lv) F hm sc_alike (F.binds (ps := ["design", "program", "one", "other"]) fun _ _ _ _ _ _ us hl => match us, hl with | [_, _, _, _], _ => rfl) fun cdv A outer s H E hr => (xs_cons (x_expr (x_kn k_check_design (hr.mono (by omega)) (takes_of rfl rfl rfl rfl) (fun _ _ _ _ h => h) rfl (xa_cons (xe_of (d_var 0 (pv 0))) xa_nil)))
  (xs_cons (x_expr (x_kn k_check_program (hr.mono (by omega)) (takes_of rfl rfl rfl rfl) (fun _ _ _ _ h => h) rfl (xa_cons (xe_of (d_var 1 (pv 1))) xa_nil)))
  xs_stop))), ?_, ?_⟩
  · intro d hd e e2 e3 s
    have h := p0.2 d hd s
    have e0 : startD 5 [d, e, e2, e3] = [some d, some e, some e2, some e3, none] := rfl
    rw [xBody_e]
    simp only [List.length_cons, List.length_nil, Nat.zero_add, Nat.reduceAdd, e0]
    simp [h]
  · intro ws p part e2 e3 s hw hp
    have h := p0.1 ws s hw
    have h2 := p1 p part s hp
    have e0 : startD 5 [.tup (ws.map strD), p, e2, e3] = [some (.tup (ws.map strD)), some p, some e2, some e3, none] := rfl
    rw [xBody_e]
    simp only [List.length_cons, List.length_nil, Nat.zero_add, Nat.reduceAdd, e0]
    simp [h, h2]
theorem okX_leak {f CD CB : Addr} {BP : D → D → Prop} {fd : FuncData} (F : Fun K "leak" "leak" s_leak f fd) (hm : mg "leak" = some (.ref f)) (B : Bi mg) {g0 : FDX} {g1 : FDX} {lv : Nat} (k_check_design : KnX P w K mg base "check_design" 1 lv g0) (p0 : P_cdX CD g0) (k_check_program : KnX P w K mg base "check_program" 1 lv g1) (p1 : P_cpX CB BP g1) :
    ∃ g, KnX P w K mg base "leak" 3 (lv + 1) g ∧ P_DP3 CD CB BP g := by
  refine ⟨_, (knx_of (k := lv) F hm sc_leak (F.binds (ps := ["design", "program", "start"]) fun _ _ _ _ _ _ us hl => match us, hl with | [_, _, _], _ => rfl) fun cdv A outer s H E hr => (xs_cons (x_expr (x_kn k_check_design (hr.mono (by omega)) (takes_of rfl rfl rfl rfl) (fun _ _ _ _ h => h) rfl (xa_cons (xe_of (d_var 0 (pv 0))) xa_nil)))
  (xs_cons (x_expr (x_kn k_check_program (hr.mono (by omega)) (takes_of rfl rfl rfl rfl) (fun _ _ _ _ h => h) rfl (xa_cons (xe_of (d_var 1 (pv 1))) xa_nil)))
  xs_stop))), ?_, ?_⟩
  · intro d hd e e2 s
    have h := p0.2 d hd s
    have e0 : startD 6 [d, e, e2] = [some d, some e, some e2, none, none, none] := rfl
    rw [xBody_e]
    simp only [List.length_cons, List.length_nil, Nat.zero_add, Nat.reduceAdd, e0]
    simp [h]
  · intro ws p part e2 s hw hp
    have h := p0.1 ws s hw
    have h2 := p1 p part s hp
    have e0 : startD 6 [.tup (ws.map strD), p, e2] = [some (.tup (ws.map strD)), some p, some e2, none, none, none] := rfl
    rw [xBody_e]
    simp only [List.length_cons, List.length_nil, Nat.zero_add, Nat.reduceAdd, e0]
    simp [h, h2]
theorem okX_run {f CB : Addr} {BP : D → D → Prop} {fd : FuncData} (F : Fun K "run" "run" s_run f fd) (hm : mg "run" = some (.ref f)) (B : Bi mg) {g0 : FDX} {lv : Nat} (k_check_program : KnX P w K mg base "check_program" 1 lv g0) (p0 : P_cpX CB BP g0) :
    ∃ g, KnX P w K mg base "run" 2 (lv + 1) g ∧ ∀ (p part e : D) (s : S), BP p part → g [p, e] s = some (.ex CB (some [(partF, part)]), s) := by
  refine ⟨_, (knx_of (k := lv) F hm sc_run (F.binds (ps := ["program", "start"]) fun _ _ _ _ _ _ us hl => match us, hl with | [_, _], _ => rfl) fun cdv A outer s H E hr => (xs_cons (x_expr (x_kn k_check_program (hr.mono (by omega)) (takes_of rfl rfl rfl rfl) (fun _ _ _ _ h => h) rfl (xa_cons (xe_of (d_var 0 (pv 0))) xa_nil)))
  xs_stop)), ?_⟩
  · intro p part e s hp
    have h2 := p0 p part s hp
    have e0 : startD 2 [p, e] = [some p, some e] := rfl
    rw [xBody_e]
    simp only [List.length_cons, List.length_nil, Nat.zero_add, Nat.reduceAdd, e0]
    simp [h2]
theorem okX_write_program {f CB : Addr} {BP : D → D → Prop} {fd : FuncData} (F : Fun K "write_program" "write_program" s_write_program f fd) (hm : mg "write_program" = some (.ref f)) (B : Bi mg) {g0 : FDX} {lv : Nat} (k_check_program : KnX P w K mg base "check_program" 1 lv g0) (p0 : P_cpX CB BP g0) :
    ∃ g, KnX P w K mg base "write_program" 1 (lv + 1) g ∧ ∀ (p part : D) (s : S), BP p part → g [p] s = some (.ex CB (some [(partF, part)]), s) := by
  refine ⟨_, (knx_of (k := lv) F hm sc_write_program (F.binds (ps := ["program"]) fun _ _ _ _ _ _ us hl => match us, hl with | [_], _ => rfl) fun cdv A outer s H E hr => (xs_cons (x_expr (x_kn k_check_program (hr.mono (by omega)) (takes_of rfl rfl rfl rfl) (fun _ _ _ _ h => h) rfl (xa_cons (xe_of (d_var 0 (pv 0))) xa_nil)))
  xs_stop)), ?_⟩
  · intro p part s hp
    have h2 := p0 p part s hp
    have e0 : startD 3 [p] = [some p, none, none] := rfl
    rw [xBody_e]
    simp only [List.length_cons, List.length_nil, Nat.zero_add, Nat.reduceAdd, e0]
    simp [h2]
theorem ok_is_strength {f : Addr} {fd : FuncData} (F : Fun K "is_strength" "is_strength" s_is_strength f fd) (hm : mg "is_strength" = some (.ref f)) (B : Bi mg) (g_LOOKER : Gc K mg "LOOKER" (.tup (lookerL.map strD))) (g_UNDER_SECRETS : Gc K mg "UNDER_SECRETS" (.tup (underL.map strD))) (g_BRANCHES : Gc K mg "BRANCHES" (.tup (branchL.map strD))) :
    ∃ g, Kn P w K mg base "is_strength" 2 1 g ∧ P_is_strength g := by
  refine ⟨_, (kn_of (k := 0) F hm sc_is_strength (F.binds (ps := ["design", "word"]) fun _ _ _ _ _ _ us hl => match us, hl with | [_, _], _ => rfl) fun cdv A outer s H E hr => (dss_cons (ds_if (dt_cmp op_in_seq g_in (d_var 1 (pv 1)) (d_gc g_LOOKER rfl) (by with_unfolding_all rfl)) (dss_one (ds_ret d_bl)) dss_nil)
  (dss_one (ds_ret (d_or (d_cmp op_notIn_seq g_notIn (d_var 1 (pv 1)) (d_gc g_UNDER_SECRETS rfl) (by with_unfolding_all rfl)) (d_one (d_callB (cr_any rfl) g_any rfl (B.get "any") (by decide +kernel) (da_cons (d_lc (own := [("branch", 2)]) rfl sc_is_strength.nd (di_items (d_gc g_BRANCHES rfl)) (blkOk_by (N := ["design", "word", "branch"]) (sc := defScope s_is_strength) (by decide +kernel)) (gt_name (i := 2) (vs := [2]) (by decide)) (fun _ _ _ _ _ => (pg_name (i := 2) sc_is_strength.nd rfl (Or.inl rfl))) (fun _ _ _ _ _ => dts_nil) (fun _ _ _ _ _ => (d_cmp op_in_seq g_in (d_var 2 (pv 2)) (d_var 0 (pv 0)) (by with_unfolding_all rfl)))) da_nil)))))))), ?_⟩
  intro ws x s
  obtain ⟨fb, hf⟩ : ∃ fb : D → Bool, ∀ y, fb (.str (Str.ofString y)) = decide (y ∈ ws) := ⟨fun d => match d with | .str z => (ws.map strD).any fun y => eqF y (.str z) | _ => false, fun y => strs_any ws y⟩
  have hc : ∀ (δ : Fr), δ[0]? = some (some (.tup (ws.map strD))) → 2 < δ.length → compL (gtName 2) tTrue (f2 dIn (fVar 2) (fVar 0)) (branchL.map strD) δ s = some ((branchL.map strD).map fun d => .bl (fb d), s) := fun δ q1 hl => compL_map (fun d => .bl (fb d)) _ fun d hd => by
    obtain ⟨y, hy, rfl⟩ := List.mem_map.mp hd
    refine ⟨_, rfl, ?_⟩
    have := dIn_strs y ws s
    simp [hl, q1, hf, this]
  have he : ((branchL.map strD).map fb).any id = (decide ("ifs" ∈ ws) || decide ("whiles" ∈ ws)) := by
    simp [branchL, hf]
  have hb := blsD_map fb (branchL.map strD)
  have h1 := dIn_strs x lookerL s
  have h2 := dNotIn_strs x underL s
  have h3 : branchL.length ≤ 10000000 := by decide
  cases hx : decide (x ∈ lookerL) <;> cases hy : decide (x ∈ underL) <;> rw [hx] at h1 <;> rw [hy] at h2 <;> simp [h1, h2, h3, hc, hb, he, isStr, hx, hy, -List.map_map]
theorem okX_strengths {f CD : Addr} {fd : FuncData} (F : Fun K "strengths" "strengths" s_strengths f fd) (hm : mg "strengths" = some (.ref f)) (B : Bi mg) {g0 : FDX} {gs : FD} {lv : Nat} (hlv : 1 ≤ lv) (k_check_design : KnX P w K mg base "check_design" 1 lv g0) (p0 : P_cdX CD g0) (k_is_strength : Kn P w K mg base "is_strength" 2 1 gs) (ps : P_is_strength gs) :
    ∃ g, KnX P w K mg base "strengths" 1 (lv + 1) g ∧ P_strX CD g := by
  refine ⟨_, (knx_of (k := lv) F hm sc_strengths (F.binds (ps := ["design"]) fun _ _ _ _ _ _ us hl => match us, hl with | [_], _ => rfl) fun cdv A outer s H E hr => (xs_cons (x_expr (x_kn k_check_design (hr.mono (by omega)) (takes_of rfl rfl rfl rfl) (fun _ _ _ _ h => h) rfl (xa_cons (xe_of (d_var 0 (pv 0))) xa_nil)))
  (xs_of (dss_one (ds_ret (d_callTy call_tuple_ofZ g_tuple rfl (B.get "tuple") (by decide +kernel) (da_cons (d_lc (own := [("word", 1)]) rfl sc_strengths.nd (di_items (d_var 0 (pv 0))) (blkOk_by (N := ["design", "word"]) (sc := defScope s_strengths) (by decide +kernel)) (gt_name (i := 1) (vs := [1]) (by decide)) (fun _ _ _ _ _ => (pg_name (i := 1) sc_strengths.nd rfl (Or.inl rfl))) (fun _ _ _ _ _ => (dts_one (dt_tru (d_kn k_is_strength (hr.mono (by omega)) rfl (da_cons (d_var 0 (pv 0)) (da_cons (d_var 1 (pv 1)) da_nil)))))) (fun _ _ _ _ _ => (d_var 1 (pv 1)))) da_nil))))))), ?_, ?_⟩
  · intro d hd s
    have h := p0.2 d hd s
    have e0 : startD 2 [d] = [some d, none] := rfl
    rw [xBody_e]
    simp only [List.length_cons, List.length_nil, Nat.zero_add, Nat.reduceAdd, e0]
    simp [h]
  · intro ws s hw
    have hl := hw.length_le
    have hd := p0.1 ws s hw
    have e0 : startD 2 [.tup (ws.map strD)] = [some (.tup (ws.map strD)), none] := rfl
    rw [xBody_e]
    simp only [List.length_cons, List.length_nil, Nat.zero_add, Nat.reduceAdd, e0]
    have hc := compL_strs (i := 1) (δ := [some (.tup (ws.map strD)), none]) (s := s) (tt := fTru (fCall 2 gs (fCons (fVar 0) (fCons (fVar 1) fNil)))) (isStr ws) (by simp) ws fun x _ => by
      have := ps ws x s
      simp only [strD] at this
      simp [this]
    have h3 : ws.length ≤ 10000000 := Nat.le_trans hl (by decide)
    simp [hd, hc, h3, strengthsM]
theorem okX_lacking_strengths {f CD : Addr} {fd : FuncData} (F : Fun K "lacking_strengths" "lacking_strengths" s_lacking_strengths f fd) (hm : mg "lacking_strengths" = some (.ref f)) (B : Bi mg) {g0 : FDX} {lv : Nat} (k_strengths : KnX P w K mg base "strengths" 1 lv g0) (p0 : P_strX CD g0) :
    ∃ g, KnX P w K mg base "lacking_strengths" 2 (lv + 1) g ∧ P_R2 CD g := by
  refine ⟨_, (knx_of (k := lv) F hm sc_lacking_strengths (F.binds (ps := ["one", "other"]) fun _ _ _ _ _ _ us hl => match us, hl with | [_, _], _ => rfl) fun cdv A outer s H E hr => (xs_cons (x_asg (x_kn k_strengths (hr.mono (by omega)) (takes_of rfl rfl rfl rfl) (fun _ _ _ _ h => h) rfl (xa_cons (xe_of (d_var 0 (pv 0))) xa_nil)) (pg_name (i := 2) sc_lacking_strengths.nd rfl (Or.inr rfl)) (gt_name (i := 2) (vs := [2]) (by decide)))
  (xs_one (x_ret (x_lcL (own := [("word", 3)]) rfl sc_lacking_strengths.nd (x_kn k_strengths (hr.mono (by omega)) (takes_of rfl rfl rfl rfl) (fun _ _ _ _ h => h) rfl (xa_cons (xe_of (d_var 1 (pv 1))) xa_nil)) (blkOk_by (N := ["one", "other", "had", "word"]) (sc := defScope s_lacking_strengths) (by decide +kernel)) (fun _ _ _ _ _ => (pg_name (i := 3) sc_lacking_strengths.nd rfl (Or.inl rfl)))))))), ?_, ?_⟩
  · intro d hd e s
    have h := p0.1 d hd s
    have e0 : startD 4 [d, e] = [some d, some e, none, none] := rfl
    rw [xBody_e]
    simp only [List.length_cons, List.length_nil, Nat.zero_add, Nat.reduceAdd, e0]
    simp [h]
  · intro ws d s hw hd
    have h := p0.2 ws s hw
    have h2 := p0.1 d hd s
    have e0 : startD 4 [.tup (ws.map strD), d] = [some (.tup (ws.map strD)), some d, none, none] := rfl
    rw [xBody_e]
    simp only [List.length_cons, List.length_nil, Nat.zero_add, Nat.reduceAdd, e0]
    simp [h, h2]
theorem okX_lacking_sights {f CD : Addr} {fd : FuncData} (F : Fun K "lacking_sights" "lacking_sights" s_lacking_sights f fd) (hm : mg "lacking_sights" = some (.ref f)) (B : Bi mg) {g0 : FDX} {lv : Nat} (k_check_design : KnX P w K mg base "check_design" 1 lv g0) (p0 : P_cdX CD g0) :
    ∃ g, KnX P w K mg base "lacking_sights" 2 (lv + 1) g ∧ P_R2 CD g := by
  refine ⟨_, (knx_of (k := lv) F hm sc_lacking_sights (F.binds (ps := ["one", "other"]) fun _ _ _ _ _ _ us hl => match us, hl with | [_, _], _ => rfl) fun cdv A outer s H E hr => (xs_cons (x_expr (x_kn k_check_design (hr.mono (by omega)) (takes_of rfl rfl rfl rfl) (fun _ _ _ _ h => h) rfl (xa_cons (xe_of (d_var 0 (pv 0))) xa_nil)))
  (xs_cons (x_expr (x_kn k_check_design (hr.mono (by omega)) (takes_of rfl rfl rfl rfl) (fun _ _ _ _ h => h) rfl (xa_cons (xe_of (d_var 1 (pv 1))) xa_nil)))
  xs_stop))), ?_, ?_⟩
  · intro d hd e s
    have h := p0.2 d hd s
    have e0 : startD 3 [d, e] = [some d, some e, none] := rfl
    rw [xBody_e]
    simp only [List.length_cons, List.length_nil, Nat.zero_add, Nat.reduceAdd, e0]
    simp [h]
  · intro ws d s hw hd
    have h := p0.1 ws s hw
    have h2 := p0.2 d hd s
    have e0 : startD 3 [.tup (ws.map strD), d] = [some (.tup (ws.map strD)), some d, none] := rfl
    rw [xBody_e]
    simp only [List.length_cons, List.length_nil, Nat.zero_add, Nat.reduceAdd, e0]
    simp [h, h2]
theorem okX_lets_by_all {f CD : Addr} {fd : FuncData} (F : Fun K "lets_by_all" "lets_by_all" s_lets_by_all f fd) (hm : mg "lets_by_all" = some (.ref f)) (B : Bi mg) {g0 : FDX} {lv : Nat} (k_lacking_strengths : KnX P w K mg base "lacking_strengths" 2 lv g0) (p0 : P_R2 CD g0) :
    ∃ g, KnX P w K mg base "lets_by_all" 2 (lv + 1) g ∧ P_R2 CD g := by
  refine ⟨_, (knx_of (k := lv) F hm sc_lets_by_all (F.binds (ps := ["one", "other"]) fun _ _ _ _ _ _ us hl => match us, hl with | [_, _], _ => rfl) fun cdv A outer s H E hr => (xs_one (x_ret (x_cmpL (op_eqA hr.units) (x_kn k_lacking_strengths (hr.mono (by omega)) (takes_of rfl rfl rfl rfl) (fun _ _ _ _ h => h) rfl (xa_cons (xe_of (d_var 0 (pv 0))) (xa_cons (xe_of (d_var 1 (pv 1))) xa_nil))) (nomark _))))), ?_, ?_⟩
  · intro d hd e s
    have h := p0.1 d hd e s
    have e0 : startD 2 [d, e] = [some d, some e] := rfl
    rw [xBody_e]
    simp only [List.length_cons, List.length_nil, Nat.zero_add, Nat.reduceAdd, e0]
    simp [h]
  · intro ws d s hw hd
    have h := p0.2 ws d s hw hd
    have e0 : startD 2 [.tup (ws.map strD), d] = [some (.tup (ws.map strD)), some d] := rfl
    rw [xBody_e]
    simp only [List.length_cons, List.length_nil, Nat.zero_add, Nat.reduceAdd, e0]
    simp [h]
theorem okX_parting {f CD : Addr} {fd : FuncData} (F : Fun K "parting" "parting" s_parting f fd) (hm : mg "parting" = some (.ref f)) (B : Bi mg) {g0 : FDX} {lv : Nat} (k_lacking_strengths : KnX P w K mg base "lacking_strengths" 2 lv g0) (p0 : P_R2 CD g0) :
    ∃ g, KnX P w K mg base "parting" 2 (lv + 1) g ∧ P_R2 CD g := by
  refine ⟨_, (knx_of (k := lv) F hm sc_parting (F.binds (ps := ["one", "other"]) fun _ _ _ _ _ _ us hl => match us, hl with | [_, _], _ => rfl) fun cdv A outer s H E hr => (xs_cons (x_asg (x_kn k_lacking_strengths (hr.mono (by omega)) (takes_of rfl rfl rfl rfl) (fun _ _ _ _ h => h) rfl (xa_cons (xe_of (d_var 0 (pv 0))) (xa_cons (xe_of (d_var 1 (pv 1))) xa_nil))) (pg_name (i := 2) sc_parting.nd rfl (Or.inl rfl)) (gt_name (i := 2) (vs := [2]) (by decide)))
  xs_stop)), ?_, ?_⟩
  · intro d hd e s
    have h := p0.1 d hd e s
    have e0 : startD 3 [d, e] = [some d, some e, none] := rfl
    rw [xBody_e]
    simp only [List.length_cons, List.length_nil, Nat.zero_add, Nat.reduceAdd, e0]
    simp [h]
  · intro ws d s hw hd
    have h := p0.2 ws d s hw hd
    have e0 : startD 3 [.tup (ws.map strD), d] = [some (.tup (ws.map strD)), some d, none] := rfl
    rw [xBody_e]
    simp only [List.length_cons, List.length_nil, Nat.zero_add, Nat.reduceAdd, e0]
    simp [h]
theorem okX_sees_all {f CD : Addr} {fd : FuncData} (F : Fun K "sees_all" "sees_all" s_sees_all f fd) (hm : mg "sees_all" = some (.ref f)) (B : Bi mg) {g0 : FDX} {lv : Nat} (k_lacking_sights : KnX P w K mg base "lacking_sights" 2 lv g0) (p0 : P_R2 CD g0) :
    ∃ g, KnX P w K mg base "sees_all" 2 (lv + 1) g ∧ P_R2 CD g := by
  refine ⟨_, (knx_of (k := lv) F hm sc_sees_all (F.binds (ps := ["one", "other"]) fun _ _ _ _ _ _ us hl => match us, hl with | [_, _], _ => rfl) fun cdv A outer s H E hr => (xs_one (x_ret (x_cmpL (op_eqA hr.units) (x_kn k_lacking_sights (hr.mono (by omega)) (takes_of rfl rfl rfl rfl) (fun _ _ _ _ h => h) rfl (xa_cons (xe_of (d_var 0 (pv 0))) (xa_cons (xe_of (d_var 1 (pv 1))) xa_nil))) (nomark _))))), ?_, ?_⟩
  · intro d hd e s
    have h := p0.1 d hd e s
    have e0 : startD 2 [d, e] = [some d, some e] := rfl
    rw [xBody_e]
    simp only [List.length_cons, List.length_nil, Nat.zero_add, Nat.reduceAdd, e0]
    simp [h]
  · intro ws d s hw hd
    have h := p0.2 ws d s hw hd
    have e0 : startD 2 [.tup (ws.map strD), d] = [some (.tup (ws.map strD)), some d] := rfl
    rw [xBody_e]
    simp only [List.length_cons, List.length_nil, Nat.zero_add, Nat.reduceAdd, e0]
    simp [h]
theorem okX_unseen {f CD : Addr} {fd : FuncData} (F : Fun K "unseen" "unseen" s_unseen f fd) (hm : mg "unseen" = some (.ref f)) (B : Bi mg) {g0 : FDX} {lv : Nat} (k_lacking_sights : KnX P w K mg base "lacking_sights" 2 lv g0) (p0 : P_R2 CD g0) :
    ∃ g, KnX P w K mg base "unseen" 2 (lv + 1) g ∧ P_R2 CD g := by
  refine ⟨_, (knx_of (k := lv) F hm sc_unseen (F.binds (ps := ["one", "other"]) fun _ _ _ _ _ _ us hl => match us, hl with | [_, _], _ => rfl) fun cdv A outer s H E hr => (xs_cons (x_asg (x_kn k_lacking_sights (hr.mono (by omega)) (takes_of rfl rfl rfl rfl) (fun _ _ _ _ h => h) rfl (xa_cons (xe_of (d_var 0 (pv 0))) (xa_cons (xe_of (d_var 1 (pv 1))) xa_nil))) (pg_name (i := 2) sc_unseen.nd rfl (Or.inl rfl)) (gt_name (i := 2) (vs := [2]) (by decide)))
  xs_stop)), ?_, ?_⟩
  · intro d hd e s
    have h := p0.1 d hd e s
    have e0 : startD 3 [d, e] = [some d, some e, none] := rfl
    rw [xBody_e]
    simp only [List.length_cons, List.length_nil, Nat.zero_add, Nat.reduceAdd, e0]
    simp [h]
  · intro ws d s hw hd
    have h := p0.2 ws d s hw hd
    have e0 : startD 3 [.tup (ws.map strD), d] = [some (.tup (ws.map strD)), some d, none] := rfl
    rw [xBody_e]
    simp only [List.length_cons, List.length_nil, Nat.zero_add, Nat.reduceAdd, e0]
    simp [h]

end
end Fw

set_option Elab.async false
set_option linter.all false
set_option maxRecDepth 100000
set_option maxHeartbeats 4000000
/-! Lm3: a helper that makes a tuple of an exception's field. -/
namespace Fw
open PySem PySem.Spec PyProof.Rows L2 LamX NdefX
open PySem.W (kdv_obj kdv_fn kdv_tup)
section
variable {X : Cx} {T : List (Addr × Str)} {e a b c o v : Expr} {es rest : List Expr} {fe fo : FE} {tt : FT} {F Fa Fb : FT1} {Fs : FTs} {Ft Fu : FTb} {pos p : Pos}
theorem np_wcallT {n : Nat} {lams : Nat → LmW} {fx : Nat → FX} {hd : VK → XK} {dv : V} {res : Addr → FsD → Option D} {dflt : D} {x a : Str} {g : Addr} {k : Nat} {pg : Arguments} {bg : List Stmt} {sg : Scope} {dV kV doc pm cdv ct oc : Value} {an od : Option Addr} {osl : Array (Option Value)} {Ng : List Str}
    (hg : Gl X x) (hm : X.mg x = some (.ref g)) (hk : PySem.W.keepIn X.K (.ref g) = true)
    (lk : X.K.lookup g = some ⟨oc, od, .func (PySem.W.fnOf x x pg bg sg dV kV doc pm an cdv ct), osl⟩) (hcg : PySem.W.codeIn X.K cdv x = true) (hb : L2.Binds X.K (PySem.W.fnOf x x pg bg sg dV kV doc pm an cdv ct) [a] []) (Sg : FnScope Ng [a] sg) (hNg : Ng[0]? = some a) (hva : Vis sg a)
    (hG : GivesTo X Ng x sg g cdv bg a (lmQ X) (TTres hd dv)) (hr : Room (k + 2) X.A) (LS : ∀ i, i < n → LmS X.N X.env.scope (lams i).scope) (LB : ∀ i, i < n → LmB (lams i))
    (hbody : ∀ i, i < n → ∀ (A : Around) (outer : List Env) (s : Shared) (H : Hp) (E : XK) (f c' : Addr), Room k (A.deeper (lamEnv X (lams i).scope s.heap.objs.size f c')) → PE (lamCx X A outer s H E (lams i).scope f c') (lams i).body (tDE X.K E (fx i)))
    (hres : ∀ (C : Addr) (fs : FsD) (r : D) (h : Addr → Bool) (s : S) (H' : Hp) (dx : Option Addr) (Q : VK), res C fs = some r → SI X.K h s H' → excR X.K h H' fs dx → (∀ v H3, Step X.K h s H' s H3 → Rep X.K (hide h H3) v r → Q v H3) → hd Q (.ref C) dx H') (hdv : ∀ H, Rep X.K H dv dflt)
    (he : PE X e (tD X.K fe)) (hs : starEach [e] X.env = (false, eval e X.env) :: starEach [] X.env := by rfl)
    (hdb : (x == ("__debug__" : Str)) = false := by decide) (hda : (a == ("__debug__" : Str)) = false := by decide) (hcd : (a == ("__classdict__" : Str)) = false := by decide) :
    PE X (.Call (.Name x p) [e] [] pos) (tNP X.K T (PWr X fe n lams fx res dflt)) := by
  refine ⟨fun pins s σ H Q I ⟨h, st, δ, Post, er, si, t, ⟨f, st1, i, u, d, st2, q1, hi, hu, isl, q2, hp⟩, w⟩ => ?_⟩
  obtain ⟨dVl, docl, pml, ctvl, c', more, rfl, hc, hdf⟩ := isl
  have ha : PA X [e] (tDA X.K (fCons fe fNil)) := da_cons he da_nil hs
  refine wpAny_Call_Name_kw (ld_glob I hg hm ?_ hdb)
  refine PySem.W.callWith_K (h₀ := X.base) I.ok.mod.kin hk (thn (ha.run pos pins s σ H (fun vs H1 => vs = [.ref f] ∧ Step X.K h st H st1 H1) I ⟨h, st, δ, [.ref f], st1, er, si, by simp [fCons, fNil, q1], fun vs H1 st1' rs => ?_⟩) fun us s1 ⟨vs, H1, I1, r1, evs, g1⟩ => ⟨I1.kIn, ?_⟩) hs (by rfl)
  · obtain ⟨v, rfl, r⟩ := reps1 rs
    cases rep_ref r
    exact ⟨rfl, st1'⟩
  subst evs
  have rob := g1.si.ob f _ hu
  have unh : ∀ {b : Addr} {o : HO}, hide h H1 b = some o → H1 b = some o := fun e => hide_ext _ _ _ _ e
  have hcode := unh (rob.2 _ hc).2
  have hdvs : ((lams i).params.defaults.length = 0 ∧ dVl = .none) ∨ ((lams i).params.defaults.length = 1 ∧ ∃ (dt : Addr) (v : Value), dVl = .ref dt ∧ H1 dt = some (.frz (kdv_tup [v]) trvO)) := by
    rcases hdf with z | ⟨z, dt, v, e1, e2⟩
    · exact .inl z
    · exact .inr ⟨z, dt, v, e1, unh (rob.2 _ e2).2⟩
  obtain ⟨u0, us', rfl⟩ : ∃ u0 us', us = u0 :: us' := by cases r1; exact ⟨_, _, rfl⟩
  have hu0 : u0 = .ref f := by cases r1 with | cons a _ => exact a
  have hus : us' = [] := by cases r1 with | cons _ b => cases b; rfl
  subst hu0 hus
  have gN := GrowN.step si t g1
  have tt : TTres hd dv (fun E H' Q' => tDE X.K E (fx i) σ H' Q') H1 Q := by
    obtain ⟨⟨r, s3⟩, q3, q2⟩ := bind_some q2
    refine ⟨h, st1, δ, r, s3, er.mono gN.ext, g1.si, q3, fun H2 st2 => ?_⟩
    have gn : ∀ {s' : S}, Step X.K h st1 H1 s' H2 → GrowN X.K T h st H h s' H2 := fun st => gN.trans (GrowN.step g1.si gN.tab st)
    cases r with
    | ok d0 =>
      cases q2
      exact fun v _ => w _ _ h H2 hp (gn st2) dv (hdv _)
    | ex C fs =>
      obtain ⟨r, q4, q5⟩ := map_some q2
      cases q5
      exact fun dx rx => hres C fs _ h s3 H2 dx Q q4 st2.si rx fun v H3 st3 rv => by
          have g := gN.trans (GrowN.step g1.si gN.tab (st2.trans st3))
          exact w _ _ h H3 hp g v rv
  have rc : codeAny (model X.prog X.w) X.A (.call (.ref g) ⟨[.ref f], []⟩) (CR C8.CX0 X.stack X.prog X.w H1 s1 Q C8.E0) s1 := by
    refine run_ofS (N := Ng) (ps := [a]) (us := [.ref f]) (vs := [.ref f]) lk hcg Sg hr I1.env0 (hb s1 [.ref f] I1.kIn rfl) (.cons rfl .nil) rfl fun hr' => ?_
    obtain ⟨t', ht', hq'⟩ := hG f c' s1 H1 Q (fun E H' Q' => tDE X.K E (fx i) σ H' Q') (fun W pn xe E p1 p2 tk hW => pe_act2 (i := 0) (L := lams i) (tb := fun _ _ => tDE X.K E (fx i)) I1 (LS i hi) (LB i hi) rob.1 hdvs tk hW hr' (fun A outer s H hr2 => hbody i hi A outer s H E f c' hr2) hNg hva hda hcd) hcode tt
    exact ⟨t', ht'.nox, hq'⟩
  refine wpAny_call (codeAny_mono rc fun r s2 hq => ?_)
  cases r with
  | error e => exact (show False from hq).elim
  | ok fl =>
    cases fl with
    | ret u => exact I1.after hq
    | next => exact False.elim hq
    | brk => exact False.elim hq
    | cont => exact False.elim hq
end
end Fw

set_option Elab.async false
set_option linter.all false
set_option maxRecDepth 100000
set_option maxHeartbeats 4000000
namespace Fw
open PySem PySem.Spec PyProof.Rows L2 LamX
section
variable {P : Program} {w : World} {K : PySem.W.Frag} {mg : Str → Option Value} {base : Heap}
/-- what _law_wrong makes of an exception -/
def hdW (CI CN : Addr) : VK → XK := fun Q cls dx H => (cls = .ref CI ∧ ∃ (dd : Addr) (fs : List (Str × V)) (v : V), dx = some dd ∧ H dd = some (.xd fs) ∧ fs.lookup partF = some v ∧ NewZ H [.str (Str.ofString "program"), v] Q) ∨ (cls = .ref CN ∧ dx = none ∧ Q (.str (Str.ofString "design")) H)
theorem kit_self {K : PySem.W.Frag} {C : Addr} : PySem.W.kitOne K (.ref C) (.ref C) = some true := by unfold PySem.W.kitOne; rw [if_pos (by simp)]
theorem wrong_gives {X : Cx} {q : Str} {g CS CI CN : Addr} {cdg : Value} (hmS : X.mg "FlowError" = some (.ref CS)) (hmI : X.mg "BadProgram" = some (.ref CI)) (hmN : X.mg "BadDesign" = some (.ref CN)) (hmi : X.mg "isinstance" = none)
    (EI : ExcC X.K CI) (EN : ExcC X.K CN) (XI : XfC X.K CI) (hno : PySem.W.findIn X.K (.ref CI) partF = some none) (hexI : PySem.W.exmOne X.K (.ref CI) (.ref CS) = some true) (hexN : PySem.W.exmOne X.K (.ref CN) (.ref CS) = some true) (hkit : PySem.W.kitOne X.K (.ref CN) (.ref CI) = some false) :
    GivesTo X ["work", "e"] "_law_wrong" (defScope s_l_wrong) g cdg (defBody s_l_wrong) "work" q (TTres (hdW CI CN) (.str (Str.ofString ""))) := by
  intro f c' s H Q tl act hc h
  refine ⟨_, pss_cons (ps_try_as (X := (cxOf C8.CX0 X.prog X.w X.K X.mg X.base ["work", "e"] "_law_wrong" (defScope s_l_wrong) g cdg X.A X.stack s H C8.E0).nox) (i := 1) (c := .ref CS) (Wout := fun _ _ _ _ => False)
      (tb := fun W D σ H => ∃ Ech : XK, (∀ cls d σ' H', Ech cls d H' → W cls d σ' H') ∧ σ[0]? = some (some (.ref f)) ∧ H c' = some (CodeO c' q) ∧ tl Ech H (fun _ H' => D.nx σ H'))
      (ts := fun a cls d D σ H => (σ.length = 2 → σ[1]? = some (some (.ref a))) ∧ hdW CI CN D.rt cls d H)
      rfl rfl sc_l_wrong.nd rfl rfl ⟨rfl, by decide, .inl hmS⟩ LamX.takes0 (fun W pn xe tk _ => ?_) (fun a oe cls d pn hz hf => ?_)) (pss_one (ps_ret pe_str)), ?_⟩
  · refine ⟨fun pins s' σ H' D I h' => ?_⟩
    obtain ⟨Ech, hW, h1, h2, h3⟩ := h'
    exact PSs.run (pss_one (ps_expr (act W pn xe Ech _ _ tk hW))) pins s' σ H' D I ⟨h1, h2, h3⟩
  · refine ⟨fun pins s' σ H' D I h' => ?_⟩
    obtain ⟨h1, h2⟩ := h'
    rcases h2 with ⟨rfl, dd, fs, v, rfl, hdd, hl, q2⟩ | ⟨rfl, rfl, q2⟩
    · refine PSs.run (pss_one (ps_ret (pe_ifExp (pt_val (suite_isE2 (B := "BadProgram") (Y := (cxOf C8.CX0 X.prog X.w X.K X.mg X.base ["work", "e"] "_law_wrong" (defScope s_l_wrong) g cdg X.A X.stack s H C8.E0).nox) EI hz hf rfl hmi rfl hmI rfl (.inl rfl)))
        (pe_tupZ (pa_cons pe_str (pa_cons (pe_xf (X := (cxOf C8.CX0 X.prog X.w X.K X.mg X.base ["work", "e"] "_law_wrong" (defScope s_l_wrong) g cdg X.A X.stack s H C8.E0).nox) XI hno hz hf (pe_var (X := (cxOf C8.CX0 X.prog X.w X.K X.mg X.base ["work", "e"] "_law_wrong" (defScope s_l_wrong) g cdg X.A X.stack s H C8.E0).nox.suite a ((a, oe) :: pn)) (i := 1) rfl (.inl rfl) (by decide) (by decide))) pa_nil))) pe_never))) pins s' σ H' D I ?_
      refine ⟨_, h1 I.len, .ref CI, .ref CI, true, rfl, fun u r => r, kit_self, .inr ⟨dd, fs, rfl, hdd⟩, true, rfl, ?_⟩
      exact ⟨_, h1 I.len, rfl, rfl, dd, fs, v, rfl, hdd, hl, by show 2 ≤ sizeLine; decide, q2⟩
    · refine PSs.run (pss_one (ps_ret (pe_ifExp (pt_val (suite_isE2 (B := "BadProgram") (Y := (cxOf C8.CX0 X.prog X.w X.K X.mg X.base ["work", "e"] "_law_wrong" (defScope s_l_wrong) g cdg X.A X.stack s H C8.E0).nox) EN hz hf rfl hmi rfl hmI rfl (.inl rfl))) pe_never
        (pe_ifExp (pt_val (suite_isE2 (B := "BadDesign") (Y := (cxOf C8.CX0 X.prog X.w X.K X.mg X.base ["work", "e"] "_law_wrong" (defScope s_l_wrong) g cdg X.A X.stack s H C8.E0).nox) EN hz hf rfl hmi rfl hmN rfl (.inl rfl))) pe_str pe_never)))) pins s' σ H' D I ?_
      refine ⟨_, h1 I.len, .ref CI, .ref CI, false, rfl, fun u r => r, hkit, .inl rfl, false, rfl, ?_⟩
      show (if (false : Bool) = true then False else tIf _ _ _ _ _ _)
      rw [if_neg Bool.false_ne_true]
      refine ⟨_, h1 I.len, .ref CN, .ref CN, true, rfl, fun u r => r, kit_self, .inl rfl, true, rfl, ?_⟩
      show (if (true : Bool) = true then _ else _)
      rw [if_pos rfl]
      exact q2
  · refine ⟨hdW CI CN Q, fun cls d σ' H' z => ⟨true, ?_, fun _ a _ => ⟨fun hl => ?_, z⟩, fun z => nomatch z⟩, rfl, hc, h⟩
    · rcases z with ⟨e1, _⟩ | ⟨e1, _⟩
      · rw [e1]; exact hexI
      · rw [e1]; exact hexN
    · rw [List.length_set] at hl
      rw [List.getElem?_set, if_pos rfl, if_pos (by omega)]
end
end Fw

set_option Elab.async false
set_option linter.all false
set_option maxRecDepth 100000
set_option maxHeartbeats 4000000
namespace Fw
open PySem PySem.Spec PyProof.Rows L2
section
variable {P : Program} {w : World} {K : PySem.W.Frag} {mg : Str → Option Value} {base : Heap}
theorem ok_program {f : Addr} {fd : FuncData} (F : Fun K "_law_program" "_law_program" s_l_program f fd) (hm : mg "_law_program" = some (.ref f)) (B : Bi mg) {gt gp gso gl gtd gc gst : FD} {lv : Nat} (hlv : 3 ≤ lv) (k_l_taken : Kn P w K mg base "_law_taken" 2 1 gt) (pt : P_taken gt) (k_l_pick : Kn P w K mg base "_law_pick" 2 2 gp) (pp : P_pick gp)
    (k_l_sorts : Kn P w K mg base "_law_sorts" 1 3 gso) (pso : P_sorts gso) (k_l_lots : Kn P w K mg base "_law_lots" 0 1 gl) (pl : ∀ s, gl [] s = some (.lst (lotsL.map lotD), s)) (k_l_told : Kn P w K mg base "_law_told" 1 1 gtd) (ptd : P_told gtd)
    (k_l_check : Kn P w K mg base "_law_check" 4 lv gc) (pc : P_check 2 gc) (k_l_statement : Kn P w K mg base "_law_statement" 3 lv gst) (pst : P_statement 2 gst) :
    ∃ g, Kn P w K mg base "_law_program" 2 (lv + 1) g ∧ P_program g := by
  refine ⟨_, (kn_of (k := lv) F hm sc_l_program (F.binds (ps := ["row", "words"]) fun _ _ _ _ _ _ us hl => match us, hl with | [_, _], _ => rfl) fun cdv A outer s H E hr => (dss_cons (ds_par (i := 2) (j := 3) (ps_par rfl sc_l_program.nd rfl rfl (by decide) rfl rfl (da_cons (d_kn k_l_sorts (hr.mono (by omega)) rfl (da_cons (d_var 0 (pv 0)) da_nil)) (da_cons (d_tup da_nil) da_nil)) (by first | rfl | with_unfolding_all rfl)))
  (dss_cons (ds_if (dt_cmp (op_eqA hr.units) g_eq (d_kn k_l_taken (hr.mono (by omega)) rfl (da_cons (d_var 0 (pv 0)) (da_cons d_int da_nil))) d_int (nomark _)) (dss_cons (ds_set (i := 4) sc_l_program.nd rfl (Or.inl rfl) (d_kn k_l_told (hr.mono (by omega)) rfl (da_cons (d_kn k_l_pick (hr.mono (by omega)) rfl (da_cons (d_var 0 (pv 0)) (da_cons (d_kn0 k_l_lots (hr.mono (by omega)) rfl) da_nil))) da_nil)))
  (dss_one (ds_if (dt_cmp op_isA g_is (d_kn k_l_check (hr.mono (by omega)) rfl (da_cons (d_var 1 (pv 1)) (da_cons (d_tup (da_cons d_str (da_cons d_str da_nil))) (da_cons (d_var 4 (pv 4)) (da_cons d_bl da_nil))))) d_non (nomark _)) (dss_one (ds_par (i := 2) (j := 3) (ps_par rfl sc_l_program.nd rfl rfl (by decide) rfl rfl (da_cons (d_op op_addA g_add (d_tup (da_cons d_str (da_cons d_str da_nil))) (d_slice (d_var 2 (pv 2)) do_no (do_yes (d_kn k_l_taken (hr.mono (by omega)) rfl (da_cons (d_var 0 (pv 0)) (da_cons d_int da_nil)))))) (da_cons (d_var 4 (pv 4)) da_nil)) (by first | rfl | with_unfolding_all rfl)))) dss_nil))) dss_nil)
  (dss_cons (ds_for PassesOwn.never rfl (di_range rfl (B.get "range") (da_cons d_int da_nil)) (pg_name (i := 5) sc_l_program.nd rfl (Or.inl rfl)) (gt_name (i := 5) (vs := [5]) (by decide)) (dss_cons (ds_set (i := 6) sc_l_program.nd rfl (Or.inl rfl) (d_kn k_l_statement (hr.mono (by omega)) rfl (da_cons (d_var 0 (pv 0)) (da_cons (d_callB call_len g_len rfl (B.get "len") (by decide +kernel) (da_cons (d_var 2 (pv 2)) da_nil)) (da_cons d_int da_nil)))))
  (dss_one (ds_if (PW.pt (dw_and (dt_cmp op_lt g_cmpI (d_callB call_len g_len rfl (B.get "len") (by decide +kernel) (da_cons (d_var 3 (pv 3)) da_nil)) d_int (nomark _)) (dw_and1 (dt_cmp op_isA g_is (d_kn k_l_check (hr.mono (by omega)) rfl (da_cons (d_var 1 (pv 1)) (da_cons (d_var 2 (pv 2)) (da_cons (d_tup (da_cons (d_var 6 (pv 6)) da_nil)) (da_cons d_bl da_nil))))) d_non (nomark _))))) (dss_one (ds_set (i := 3) sc_l_program.nd rfl (Or.inl rfl) (d_op op_addA g_add (d_var 3 (pv 3)) (d_tup (da_cons (d_var 6 (pv 6)) da_nil))))) dss_nil))))
  (dss_one (ds_ret (d_tup (da_cons (d_var 2 (pv 2)) (da_cons (d_var 3 (pv 3)) da_nil))))))))), ?_⟩
  intro a s ws hr
  obtain ⟨so0, s1, e1, rt1, hs1, hs2⟩ := pso a s hr
  obtain ⟨v, s2, e2, rt2, hv⟩ := takenN pt a s1 3 rt1.is (by omega) (by omega)
  have e2' : gt [.ref a, .int 3] s1 = some (.int (v : Nat), s2) := e2
  simp [e1, e2']
  refine seq_then (R := fun r => ∃ so b s', r = some (D.tup [sortsD so, bodyD b], s') ∧ RowTo s a s' ∧ 2 ≤ so.length ∧ so.length ≤ 4 ∧ b.length ≤ 7 ∧ smsOk so.length 2 b ∧ faultsM ws so false 0 b = none)
    (fun δ s3 => ∃ so b x, δ = [some (.ref a), some (.tup (ws.map strD)), some (sortsD so), some (.tup (smsD b)), x, none, none] ∧ RowTo s a s3 ∧ 2 ≤ so.length ∧ so.length ≤ 4 ∧ b.length ≤ 7 ∧ smsOk so.length 2 b ∧ faultsM ws so false 0 b = none) ?_ ?_
  · by_cases h0 : v = 0
    rotate_left
    · exact ⟨[some (.ref a), some (.tup (ws.map strD)), some (sortsD (so0)), some (.tup (smsD ([]))), none, none, none], s2, by simp [h0, smsD], so0, [], none, rfl, rt1.trans rt2, hs1, hs2, by simp, trivial, rfl⟩
    obtain ⟨x, s3, e3, rt3, hx⟩ := pp a s2 (.lst (lotsL.map lotD)) _ rfl rt2.is (by simp [lotsL]) (by simp [lotsL])
    obtain ⟨l, hl, rfl⟩ := List.mem_map.mp hx
    have et := ptd l hl s3
    obtain ⟨ok, len⟩ := told_ok hl
    have ec := pc ws [false, true] (toldM l) false s3 (by simp) (by omega) ok
    simp only [sortsD, sortD, List.map_cons, List.map_nil, strD, bodyD, Bool.false_eq_true, if_false, if_true] at ec et
    cases hf : faultsM ws [false, true] false 0 (toldM l) with
    | none =>
      rw [hf] at ec
      obtain ⟨k, s4, e4, rt4, hk⟩ := takenN pt a s3 2 rt3.is (by omega) (by omega)
      have e4' : gt [.ref a, .int 2] s3 = some (.int (k : Nat), s4) := e4
      have hlen : 2 + min k so0.length ≤ 10000000 := by omega
      refine ⟨[some (.ref a), some (.tup (ws.map strD)), some (sortsD ([false, true] ++ so0.take k)), some (.tup (smsD (toldM l))), some (.tup (smsD (toldM l))), none, none], s4, by simp [h0, pl, e3, et, ec, e4', sortsD, sortD, cut_pre, hlen, List.map_take], [false, true] ++ so0.take k, toldM l, some (.tup (smsD (toldM l))), rfl, rt1.trans (rt2.trans (rt3.trans rt4)), by simp, by simp; omega, by omega, ?_, ?_⟩
      · exact smsOk_mono (by simp) 2 _ ok
      · rw [← faults_ext (hid_two k so0) 2 (toldM l) false 0 ok]; exact hf
    | some z =>
      rw [hf] at ec
      exact ⟨[some (.ref a), some (.tup (ws.map strD)), some (sortsD (so0)), some (.tup (smsD ([]))), some (.tup (smsD (toldM l))), none, none], s3, by simp [h0, pl, e3, et, ec, smsD], so0, [], _, rfl, rt1.trans (rt2.trans rt3), hs1, hs2, by simp, trivial, rfl⟩
  · rintro δ s3 ⟨so, b, x, rfl, rt, h1, h2, h3, h4, h5⟩
    simp
    refine kSeq_loopR (R := fun r => ∃ so b s', r = some (D.tup [sortsD so, bodyD b], s') ∧ RowTo s a s' ∧ 2 ≤ so.length ∧ so.length ≤ 4 ∧ b.length ≤ 7 ∧ smsOk so.length 2 b ∧ faultsM ws so false 0 b = none)
      (fun i δ s3 => ∃ b y z, δ = [some (.ref a), some (.tup (ws.map strD)), some (sortsD so), some (.tup (smsD b)), x, y, z] ∧ RowTo s a s3 ∧ b.length ≤ 7 ∧ smsOk so.length 2 b ∧ faultsM ws so false 0 b = none) ⟨b, none, none, rfl, rt, h3, h4, h5⟩ ?_ ?_
    · rintro i d δ s4 hi ⟨b, y, z, rfl, rt, h3, h4, h5⟩
      rw [rangeD_get] at hi
      split at hi
      rotate_left
      · cases hi
      cases hi
      refine ⟨_, rfl, ?_⟩
      obtain ⟨st, s5, e5, rt5, ok⟩ := pst a s4 so.length rt.is (by omega) (by omega)
      have e5' : gst [.ref a, .int (so.length : Nat), .int 2] s4 = some (smD st, s5) := e5
      have hl7 : (smsD b).length ≤ 7 := by rw [smsD_length]; exact h3
      have hso : so.length ≤ 10000000 := by omega
      by_cases hb : b.length < 7
      · have ec := pc ws so [st] false s5 (by omega) (by simp) ⟨ok, trivial⟩
        simp only [bodyD, smsD] at ec
        have hb' : ((smsD b).length : Int) < 7 := by rw [smsD_length]; omega
        cases hf : faultsM ws so false 0 [st] with
        | none =>
          rw [hf] at ec
          have hl8 : (smsD b).length + 1 ≤ 10000000 := by omega
          simp only [sortsD] at ec
          refine ⟨[some (.ref a), some (.tup (ws.map strD)), some (sortsD (so)), some (.tup (smsD (b ++ [st]))), x, some (.int (i : Nat)), some (smD st)], s5, by simp [sortsD, e5', ec, hb', hl8, smsD_append, smsD], b ++ [st], _, _, rfl, rt.trans rt5, by simp; omega, ?_, ?_⟩
          · exact smsOk_iff.mpr fun x hx => by
              rcases List.mem_append.mp hx with hx | hx
              · exact smsOk_iff.mp h4 x hx
              · cases List.mem_singleton.mp hx; exact ok
          · rw [faults_append b [st] 0 h5]
            exact faults_shift [st] 0 _ hf
        | some z =>
          rw [hf] at ec
          simp only [sortsD] at ec
          exact ⟨[some (.ref a), some (.tup (ws.map strD)), some (sortsD (so)), some (.tup (smsD (b))), x, some (.int (i : Nat)), some (smD st)], s5, by simp [sortsD, e5', ec, hb'], b, _, _, rfl, rt.trans rt5, h3, h4, h5⟩
      · have hb' : ¬ ((smsD b).length : Int) < 7 := by rw [smsD_length]; omega
        exact ⟨[some (.ref a), some (.tup (ws.map strD)), some (sortsD (so)), some (.tup (smsD (b))), x, some (.int (i : Nat)), some (smD st)], s5, by simp [sortsD, e5', hb'], b, _, _, rfl, rt.trans rt5, h3, h4, h5⟩
    · rintro δ s4 ⟨b, y, z, rfl, rt, h3, h4, h5⟩
      exact ⟨so, b, s4, by simp [bodyD], rt, h1, h2, h3, h4, h5⟩

end
end Fw

set_option Elab.async false
set_option linter.all false
set_option maxRecDepth 100000
set_option maxHeartbeats 4000000
namespace Fw
open PySem PySem.Spec PyProof.Rows L2
section
variable {P : Program} {w : World} {K : PySem.W.Frag} {mg : Str → Option Value} {base : Heap}
def P_design (g : FD) : Prop := ∀ (a : Addr) (s : S), IsRow s a → ∃ (ws : List String) (s' : S), g [.ref a] s = some (.tup (ws.map strD), s') ∧ RowTo s a s' ∧ ws.Sublist wordsL
theorem compL_words {tt : FT} {i : Nat} {δ : Fr} {a : Addr} (hi : i < δ.length) : ∀ (us : List String) (s : S), IsRow s a → (∀ x ∈ us, ∀ s, IsRow s a → ∃ b s', tt (δ.set i (some (strD x))) s = some (b, s') ∧ RowTo s a s') →
    ∃ (ws : List String) (s' : S), compL (gtName i) tt (fVar i) (us.map strD) δ s = some (ws.map strD, s') ∧ RowTo s a s' ∧ ws.Sublist us
  | [], s, hr, _ => ⟨[], s, rfl, RowTo.refl hr, List.Sublist.refl _⟩
  | x :: us, s, hr, h => by
    obtain ⟨b, s1, e1, r1⟩ := h x List.mem_cons_self s hr
    obtain ⟨ws, s2, e2, r2, sb⟩ := compL_words hi us s1 r1.is fun y hy => h y (List.mem_cons_of_mem _ hy)
    cases b with
    | false =>
      refine ⟨ws, s2, ?_, r1.trans r2, .cons x sb⟩
      show (some (δ.set i (some (strD x)))).bind _ = _
      rw [Option.bind_some, e1, Option.bind_some, if_neg Bool.false_ne_true]
      exact e2
    | true =>
      refine ⟨x :: ws, s2, ?_, r1.trans r2, .cons₂ x sb⟩
      show (some (δ.set i (some (strD x)))).bind _ = _
      have hv : fVar i (δ.set i (some (strD x))) s1 = some (strD x, s1) := by simp [hi]
      rw [Option.bind_some, e1, Option.bind_some, if_pos rfl, hv, Option.bind_some, e2]
      rfl
theorem ok_design {f : Addr} {fd : FuncData} (F : Fun K "_law_design" "_law_design" s_l_design f fd) (hm : mg "_law_design" = some (.ref f)) (B : Bi mg) {gt gp gw : FD} (k_l_taken : Kn P w K mg base "_law_taken" 2 1 gt) (pt : P_taken gt) (k_l_pick : Kn P w K mg base "_law_pick" 2 2 gp) (pp : P_pick gp)
    (k_l_words : Kn P w K mg base "_law_words" 0 1 gw) (pw : ∀ s, gw [] s = some (.lst (wordsL.map strD), s)) : ∃ g, Kn P w K mg base "_law_design" 1 3 g ∧ P_design g := by
  refine ⟨_, (kn_of (k := 2) F hm sc_l_design (F.binds (ps := ["row"]) fun _ _ _ _ _ _ us hl => match us, hl with | [_], _ => rfl) fun cdv A outer s H E hr => (dss_cons (ds_set (i := 1) sc_l_design.nd rfl (Or.inr rfl) (d_kn k_l_pick (hr.mono (by omega)) rfl (da_cons (d_var 0 (pv 0)) (da_cons (d_lst (da_cons d_int (da_cons d_int (da_cons d_int da_nil)))) da_nil))))
  (dss_one (ds_ret (d_callTy call_tuple_ofZ g_tuple rfl (B.get "tuple") (by decide +kernel) (da_cons (d_lc (own := [("word", 2)]) rfl sc_l_design.nd (di_items (d_kn0 k_l_words (hr.mono (by omega)) rfl)) (blkOk_by (N := ["row", "odds", "word"]) (sc := defScope s_l_design) (by decide +kernel)) (gt_name (i := 2) (vs := [2]) (by decide)) (fun _ _ _ _ _ => (pg_name (i := 2) sc_l_design.nd rfl (Or.inl rfl))) (fun _ _ _ _ _ => (dts_one (dt_cmp (op_eqA hr.units) g_eq (d_kn k_l_taken (hr.mono (by omega)) rfl (da_cons (d_var 0 (pv 0)) (da_cons (d_var 1 (pv 1)) da_nil))) d_int (nomark _)))) (fun _ _ _ _ _ => (d_var 2 (pv 2)))) da_nil)))))), ?_⟩
  intro a s hr
  obtain ⟨d, s1, e1, r1, hd⟩ := pp a s (.lst [.int 2, .int 2, .int 3]) [.int 2, .int 2, .int 3] rfl hr (by simp) (by simp)
  obtain ⟨m, rfl, hm0, hm1⟩ : ∃ m : Int, d = .int m ∧ 0 < m ∧ m < 1073741824 := by
    simp only [List.mem_cons, List.mem_nil_iff, or_false] at hd
    rcases hd with rfl | rfl | rfl <;> exact ⟨_, rfl, by decide, by decide⟩
  have e2 := pw s1
  have key : ∀ tt : FT, (∀ x ∈ wordsL, ∀ s, IsRow s a → ∃ b s', tt [some (.ref a), some (.int m), some (strD x)] s = some (b, s') ∧ RowTo s a s') → ∃ (ws : List String) (s' : S), compL (gtName 2) tt (fVar 2) (wordsL.map strD) [some (.ref a), some (.int m), none] s1 = some (ws.map strD, s') ∧ RowTo s1 a s' ∧ ws.Sublist wordsL :=
    fun tt h => compL_words (by simp) wordsL s1 r1.is h
  obtain ⟨ws, s2, e3, r2, sb⟩ := key (fT (f2 dEq (fCall 2 gt (fCons (fVar 0) (fCons (fVar 1) fNil))) (fC (.int 0)))) fun x hx s hr => by
    obtain ⟨v, s', e, rt, _, _⟩ := pt a s m hr hm0 hm1
    exact ⟨_, s', (by simp [e]; rfl), rt⟩
  refine ⟨ws, s2, ?_, r1.trans r2, sb⟩
  have h12 : wordsL.length ≤ 10000000 := by decide
  simp [e1, e2, e3, h12]

end
end Fw

set_option Elab.async false
set_option linter.all false
set_option maxRecDepth 100000
set_option maxHeartbeats 4000000
namespace Fw
open PySem PySem.Spec PyProof.Rows L2
section
variable {P : Program} {w : World} {K : PySem.W.Frag} {mg : Str → Option Value} {base : Heap}
theorem ok_taken {f : Addr} {fd : FuncData} (F : Fun K "_law_taken" "_law_taken" s_l_taken f fd) (hm : mg "_law_taken" = some (.ref f)) (B : Bi mg) :
    ∃ g, Kn P w K mg base "_law_taken" 2 1 g ∧ P_taken g := by
  refine ⟨_, (kn_of (k := 0) F hm sc_l_taken (F.binds (ps := ["row", "many"]) fun _ _ _ _ _ _ us hl => match us, hl with | [_, _], _ => rfl) fun cdv A outer s H E hr => (dss_cons (ds_if (dt_cmp op_gt g_cmpI (d_ix (d_var 0 (pv 0)) d_int (fun _ _ => rfl)) d_int (nomark _)) (dss_cons (ds_set (i := 2) sc_l_taken.nd rfl (Or.inl rfl) (d_op op_mod g_mod (d_callTy call_int1 g_int rfl (B.get "int") (by decide +kernel) (da_cons (d_ix (d_var 0 (pv 0)) d_int (fun _ _ => rfl)) da_nil)) (d_var 1 (pv 1))))
  (dss_cons (ds_putIx (d_op op_fdiv g_div (d_ix (d_var 0 (pv 0)) d_int (fun _ _ => rfl)) (d_var 1 (pv 1))) (d_var 0 (pv 0)) d_int)
  (dss_one (ds_ret (d_var 2 (pv 2)))))) dss_nil)
  (dss_cons (ds_putIx (d_op op_addA g_add (d_ix (d_var 0 (pv 0)) d_int (fun _ _ => rfl)) d_int) (d_var 0 (pv 0)) d_int)
  (dss_cons (ds_if (dt_cmp op_gt g_cmpI (d_ix (d_var 0 (pv 0)) d_int (fun _ _ => rfl)) (d_callB call_len g_len rfl (B.get "len") (by decide +kernel) (da_cons (d_ix (d_var 0 (pv 0)) d_int (fun _ _ => rfl)) da_nil)) (nomark _)) (dss_cons (ds_putIx (d_op op_mod g_mod (d_callTy call_int1 g_int rfl (B.get "int") (by decide +kernel) (da_cons (d_op op_addA g_add (d_op op_mulA g_mul (d_ix (d_var 0 (pv 0)) d_int (fun _ _ => rfl)) d_int) d_int) da_nil)) d_int) (d_var 0 (pv 0)) d_int)
  (dss_one (ds_ret (d_op op_mod g_mod (d_callTy call_int1 g_int rfl (B.get "int") (by decide +kernel) (da_cons (d_op op_fdiv g_div (d_ix (d_var 0 (pv 0)) d_int (fun _ _ => rfl)) d_int) da_nil)) (d_var 1 (pv 1)))))) dss_nil)
  (dss_cons (ds_set (i := 3) sc_l_taken.nd rfl (Or.inl rfl) (d_ix (d_ix (d_var 0 (pv 0)) d_int (fun _ _ => rfl)) (d_op op_sub g_sub (d_ix (d_var 0 (pv 0)) d_int (fun _ _ => rfl)) d_int) (fun _ _ => rfl)))
  (dss_cons (ds_putIx (d_op op_mod g_mod (d_callTy call_int1 g_int rfl (B.get "int") (by decide +kernel) (da_cons (d_op op_addA g_add (d_op op_addA g_add (d_op op_mulA g_mul (d_ix (d_var 0 (pv 0)) d_int (fun _ _ => rfl)) d_int) (d_var 3 (pv 3))) d_int) da_nil)) d_int) (d_var 0 (pv 0)) d_int)
  (dss_cons (ds_if (dt_cmp op_ge g_cmpI (d_var 3 (pv 3)) (d_op op_pow g_pow d_int d_int) (nomark _)) (dss_one (ds_putIx (d_op op_fdiv g_div (d_var 3 (pv 3)) (d_var 1 (pv 1))) (d_var 0 (pv 0)) d_int)) dss_nil)
  (dss_one (ds_ret (d_op op_mod g_mod (d_callTy call_int1 g_int rfl (B.get "int") (by decide +kernel) (da_cons (d_var 3 (pv 3)) da_nil)) (d_var 1 (pv 1)))))))))))), ?_⟩
  rintro a s m ⟨ns, i, sd, r, hs, hi⟩ h0 h1
  have hs0 : s a = some (.lst [.scr ns, .int i, .int sd, .int r]) := hs
  have n0 := Int.emod_nonneg
  by_cases c1 : 0 < r
  · refine ⟨r % m, supd s a (rowO ns i sd (r / m)), ?_, ⟨ns, i, sd, _, rfl, hi⟩, Int.emod_nonneg _ (by omega), Int.emod_lt_of_pos _ h0⟩
    simp [hs0, c1, h0, h1, rowO]
  · by_cases c2 : (ns.length : Int) < i + 1
    · refine ⟨(sd * 48271 + 11) % 2147483647 / 7 % m, supd s a (rowO ns (i + 1) ((sd * 48271 + 11) % 2147483647) r), ?_, ⟨ns, _, _, _, rfl, by omega⟩, Int.emod_nonneg _ (by omega), Int.emod_lt_of_pos _ h0⟩
      simp [hs0, c1, c2, h0, h1, rowO, supd_same, supd_supd]
    · obtain ⟨c, hc, _⟩ := atI_of (xs := ns) hi (by omega)
      by_cases c3 : 1000000000000000000 ≤ c
      · refine ⟨c % m, supd s a (rowO ns (i + 1) ((sd * 48271 + c + 11) % 2147483647) (c / m)), ?_, ⟨ns, _, _, _, rfl, by omega⟩, Int.emod_nonneg _ (by omega), Int.emod_lt_of_pos _ h0⟩
        simp [hs0, c1, c2, c3, h0, h1, rowO, supd_same, supd_supd, hc]
      · refine ⟨c % m, supd s a (rowO ns (i + 1) ((sd * 48271 + c + 11) % 2147483647) r), ?_, ⟨ns, _, _, _, rfl, by omega⟩, Int.emod_nonneg _ (by omega), Int.emod_lt_of_pos _ h0⟩
        simp [hs0, c1, c2, c3, h0, h1, rowO, supd_same, supd_supd, hc]

end
end Fw

set_option Elab.async false
set_option linter.all false
set_option maxRecDepth 100000
set_option maxHeartbeats 4000000
namespace Fw
open PySem PySem.Spec PyProof.Rows L2
section
variable {P : Program} {w : World} {K : PySem.W.Frag} {mg : Str → Option Value} {base : Heap}
theorem ok_pick {f : Addr} {fd : FuncData} (F : Fun K "_law_pick" "_law_pick" s_l_pick f fd) (hm : mg "_law_pick" = some (.ref f)) (B : Bi mg) {gt : FD} (k_l_taken : Kn P w K mg base "_law_taken" 2 1 gt) (pt : P_taken gt) :
    ∃ g, Kn P w K mg base "_law_pick" 2 2 g ∧ P_pick g := by
  refine ⟨_, (kn_of (k := 1) F hm sc_l_pick (F.binds (ps := ["row", "kinds"]) fun _ _ _ _ _ _ us hl => match us, hl with | [_, _], _ => rfl) fun cdv A outer s H E hr => (dss_one (ds_ret (d_ix (d_var 1 (pv 1)) (d_kn k_l_taken (hr.mono (by omega)) rfl (da_cons (d_var 0 (pv 0)) (da_cons (d_callB call_len g_len rfl (B.get "len") (by decide +kernel) (da_cons (d_var 1 (pv 1)) da_nil)) da_nil))) (fun _ _ => rfl))))), ?_⟩
  intro a s x ds hx hr hne hl
  have h0 : 0 < ds.length := List.length_pos_iff.mpr hne
  obtain ⟨v, s', e, rt, v0, v1⟩ := pt a s (ds.length : Nat) hr (by omega) (by omega)
  obtain ⟨d, e2, hd⟩ := atI_of (xs := ds) v0 v1
  refine ⟨d, s', ?_, rt, hd⟩
  cases x with
  | tup es => cases (show some es = some ds from hx); simp [e, e2]
  | lst es => cases (show some es = some ds from hx); simp [e, e2]
  | _ => cases hx

end
end Fw

set_option Elab.async false
set_option linter.all false
set_option maxRecDepth 100000
set_option maxHeartbeats 4000000
namespace Fw
open PySem PySem.Spec PyProof.Rows L2
section
variable {P : Program} {w : World} {K : PySem.W.Frag} {mg : Str → Option Value} {base : Heap}
open LamX
structure G8 where
  is_sound : FDX
  lots_in : FDX
  breaker : FDX
  greatest_sound : FDX
  fewest_drops : FDX
  fault : FDX
  lets_by : FDX
  strengths : FDX
  lets_by_all : FDX
  parting : FDX
  sees_all : FDX
  unseen : FDX
  alike : FDX
  leak : FDX
  run : FDX
  write_program : FDX
structure KG8 (P : Program) (w : World) (K : PySem.W.Frag) (mg : Str → Option Value) (base : Heap) (lv : Nat) (G : G8) : Prop where
  is_sound : KnX P w K mg base "is_sound" 1 lv G.is_sound
  lots_in : KnX P w K mg base "lots_in" 1 lv G.lots_in
  breaker : KnX P w K mg base "breaker" 1 lv G.breaker
  greatest_sound : KnX P w K mg base "greatest_sound" 1 lv G.greatest_sound
  fewest_drops : KnX P w K mg base "fewest_drops" 1 lv G.fewest_drops
  fault : KnX P w K mg base "fault" 2 lv G.fault
  lets_by : KnX P w K mg base "lets_by" 2 lv G.lets_by
  strengths : KnX P w K mg base "strengths" 1 lv G.strengths
  lets_by_all : KnX P w K mg base "lets_by_all" 2 lv G.lets_by_all
  parting : KnX P w K mg base "parting" 2 lv G.parting
  sees_all : KnX P w K mg base "sees_all" 2 lv G.sees_all
  unseen : KnX P w K mg base "unseen" 2 lv G.unseen
  alike : KnX P w K mg base "alike" 4 lv G.alike
  leak : KnX P w K mg base "leak" 3 lv G.leak
  run : KnX P w K mg base "run" 2 lv G.run
  write_program : KnX P w K mg base "write_program" 1 lv G.write_program
structure PG8 (CD CB : Addr) (G : G8) : Prop where
  is_sound : P_R1 CD G.is_sound
  lots_in : P_R1 CD G.lots_in
  breaker : P_R1 CD G.breaker
  greatest_sound : P_R1 CD G.greatest_sound
  fewest_drops : P_R1 CD G.fewest_drops
  fault : P_DP CD CB BadP G.fault
  lets_by : P_DP CD CB BadP G.lets_by
  strengths : P_strX CD G.strengths
  lets_by_all : P_R2 CD G.lets_by_all
  parting : P_R2 CD G.parting
  sees_all : P_R2 CD G.sees_all
  unseen : P_R2 CD G.unseen
  alike : P_DP4 CD CB BadP G.alike
  leak : P_DP3 CD CB BadP G.leak
  run : ∀ (p part e : D) (s : S), BadP p part → G.run [p, e] s = some (.ex CB (some [(partF, part)]), s)
  write_program : ∀ (p part : D) (s : S), BadP p part → G.write_program [p] s = some (.ex CB (some [(partF, part)]), s)
def resW (CB CD : Addr) : Addr → FsD → Option D := fun C fs => match fs with
  | some l => if C = CB then (l.lookup partF).map fun v => .tup [.str (Str.ofString "program"), v] else none
  | none => if C = CD then some (.str (Str.ofString "design")) else none
theorem res_wrong {K : PySem.W.Frag} (CB CD : Addr) : ∀ (C : Addr) (fs : FsD) (r : D) (h : Addr → Bool) (s : S) (H' : Hp) (dx : Option Addr) (Q : VK), resW CB CD C fs = some r → SI K h s H' → excR K h H' fs dx → (∀ v H3, Step K h s H' s H3 → Rep K (hide h H3) v r → Q v H3) → hdW CB CD Q (.ref C) dx H' := by
  intro C fs r h s H' dx Q e si x q
  unfold resW at e
  cases fs with
  | some l =>
    dsimp only at e
    split at e
    · rename_i hc
      obtain ⟨d, hd, rfl⟩ := map_some e
      obtain ⟨a, vs, e1, e2, e3⟩ := x
      obtain ⟨v, l1, rv⟩ := repfs_get e3 hd
      exact .inl ⟨by rw [hc], a, vs, v, e1, e2, l1, fun p o hp hd => q _ _ (Step.new si hp _) (new_tup si hp hd (.cons (.str _) (.cons rv .nil)))⟩
    · cases e
  | none =>
    dsimp only at e
    split at e
    · rename_i hc
      cases e
      exact .inr ⟨by rw [hc], x, q _ _ (Step.refl si) (.str _)⟩
    · cases e
def kL2 (s : S) : Option D → Option (D × S)
  | some d => some (d, s)
  | none => none
def kLE (res : Addr → FsD → Option D) (dflt : D) : Option (RX × S) → Option (D × S)
  | some (.ok _, s) => some (dflt, s)
  | some (.ex C fs, s) => kL2 s (res C fs)
  | none => none
section
variable {fx : FX} {res : Addr → FsD → Option D} {dflt d : D} {δ : Fr} {s : S} {C : Addr} {fs : FsD} {CB CD : Addr} {e : Nat}
@[simp] theorem fLamE_e : fLamE fx res dflt δ s = kLE res dflt (fx δ s) := by
  unfold fLamE
  cases h : fx δ s with
  | none => rfl
  | some p =>
    obtain ⟨x, s'⟩ := p
    cases x with
    | ok d => rfl
    | ex C fs =>
      show (res C fs).map _ = kL2 s' (res C fs)
      cases res C fs <;> rfl
@[simp] theorem kLE_ok : kLE res dflt (some (.ok d, s)) = some (dflt, s) := rfl
@[simp] theorem kLE_ex : kLE res dflt (some (.ex C fs, s)) = kL2 s (res C fs) := rfl
@[simp] theorem kL2_s : kL2 s (some d) = some (d, s) := rfl
@[simp] theorem resW_B : resW CB CD CB (some [(partF, d)]) = some (.tup [.str (Str.ofString "program"), d]) := by
  show (if CB = CB then _ else _) = _
  rw [if_pos rfl]
  rfl
@[simp] theorem resW_D : resW CB CD CD none = some (.str (Str.ofString "design")) := by
  show (if CD = CD then _ else _) = _
  rw [if_pos rfl]
end
theorem tof_nx {f : FS} {T2 : FT2} {δ δ' : Fr} {s s' : S} {Post : Out → S → Prop} (h : f δ s = some (.nx δ', s')) (k : T2 δ' s' Post) : TSeq (TOf f) T2 δ s Post := ⟨_, _, h, k⟩
/-- the row, and lambdas from the off-th on -/
def WkOk (X : Cx) (lams : Nat → LmW) (p : Addr) (off : Nat) (fs : List Addr) (s : S) : Prop := IsRow s p ∧ ∀ k f, fs[k]? = some f → ∃ o, s f = some o ∧ IsLm X (lams (off + k)) o
theorem WkOk.add {X : Cx} {lams : Nat → LmW} {p : Addr} {off i : Nat} {fs : List Addr} {s : S} {f : Addr} {o : OO} (W : WkOk X lams p off fs s) (n : s f = none) (l : IsLm X (lams i) o) (hi : i = off + fs.length) : WkOk X lams p off (fs ++ [f]) (supd s f o) := by
  obtain ⟨⟨i1, i2, i3, i4, i5, i6⟩, h⟩ := W
  have hp : p ≠ f := fun e => by rw [e, n] at i5; cases i5
  refine ⟨⟨i1, i2, i3, i4, by rw [supd_ne hp]; exact i5, i6⟩, fun k f' hk => ?_⟩
  rcases Nat.lt_or_ge k fs.length with hl | hl
  · rw [List.getElem?_append_left hl] at hk
    obtain ⟨o', h1, h2⟩ := h k f' hk
    have : f' ≠ f := fun e => by rw [e, n] at h1; cases h1
    exact ⟨o', by rw [supd_ne this]; exact h1, h2⟩
  · rw [List.getElem?_append_right hl] at hk
    have hk0 : k - fs.length = 0 := by
      rcases Nat.eq_zero_or_pos (k - fs.length) with z | z
      · exact z
      · rw [List.getElem?_eq_none (by simp; omega)] at hk; cases hk
    rw [hk0] at hk
    cases hk
    exact ⟨o, supd_same, by rw [show off + k = i by omega]; exact l⟩
theorem WkOk.row {X : Cx} {lams : Nat → LmW} {p : Addr} {off : Nat} {fs : List Addr} {s s' : S} (W : WkOk X lams p off fs s) (r : RowTo s p s') : WkOk X lams p off fs s' := by
  refine ⟨r.is, fun k f hk => ?_⟩
  obtain ⟨o, h1, h2⟩ := W.2 k f hk
  obtain ⟨i1, i2, i3, i4, rfl, i6⟩ := r
  obtain ⟨j1, j2, j3, j4, j5, j6⟩ := W.1
  by_cases e : f = p
  · subst e
    rw [j5] at h1
    cases h1
    obtain ⟨dV, doc, pm, ctv, c', more, z, _⟩ := h2
    cases z
  · exact ⟨o, by rw [supd_ne e]; exact h1, h2⟩
theorem works_no2 {X : Cx} {fe fy : FE} {n : Nat} {lams : Nat → LmW} {fx : Nat → FX} {res : Addr → FsD → Option D} {dflt d y : D} {t2 t3 : FT} {T1 R : FT2} {δ : Fr} {s s1 s2 s3 s4 s5 : S} {Post : Out → S → Prop} {f : Addr} {i : Nat} {u : OO}
    (h1 : fe δ s = some (.ref f, s1)) (hi : i < n) (hu : s1 f = some u) (hl : IsLm X (lams i) u) (h2 : fLamE (fx i) res dflt δ s1 = some (d, s2)) (h3 : fy δ s2 = some (y, s3)) (h4 : dNe d y s3 = some (.bl false)) (h5 : t2 δ s3 = some (false, s4)) (h6 : t3 δ s4 = some (false, s5)) (hR : R δ s5 Post) :
    TSeq (PIf (POr (PTst (POp dNe (PWr X fe n lams fx res dflt) (P1 fy))) (POr (Pb t2) (Pb t3))) T1 TNil) R δ s Post := by
  refine ⟨f, s1, i, u, d, s2, h1, hi, hu, hl, h2, y, s3, h3, .bl false, h4, false, rfl, ?_⟩
  show (if (false : Bool) = true then _ else _)
  rw [if_neg Bool.false_ne_true]
  refine ⟨false, s4, h5, ?_⟩
  show (if (false : Bool) = true then _ else _)
  rw [if_neg Bool.false_ne_true]
  refine ⟨false, s5, h6, ?_⟩
  show (if (false : Bool) = true then _ else _)
  rw [if_neg Bool.false_ne_true]
  exact hR
theorem works_no1 {X : Cx} {fe fy : FE} {n : Nat} {lams : Nat → LmW} {fx : Nat → FX} {res : Addr → FsD → Option D} {dflt d y : D} {t2 : FT} {T1 R : FT2} {δ : Fr} {s s1 s2 s3 s4 : S} {Post : Out → S → Prop} {f : Addr} {i : Nat} {u : OO}
    (h1 : fe δ s = some (.ref f, s1)) (hi : i < n) (hu : s1 f = some u) (hl : IsLm X (lams i) u) (h2 : fLamE (fx i) res dflt δ s1 = some (d, s2)) (h3 : fy δ s2 = some (y, s3)) (h4 : dNe d y s3 = some (.bl false)) (h5 : t2 δ s3 = some (false, s4)) (hR : R δ s4 Post) :
    TSeq (PIf (POr (PTst (POp dNe (PWr X fe n lams fx res dflt) (P1 fy))) (Pb t2)) T1 TNil) R δ s Post := by
  refine ⟨f, s1, i, u, d, s2, h1, hi, hu, hl, h2, y, s3, h3, .bl false, h4, false, rfl, ?_⟩
  show (if (false : Bool) = true then _ else _)
  rw [if_neg Bool.false_ne_true]
  refine ⟨false, s4, h5, ?_⟩
  show (if (false : Bool) = true then _ else _)
  rw [if_neg Bool.false_ne_true]
  exact hR
/-- what is tried in place of a program, with the part that is wrong -/
def odd1 (so : List Bool) (b : List Sm) : List D := [.tup [.non, .non], .tup [.tup [], .non], .tup [.tup [sortsD so], .non], .tup [.tup [sortsD so, bodyD b, .tup []], .non], .tup [.lst [sortsD so, bodyD b], .non], .tup [.tup [.tup [], bodyD b], .int 0], .tup [.tup [.lst (so.map sortD), bodyD b], .int 0]]
def odd2 (so : List Bool) (b : List Sm) : List D := [.tup [.tup [.tup (List.replicate 7 (strD "open")), .tup []], .int 0], .tup [.tup [.tup [strD "Open"], .tup []], .int 0], .tup [.tup [.tup [.non], .tup []], .int 0], .tup [.tup [sortsD so, .lst (smsD b)], .int 1], .tup [.tup [sortsD so, .tup (List.replicate 9 stopD)], .int 1]]
def odd3 (so : List Bool) (b : List Sm) (k : Nat) (t : D) : D := .tup [.tup [sortsD so, .tup (smsD (b.take k) ++ t :: smsD (b.drop k))], .int 1]
def PartD (d : D) : Prop := d = .non ∨ d = .int 0 ∨ d = .int 1
theorem odd_bad {so : List Bool} {b : List Sm} {k : Nat} {t : D} (h1 : 1 ≤ so.length) (h6 : so.length ≤ 6) (ok : smsOk so.length 2 b) (hb : b.length ≤ 7) (ht : t ∈ stX so.length 0) : ∀ x ∈ odd1 so b ++ odd2 so b ++ List.replicate 6 (odd3 so b k t), ∃ p q, x = .tup [p, q] ∧ BadP p q ∧ PartD q := by
  intro x hx
  rcases List.mem_append.mp hx with hx | hx
  · rcases List.mem_append.mp hx with hx | hx
    · simp only [odd1, List.mem_cons, List.mem_nil_iff, or_false] at hx
      rcases hx with rfl | rfl | rfl | rfl | rfl | rfl | rfl
      · exact ⟨_, _, rfl, .inl ⟨.inl rfl, rfl⟩, .inl rfl⟩
      · exact ⟨_, _, rfl, .inl ⟨.inr (.inr (.inl rfl)), rfl⟩, .inl rfl⟩
      · exact ⟨_, _, rfl, .inl ⟨.inr (.inr (.inr (.inl ⟨_, rfl⟩))), rfl⟩, .inl rfl⟩
      · exact ⟨_, _, rfl, .inl ⟨.inr (.inr (.inr (.inr ⟨_, _, _, rfl⟩))), rfl⟩, .inl rfl⟩
      · exact ⟨_, _, rfl, .inl ⟨.inr (.inl ⟨_, rfl⟩), rfl⟩, .inl rfl⟩
      · exact ⟨_, _, rfl, .inr (.inl ⟨_, _, rfl, .inr (.inl rfl), rfl⟩), .inr (.inl rfl)⟩
      · exact ⟨_, _, rfl, .inr (.inl ⟨_, _, rfl, .inl ⟨_, rfl⟩, rfl⟩), .inr (.inl rfl)⟩
    · simp only [odd2, List.mem_cons, List.mem_nil_iff, or_false] at hx
      rcases hx with rfl | rfl | rfl | rfl | rfl
      · exact ⟨_, _, rfl, .inr (.inl ⟨_, _, rfl, .inr (.inr (.inr (.inr rfl))), rfl⟩), .inr (.inl rfl)⟩
      · exact ⟨_, _, rfl, .inr (.inl ⟨_, _, rfl, .inr (.inr (.inl rfl)), rfl⟩), .inr (.inl rfl)⟩
      · exact ⟨_, _, rfl, .inr (.inl ⟨_, _, rfl, .inr (.inr (.inr (.inl rfl))), rfl⟩), .inr (.inl rfl)⟩
      · exact ⟨_, _, rfl, .inr (.inr ⟨so, _, rfl, h1, h6, .inl ⟨_, rfl⟩, rfl⟩), .inr (.inr rfl)⟩
      · exact ⟨_, _, rfl, .inr (.inr ⟨so, _, rfl, h1, h6, .inr (.inl rfl), rfl⟩), .inr (.inr rfl)⟩
  · obtain rfl := List.eq_of_mem_replicate hx
    refine ⟨_, _, rfl, .inr (.inr ⟨so, _, rfl, h1, h6, .inr (.inr ⟨b.take k, b.drop k, t, rfl, ?_, ?_, ht, ?_⟩), rfl⟩), .inr (.inr rfl)⟩
    · exact smsOk_iff.mpr fun a ha => smsOk_iff.mp ok a (List.mem_of_mem_take ha)
    · exact smsOk_iff.mpr fun a ha => smsOk_iff.mp ok a (List.mem_of_mem_drop ha)
    · rw [List.length_take, List.length_drop]; omega
abbrev Nlaw : List Str := ["script", "row", "design", "sorts", "body", "bad", "works", "far", "items", "item", "at", "odd", "part"]
abbrev qLam : Str := (envOfC "law" (defScope s_law) 0 0 .none).qual ++ "<lambda>"
def lamsIn : Stmt → List Expr
  | .Assign _ (.List es _) _ => es
  | .Assign _ (.BinOp _ _ (.List es _) _) _ => es
  | _ => []
def lamOf : Expr → LmW
  | .Lambda p b s _ => ⟨p, b, s⟩
  | e => ⟨defArgs s_law, e, defScope s_law⟩
def lst (i : Nat) : List Expr := lamsIn ((defBody s_law).getD i s_law)
def lamE (i : Nat) : Expr := (lst 4 ++ (lst 5 ++ (lst 6 ++ (lst 7 ++ (lst 8 ++ (lst 21 ++ lst 22)))))).getD i (.Constant .none 0 ⟨0, 0, 0, 0⟩)
def lams (i : Nat) : LmW := lamOf (lamE i)
theorem lmsL : ∀ i, i < 24 → LmS Nlaw (defScope s_law) (lams i).scope := fun i hi => match i, hi with
  | 0, _ => lmS_by (by decide +kernel)
  | 1, _ => lmS_by (by decide +kernel)
  | 2, _ => lmS_by (by decide +kernel)
  | 3, _ => lmS_by (by decide +kernel)
  | 4, _ => lmS_by (by decide +kernel)
  | 5, _ => lmS_by (by decide +kernel)
  | 6, _ => lmS_by (by decide +kernel)
  | 7, _ => lmS_by (by decide +kernel)
  | 8, _ => lmS_by (by decide +kernel)
  | 9, _ => lmS_by (by decide +kernel)
  | 10, _ => lmS_by (by decide +kernel)
  | 11, _ => lmS_by (by decide +kernel)
  | 12, _ => lmS_by (by decide +kernel)
  | 13, _ => lmS_by (by decide +kernel)
  | 14, _ => lmS_by (by decide +kernel)
  | 15, _ => lmS_by (by decide +kernel)
  | 16, _ => lmS_by (by decide +kernel)
  | 17, _ => lmS_by (by decide +kernel)
  | 18, _ => lmS_by (by decide +kernel)
  | 19, _ => lmS_by (by decide +kernel)
  | 20, _ => lmS_by (by decide +kernel)
  | 21, _ => lmS_by (by decide +kernel)
  | 22, _ => lmS_by (by decide +kernel)
  | 23, _ => lmS_by (by decide +kernel)
  | n + 24, h => absurd h (by omega)
theorem hd0L : ∀ i, i < 24 → (lams i).params.defaults = [] ∨ ∃ (k : Int) (j : Nat) (p : Pos), (lams i).params.defaults = [.Constant (.int k) j p] := fun i hi => match i, hi with
  | 0, _ => .inl rfl
  | 1, _ => .inr ⟨_, _, _, rfl⟩
  | 2, _ => .inr ⟨_, _, _, rfl⟩
  | 3, _ => .inr ⟨_, _, _, rfl⟩
  | 4, _ => .inr ⟨_, _, _, rfl⟩
  | 5, _ => .inr ⟨_, _, _, rfl⟩
  | 6, _ => .inr ⟨_, _, _, rfl⟩
  | 7, _ => .inr ⟨_, _, _, rfl⟩
  | 8, _ => .inr ⟨_, _, _, rfl⟩
  | 9, _ => .inr ⟨_, _, _, rfl⟩
  | 10, _ => .inr ⟨_, _, _, rfl⟩
  | 11, _ => .inr ⟨_, _, _, rfl⟩
  | 12, _ => .inr ⟨_, _, _, rfl⟩
  | 13, _ => .inr ⟨_, _, _, rfl⟩
  | 14, _ => .inr ⟨_, _, _, rfl⟩
  | 15, _ => .inr ⟨_, _, _, rfl⟩
  | 16, _ => .inr ⟨_, _, _, rfl⟩
  | 17, _ => .inr ⟨_, _, _, rfl⟩
  | 18, _ => .inl rfl
  | 19, _ => .inr ⟨_, _, _, rfl⟩
  | 20, _ => .inr ⟨_, _, _, rfl⟩
  | 21, _ => .inr ⟨_, _, _, rfl⟩
  | 22, _ => .inr ⟨_, _, _, rfl⟩
  | 23, _ => .inr ⟨_, _, _, rfl⟩
  | n + 24, h => absurd h (by omega)
theorem lmbL : ∀ i, i < 24 → LmB (lams i) := fun i hi => match i, hi with
  | 0, _ => .inl ⟨rfl, fun _ _ _ _ _ _ => rfl⟩
  | 1, _ => .inr ⟨Str.ofString "a", rfl, by decide +kernel, fun _ _ _ _ _ _ _ => ⟨_, rfl, fun _ => rfl⟩⟩
  | 2, _ => .inr ⟨Str.ofString "b", rfl, by decide +kernel, fun _ _ _ _ _ _ _ => ⟨_, rfl, fun _ => rfl⟩⟩
  | 3, _ => .inr ⟨Str.ofString "c", rfl, by decide +kernel, fun _ _ _ _ _ _ _ => ⟨_, rfl, fun _ => rfl⟩⟩
  | 4, _ => .inr ⟨Str.ofString "d", rfl, by decide +kernel, fun _ _ _ _ _ _ _ => ⟨_, rfl, fun _ => rfl⟩⟩
  | 5, _ => .inr ⟨Str.ofString "e", rfl, by decide +kernel, fun _ _ _ _ _ _ _ => ⟨_, rfl, fun _ => rfl⟩⟩
  | 6, _ => .inr ⟨Str.ofString "f", rfl, by decide +kernel, fun _ _ _ _ _ _ _ => ⟨_, rfl, fun _ => rfl⟩⟩
  | 7, _ => .inr ⟨Str.ofString "g", rfl, by decide +kernel, fun _ _ _ _ _ _ _ => ⟨_, rfl, fun _ => rfl⟩⟩
  | 8, _ => .inr ⟨Str.ofString "h", rfl, by decide +kernel, fun _ _ _ _ _ _ _ => ⟨_, rfl, fun _ => rfl⟩⟩
  | 9, _ => .inr ⟨Str.ofString "i", rfl, by decide +kernel, fun _ _ _ _ _ _ _ => ⟨_, rfl, fun _ => rfl⟩⟩
  | 10, _ => .inr ⟨Str.ofString "j", rfl, by decide +kernel, fun _ _ _ _ _ _ _ => ⟨_, rfl, fun _ => rfl⟩⟩
  | 11, _ => .inr ⟨Str.ofString "k", rfl, by decide +kernel, fun _ _ _ _ _ _ _ => ⟨_, rfl, fun _ => rfl⟩⟩
  | 12, _ => .inr ⟨Str.ofString "m", rfl, by decide +kernel, fun _ _ _ _ _ _ _ => ⟨_, rfl, fun _ => rfl⟩⟩
  | 13, _ => .inr ⟨Str.ofString "n", rfl, by decide +kernel, fun _ _ _ _ _ _ _ => ⟨_, rfl, fun _ => rfl⟩⟩
  | 14, _ => .inr ⟨Str.ofString "o", rfl, by decide +kernel, fun _ _ _ _ _ _ _ => ⟨_, rfl, fun _ => rfl⟩⟩
  | 15, _ => .inr ⟨Str.ofString "p", rfl, by decide +kernel, fun _ _ _ _ _ _ _ => ⟨_, rfl, fun _ => rfl⟩⟩
  | 16, _ => .inr ⟨Str.ofString "q", rfl, by decide +kernel, fun _ _ _ _ _ _ _ => ⟨_, rfl, fun _ => rfl⟩⟩
  | 17, _ => .inr ⟨Str.ofString "r", rfl, by decide +kernel, fun _ _ _ _ _ _ _ => ⟨_, rfl, fun _ => rfl⟩⟩
  | 18, _ => .inl ⟨rfl, fun _ _ _ _ _ _ => rfl⟩
  | 19, _ => .inr ⟨Str.ofString "a", rfl, by decide +kernel, fun _ _ _ _ _ _ _ => ⟨_, rfl, fun _ => rfl⟩⟩
  | 20, _ => .inr ⟨Str.ofString "b", rfl, by decide +kernel, fun _ _ _ _ _ _ _ => ⟨_, rfl, fun _ => rfl⟩⟩
  | 21, _ => .inr ⟨Str.ofString "c", rfl, by decide +kernel, fun _ _ _ _ _ _ _ => ⟨_, rfl, fun _ => rfl⟩⟩
  | 22, _ => .inr ⟨Str.ofString "d", rfl, by decide +kernel, fun _ _ _ _ _ _ _ => ⟨_, rfl, fun _ => rfl⟩⟩
  | 23, _ => .inr ⟨Str.ofString "e", rfl, by decide +kernel, fun _ _ _ _ _ _ _ => ⟨_, rfl, fun _ => rfl⟩⟩
  | n + 24, h => absurd h (by omega)
def fxs (G : G8) (i : Nat) : FX := match i with
  | 0 => xCall 1 G.is_sound (xCons (xOf (fVar 5)) xNil)
  | 1 => xCall 1 G.lots_in (xCons (xOf (fVar 5)) xNil)
  | 2 => xCall 1 G.breaker (xCons (xOf (fVar 5)) xNil)
  | 3 => xCall 1 G.greatest_sound (xCons (xOf (fVar 5)) xNil)
  | 4 => xCall 1 G.fewest_drops (xCons (xOf (fVar 5)) xNil)
  | 5 => xCall 2 G.fault (xCons (xOf (fVar 5)) (xCons (xOf (fC .non)) xNil))
  | 6 => xCall 2 G.lets_by (xCons (xOf (fVar 5)) (xCons (xOf (fC .non)) xNil))
  | 7 => xCall 1 G.strengths (xCons (xOf (fVar 5)) xNil)
  | 8 => xCall 2 G.lets_by_all (xCons (xOf (fVar 5)) (xCons (xOf (fC .non)) xNil))
  | 9 => xCall 2 G.lets_by_all (xCons (xOf (fVar 2)) (xCons (xOf (fVar 5)) xNil))
  | 10 => xCall 2 G.parting (xCons (xOf (fVar 5)) (xCons (xOf (fC .non)) xNil))
  | 11 => xCall 2 G.parting (xCons (xOf (fVar 2)) (xCons (xOf (fVar 5)) xNil))
  | 12 => xCall 2 G.sees_all (xCons (xOf (fVar 5)) (xCons (xOf (fC .non)) xNil))
  | 13 => xCall 2 G.sees_all (xCons (xOf (fVar 2)) (xCons (xOf (fVar 5)) xNil))
  | 14 => xCall 2 G.unseen (xCons (xOf (fVar 5)) (xCons (xOf (fC .non)) xNil))
  | 15 => xCall 2 G.unseen (xCons (xOf (fVar 2)) (xCons (xOf (fVar 5)) xNil))
  | 16 => xCall 4 G.alike (xCons (xOf (fVar 5)) (xCons (xOf (fC .non)) (xCons (xOf (fC (.int 0))) (xCons (xOf (fC (.int 0))) xNil))))
  | 17 => xCall 3 G.leak (xCons (xOf (fVar 5)) (xCons (xOf (fC .non)) (xCons (xOf (fC (.int 0))) xNil)))
  | 18 => xCall 2 G.fault (xCons (xOf (fVar 2)) (xCons (xOf (fVar 5)) xNil))
  | 19 => xCall 2 G.lets_by (xCons (xOf (fVar 2)) (xCons (xOf (fVar 5)) xNil))
  | 20 => xCall 2 G.run (xCons (xOf (fVar 5)) (xCons (xOf (fC .non)) xNil))
  | 21 => xCall 4 G.alike (xCons (xOf (fVar 2)) (xCons (xOf (fVar 5)) (xCons (xOf (fC (.int 0))) (xCons (xOf (fC (.int 0))) xNil))))
  | 22 => xCall 3 G.leak (xCons (xOf (fVar 2)) (xCons (xOf (fVar 5)) (xCons (xOf (fC (.int 0))) xNil)))
  | _ => xCall 1 G.write_program (xCons (xOf (fVar 5)) xNil)
def spLaw (K : PySem.W.Frag) (Pt : Addr) : Sp := fun vs H Q _ => ∃ (a : Addr) (ns : List Int), vs = [.ref a] ∧ SqL K H a (ns.map V.int) ∧ H Pt = some (.tbl #[]) ∧ ∀ H', Q (.bl true) H'
theorem hide_no (H : Hp) : hide (fun _ => false) H = H := by funext a; unfold hide; rw [if_neg Bool.false_ne_true]
theorem ok_law {fa fb c Pt CI CN CS : Addr} {lv : Nat} {oc kV dc pm ct ocb kVb dcb pmb cdb ctb : Value} {od an odb anb : Option Addr} {osl oslb : Array (Option Value)} (B : Bi mg)
    (lk : K.lookup fa = some ⟨oc, od, .func (PySem.W.fnOf "law" "law" (defArgs s_law) (defBody s_law) (defScope s_law) .none kV dc pm an (.ref c) ct), osl⟩) (hcd : PySem.W.codeIn K (.ref c) "law" = true) (TB : TabB base mg c Pt)
    {gd gp gk gt gi gj : FD} {G : G8} (k_l_design : Kn P w K mg base "_law_design" 1 lv gd) (pd : P_design gd) (k_l_program : Kn P w K mg base "_law_program" 2 lv gp) (pp : P_program gp)
    (k_l_pick : Kn P w K mg base "_law_pick" 2 lv gk) (pk : P_pick gk) (k_l_taken : Kn P w K mg base "_law_taken" 2 lv gt) (pt : P_taken gt) (k_is_design : Kn P w K mg base "is_design" 1 lv gi) (pi : P_is_design gi) (piX : P_is_designX gi) (k_is_program : Kn P w K mg base "is_program" 1 lv gj) (pj : P_is_program gj)
    (KG : KG8 P w K mg base lv G) (PG : PG8 CN CI G)
    (hmb : mg "_law_wrong" = some (.ref fb)) (hkb : PySem.W.keepIn K (.ref fb) = true) (lkb : K.lookup fb = some ⟨ocb, odb, .func (PySem.W.fnOf "_law_wrong" "_law_wrong" (defArgs s_l_wrong) (defBody s_l_wrong) (defScope s_l_wrong) .none kVb dcb pmb anb cdb ctb), oslb⟩)
    (hcb : PySem.W.codeIn K cdb "_law_wrong" = true) (hmS : mg "FlowError" = some (.ref CS)) (hmI : mg "BadProgram" = some (.ref CI)) (hmN : mg "BadDesign" = some (.ref CN)) (hmi : mg "isinstance" = none)
    (EI : ExcC K CI) (EN : ExcC K CN) (XI : XfC K CI) (hno : PySem.W.findIn K (.ref CI) partF = some none) (hexI : PySem.W.exmOne K (.ref CI) (.ref CS) = some true) (hexN : PySem.W.exmOne K (.ref CN) (.ref CS) = some true) (hkit : PySem.W.kitOne K (.ref CN) (.ref CI) = some false) :
    FnOk P w K mg base CX0 (lv + 3) fa (PySem.W.fnOf "law" "law" (defArgs s_law) (defBody s_law) (defScope s_law) .none kV dc pm an (.ref c) ct) ["script"] (spLaw K Pt) := by
  have kx_is_sound := KG.is_sound
  have kx_lots_in := KG.lots_in
  have kx_breaker := KG.breaker
  have kx_greatest_sound := KG.greatest_sound
  have kx_fewest_drops := KG.fewest_drops
  have kx_fault := KG.fault
  have kx_lets_by := KG.lets_by
  have kx_strengths := KG.strengths
  have kx_lets_by_all := KG.lets_by_all
  have kx_parting := KG.parting
  have kx_sees_all := KG.sees_all
  have kx_unseen := KG.unseen
  have kx_alike := KG.alike
  have kx_leak := KG.leak
  have kx_run := KG.run
  have kx_write_program := KG.write_program
  refine fn_of lk hcd sc_law (fun vs H Q E ⟨a, ns, e, _⟩ => by rw [e]; rfl) fun A outer s H vs Q E hr h => ?_
  obtain ⟨a, sc, rfl, hS, hT, hQ⟩ := h
  have nd : PSs (cxOf CX0 P w K mg base Nlaw "law" (defScope s_law) fa (.ref c) A outer s H E).nox (defBody s_law) (tDN K [(Pt, qLam)] _) := ((n_cons (n_of (dq_own (i := 1) (ps_set sc_law.nd rfl (Or.inl rfl) (o_lst (da_cons (d_var 0 (pv 0)) (da_cons d_int (da_cons d_int (da_cons d_int da_nil))))))))
  (n_cons (n_of (dq_of (ds_set (i := 2) sc_law.nd rfl (Or.inr rfl) (d_kn k_l_design (hr.mono (by omega)) rfl (da_cons (d_var 1 (pv 1)) da_nil)))))
  (n_cons (n_of (dq_of (ds_asg (d_kn k_l_program (hr.mono (by omega)) rfl (da_cons (d_var 1 (pv 1)) (da_cons (d_var 2 (pv 2)) da_nil))) (pg_tup rfl (pgs_cons (pg_name (i := 3) sc_law.nd rfl (Or.inl rfl)) (pgs_cons (pg_name (i := 4) sc_law.nd rfl (Or.inl rfl)) pgs_nil))) (gt_pair (i := 3) (j := 4) (vs := [3, 4]) (by decide) (by decide)))))
  (n_cons (n_of (dq_of (ds_set (i := 5) sc_law.nd rfl (Or.inr rfl) (d_kn k_l_pick (hr.mono (by omega)) rfl (da_cons (d_var 1 (pv 1)) (da_cons (d_lst (da_cons d_non (da_cons (d_lst (da_cons d_str da_nil)) (da_cons (d_tup (da_cons d_str (da_cons d_str da_nil))) (da_cons (d_tup (da_cons d_str (da_cons d_str da_nil))) (da_cons (d_tup (da_cons d_str da_nil)) (da_cons d_str (da_cons (d_tup (da_cons d_int da_nil)) (da_cons (d_tup (da_cons d_str (da_cons d_non da_nil))) da_nil))))))))) da_nil))))))
  (n_cons (n_setP (i := 6) (ps_set sc_law.nd rfl (Or.inl rfl) (np_lst (npa_cons (np_lam (L := lams 0) TB rfl List.mem_cons_self (fun p hp _ => by rw [List.mem_singleton.mp hp]; rfl) (lmsL 0 (by decide)) rfl (hd0L 0 (by decide))) (npa_cons (np_lam (L := lams 1) TB rfl List.mem_cons_self (fun p hp _ => by rw [List.mem_singleton.mp hp]; rfl) (lmsL 1 (by decide)) rfl (hd0L 1 (by decide))) (npa_cons (np_lam (L := lams 2) TB rfl List.mem_cons_self (fun p hp _ => by rw [List.mem_singleton.mp hp]; rfl) (lmsL 2 (by decide)) rfl (hd0L 2 (by decide))) (npa_cons (np_lam (L := lams 3) TB rfl List.mem_cons_self (fun p hp _ => by rw [List.mem_singleton.mp hp]; rfl) (lmsL 3 (by decide)) rfl (hd0L 3 (by decide))) npa_nil)))))))
  (n_cons (n_setP (i := 6) (ps_set sc_law.nd rfl (Or.inl rfl) (np_op op_addA g_add (np_of (ne_of (d_var 6 (pv 6)))) (np_lst (npa_cons (np_lam (L := lams 4) TB rfl List.mem_cons_self (fun p hp _ => by rw [List.mem_singleton.mp hp]; rfl) (lmsL 4 (by decide)) rfl (hd0L 4 (by decide))) (npa_cons (np_lam (L := lams 5) TB rfl List.mem_cons_self (fun p hp _ => by rw [List.mem_singleton.mp hp]; rfl) (lmsL 5 (by decide)) rfl (hd0L 5 (by decide))) (npa_cons (np_lam (L := lams 6) TB rfl List.mem_cons_self (fun p hp _ => by rw [List.mem_singleton.mp hp]; rfl) (lmsL 6 (by decide)) rfl (hd0L 6 (by decide))) (npa_cons (np_lam (L := lams 7) TB rfl List.mem_cons_self (fun p hp _ => by rw [List.mem_singleton.mp hp]; rfl) (lmsL 7 (by decide)) rfl (hd0L 7 (by decide))) npa_nil))))))))
  (n_cons (n_setP (i := 6) (ps_set sc_law.nd rfl (Or.inl rfl) (np_op op_addA g_add (np_of (ne_of (d_var 6 (pv 6)))) (np_lst (npa_cons (np_lam (L := lams 8) TB rfl List.mem_cons_self (fun p hp _ => by rw [List.mem_singleton.mp hp]; rfl) (lmsL 8 (by decide)) rfl (hd0L 8 (by decide))) (npa_cons (np_lam (L := lams 9) TB rfl List.mem_cons_self (fun p hp _ => by rw [List.mem_singleton.mp hp]; rfl) (lmsL 9 (by decide)) rfl (hd0L 9 (by decide))) (npa_cons (np_lam (L := lams 10) TB rfl List.mem_cons_self (fun p hp _ => by rw [List.mem_singleton.mp hp]; rfl) (lmsL 10 (by decide)) rfl (hd0L 10 (by decide))) npa_nil)))))))
  (n_cons (n_setP (i := 6) (ps_set sc_law.nd rfl (Or.inl rfl) (np_op op_addA g_add (np_of (ne_of (d_var 6 (pv 6)))) (np_lst (npa_cons (np_lam (L := lams 11) TB rfl List.mem_cons_self (fun p hp _ => by rw [List.mem_singleton.mp hp]; rfl) (lmsL 11 (by decide)) rfl (hd0L 11 (by decide))) (npa_cons (np_lam (L := lams 12) TB rfl List.mem_cons_self (fun p hp _ => by rw [List.mem_singleton.mp hp]; rfl) (lmsL 12 (by decide)) rfl (hd0L 12 (by decide))) (npa_cons (np_lam (L := lams 13) TB rfl List.mem_cons_self (fun p hp _ => by rw [List.mem_singleton.mp hp]; rfl) (lmsL 13 (by decide)) rfl (hd0L 13 (by decide))) npa_nil)))))))
  (n_cons (n_setP (i := 6) (ps_set sc_law.nd rfl (Or.inl rfl) (np_op op_addA g_add (np_of (ne_of (d_var 6 (pv 6)))) (np_lst (npa_cons (np_lam (L := lams 14) TB rfl List.mem_cons_self (fun p hp _ => by rw [List.mem_singleton.mp hp]; rfl) (lmsL 14 (by decide)) rfl (hd0L 14 (by decide))) (npa_cons (np_lam (L := lams 15) TB rfl List.mem_cons_self (fun p hp _ => by rw [List.mem_singleton.mp hp]; rfl) (lmsL 15 (by decide)) rfl (hd0L 15 (by decide))) (npa_cons (np_lam (L := lams 16) TB rfl List.mem_cons_self (fun p hp _ => by rw [List.mem_singleton.mp hp]; rfl) (lmsL 16 (by decide)) rfl (hd0L 16 (by decide))) (npa_cons (np_lam (L := lams 17) TB rfl List.mem_cons_self (fun p hp _ => by rw [List.mem_singleton.mp hp]; rfl) (lmsL 17 (by decide)) rfl (hd0L 17 (by decide))) npa_nil))))))))
  (n_cons (n_ifP (PW.pt (npw_or (npt_cmp (op_neA hr.units) g_ne (np_wcallT (n := 24) (lams := lams) (fx := fxs G) (Ng := ["work", "e"]) (k := lv) rfl hmb hkb lkb hcb (Binds.all fun us hl => match us, hl with | [_], _ => rfl) sc_l_wrong rfl (Or.inl rfl) (wrong_gives hmS hmI hmN hmi EI EN XI hno hexI hexN hkit) hr lmsL lmbL (fun i hi A1 outer1 s1 H1 E1 f1 c1 hr1 => match i, hi, hr1 with | 0, _, hr1 => x_kn kx_is_sound (hr1.mono (by omega)) (takes_of rfl rfl rfl rfl) (fun _ _ _ _ h => h) rfl (xa_cons (xe_of (d_var 5 (pv 5))) xa_nil) | 1, _, hr1 => x_kn kx_lots_in (hr1.mono (by omega)) (takes_of rfl rfl rfl rfl) (fun _ _ _ _ h => h) rfl (xa_cons (xe_of (d_var 5 (pv 5))) xa_nil) | 2, _, hr1 => x_kn kx_breaker (hr1.mono (by omega)) (takes_of rfl rfl rfl rfl) (fun _ _ _ _ h => h) rfl (xa_cons (xe_of (d_var 5 (pv 5))) xa_nil) | 3, _, hr1 => x_kn kx_greatest_sound (hr1.mono (by omega)) (takes_of rfl rfl rfl rfl) (fun _ _ _ _ h => h) rfl (xa_cons (xe_of (d_var 5 (pv 5))) xa_nil) | 4, _, hr1 => x_kn kx_fewest_drops (hr1.mono (by omega)) (takes_of rfl rfl rfl rfl) (fun _ _ _ _ h => h) rfl (xa_cons (xe_of (d_var 5 (pv 5))) xa_nil) | 5, _, hr1 => x_kn kx_fault (hr1.mono (by omega)) (takes_of rfl rfl rfl rfl) (fun _ _ _ _ h => h) rfl (xa_cons (xe_of (d_var 5 (pv 5))) (xa_cons (xe_of d_non) xa_nil)) | 6, _, hr1 => x_kn kx_lets_by (hr1.mono (by omega)) (takes_of rfl rfl rfl rfl) (fun _ _ _ _ h => h) rfl (xa_cons (xe_of (d_var 5 (pv 5))) (xa_cons (xe_of d_non) xa_nil)) | 7, _, hr1 => x_kn kx_strengths (hr1.mono (by omega)) (takes_of rfl rfl rfl rfl) (fun _ _ _ _ h => h) rfl (xa_cons (xe_of (d_var 5 (pv 5))) xa_nil) | 8, _, hr1 => x_kn kx_lets_by_all (hr1.mono (by omega)) (takes_of rfl rfl rfl rfl) (fun _ _ _ _ h => h) rfl (xa_cons (xe_of (d_var 5 (pv 5))) (xa_cons (xe_of d_non) xa_nil)) | 9, _, hr1 => x_kn kx_lets_by_all (hr1.mono (by omega)) (takes_of rfl rfl rfl rfl) (fun _ _ _ _ h => h) rfl (xa_cons (xe_of (d_var 2 (pv 2))) (xa_cons (xe_of (d_var 5 (pv 5))) xa_nil)) | 10, _, hr1 => x_kn kx_parting (hr1.mono (by omega)) (takes_of rfl rfl rfl rfl) (fun _ _ _ _ h => h) rfl (xa_cons (xe_of (d_var 5 (pv 5))) (xa_cons (xe_of d_non) xa_nil)) | 11, _, hr1 => x_kn kx_parting (hr1.mono (by omega)) (takes_of rfl rfl rfl rfl) (fun _ _ _ _ h => h) rfl (xa_cons (xe_of (d_var 2 (pv 2))) (xa_cons (xe_of (d_var 5 (pv 5))) xa_nil)) | 12, _, hr1 => x_kn kx_sees_all (hr1.mono (by omega)) (takes_of rfl rfl rfl rfl) (fun _ _ _ _ h => h) rfl (xa_cons (xe_of (d_var 5 (pv 5))) (xa_cons (xe_of d_non) xa_nil)) | 13, _, hr1 => x_kn kx_sees_all (hr1.mono (by omega)) (takes_of rfl rfl rfl rfl) (fun _ _ _ _ h => h) rfl (xa_cons (xe_of (d_var 2 (pv 2))) (xa_cons (xe_of (d_var 5 (pv 5))) xa_nil)) | 14, _, hr1 => x_kn kx_unseen (hr1.mono (by omega)) (takes_of rfl rfl rfl rfl) (fun _ _ _ _ h => h) rfl (xa_cons (xe_of (d_var 5 (pv 5))) (xa_cons (xe_of d_non) xa_nil)) | 15, _, hr1 => x_kn kx_unseen (hr1.mono (by omega)) (takes_of rfl rfl rfl rfl) (fun _ _ _ _ h => h) rfl (xa_cons (xe_of (d_var 2 (pv 2))) (xa_cons (xe_of (d_var 5 (pv 5))) xa_nil)) | 16, _, hr1 => x_kn kx_alike (hr1.mono (by omega)) (takes_of rfl rfl rfl rfl) (fun _ _ _ _ h => h) rfl (xa_cons (xe_of (d_var 5 (pv 5))) (xa_cons (xe_of d_non) (xa_cons (xe_of d_int) (xa_cons (xe_of d_int) xa_nil)))) | 17, _, hr1 => x_kn kx_leak (hr1.mono (by omega)) (takes_of rfl rfl rfl rfl) (fun _ _ _ _ h => h) rfl (xa_cons (xe_of (d_var 5 (pv 5))) (xa_cons (xe_of d_non) (xa_cons (xe_of d_int) xa_nil))) | 18, _, hr1 => x_kn kx_fault (hr1.mono (by omega)) (takes_of rfl rfl rfl rfl) (fun _ _ _ _ h => h) rfl (xa_cons (xe_of (d_var 2 (pv 2))) (xa_cons (xe_of (d_var 5 (pv 5))) xa_nil)) | 19, _, hr1 => x_kn kx_lets_by (hr1.mono (by omega)) (takes_of rfl rfl rfl rfl) (fun _ _ _ _ h => h) rfl (xa_cons (xe_of (d_var 2 (pv 2))) (xa_cons (xe_of (d_var 5 (pv 5))) xa_nil)) | 20, _, hr1 => x_kn kx_run (hr1.mono (by omega)) (takes_of rfl rfl rfl rfl) (fun _ _ _ _ h => h) rfl (xa_cons (xe_of (d_var 5 (pv 5))) (xa_cons (xe_of d_non) xa_nil)) | 21, _, hr1 => x_kn kx_alike (hr1.mono (by omega)) (takes_of rfl rfl rfl rfl) (fun _ _ _ _ h => h) rfl (xa_cons (xe_of (d_var 2 (pv 2))) (xa_cons (xe_of (d_var 5 (pv 5))) (xa_cons (xe_of d_int) (xa_cons (xe_of d_int) xa_nil)))) | 22, _, hr1 => x_kn kx_leak (hr1.mono (by omega)) (takes_of rfl rfl rfl rfl) (fun _ _ _ _ h => h) rfl (xa_cons (xe_of (d_var 2 (pv 2))) (xa_cons (xe_of (d_var 5 (pv 5))) (xa_cons (xe_of d_int) xa_nil))) | 23, _, hr1 => x_kn kx_write_program (hr1.mono (by omega)) (takes_of rfl rfl rfl rfl) (fun _ _ _ _ h => h) rfl (xa_cons (xe_of (d_var 5 (pv 5))) xa_nil) | _ + 24, h, _ => absurd h (by omega)) (res_wrong CI CN) (fun H => .str _) (d_ix (d_var 6 (pv 6)) (d_kn k_l_taken (hr.mono (by omega)) rfl (da_cons (d_var 1 (pv 1)) (da_cons d_int da_nil))) (fun _ _ => rfl))) (np_of (ne_of d_str)) (nomark _)) (npw_or (npt_of (nt_of (dt_cmp op_isNotA g_isNot (d_kn k_is_design (hr.mono (by omega)) rfl (da_cons (d_var 5 (pv 5)) da_nil)) d_bl (nomark _)))) (npw_or1 (npt_of (nt_of (dt_cmp op_isNotA g_isNot (d_kn k_is_design (hr.mono (by omega)) rfl (da_cons (d_var 2 (pv 2)) da_nil)) d_bl (nomark _)))))))) (n_cons (n_of (dq_of (ds_ret d_bl)))
  n_nil) n_nil)
  (n_cons (n_of (dq_of (ds_set (i := 7) sc_law.nd rfl (Or.inl rfl) (d_callB call_len g_len rfl (B.get "len") (by decide +kernel) (da_cons (d_var 3 (pv 3)) da_nil)))))
  (n_cons (n_of (dq_of (ds_set (i := 8) sc_law.nd rfl (Or.inl rfl) (d_lst (da_cons d_non (da_cons (d_tup da_nil) (da_cons (d_tup (da_cons d_str (da_cons d_int (da_cons (d_tup da_nil) (da_cons d_int da_nil))))) (da_cons (d_tup (da_cons d_str (da_cons d_int (da_cons d_int (da_cons d_int da_nil))))) (da_cons (d_tup (da_cons d_str (da_cons (d_var 7 (pv 7)) (da_cons (d_tup da_nil) (da_cons d_int da_nil))))) (da_cons (d_tup (da_cons d_str (da_cons d_int (da_cons (d_tup (da_cons (d_var 7 (pv 7)) da_nil)) (da_cons d_int da_nil))))) (da_cons (d_tup (da_cons d_str (da_cons d_int (da_cons (d_op op_mulA g_mul (d_tup (da_cons d_int da_nil)) d_int) (da_cons d_int da_nil))))) (da_cons (d_tup (da_cons d_str (da_cons d_int (da_cons (d_lst (da_cons d_int da_nil)) (da_cons d_int da_nil))))) da_nil))))))))))))
  (n_cons (n_of (dq_of (ds_set (i := 8) sc_law.nd rfl (Or.inl rfl) (d_op op_addA g_add (d_var 8 (pv 8)) (d_lst (da_cons (d_tup (da_cons d_str (da_cons d_int (da_cons (d_tup da_nil) da_nil)))) (da_cons (d_tup (da_cons d_str (da_cons d_int (da_cons (d_tup da_nil) (da_cons (d_tup da_nil) (da_cons (d_tup da_nil) da_nil)))))) (da_cons (d_tup (da_cons d_str (da_cons (d_var 7 (pv 7)) (da_cons (d_tup da_nil) (da_cons (d_tup da_nil) da_nil))))) (da_cons (d_tup (da_cons d_str (da_cons d_int (da_cons (d_lst da_nil) (da_cons (d_tup da_nil) da_nil))))) (da_cons (d_tup (da_cons d_str (da_cons d_int (da_cons (d_tup da_nil) da_nil)))) (da_cons (d_tup (da_cons d_str (da_cons (d_neg d_int) (da_cons (d_tup da_nil) da_nil)))) (da_cons (d_tup (da_cons d_str (da_cons (d_var 7 (pv 7)) (da_cons (d_tup da_nil) da_nil)))) da_nil))))))))))))
  (n_cons (n_of (dq_of (ds_set (i := 8) sc_law.nd rfl (Or.inl rfl) (d_op op_addA g_add (d_var 8 (pv 8)) (d_lst (da_cons (d_tup (da_cons d_str da_nil)) (da_cons (d_tup (da_cons d_str (da_cons (d_var 7 (pv 7)) da_nil))) (da_cons (d_tup (da_cons d_str (da_cons d_int da_nil))) (da_cons (d_tup (da_cons d_str (da_cons d_int da_nil))) (da_cons (d_tup (da_cons d_str (da_cons d_int (da_cons (d_var 7 (pv 7)) da_nil)))) (da_cons (d_tup (da_cons d_str (da_cons d_str (da_cons d_int (da_cons d_int da_nil))))) (da_cons (d_tup (da_cons d_str (da_cons d_int (da_cons d_int da_nil)))) (da_cons (d_tup (da_cons d_str (da_cons d_str (da_cons d_int da_nil)))) da_nil)))))))))))))
  (n_cons (n_of (dq_of (ds_set (i := 8) sc_law.nd rfl (Or.inl rfl) (d_op op_addA g_add (d_var 8 (pv 8)) (d_lst (da_cons (d_tup (da_cons d_str (da_cons d_int (da_cons (d_op op_mulA g_mul (d_tup (da_cons (d_tup (da_cons d_str da_nil)) da_nil)) d_int) da_nil)))) (da_cons (d_tup (da_cons d_str (da_cons d_int (da_cons (d_tup (da_cons (d_tup (da_cons d_str (da_cons d_int (da_cons (d_tup (da_cons (d_tup (da_cons d_str (da_cons d_int (da_cons (d_tup da_nil) (da_cons (d_tup da_nil) da_nil))))) da_nil)) (da_cons (d_tup da_nil) da_nil))))) da_nil)) (da_cons (d_tup da_nil) da_nil))))) (da_cons (d_tup (da_cons d_str da_nil)) (da_cons (d_lst (da_cons d_str da_nil)) (da_cons d_str (da_cons (d_tup (da_cons d_str (da_cons d_bl da_nil))) (da_cons (d_tup (da_cons d_non da_nil)) da_nil))))))))))))
  (n_cons (n_of (dq_of (ds_set (i := 9) sc_law.nd rfl (Or.inl rfl) (d_ix (d_var 8 (pv 8)) (d_kn k_l_taken (hr.mono (by omega)) rfl (da_cons (d_var 1 (pv 1)) (da_cons (d_callB call_len g_len rfl (B.get "len") (by decide +kernel) (da_cons (d_var 8 (pv 8)) da_nil)) da_nil))) (fun _ _ => rfl)))))
  (n_cons (n_of (dq_of (ds_set (i := 10) sc_law.nd rfl (Or.inl rfl) (d_kn k_l_taken (hr.mono (by omega)) rfl (da_cons (d_var 1 (pv 1)) (da_cons (d_op op_addA g_add (d_callB call_len g_len rfl (B.get "len") (by decide +kernel) (da_cons (d_var 4 (pv 4)) da_nil)) d_int) da_nil))))))
  (n_cons (n_of (dq_of (ds_set (i := 11) sc_law.nd rfl (Or.inl rfl) (d_lst (da_cons (d_tup (da_cons d_non (da_cons d_non da_nil))) (da_cons (d_tup (da_cons (d_tup da_nil) (da_cons d_non da_nil))) (da_cons (d_tup (da_cons (d_tup (da_cons (d_var 3 (pv 3)) da_nil)) (da_cons d_non da_nil))) (da_cons (d_tup (da_cons (d_tup (da_cons (d_var 3 (pv 3)) (da_cons (d_var 4 (pv 4)) (da_cons (d_tup da_nil) da_nil)))) (da_cons d_non da_nil))) (da_cons (d_tup (da_cons (d_lst (da_cons (d_var 3 (pv 3)) (da_cons (d_var 4 (pv 4)) da_nil))) (da_cons d_non da_nil))) (da_cons (d_tup (da_cons (d_tup (da_cons (d_tup da_nil) (da_cons (d_var 4 (pv 4)) da_nil))) (da_cons d_int da_nil))) (da_cons (d_tup (da_cons (d_tup (da_cons (d_callTy call_list_of g_list rfl (B.get "list") (by decide +kernel) (da_cons (d_var 3 (pv 3)) da_nil)) (da_cons (d_var 4 (pv 4)) da_nil))) (da_cons d_int da_nil))) da_nil)))))))))))
  (n_cons (n_of (dq_of (ds_set (i := 11) sc_law.nd rfl (Or.inl rfl) (d_op op_addA g_add (d_var 11 (pv 11)) (d_lst (da_cons (d_tup (da_cons (d_tup (da_cons (d_op op_mulA g_mul (d_tup (da_cons d_str da_nil)) d_int) (da_cons (d_tup da_nil) da_nil))) (da_cons d_int da_nil))) (da_cons (d_tup (da_cons (d_tup (da_cons (d_tup (da_cons d_str da_nil)) (da_cons (d_tup da_nil) da_nil))) (da_cons d_int da_nil))) (da_cons (d_tup (da_cons (d_tup (da_cons (d_tup (da_cons d_non da_nil)) (da_cons (d_tup da_nil) da_nil))) (da_cons d_int da_nil))) (da_cons (d_tup (da_cons (d_tup (da_cons (d_var 3 (pv 3)) (da_cons (d_callTy call_list_of g_list rfl (B.get "list") (by decide +kernel) (da_cons (d_var 4 (pv 4)) da_nil)) da_nil))) (da_cons d_int da_nil))) (da_cons (d_tup (da_cons (d_tup (da_cons (d_var 3 (pv 3)) (da_cons (d_op op_mulA g_mul (d_tup (da_cons (d_tup (da_cons d_str da_nil)) da_nil)) d_int) da_nil))) (da_cons d_int da_nil))) da_nil))))))))))
  (n_cons (n_of (dq_of (ds_set (i := 11) sc_law.nd rfl (Or.inl rfl) (d_op op_addA g_add (d_var 11 (pv 11)) (d_op op_mulA g_mul (d_lst (da_cons (d_tup (da_cons (d_tup (da_cons (d_var 3 (pv 3)) (da_cons (d_op op_addA g_add (d_op op_addA g_add (d_slice (d_var 4 (pv 4)) do_no (do_yes (d_var 10 (pv 10)))) (d_tup (da_cons (d_var 9 (pv 9)) da_nil))) (d_slice (d_var 4 (pv 4)) (do_yes (d_var 10 (pv 10))) do_no)) da_nil))) (da_cons d_int da_nil))) da_nil)) d_int)))))
  (n_cons (n_of (dq_of (ds_asg (d_ix (d_var 11 (pv 11)) (d_kn k_l_taken (hr.mono (by omega)) rfl (da_cons (d_var 1 (pv 1)) (da_cons (d_callB call_len g_len rfl (B.get "len") (by decide +kernel) (da_cons (d_var 11 (pv 11)) da_nil)) da_nil))) (fun _ _ => rfl)) (pg_tup rfl (pgs_cons (pg_name (i := 5) sc_law.nd rfl (Or.inr rfl)) (pgs_cons (pg_name (i := 12) sc_law.nd rfl (Or.inl rfl)) pgs_nil))) (gt_pair (i := 5) (j := 12) (vs := [5, 12]) (by decide) (by decide)))))
  (n_cons (n_setP (i := 6) (ps_set sc_law.nd rfl (Or.inl rfl) (np_lst (npa_cons (np_lam (L := lams 18) TB rfl List.mem_cons_self (fun p hp _ => by rw [List.mem_singleton.mp hp]; rfl) (lmsL 18 (by decide)) rfl (hd0L 18 (by decide))) (npa_cons (np_lam (L := lams 19) TB rfl List.mem_cons_self (fun p hp _ => by rw [List.mem_singleton.mp hp]; rfl) (lmsL 19 (by decide)) rfl (hd0L 19 (by decide))) (npa_cons (np_lam (L := lams 20) TB rfl List.mem_cons_self (fun p hp _ => by rw [List.mem_singleton.mp hp]; rfl) (lmsL 20 (by decide)) rfl (hd0L 20 (by decide))) (npa_cons (np_lam (L := lams 21) TB rfl List.mem_cons_self (fun p hp _ => by rw [List.mem_singleton.mp hp]; rfl) (lmsL 21 (by decide)) rfl (hd0L 21 (by decide))) npa_nil)))))))
  (n_cons (n_setP (i := 6) (ps_set sc_law.nd rfl (Or.inl rfl) (np_op op_addA g_add (np_of (ne_of (d_var 6 (pv 6)))) (np_lst (npa_cons (np_lam (L := lams 22) TB rfl List.mem_cons_self (fun p hp _ => by rw [List.mem_singleton.mp hp]; rfl) (lmsL 22 (by decide)) rfl (hd0L 22 (by decide))) (npa_cons (np_lam (L := lams 23) TB rfl List.mem_cons_self (fun p hp _ => by rw [List.mem_singleton.mp hp]; rfl) (lmsL 23 (by decide)) rfl (hd0L 23 (by decide))) npa_nil))))))
  (n_cons (n_ifP (PW.pt (npw_or (npt_cmp (op_neA hr.units) g_ne (np_wcallT (n := 24) (lams := lams) (fx := fxs G) (Ng := ["work", "e"]) (k := lv) rfl hmb hkb lkb hcb (Binds.all fun us hl => match us, hl with | [_], _ => rfl) sc_l_wrong rfl (Or.inl rfl) (wrong_gives hmS hmI hmN hmi EI EN XI hno hexI hexN hkit) hr lmsL lmbL (fun i hi A1 outer1 s1 H1 E1 f1 c1 hr1 => match i, hi, hr1 with | 0, _, hr1 => x_kn kx_is_sound (hr1.mono (by omega)) (takes_of rfl rfl rfl rfl) (fun _ _ _ _ h => h) rfl (xa_cons (xe_of (d_var 5 (pv 5))) xa_nil) | 1, _, hr1 => x_kn kx_lots_in (hr1.mono (by omega)) (takes_of rfl rfl rfl rfl) (fun _ _ _ _ h => h) rfl (xa_cons (xe_of (d_var 5 (pv 5))) xa_nil) | 2, _, hr1 => x_kn kx_breaker (hr1.mono (by omega)) (takes_of rfl rfl rfl rfl) (fun _ _ _ _ h => h) rfl (xa_cons (xe_of (d_var 5 (pv 5))) xa_nil) | 3, _, hr1 => x_kn kx_greatest_sound (hr1.mono (by omega)) (takes_of rfl rfl rfl rfl) (fun _ _ _ _ h => h) rfl (xa_cons (xe_of (d_var 5 (pv 5))) xa_nil) | 4, _, hr1 => x_kn kx_fewest_drops (hr1.mono (by omega)) (takes_of rfl rfl rfl rfl) (fun _ _ _ _ h => h) rfl (xa_cons (xe_of (d_var 5 (pv 5))) xa_nil) | 5, _, hr1 => x_kn kx_fault (hr1.mono (by omega)) (takes_of rfl rfl rfl rfl) (fun _ _ _ _ h => h) rfl (xa_cons (xe_of (d_var 5 (pv 5))) (xa_cons (xe_of d_non) xa_nil)) | 6, _, hr1 => x_kn kx_lets_by (hr1.mono (by omega)) (takes_of rfl rfl rfl rfl) (fun _ _ _ _ h => h) rfl (xa_cons (xe_of (d_var 5 (pv 5))) (xa_cons (xe_of d_non) xa_nil)) | 7, _, hr1 => x_kn kx_strengths (hr1.mono (by omega)) (takes_of rfl rfl rfl rfl) (fun _ _ _ _ h => h) rfl (xa_cons (xe_of (d_var 5 (pv 5))) xa_nil) | 8, _, hr1 => x_kn kx_lets_by_all (hr1.mono (by omega)) (takes_of rfl rfl rfl rfl) (fun _ _ _ _ h => h) rfl (xa_cons (xe_of (d_var 5 (pv 5))) (xa_cons (xe_of d_non) xa_nil)) | 9, _, hr1 => x_kn kx_lets_by_all (hr1.mono (by omega)) (takes_of rfl rfl rfl rfl) (fun _ _ _ _ h => h) rfl (xa_cons (xe_of (d_var 2 (pv 2))) (xa_cons (xe_of (d_var 5 (pv 5))) xa_nil)) | 10, _, hr1 => x_kn kx_parting (hr1.mono (by omega)) (takes_of rfl rfl rfl rfl) (fun _ _ _ _ h => h) rfl (xa_cons (xe_of (d_var 5 (pv 5))) (xa_cons (xe_of d_non) xa_nil)) | 11, _, hr1 => x_kn kx_parting (hr1.mono (by omega)) (takes_of rfl rfl rfl rfl) (fun _ _ _ _ h => h) rfl (xa_cons (xe_of (d_var 2 (pv 2))) (xa_cons (xe_of (d_var 5 (pv 5))) xa_nil)) | 12, _, hr1 => x_kn kx_sees_all (hr1.mono (by omega)) (takes_of rfl rfl rfl rfl) (fun _ _ _ _ h => h) rfl (xa_cons (xe_of (d_var 5 (pv 5))) (xa_cons (xe_of d_non) xa_nil)) | 13, _, hr1 => x_kn kx_sees_all (hr1.mono (by omega)) (takes_of rfl rfl rfl rfl) (fun _ _ _ _ h => h) rfl (xa_cons (xe_of (d_var 2 (pv 2))) (xa_cons (xe_of (d_var 5 (pv 5))) xa_nil)) | 14, _, hr1 => x_kn kx_unseen (hr1.mono (by omega)) (takes_of rfl rfl rfl rfl) (fun _ _ _ _ h => h) rfl (xa_cons (xe_of (d_var 5 (pv 5))) (xa_cons (xe_of d_non) xa_nil)) | 15, _, hr1 => x_kn kx_unseen (hr1.mono (by omega)) (takes_of rfl rfl rfl rfl) (fun _ _ _ _ h => h) rfl (xa_cons (xe_of (d_var 2 (pv 2))) (xa_cons (xe_of (d_var 5 (pv 5))) xa_nil)) | 16, _, hr1 => x_kn kx_alike (hr1.mono (by omega)) (takes_of rfl rfl rfl rfl) (fun _ _ _ _ h => h) rfl (xa_cons (xe_of (d_var 5 (pv 5))) (xa_cons (xe_of d_non) (xa_cons (xe_of d_int) (xa_cons (xe_of d_int) xa_nil)))) | 17, _, hr1 => x_kn kx_leak (hr1.mono (by omega)) (takes_of rfl rfl rfl rfl) (fun _ _ _ _ h => h) rfl (xa_cons (xe_of (d_var 5 (pv 5))) (xa_cons (xe_of d_non) (xa_cons (xe_of d_int) xa_nil))) | 18, _, hr1 => x_kn kx_fault (hr1.mono (by omega)) (takes_of rfl rfl rfl rfl) (fun _ _ _ _ h => h) rfl (xa_cons (xe_of (d_var 2 (pv 2))) (xa_cons (xe_of (d_var 5 (pv 5))) xa_nil)) | 19, _, hr1 => x_kn kx_lets_by (hr1.mono (by omega)) (takes_of rfl rfl rfl rfl) (fun _ _ _ _ h => h) rfl (xa_cons (xe_of (d_var 2 (pv 2))) (xa_cons (xe_of (d_var 5 (pv 5))) xa_nil)) | 20, _, hr1 => x_kn kx_run (hr1.mono (by omega)) (takes_of rfl rfl rfl rfl) (fun _ _ _ _ h => h) rfl (xa_cons (xe_of (d_var 5 (pv 5))) (xa_cons (xe_of d_non) xa_nil)) | 21, _, hr1 => x_kn kx_alike (hr1.mono (by omega)) (takes_of rfl rfl rfl rfl) (fun _ _ _ _ h => h) rfl (xa_cons (xe_of (d_var 2 (pv 2))) (xa_cons (xe_of (d_var 5 (pv 5))) (xa_cons (xe_of d_int) (xa_cons (xe_of d_int) xa_nil)))) | 22, _, hr1 => x_kn kx_leak (hr1.mono (by omega)) (takes_of rfl rfl rfl rfl) (fun _ _ _ _ h => h) rfl (xa_cons (xe_of (d_var 2 (pv 2))) (xa_cons (xe_of (d_var 5 (pv 5))) (xa_cons (xe_of d_int) xa_nil))) | 23, _, hr1 => x_kn kx_write_program (hr1.mono (by omega)) (takes_of rfl rfl rfl rfl) (fun _ _ _ _ h => h) rfl (xa_cons (xe_of (d_var 5 (pv 5))) xa_nil) | _ + 24, h, _ => absurd h (by omega)) (res_wrong CI CN) (fun H => .str _) (d_ix (d_var 6 (pv 6)) (d_kn k_l_taken (hr.mono (by omega)) rfl (da_cons (d_var 1 (pv 1)) (da_cons d_int da_nil))) (fun _ _ => rfl))) (np_of (ne_of (d_tup (da_cons d_str (da_cons (d_var 12 (pv 12)) da_nil))))) (nomark _)) (npw_or1 (npt_of (nt_of (dt_cmp op_isNotA g_isNot (d_kn k_is_program (hr.mono (by omega)) rfl (da_cons (d_var 5 (pv 5)) da_nil)) d_bl (nomark _))))))) (n_cons (n_of (dq_of (ds_ret d_bl)))
  n_nil) n_nil)
  (n_cons (n_of (dq_of (ds_ret (d_cmp op_isA g_is (d_kn k_is_program (hr.mono (by omega)) rfl (da_cons (d_tup (da_cons (d_var 3 (pv 3)) (da_cons (d_var 4 (pv 4)) da_nil))) da_nil)) d_bl (nomark _)))))
  n_nil))))))))))))))))))))))))))
  refine ⟨_, nd.nox, ?_⟩
  have er0 : EnvR K (hide (fun _ => false) H) (L2.start Nlaw [.ref a]) (startD 13 [.scr sc]) := env_start (N := Nlaw) (.cons (.scr (by rw [hide_no]; exact hS)) .nil)
  have e0 : startD 13 [.scr sc] = [some (.scr sc), none, none, none, none, none, none, none, none, none, none, none, none] := rfl
  refine ⟨fun _ => false, S0, startD 13 [.scr sc], fun o _ => o = .rt (.bl true), er0, SI.zero K H, fun p hp => by rw [List.mem_singleton.mp hp]; exact TabS.nil hT, ?_, fun o s' h' H' hp g => by subst hp; intro v r; cases r; exact hQ H'⟩
  rw [e0]
  refine ⟨rowO sc 0 15212 0, S0, by simp [oLst, rowO], fun p _ => ?_⟩
  have hrow : IsRow (supd S0 p (rowO sc 0 15212 0)) p := ⟨sc, 0, 15212, 0, supd_same, by omega⟩
  generalize supd S0 p (rowO sc 0 15212 0) = s0 at hrow
  obtain ⟨ws, s1, e1, r1, sb⟩ := pd p s0 hrow
  refine tof_nx (δ' := [some (.scr sc), some (.ref p), some (.tup (ws.map strD)), none, none, none, none, none, none, none, none, none, none]) (s' := s1) (by simp [e1]) ?_
  obtain ⟨so, b, s2, e2, r2, hs1, hs2, hb, ok, _⟩ := pp p s1 ws r1.is
  refine tof_nx (δ' := [some (.scr sc), some (.ref p), some (.tup (ws.map strD)), some (sortsD so), some (bodyD b), none, none, none, none, none, none, none, none]) (s' := s2) (by simp [e2]) ?_
  obtain ⟨bd, s3, e3, r3, hbd⟩ := pk p s2 (.lst badDs) badDs rfl r2.is (by simp [badDs]) (by simp [badDs])
  refine tof_nx (δ' := [some (.scr sc), some (.ref p), some (.tup (ws.map strD)), some (sortsD so), some (bodyD b), some (bd), none, none, none, none, none, none, none]) (s' := s3) (by
    simp only [badDs, strD] at e3
    simp [e3]) ?_
  clear e1 e2 e3
  have W : WkOk (cxOf CX0 P w K mg base Nlaw "law" (defScope s_law) fa (.ref c) A outer s H E).nox lams p 0 [] s3 := ⟨r3.is, fun k f hk => by simp at hk⟩
  intro f0 of0 nf0 if0
  have W := W.add nf0 if0 rfl
  generalize supd s3 f0 of0 = tf0 at W ⊢
  intro f1 of1 nf1 if1
  have W := W.add nf1 if1 rfl
  generalize supd tf0 f1 of1 = tf1 at W ⊢
  intro f2 of2 nf2 if2
  have W := W.add nf2 if2 rfl
  generalize supd tf1 f2 of2 = tf2 at W ⊢
  intro f3 of3 nf3 if3
  have W := W.add nf3 if3 rfl
  generalize supd tf2 f3 of3 = tf3 at W ⊢
  refine ⟨by simp, ?_⟩
  refine ⟨.lst [.ref f0, .ref f1, .ref f2, .ref f3], tf3, by simp, ?_⟩
  intro f4 of4 nf4 if4
  have W := W.add nf4 if4 rfl
  generalize supd tf3 f4 of4 = tf4 at W ⊢
  intro f5 of5 nf5 if5
  have W := W.add nf5 if5 rfl
  generalize supd tf4 f5 of5 = tf5 at W ⊢
  intro f6 of6 nf6 if6
  have W := W.add nf6 if6 rfl
  generalize supd tf5 f6 of6 = tf6 at W ⊢
  intro f7 of7 nf7 if7
  have W := W.add nf7 if7 rfl
  generalize supd tf6 f7 of7 = tf7 at W ⊢
  refine ⟨by simp, ?_⟩
  refine ⟨.lst [.ref f0, .ref f1, .ref f2, .ref f3, .ref f4, .ref f5, .ref f6, .ref f7], by simp, ?_⟩
  refine ⟨.lst [.ref f0, .ref f1, .ref f2, .ref f3, .ref f4, .ref f5, .ref f6, .ref f7], tf7, by simp, ?_⟩
  intro f8 of8 nf8 if8
  have W := W.add nf8 if8 rfl
  generalize supd tf7 f8 of8 = tf8 at W ⊢
  intro f9 of9 nf9 if9
  have W := W.add nf9 if9 rfl
  generalize supd tf8 f9 of9 = tf9 at W ⊢
  intro f10 of10 nf10 if10
  have W := W.add nf10 if10 rfl
  generalize supd tf9 f10 of10 = tf10 at W ⊢
  refine ⟨by simp, ?_⟩
  refine ⟨.lst [.ref f0, .ref f1, .ref f2, .ref f3, .ref f4, .ref f5, .ref f6, .ref f7, .ref f8, .ref f9, .ref f10], by simp, ?_⟩
  refine ⟨.lst [.ref f0, .ref f1, .ref f2, .ref f3, .ref f4, .ref f5, .ref f6, .ref f7, .ref f8, .ref f9, .ref f10], tf10, by simp, ?_⟩
  intro f11 of11 nf11 if11
  have W := W.add nf11 if11 rfl
  generalize supd tf10 f11 of11 = tf11 at W ⊢
  intro f12 of12 nf12 if12
  have W := W.add nf12 if12 rfl
  generalize supd tf11 f12 of12 = tf12 at W ⊢
  intro f13 of13 nf13 if13
  have W := W.add nf13 if13 rfl
  generalize supd tf12 f13 of13 = tf13 at W ⊢
  refine ⟨by simp, ?_⟩
  refine ⟨.lst [.ref f0, .ref f1, .ref f2, .ref f3, .ref f4, .ref f5, .ref f6, .ref f7, .ref f8, .ref f9, .ref f10, .ref f11, .ref f12, .ref f13], by simp, ?_⟩
  refine ⟨.lst [.ref f0, .ref f1, .ref f2, .ref f3, .ref f4, .ref f5, .ref f6, .ref f7, .ref f8, .ref f9, .ref f10, .ref f11, .ref f12, .ref f13], tf13, by simp, ?_⟩
  intro f14 of14 nf14 if14
  have W := W.add nf14 if14 rfl
  generalize supd tf13 f14 of14 = tf14 at W ⊢
  intro f15 of15 nf15 if15
  have W := W.add nf15 if15 rfl
  generalize supd tf14 f15 of15 = tf15 at W ⊢
  intro f16 of16 nf16 if16
  have W := W.add nf16 if16 rfl
  generalize supd tf15 f16 of16 = tf16 at W ⊢
  intro f17 of17 nf17 if17
  have W := W.add nf17 if17 rfl
  generalize supd tf16 f17 of17 = tf17 at W ⊢
  refine ⟨by simp, ?_⟩
  refine ⟨.lst [.ref f0, .ref f1, .ref f2, .ref f3, .ref f4, .ref f5, .ref f6, .ref f7, .ref f8, .ref f9, .ref f10, .ref f11, .ref f12, .ref f13, .ref f14, .ref f15, .ref f16, .ref f17], by simp, ?_⟩
  obtain ⟨v, s4, e4, r4, hv0, hv⟩ := pt p tf17 18 W.1 (by omega) (by omega)
  obtain ⟨k, rfl⟩ : ∃ k : Nat, v = (k : Int) := ⟨v.toNat, by omega⟩
  have W : WkOk (cxOf CX0 P w K mg base Nlaw "law" (defScope s_law) fa (.ref c) A outer s H E).nox lams p 0 [f0, f1, f2, f3, f4, f5, f6, f7, f8, f9, f10, f11, f12, f13, f14, f15, f16, f17] s4 := W.row r4
  have hk : k < 18 := by omega
  have hx := piX bd hbd s4
  have hg := pi ws s4 sb
  simp only [desD] at hg
  obtain ⟨f, hf⟩ : ∃ f, ([f0, f1, f2, f3, f4, f5, f6, f7, f8, f9, f10, f11, f12, f13, f14, f15, f16, f17] : List Addr)[k]? = some f := ⟨_, List.getElem?_eq_getElem (by simpa using hk)⟩
  have hfi : L2.atI (([f0, f1, f2, f3, f4, f5, f6, f7, f8, f9, f10, f11, f12, f13, f14, f15, f16, f17] : List Addr).map D.ref) (k : Int) = some (.ref f) := by rw [atI_cast, List.getElem?_map, hf]; rfl
  simp only [List.map_cons, List.map_nil] at hfi
  obtain ⟨o, ho, hl⟩ := W.2 k f hf
  rw [Nat.zero_add] at hl
  have hlam : fLamE (fxs G k) (resW CI CN) (.str (Str.ofString "")) [some (.scr sc), some (.ref p), some (.tup (ws.map strD)), some (sortsD so), some (bodyD b), some (bd), some (.lst [.ref f0, .ref f1, .ref f2, .ref f3, .ref f4, .ref f5, .ref f6, .ref f7, .ref f8, .ref f9, .ref f10, .ref f11, .ref f12, .ref f13, .ref f14, .ref f15, .ref f16, .ref f17]), none, none, none, none, none, none] s4 = some (.str (Str.ofString "design"), s4) := by
    rcases (show k = 0 ∨ k = 1 ∨ k = 2 ∨ k = 3 ∨ k = 4 ∨ k = 5 ∨ k = 6 ∨ k = 7 ∨ k = 8 ∨ k = 9 ∨ k = 10 ∨ k = 11 ∨ k = 12 ∨ k = 13 ∨ k = 14 ∨ k = 15 ∨ k = 16 ∨ k = 17 by omega) with rfl | rfl | rfl | rfl | rfl | rfl | rfl | rfl | rfl | rfl | rfl | rfl | rfl | rfl | rfl | rfl | rfl | rfl
    · have a0 := PG.is_sound bd hbd s4
      simp [fxs, a0]
    · have a0 := PG.lots_in bd hbd s4
      simp [fxs, a0]
    · have a0 := PG.breaker bd hbd s4
      simp [fxs, a0]
    · have a0 := PG.greatest_sound bd hbd s4
      simp [fxs, a0]
    · have a0 := PG.fewest_drops bd hbd s4
      simp [fxs, a0]
    · have a0 := PG.fault.1 bd hbd .non s4
      simp [fxs, a0]
    · have a0 := PG.lets_by.1 bd hbd .non s4
      simp [fxs, a0]
    · have a0 := PG.strengths.1 bd hbd s4
      simp [fxs, a0]
    · have a0 := PG.lets_by_all.1 bd hbd .non s4
      simp [fxs, a0]
    · have a0 := PG.lets_by_all.2 ws bd s4 sb hbd
      simp [fxs, a0]
    · have a0 := PG.parting.1 bd hbd .non s4
      simp [fxs, a0]
    · have a0 := PG.parting.2 ws bd s4 sb hbd
      simp [fxs, a0]
    · have a0 := PG.sees_all.1 bd hbd .non s4
      simp [fxs, a0]
    · have a0 := PG.sees_all.2 ws bd s4 sb hbd
      simp [fxs, a0]
    · have a0 := PG.unseen.1 bd hbd .non s4
      simp [fxs, a0]
    · have a0 := PG.unseen.2 ws bd s4 sb hbd
      simp [fxs, a0]
    · have a0 := PG.alike.1 bd hbd .non (.int 0) (.int 0) s4
      simp [fxs, a0]
    · have a0 := PG.leak.1 bd hbd .non (.int 0) s4
      simp [fxs, a0]
  refine works_no2 (s1 := s4) (s2 := s4) (s3 := s4) (s4 := s4) (s5 := s4) (f := f) (i := k) (u := o) (d := .str (Str.ofString "design")) (y := .str (Str.ofString "design")) (by simp [e4, hfi]) (by omega) ho hl hlam (by simp) (by simp) (by simp [hx]) (by simp [hg]) ?_
  clear hlam hl ho hfi hf hx hg e4
  have hsl : so.length ≤ 10000000 := by omega
  generalize hWL : D.lst [.ref f0, .ref f1, .ref f2, .ref f3, .ref f4, .ref f5, .ref f6, .ref f7, .ref f8, .ref f9, .ref f10, .ref f11, .ref f12, .ref f13, .ref f14, .ref f15, .ref f16, .ref f17] = WL
  refine tof_nx (δ' := [some (.scr sc), some (.ref p), some (.tup (ws.map strD)), some (sortsD so), some (bodyD b), some (bd), some (WL), some (natD so.length), none, none, none, none, none]) (s' := s4) (by
    simp [sortsD, natD, hsl]) ?_
  obtain ⟨m, hm⟩ : ∃ m, m = so.length := ⟨_, rfl⟩
  rw [← hm]
  refine tof_nx (δ' := [some (.scr sc), some (.ref p), some (.tup (ws.map strD)), some (sortsD so), some (bodyD b), some (bd), some (WL), some (natD m), some (.lst (items1 m)), none, none, none, none]) (s' := s4) (by
    simp [items1, strD, List.replicate, natD]) ?_
  refine tof_nx (δ' := [some (.scr sc), some (.ref p), some (.tup (ws.map strD)), some (sortsD so), some (bodyD b), some (bd), some (WL), some (natD m), some (.lst (items1 m ++ items2 m)), none, none, none, none]) (s' := s4) (by
    simp [items1, items2, strD, natD]) ?_
  refine tof_nx (δ' := [some (.scr sc), some (.ref p), some (.tup (ws.map strD)), some (sortsD so), some (bodyD b), some (bd), some (WL), some (natD m), some (.lst (items1 m ++ items2 m ++ items3 m)), none, none, none, none]) (s' := s4) (by
    simp [items1, items2, items3, strD, natD]) ?_
  have hst : stX m 0 = items1 m ++ items2 m ++ items3 m ++ items4 := rfl
  refine tof_nx (δ' := [some (.scr sc), some (.ref p), some (.tup (ws.map strD)), some (sortsD so), some (bodyD b), some (bd), some (WL), some (natD m), some (.lst (stX m 0)), none, none, none, none]) (s' := s4) (by
    rw [hst]
    simp [items1, items2, items3, items4, stIf, stopD, strD, List.replicate, natD]) ?_
  have hIL : (stX m 0).length = 30 := rfl
  obtain ⟨IL, hIe⟩ : ∃ IL, IL = stX m 0 := ⟨_, rfl⟩
  rw [← hIe] at hIL ⊢
  obtain ⟨v2, s5, e5, r5, hv20, hv2⟩ := pt p s4 30 W.1 (by omega) (by omega)
  obtain ⟨k2, rfl⟩ : ∃ k2 : Nat, v2 = (k2 : Int) := ⟨v2.toNat, by omega⟩
  obtain ⟨it, hit⟩ : ∃ it, IL[k2]? = some it := ⟨_, List.getElem?_eq_getElem (by omega)⟩
  have hiti : L2.atI IL (k2 : Int) = some it := by rw [atI_cast]; exact hit
  have hitm : it ∈ stX m 0 := by rw [← hIe]; exact List.mem_of_getElem? hit
  refine tof_nx (δ' := [some (.scr sc), some (.ref p), some (.tup (ws.map strD)), some (sortsD so), some (bodyD b), some (bd), some (WL), some (natD m), some (.lst IL), some (it), none, none, none]) (s' := s5) (by
    simp [hIL, e5, hiti]) ?_
  obtain ⟨v3, s6, e6, r6, hv30, hv3⟩ := pt p s5 ((b.length : Nat) + 1 : Int) r5.is (by omega) (by omega)
  obtain ⟨k3, rfl⟩ : ∃ k3 : Nat, v3 = (k3 : Int) := ⟨v3.toNat, by omega⟩
  have hk3 : k3 ≤ b.length := by omega
  have hbl : (smsD b).length = b.length := smsD_length b
  have hbl7 : b.length ≤ 10000000 := by omega
  refine tof_nx (δ' := [some (.scr sc), some (.ref p), some (.tup (ws.map strD)), some (sortsD so), some (bodyD b), some (bd), some (WL), some (natD m), some (.lst IL), some (it), some (.int (k3 : Int)), none, none]) (s' := s6) (by
    simp [bodyD, hbl, hbl7, e6]) ?_
  refine tof_nx (δ' := [some (.scr sc), some (.ref p), some (.tup (ws.map strD)), some (sortsD so), some (bodyD b), some (bd), some (WL), some (natD m), some (.lst IL), some (it), some (.int (k3 : Int)), some (.lst (odd1 so b)), none]) (s' := s6) (by
    simp [odd1, sortsD, bodyD, hsl]) ?_
  refine tof_nx (δ' := [some (.scr sc), some (.ref p), some (.tup (ws.map strD)), some (sortsD so), some (bodyD b), some (bd), some (WL), some (natD m), some (.lst IL), some (it), some (.int (k3 : Int)), some (.lst (odd1 so b ++ odd2 so b)), none]) (s' := s6) (by
    simp [odd1, odd2, sortsD, bodyD, strD, stopD, hbl, hbl7, List.replicate]) ?_
  have c1 := cut_pre (smsD b) k3
  have c2 := cut_suf (smsD b) k3
  have tk : (smsD b).take k3 = smsD (b.take k3) := by rw [smsD_map, smsD_map, List.map_take]
  have dk : (smsD b).drop k3 = smsD (b.drop k3) := by rw [smsD_map, smsD_map, List.map_drop]
  rw [tk] at c1
  rw [dk] at c2
  have l1 : (smsD (b.take k3)).length ≤ 7 := by rw [smsD_length, List.length_take]; omega
  have l2 : (smsD (b.drop k3)).length ≤ 7 := by rw [smsD_length, List.length_drop]; omega
  obtain ⟨O12, hO12⟩ : ∃ O, O = odd1 so b ++ odd2 so b := ⟨_, rfl⟩
  have hO12l : O12.length = 12 := by rw [hO12]; rfl
  rw [← hO12]
  refine tof_nx (δ' := [some (.scr sc), some (.ref p), some (.tup (ws.map strD)), some (sortsD so), some (bodyD b), some (bd), some (WL), some (natD m), some (.lst IL), some (it), some (.int (k3 : Int)), some (.lst (O12 ++ List.replicate 6 (odd3 so b k3 it))), none]) (s' := s6) (by
    have ho3 : odd3 so b k3 it = .tup [.tup [sortsD so, .tup (smsD (b.take k3) ++ it :: smsD (b.drop k3))], .int 1] := rfl
    rw [ho3]
    generalize smsD (b.take k3) = TA at *
    generalize smsD (b.drop k3) = TD at *
    have l3 : TA.length + 1 ≤ 10000000 := by omega
    have l4 : TA.length + (TD.length + 1) ≤ 10000000 := by omega
    have l5 : TA.length + 1 + TD.length ≤ 10000000 := by omega
    have l6 : TD.length ≤ 10000000 := by omega
    have l7 : TA.length ≤ 10000000 := by omega
    simp [bodyD, c1, c2, l3, l4, l5, l6, l7, hO12l, List.replicate]) ?_
  have hodd := odd_bad (so := so) (b := b) (k := k3) (t := it) (by omega) (by omega) ok hb (by rw [← hm]; exact hitm)
  rw [← hO12] at hodd
  have hOL : (O12 ++ List.replicate 6 (odd3 so b k3 it)).length = 18 := by rw [List.length_append, List.length_replicate, hO12l]
  obtain ⟨OL, hOLe⟩ : ∃ OL, OL = O12 ++ List.replicate 6 (odd3 so b k3 it) := ⟨_, rfl⟩
  rw [← hOLe] at hOL hodd ⊢
  obtain ⟨v4, s7, e7, r7, hv40, hv4⟩ := pt p s6 18 r6.is (by omega) (by omega)
  obtain ⟨k4, rfl⟩ : ∃ k4 : Nat, v4 = (k4 : Int) := ⟨v4.toNat, by omega⟩
  obtain ⟨od0, hod⟩ : ∃ x, OL[k4]? = some x := ⟨_, List.getElem?_eq_getElem (by omega)⟩
  obtain ⟨pb, pq, rfl, hpb, hpq⟩ := hodd od0 (List.mem_of_getElem? hod)
  have hodi : L2.atI OL (k4 : Int) = some (.tup [pb, pq]) := by rw [atI_cast]; exact hod
  refine tof_nx (δ' := [some (.scr sc), some (.ref p), some (.tup (ws.map strD)), some (sortsD so), some (bodyD b), some (pb), some (WL), some (natD m), some (.lst IL), some (it), some (.int (k3 : Int)), some (.lst OL), some (pq)]) (s' := s7) (by
    simp [hOL, e7, hodi]) ?_
  clear hodi hod hOL hOLe hodd e7 c1 c2 tk dk l1 l2 hO12 hO12l hiti hit hIL hIe hst e5 e6
  subst hWL
  have W : WkOk (cxOf CX0 P w K mg base Nlaw "law" (defScope s_law) fa (.ref c) A outer s H E).nox lams p 18 [] s7 := ⟨r7.is, fun k f hk => by simp at hk⟩
  intro g0 og0 ng0 ig0
  have W := W.add ng0 ig0 rfl
  generalize supd s7 g0 og0 = tg0 at W ⊢
  intro g1 og1 ng1 ig1
  have W := W.add ng1 ig1 rfl
  generalize supd tg0 g1 og1 = tg1 at W ⊢
  intro g2 og2 ng2 ig2
  have W := W.add ng2 ig2 rfl
  generalize supd tg1 g2 og2 = tg2 at W ⊢
  intro g3 og3 ng3 ig3
  have W := W.add ng3 ig3 rfl
  generalize supd tg2 g3 og3 = tg3 at W ⊢
  refine ⟨by simp, ?_⟩
  refine ⟨.lst [.ref g0, .ref g1, .ref g2, .ref g3], tg3, by simp, ?_⟩
  intro g4 og4 ng4 ig4
  have W := W.add ng4 ig4 rfl
  generalize supd tg3 g4 og4 = tg4 at W ⊢
  intro g5 og5 ng5 ig5
  have W := W.add ng5 ig5 rfl
  generalize supd tg4 g5 og5 = tg5 at W ⊢
  refine ⟨by simp, ?_⟩
  refine ⟨.lst [.ref g0, .ref g1, .ref g2, .ref g3, .ref g4, .ref g5], by simp, ?_⟩
  obtain ⟨v, s8, e8, r8, hv0, hv⟩ := pt p tg5 6 W.1 (by omega) (by omega)
  obtain ⟨k, rfl⟩ : ∃ k : Nat, v = (k : Int) := ⟨v.toNat, by omega⟩
  have W : WkOk (cxOf CX0 P w K mg base Nlaw "law" (defScope s_law) fa (.ref c) A outer s H E).nox lams p 18 [g0, g1, g2, g3, g4, g5] s8 := W.row r8
  have hk : k < 6 := by omega
  have hx := pj.1 pb pq s8 hpb
  have hg := pj.2 so b s8 (by omega) (by omega) ok (by omega)
  obtain ⟨f, hf⟩ : ∃ f, ([g0, g1, g2, g3, g4, g5] : List Addr)[k]? = some f := ⟨_, List.getElem?_eq_getElem (by simpa using hk)⟩
  have hfi : L2.atI (([g0, g1, g2, g3, g4, g5] : List Addr).map D.ref) (k : Int) = some (.ref f) := by rw [atI_cast, List.getElem?_map, hf]; rfl
  simp only [List.map_cons, List.map_nil] at hfi
  obtain ⟨o, ho, hl⟩ := W.2 k f hf
  have hlam : fLamE (fxs G (18 + k)) (resW CI CN) (.str (Str.ofString "")) [some (.scr sc), some (.ref p), some (.tup (ws.map strD)), some (sortsD so), some (bodyD b), some (pb), some (.lst [.ref g0, .ref g1, .ref g2, .ref g3, .ref g4, .ref g5]), some (natD m), some (.lst IL), some (it), some (.int (k3 : Int)), some (.lst OL), some (pq)] s8 = some (.tup [.str (Str.ofString "program"), pq], s8) := by
    rcases (show k = 0 ∨ k = 1 ∨ k = 2 ∨ k = 3 ∨ k = 4 ∨ k = 5 by omega) with rfl | rfl | rfl | rfl | rfl | rfl
    · have a0 := PG.fault.2 ws pb pq s8 sb hpb
      simp [fxs, a0]
    · have a0 := PG.lets_by.2 ws pb pq s8 sb hpb
      simp [fxs, a0]
    · have a0 := PG.run pb pq .non s8 hpb
      simp [fxs, a0]
    · have a0 := PG.alike.2 ws pb pq (.int 0) (.int 0) s8 sb hpb
      simp [fxs, a0]
    · have a0 := PG.leak.2 ws pb pq (.int 0) s8 sb hpb
      simp [fxs, a0]
    · have a0 := PG.write_program pb pq s8 hpb
      simp [fxs, a0]
  have hq : dNe (.tup [.str (Str.ofString "program"), pq]) (.tup [.str (Str.ofString "program"), pq]) s8 = some (.bl false) := by
    have q0 : deepD (.tup [.str (Str.ofString "program"), .non]) (.tup [.str (Str.ofString "program"), .non]) = some true := by decide +kernel
    have q1 : deepD (.tup [.str (Str.ofString "program"), .int 0]) (.tup [.str (Str.ofString "program"), .int 0]) = some true := by decide +kernel
    have q2 : deepD (.tup [.str (Str.ofString "program"), .int 1]) (.tup [.str (Str.ofString "program"), .int 1]) = some true := by decide +kernel
    rcases hpq with rfl | rfl | rfl
    · simp [q0]
    · simp [q1]
    · simp [q2]
  refine works_no1 (s1 := s8) (s2 := s8) (s3 := s8) (s4 := s8) (f := f) (i := 18 + k) (u := o) (d := .tup [.str (Str.ofString "program"), pq]) (y := .tup [.str (Str.ofString "program"), pq]) (by simp [e8, hfi]) (by omega) ho hl hlam (by simp) hq (by simp [hx]) ?_
  exact ⟨.rt (.bl true), s8, by simp [hg], rfl⟩

end
end Fw

set_option Elab.async false
set_option linter.all false
set_option maxRecDepth 100000
set_option maxHeartbeats 4000000
namespace Fw
open PySem PySem.Spec PyProof.Rows L2
section
variable {P : Program} {w : World} {K : PySem.W.Frag} {mg : Str → Option Value} {base : Heap}
theorem ok_words {f : Addr} {fd : FuncData} (F : Fun K "_law_words" "_law_words" s_l_words f fd) (hm : mg "_law_words" = some (.ref f)) (B : Bi mg) :
    ∃ g, Kn P w K mg base "_law_words" 0 1 g ∧ ∀ s, g [] s = some (.lst (wordsL.map strD), s) := by
  refine ⟨_, (kn_of (k := 0) F hm sc_l_words (F.binds (ps := []) fun _ _ _ _ _ _ us hl => match us, hl with | [], _ => rfl) fun cdv A outer s H E hr => (dss_cons (ds_set (i := 0) sc_l_words.nd rfl (Or.inl rfl) (d_lst (da_cons d_str (da_cons d_str (da_cons d_str (da_cons d_str (da_cons d_str (da_cons d_str (da_cons d_str (da_cons d_str (da_cons d_str (da_cons d_str da_nil))))))))))))
  (dss_one (ds_ret (d_op op_addA g_add (d_var 0 (pv 0)) (d_lst (da_cons d_str (da_cons d_str da_nil)))))))), ?_⟩
  intro s
  simp [wordsL, strD]

end
end Fw

set_option Elab.async false
set_option linter.all false
set_option maxRecDepth 100000
set_option maxHeartbeats 4000000
namespace Fw
open PySem PySem.Spec PyProof.Rows L2
section
variable {P : Program} {w : World} {K : PySem.W.Frag} {mg : Str → Option Value} {base : Heap}
theorem ok_lots {f : Addr} {fd : FuncData} (F : Fun K "_law_lots" "_law_lots" s_l_lots f fd) (hm : mg "_law_lots" = some (.ref f)) (B : Bi mg) :
    ∃ g, Kn P w K mg base "_law_lots" 0 1 g ∧ ∀ s, g [] s = some (.lst (lotsL.map lotD), s) := by
  refine ⟨_, (kn_of (k := 0) F hm sc_l_lots (F.binds (ps := []) fun _ _ _ _ _ _ us hl => match us, hl with | [], _ => rfl) fun cdv A outer s H E hr => (dss_cons (ds_set (i := 0) sc_l_lots.nd rfl (Or.inl rfl) (d_lst (da_cons (d_tup (da_cons d_str (da_cons d_str da_nil))) (da_cons (d_tup (da_cons d_str (da_cons d_str da_nil))) (da_cons (d_tup (da_cons d_str (da_cons d_str (da_cons d_str da_nil)))) (da_cons (d_tup (da_cons d_str (da_cons d_str da_nil))) da_nil))))))
  (dss_cons (ds_set (i := 0) sc_l_lots.nd rfl (Or.inl rfl) (d_op op_addA g_add (d_var 0 (pv 0)) (d_lst (da_cons (d_tup (da_cons d_str (da_cons d_str da_nil))) (da_cons (d_tup (da_cons d_str (da_cons d_str da_nil))) (da_cons (d_tup (da_cons d_str da_nil)) (da_cons (d_tup (da_cons d_str (da_cons d_str (da_cons d_str da_nil)))) da_nil)))))))
  (dss_cons (ds_set (i := 0) sc_l_lots.nd rfl (Or.inl rfl) (d_op op_addA g_add (d_var 0 (pv 0)) (d_lst (da_cons (d_tup (da_cons d_str (da_cons d_str da_nil))) (da_cons (d_tup (da_cons d_str (da_cons d_str da_nil))) (da_cons (d_tup (da_cons d_str (da_cons d_str da_nil))) (da_cons (d_tup (da_cons d_str da_nil)) da_nil)))))))
  (dss_one (ds_ret (d_op op_addA g_add (d_var 0 (pv 0)) (d_lst (da_cons (d_tup (da_cons d_str (da_cons d_str da_nil))) da_nil))))))))), ?_⟩
  intro s
  simp [lotsL, lotD]

end
end Fw

set_option Elab.async false
set_option linter.all false
set_option maxRecDepth 100000
set_option maxHeartbeats 4000000
namespace Fw
open PySem PySem.Spec PyProof.Rows L2
section
variable {P : Program} {w : World} {K : PySem.W.Frag} {mg : Str → Option Value} {base : Heap}
theorem ok_into {f : Addr} {fd : FuncData} (F : Fun K "_law_into" "_law_into" s_l_into f fd) (hm : mg "_law_into" = some (.ref f)) (B : Bi mg) :
    ∃ g, Kn P w K mg base "_law_into" 4 1 g ∧ P_into g := by
  refine ⟨_, (kn_of (k := 0) F hm sc_l_into (F.binds (ps := ["words", "secret", "source", "under"]) fun _ _ _ _ _ _ us hl => match us, hl with | [_, _, _, _], _ => rfl) fun cdv A outer s H E hr => (dss_one (ds_ret (d_or (d_var 1 (pv 1)) (d_one (d_and (d_or (d_not (d_var 2 (pv 2))) (d_one (d_cmp op_in_seq g_in d_str (d_var 0 (pv 0)) (by with_unfolding_all rfl)))) (d_one (d_or (d_not (d_var 3 (pv 3))) (d_one (d_cmp op_in_seq g_in d_str (d_var 0 (pv 0)) (by with_unfolding_all rfl))))))))))), ?_⟩
  intro ws a b c s
  by_cases h1 : "straight" ∈ ws <;> by_cases h2 : "under" ∈ ws <;> cases a <;> cases b <;> cases c <;> simp [h1, h2]

end
end Fw

set_option Elab.async false
set_option linter.all false
set_option maxRecDepth 100000
set_option maxHeartbeats 4000000
namespace Fw
open PySem PySem.Spec PyProof.Rows L2
section
variable {P : Program} {w : World} {K : PySem.W.Frag} {mg : Str → Option Value} {base : Heap}
theorem ok_told {f : Addr} {fd : FuncData} (F : Fun K "_law_told" "_law_told" s_l_told f fd) (hm : mg "_law_told" = some (.ref f)) (B : Bi mg) :
    ∃ g, Kn P w K mg base "_law_told" 1 1 g ∧ P_told g := by
  refine ⟨_, (kn_of (k := 0) F hm sc_l_told (F.binds (ps := ["lot"]) fun _ _ _ _ _ _ us hl => match us, hl with | [_], _ => rfl) fun cdv A outer s H E hr => (dss_cons (ds_asg (d_tup (da_cons (d_tup (da_cons d_str (da_cons d_int (da_cons (d_tup da_nil) (da_cons d_int da_nil))))) (da_cons (d_tup (da_cons d_str (da_cons d_int (da_cons (d_tup da_nil) (da_cons d_int da_nil))))) (da_cons (d_tup (da_cons d_str (da_cons d_int da_nil))) da_nil)))) (pg_tup rfl (pgs_cons (pg_name (i := 1) sc_l_told.nd rfl (Or.inl rfl)) (pgs_cons (pg_name (i := 2) sc_l_told.nd rfl (Or.inl rfl)) (pgs_cons (pg_name (i := 3) sc_l_told.nd rfl (Or.inl rfl)) pgs_nil)))) (gt_tri (i := 1) (j := 2) (k := 3) (vs := [1, 2, 3]) (by decide) (by decide) (by decide)))
  (dss_cons (ds_if (dt_cmp (op_eqA hr.units) g_eq (d_callB call_len g_len rfl (B.get "len") (by decide +kernel) (da_cons (d_var 0 (pv 0)) da_nil)) d_int (nomark _)) (dss_one (ds_ret (d_if (dt_cmp (op_eqA hr.units) g_eq (d_var 0 (pv 0)) (d_tup (da_cons d_str da_nil)) (nomark _)) (d_tup (da_cons (d_var 1 (pv 1)) (da_cons (d_tup (da_cons d_str (da_cons d_str (da_cons d_int (da_cons d_int da_nil))))) da_nil))) (d_tup (da_cons (d_tup (da_cons d_str (da_cons d_int (da_cons (d_tup (da_cons d_int da_nil)) (da_cons d_int da_nil))))) da_nil))))) dss_nil)
  (dss_cons (ds_if (dt_cmp (op_eqA hr.units) g_eq (d_var 0 (pv 0)) (d_tup (da_cons d_str (da_cons d_str da_nil))) (nomark _)) (dss_one (ds_ret (d_tup (da_cons (d_tup (da_cons d_str (da_cons d_int (da_cons d_int da_nil)))) da_nil)))) dss_nil)
  (dss_cons (ds_if (dt_cmp (op_eqA hr.units) g_eq (d_var 0 (pv 0)) (d_tup (da_cons d_str (da_cons d_str da_nil))) (nomark _)) (dss_one (ds_ret (d_tup (da_cons (d_tup (da_cons d_str (da_cons d_int da_nil))) da_nil)))) dss_nil)
  (dss_cons (ds_if (dt_cmp (op_eqA hr.units) g_eq (d_ix (d_var 0 (pv 0)) d_int (fun _ _ => rfl)) d_str (nomark _)) (dss_cons (ds_set (i := 4) sc_l_told.nd rfl (Or.inl rfl) (d_dictIx (hu_of hr) (dp_cons (d_var 3 (pv 3)) (dp_cons (d_var 2 (pv 2)) (dp_cons (d_tup (da_cons d_str da_nil)) (dp_cons (d_var 1 (pv 1)) dp_nil)))) (d_ix (d_var 0 (pv 0)) d_int (fun _ _ => rfl)) (fun _ _ => rfl)))
  (dss_one (ds_ret (d_op op_addA g_add (d_tup (da_cons (d_tup (da_cons d_str (da_cons d_int (da_cons (d_tup (da_cons (d_var 4 (pv 4)) da_nil)) (da_cons (d_tup da_nil) da_nil))))) da_nil)) (d_op op_mulA g_mul (d_tup (da_cons (d_var 1 (pv 1)) da_nil)) (d_callTy call_int1 g_int rfl (B.get "int") (by decide +kernel) (da_cons (d_cmp (op_eqA hr.units) g_eq (d_ix (d_var 0 (pv 0)) d_int (fun _ _ => rfl)) d_str (nomark _)) da_nil))))))) dss_nil)
  (dss_cons (ds_set (i := 4) sc_l_told.nd rfl (Or.inl rfl) (d_dictIx (hu_of hr) (dp_cons (d_tup da_nil) (dp_cons (d_tup (da_cons (d_var 3 (pv 3)) (da_cons (d_var 2 (pv 2)) da_nil))) (dp_cons (d_tup (da_cons (d_var 2 (pv 2)) da_nil)) (dp_cons (d_tup (da_cons (d_tup (da_cons d_str da_nil)) da_nil)) (dp_cons (d_tup (da_cons (d_var 1 (pv 1)) (da_cons (d_var 2 (pv 2)) da_nil))) dp_nil))))) (d_ix (d_var 0 (pv 0)) d_int (fun _ _ => rfl)) (fun _ _ => rfl)))
  (dss_one (ds_ret (d_op op_addA g_add (d_tup (da_cons (d_tup (da_cons d_str (da_cons d_int (da_cons (d_var 4 (pv 4)) da_nil)))) da_nil)) (d_op op_mulA g_mul (d_tup (da_cons (d_var 1 (pv 1)) da_nil)) (d_callTy call_int1 g_int rfl (B.get "int") (by decide +kernel) (da_cons (d_cmp (op_eqA hr.units) g_eq (d_ix (d_var 0 (pv 0)) d_int (fun _ _ => rfl)) d_str (nomark _)) da_nil))))))))))))), ?_⟩
  intro l hl s
  simp only [lotsL, List.mem_cons, List.mem_nil_iff, or_false] at hl
  rcases hl with rfl | rfl | rfl | rfl | rfl | rfl | rfl | rfl | rfl | rfl | rfl | rfl | rfl <;>
    simp [lotD, bodyD, toldM, smsD, smD, natD, sortD, deepD, toPy, toPys, SeqAt.shaped, PyData.canLay0, PyData.canLayAll0, PyData.depth, PyData.depthAll, PyData.eqv, PyData.eqvAll]

end
end Fw

set_option Elab.async false
set_option linter.all false
set_option maxRecDepth 100000
set_option maxHeartbeats 4000000
namespace Fw
open PySem PySem.Spec PyProof.Rows L2
section
variable {P : Program} {w : World} {K : PySem.W.Frag} {mg : Str → Option Value} {base : Heap}
theorem ok_stands {f : Addr} {fd : FuncData} (F : Fun K "_law_stands" "_law_stands" s_l_stands f fd) (hm : mg "_law_stands" = some (.ref f)) (B : Bi mg) {gi : FD} (k_l_into : Kn P w K mg base "_law_into" 4 1 gi) (pi : P_into gi) :
    ∃ g, Kn P w K mg base "_law_stands" 4 2 g ∧ P_stands g := by
  refine ⟨_, (kn_of (k := 1) F hm sc_l_stands (F.binds (ps := ["words", "sorts", "one", "under"]) fun _ _ _ _ _ _ us hl => match us, hl with | [_, _, _, _], _ => rfl) fun cdv A outer s H E hr => (dss_cons (ds_set (i := 4) sc_l_stands.nd rfl (Or.inr rfl) (d_lc (own := [("sort", 5)]) rfl sc_l_stands.nd (di_items (d_var 1 (pv 1))) (blkOk_by (N := ["words", "sorts", "one", "under", "hidden", "sort", "word", "x", "bad", "source", "table"]) (sc := defScope s_l_stands) (by decide +kernel)) (gt_name (i := 5) (vs := [5]) (by decide)) (fun _ _ _ _ _ => (pg_name (i := 5) sc_l_stands.nd rfl (Or.inl rfl))) (fun _ _ _ _ _ => dts_nil) (fun _ _ _ _ _ => (d_cmp (op_eqA hr.units) g_eq (d_var 5 (pv 5)) d_str (nomark _)))))
  (dss_cons (ds_set (i := 6) sc_l_stands.nd rfl (Or.inl rfl) (d_ix (d_var 2 (pv 2)) d_int (fun _ _ => rfl)))
  (dss_cons (ds_if (dt_cmp (op_eqA hr.units) g_eq (d_var 6 (pv 6)) d_str (nomark _)) (dss_one (ds_ret (d_kn k_l_into (hr.mono (by omega)) rfl (da_cons (d_var 0 (pv 0)) (da_cons (d_ix (d_var 4 (pv 4)) (d_ix (d_var 2 (pv 2)) d_int (fun _ _ => rfl)) (fun _ _ => rfl)) (da_cons (d_cmp op_in_seq g_in d_bl (d_lc (own := [("x", 7)]) rfl sc_l_stands.nd (di_items (d_ix (d_var 2 (pv 2)) d_int (fun _ _ => rfl))) (blkOk_by (N := ["words", "sorts", "one", "under", "hidden", "sort", "word", "x", "bad", "source", "table"]) (sc := defScope s_l_stands) (by decide +kernel)) (gt_name (i := 7) (vs := [7]) (by decide)) (fun _ _ _ _ _ => (pg_name (i := 7) sc_l_stands.nd rfl (Or.inl rfl))) (fun _ _ _ _ _ => dts_nil) (fun _ _ _ _ _ => (d_ix (d_var 4 (pv 4)) (d_var 7 (pv 7)) (fun _ _ => rfl)))) (by with_unfolding_all rfl)) (da_cons (d_var 3 (pv 3)) da_nil))))))) dss_nil)
  (dss_cons (ds_if (dt_cmp op_in_seq g_in (d_var 6 (pv 6)) (d_lst (da_cons d_str (da_cons d_str da_nil))) (by with_unfolding_all rfl)) (dss_cons (ds_set (i := 8) sc_l_stands.nd rfl (Or.inl rfl) (d_or (d_ix (d_var 4 (pv 4)) (d_ix (d_var 2 (pv 2)) d_int (fun _ _ => rfl)) (fun _ _ => rfl)) (d_one (d_and (d_cmp (op_eqA hr.units) g_eq (d_var 6 (pv 6)) d_str (nomark _)) (d_one (d_var 3 (pv 3)))))))
  (dss_one (ds_ret (d_or (d_not (d_var 8 (pv 8))) (d_one (d_cmp op_in_seq g_in (d_op op_addA g_add (d_var 6 (pv 6)) d_str) (d_var 0 (pv 0)) (by with_unfolding_all rfl))))))) dss_nil)
  (dss_cons (ds_if (dt_cmp (op_eqA hr.units) g_eq (d_var 6 (pv 6)) d_str (nomark _)) (dss_one (ds_ret (d_and (d_or (d_not (d_ix (d_var 4 (pv 4)) (d_ix (d_var 2 (pv 2)) d_int (fun _ _ => rfl)) (fun _ _ => rfl))) (d_one (d_cmp op_in_seq g_in d_str (d_var 0 (pv 0)) (by with_unfolding_all rfl)))) (d_one (d_or (d_not (d_var 3 (pv 3))) (d_one (d_cmp op_in_seq g_in d_str (d_var 0 (pv 0)) (by with_unfolding_all rfl)))))))) dss_nil)
  (dss_cons (ds_if (dt_cmp (op_eqA hr.units) g_eq (d_var 6 (pv 6)) d_str (nomark _)) (dss_one (ds_ret (d_or (d_not (d_var 3 (pv 3))) (d_one (d_cmp op_in_seq g_in d_str (d_var 0 (pv 0)) (by with_unfolding_all rfl)))))) dss_nil)
  (dss_cons (ds_if (dt_cmp (op_eqA hr.units) g_eq (d_var 6 (pv 6)) d_str (nomark _)) (dss_cons (ds_set (i := 9) sc_l_stands.nd rfl (Or.inl rfl) (d_ix (d_var 4 (pv 4)) (d_ix (d_var 2 (pv 2)) d_int (fun _ _ => rfl)) (fun _ _ => rfl)))
  (dss_one (ds_ret (d_and (d_or (d_and (d_not (d_var 9 (pv 9))) (d_one (d_not (d_var 3 (pv 3))))) (d_one (d_cmp op_in_seq g_in d_str (d_var 0 (pv 0)) (by with_unfolding_all rfl)))) (d_one (d_kn k_l_into (hr.mono (by omega)) rfl (da_cons (d_var 0 (pv 0)) (da_cons (d_ix (d_var 4 (pv 4)) (d_ix (d_var 2 (pv 2)) d_int (fun _ _ => rfl)) (fun _ _ => rfl)) (da_cons (d_var 9 (pv 9)) (da_cons (d_var 3 (pv 3)) da_nil)))))))))) dss_nil)
  (dss_cons (ds_if (dt_cmp (op_eqA hr.units) g_eq (d_var 6 (pv 6)) d_str (nomark _)) (dss_cons (ds_set (i := 10) sc_l_stands.nd rfl (Or.inl rfl) (d_cmp (op_eqA hr.units) g_eq (d_ix (d_var 2 (pv 2)) d_int (fun _ _ => rfl)) d_str (nomark _)))
  (dss_one (ds_ret (d_and (d_or (d_var 10 (pv 10)) (d_or (d_not (d_ix (d_var 4 (pv 4)) (d_ix (d_var 2 (pv 2)) d_int (fun _ _ => rfl)) (fun _ _ => rfl))) (d_one (d_cmp op_in_seq g_in d_str (d_var 0 (pv 0)) (by with_unfolding_all rfl))))) (d_one (d_kn k_l_into (hr.mono (by omega)) rfl (da_cons (d_var 0 (pv 0)) (da_cons (d_var 10 (pv 10)) (da_cons (d_ix (d_var 4 (pv 4)) (d_ix (d_var 2 (pv 2)) d_int (fun _ _ => rfl)) (fun _ _ => rfl)) (da_cons (d_var 3 (pv 3)) da_nil)))))))))) dss_nil)
  (dss_cons (ds_if (dt_cmp (op_eqA hr.units) g_eq (d_var 6 (pv 6)) d_str (nomark _)) (dss_one (ds_ret (d_kn k_l_into (hr.mono (by omega)) rfl (da_cons (d_var 0 (pv 0)) (da_cons (d_ix (d_var 4 (pv 4)) (d_ix (d_var 2 (pv 2)) d_int (fun _ _ => rfl)) (fun _ _ => rfl)) (da_cons (d_or (d_cmp (op_eqA hr.units) g_eq (d_ix (d_var 2 (pv 2)) d_int (fun _ _ => rfl)) d_str (nomark _)) (d_one (d_ix (d_var 4 (pv 4)) (d_ix (d_var 2 (pv 2)) d_int (fun _ _ => rfl)) (fun _ _ => rfl)))) (da_cons (d_var 3 (pv 3)) da_nil))))))) dss_nil)
  (dss_one (ds_ret d_bl)))))))))))), ?_⟩
  intro ws so a d und s hl ok
  have hso : ∀ (δ : Fr), 5 < δ.length → compL (gtName 5) tTrue (f2 dEq (fVar 5) (fC (.str (Str.ofString "secret")))) (so.map sortD) δ s = some (so.map D.bl, s) := fun δ h => compL_so so h
  have hl' : so.length ≤ 10000000 := by omega
  have pi' := fun a b c => pi ws a b c s
  cases a with
  | sum x ts n =>
    obtain ⟨h1, h2, h3, h4⟩ := ok
    have hts : ∀ (δ : Fr), δ[4]? = some (some (.lst (so.map D.bl))) → 7 < δ.length → compL (gtName 7) tTrue (f2 dIx (fVar 4) (fVar 7)) (ts.map natD) δ s = some ((ts.map (hid so)).map D.bl, s) := fun δ q1 q2 => compL_hid ts h3 q1 q2 (by decide)
    have h2' : ts.length ≤ 10000000 := by omega
    simp [hso, hl', sortsD, smD, natD, hid_get h1, hts, h2', pi', standsM, intoM, -List.map_map]
  | ite x p q =>
    have h1 : x < so.length := ok.1
    by_cases c1 : "ifs" ∈ ws <;> cases c2 : hid so x <;> simp [hso, hl', sortsD, smD, natD, hid_get h1, standsM, c1, c2]
  | times n b => simp [hso, hl', sortsD, smD, standsM]
  | whl x b =>
    have h1 : x < so.length := ok.1
    by_cases c1 : "whiles" ∈ ws <;> cases c2 : hid so x <;> cases und <;> simp [hso, hl', sortsD, smD, natD, hid_get h1, standsM, c1, c2]
  | print x =>
    have h1 : x < so.length := ok
    by_cases c1 : "tells" ∈ ws <;> by_cases c3 : "prints" ∈ ws <;> cases c2 : hid so x <;> cases und <;> simp [hso, hl', sortsD, smD, natD, hid_get h1, standsM, c1, c2, c3]
  | stop =>
    by_cases c1 : "stops" ∈ ws <;> cases und <;> simp [hso, hl', sortsD, smD, standsM, c1]
  | split x y =>
    obtain ⟨h1, h2⟩ := ok
    by_cases c1 : "splits" ∈ ws <;> cases c2 : hid so y <;> cases und <;> simp [hso, hl', sortsD, smD, natD, hid_get h1, hid_get h2, standsM, intoM, c1, c2, pi']
  | keep t x y =>
    obtain ⟨h1, h2⟩ := ok
    by_cases c1 : "marks" ∈ ws <;> cases c2 : hid so x <;> cases t <;> simp [hso, hl', sortsD, sortD, smD, natD, hid_get h1, hid_get h2, standsM, intoM, c1, c2, pi']
  | fetch t x y =>
    obtain ⟨h1, h2⟩ := ok
    cases c2 : hid so y <;> cases t <;> simp [hso, hl', sortsD, sortD, smD, natD, hid_get h1, hid_get h2, standsM, intoM, c2, pi']

end
end Fw

set_option Elab.async false
set_option linter.all false
set_option maxRecDepth 100000
set_option maxHeartbeats 4000000
namespace Fw
open PySem PySem.Spec PyProof.Rows L2
section
variable {P : Program} {w : World} {K : PySem.W.Frag} {mg : Str → Option Value} {base : Heap}
theorem ok_check {f : Addr} {fd : FuncData} (F : Fun K "_law_check" "_law_check" s_l_check f fd) (hm : mg "_law_check" = some (.ref f)) (B : Bi mg) {gs gc : FD} {lv : Nat} (hlv : 2 ≤ lv) (k_l_stands : Kn P w K mg base "_law_stands" 4 2 gs) (ps : P_stands gs)
    {d : Nat} (hd : d ≤ 100) (k_l_check : Kn P w K mg base "_law_check" 4 lv gc) (pc : 0 < d → P_check (d - 1) gc) :
    ∃ g, Kn P w K mg base "_law_check" 4 (lv + 1) g ∧ P_check d g := by
  refine ⟨_, (kn_of (k := lv) F hm sc_l_check (F.binds (ps := ["words", "sorts", "body", "under"]) fun _ _ _ _ _ _ us hl => match us, hl with | [_, _, _, _], _ => rfl) fun cdv A outer s H E hr => (dss_cons (ds_for PassesOwn.never rfl (di_range rfl (B.get "range") (da_cons (d_callB call_len g_len rfl (B.get "len") (by decide +kernel) (da_cons (d_var 2 (pv 2)) da_nil)) da_nil)) (pg_name (i := 4) sc_l_check.nd rfl (Or.inl rfl)) (gt_name (i := 4) (vs := [4]) (by decide)) (dss_cons (ds_set (i := 5) sc_l_check.nd rfl (Or.inl rfl) (d_ix (d_var 2 (pv 2)) (d_var 4 (pv 4)) (fun _ _ => rfl)))
  (dss_cons (ds_if (dt_not (dt_tru (d_kn k_l_stands (hr.mono (by omega)) rfl (da_cons (d_var 0 (pv 0)) (da_cons (d_var 1 (pv 1)) (da_cons (d_var 5 (pv 5)) (da_cons (d_var 3 (pv 3)) da_nil))))))) (dss_one (ds_ret (d_tup (da_cons (d_var 4 (pv 4)) da_nil)))) dss_nil)
  (dss_one (ds_if (dt_cmp op_in_seq g_in (d_ix (d_var 5 (pv 5)) d_int (fun _ _ => rfl)) (d_lst (da_cons d_str (da_cons d_str (da_cons d_str da_nil)))) (by with_unfolding_all rfl)) (dss_cons (ds_set (i := 6) sc_l_check.nd rfl (Or.inl rfl) (d_or (d_var 3 (pv 3)) (d_one (d_and (d_cmp (op_neA hr.units) g_ne (d_ix (d_var 5 (pv 5)) d_int (fun _ _ => rfl)) d_str (nomark _)) (d_one (d_cmp (op_eqA hr.units) g_eq (d_ix (d_var 1 (pv 1)) (d_ix (d_var 5 (pv 5)) d_int (fun _ _ => rfl)) (fun _ _ => rfl)) d_str (nomark _)))))))
  (dss_one (ds_for PassesOwn.never rfl (di_range2 rfl (B.get "range") (da_cons d_int (da_cons (d_callB call_len g_len rfl (B.get "len") (by decide +kernel) (da_cons (d_var 5 (pv 5)) da_nil)) da_nil))) (pg_name (i := 7) sc_l_check.nd rfl (Or.inl rfl)) (gt_name (i := 7) (vs := [7]) (by decide)) (dss_cons (ds_set (i := 8) sc_l_check.nd rfl (Or.inl rfl) (d_kn k_l_check (hr.mono (by omega)) rfl (da_cons (d_var 0 (pv 0)) (da_cons (d_var 1 (pv 1)) (da_cons (d_ix (d_var 5 (pv 5)) (d_var 7 (pv 7)) (fun _ _ => rfl)) (da_cons (d_var 6 (pv 6)) da_nil))))))
  (dss_one (ds_if (dt_cmp op_isNotA g_isNot (d_var 8 (pv 8)) d_non (nomark _)) (dss_one (ds_ret (d_op op_addA g_add (d_op op_addA g_add (d_tup (da_cons (d_var 4 (pv 4)) da_nil)) (d_op op_mulA g_mul (d_tup (da_cons (d_op op_sub g_sub (d_var 7 (pv 7)) d_int) da_nil)) (d_callTy call_int1 g_int rfl (B.get "int") (by decide +kernel) (da_cons (d_cmp (op_eqA hr.units) g_eq (d_ix (d_var 5 (pv 5)) d_int (fun _ _ => rfl)) d_str (nomark _)) da_nil)))) (d_var 8 (pv 8))))) dss_nil)))))) dss_nil)))))
  (dss_one (ds_ret d_non)))), ?_⟩
  intro ws so b und s hl hb ok
  have e0 : startD 9 [.tup (ws.map strD), sortsD so, .tup (smsD b), .bl und] = [some (.tup (ws.map strD)), some (sortsD so), some (.tup (smsD b)), some (.bl und), none, none, none, none, none] := rfl
  have hr0 : okR (b.length : Int) = true := by simp; omega
  simp only [fBody_e, fSeq_e, fFor_e, fRange_e, fCons_e, fL_e, fVar_e, fNil_e, List.length_cons, List.length_nil, Nat.zero_add, Nat.reduceAdd, e0, List.getElem?_cons_zero, List.getElem?_cons_succ, kVar_s, kCons_s, kCons'_s, kL_s, bodyD, dLen, smsD_length, kR_s, kRange_s, hr0, if_true, kFor_s, Int.toNat_natCast]
  refine kSeq_loop (fun i δ s' => s' = s ∧ (∃ x1 x2 x3 x4 x5, δ = [some (.tup (ws.map strD)), some (sortsD so), some (.tup (smsD b)), some (.bl und), x1, x2, x3, x4, x5]) ∧ faultsM ws so und 0 b = faultsM ws so und i (b.drop i))
    (fun r s' => s' = s ∧ r = placeD (faultsM ws so und 0 b)) ⟨rfl, ⟨_, _, _, _, _, rfl⟩, rfl⟩ ?_ ?_ ?_
  · rintro i dd δ s' hi ⟨rfl, ⟨x1, x2, x3, x4, x5, rfl⟩, hf⟩
    rw [rangeD_get] at hi
    split at hi
    rotate_left
    · cases hi
    rename_i hil
    cases hi
    have hbi : b[i]? = some b[i] := List.getElem?_eq_getElem hil
    have hget := smsD_get hbi
    have oka : smOk so.length d b[i] := smsOk_iff.mp ok _ (List.getElem_mem hil)
    rw [drop_get hbi, faultsM] at hf
    have hs := ps ws so b[i] d und s' hl oka
    refine ⟨_, rfl, ?_⟩
    have e1 : (0 : Int) + ((i : Nat) : Int) = (i : Int) := by omega
    rw [e1]
    cases hst : standsM ws so und b[i] with
    | false =>
      refine .inr ⟨.tup [natD i], s', ?_, rfl, ?_⟩
      · simp [hget, hs, hst, natD]
      · have hfa : faultM ws so und b[i] = some [] := by
          cases hb' : b[i] <;> rw [hb'] at hst <;> rw [faultM] <;> simp [hst]
        rw [hfa] at hf
        simp [hf]
    | true =>
      clear hbi
      revert oka hget hs hf hst
      generalize b[i] = a
      intro hf hget oka hs hst
      have hsh : ∀ y1 y2 y3 y4 y5 : Option D, ∃ x1 x2 x3 x4 x5, [some (D.tup (ws.map strD)), some (sortsD so), some (D.tup (smsD b)), some (D.bl und), y1, y2, y3, y4, y5] = [some (D.tup (ws.map strD)), some (sortsD so), some (D.tup (smsD b)), some (D.bl und), x1, x2, x3, x4, x5] := fun _ _ _ _ _ => ⟨_, _, _, _, _, rfl⟩
      cases a with
      | sum x ts n =>
        have hn : faultM ws so und (.sum x ts n) = none := by rw [faultM, if_pos hst]
        rw [hn] at hf
        rw [hst] at hs
        simp only [smD, strD] at hs hget
        exact .inl ⟨_, s', (by simp [hget, hs]; exact ⟨rfl, rfl, rfl, rfl, rfl⟩), rfl, hsh _ _ _ _ _, hf⟩
      | print x =>
        have hn : faultM ws so und (.print x) = none := by rw [faultM, if_pos hst]
        rw [hn] at hf
        rw [hst] at hs
        simp only [smD, strD] at hs hget
        exact .inl ⟨_, s', (by simp [hget, hs]; exact ⟨rfl, rfl, rfl, rfl, rfl⟩), rfl, hsh _ _ _ _ _, hf⟩
      | stop =>
        have hn : faultM ws so und (.stop) = none := by rw [faultM, if_pos hst]
        rw [hn] at hf
        rw [hst] at hs
        simp only [smD, strD] at hs hget
        exact .inl ⟨_, s', (by simp [hget, hs]; exact ⟨rfl, rfl, rfl, rfl, rfl⟩), rfl, hsh _ _ _ _ _, hf⟩
      | split x y =>
        have hn : faultM ws so und (.split x y) = none := by rw [faultM, if_pos hst]
        rw [hn] at hf
        rw [hst] at hs
        simp only [smD, strD] at hs hget
        exact .inl ⟨_, s', (by simp [hget, hs]; exact ⟨rfl, rfl, rfl, rfl, rfl⟩), rfl, hsh _ _ _ _ _, hf⟩
      | keep t x y =>
        have hn : faultM ws so und (.keep t x y) = none := by rw [faultM, if_pos hst]
        rw [hn] at hf
        rw [hst] at hs
        simp only [smD, strD] at hs hget
        exact .inl ⟨_, s', (by simp [hget, hs]; exact ⟨rfl, rfl, rfl, rfl, rfl⟩), rfl, hsh _ _ _ _ _, hf⟩
      | fetch t x y =>
        have hn : faultM ws so und (.fetch t x y) = none := by rw [faultM, if_pos hst]
        rw [hn] at hf
        rw [hst] at hs
        simp only [smD, strD] at hs hget
        exact .inl ⟨_, s', (by simp [hget, hs]; exact ⟨rfl, rfl, rfl, rfl, rfl⟩), rfl, hsh _ _ _ _ _, hf⟩
      | times n q =>
        obtain ⟨_, hq, hd0, okq⟩ := oka
        have hc := pc hd0 ws so q und s' hl (by omega) okq
        rw [hst] at hs
        rw [faultM, if_pos hst] at hf
        simp only [smD, strD, bodyD] at hs hget hc
        cases hz : faultsM ws so und 0 q with
        | none =>
          rw [hz] at hf hc
          cases und <;> exact .inl ⟨_, s', (by simp [hget, hs, hc, loopF_cons]; exact ⟨rfl, rfl, rfl, rfl, rfl⟩), rfl, hsh _ _ _ _ _, hf⟩
        | some z =>
          have hzl := faults_len (d - 1) q und 0 z okq hz
          have hzl' : 1 + z.length ≤ 10000000 := by omega
          rw [hz] at hf hc
          cases und <;> exact .inr ⟨_, s', (by simp [hget, hs, hc, loopF_cons, hzl']; rfl), rfl, by rw [hf]; simp [natD]⟩
      | whl x q =>
        obtain ⟨hx, hq, hd0, okq⟩ := oka
        have hc := pc hd0 ws so q (und || hid so x) s' hl (by omega) okq
        have hsx := so_get hx
        rw [hst] at hs
        rw [faultM, if_pos hst] at hf
        simp only [smD, strD, bodyD, sortsD, natD] at hs hget hc
        cases hz : faultsM ws so (und || hid so x) 0 q with
        | none =>
          rw [hz] at hf hc
          cases und <;> cases hh : hid so x <;> rw [hh] at hc hsx <;> simp only [Bool.or_self, Bool.false_or, Bool.or_false, Bool.true_or, Bool.or_true] at hc <;> exact .inl ⟨_, s', (by simp [hget, hs, hc, loopF_cons, sortsD, hsx, sortD]; exact ⟨rfl, rfl, rfl, rfl, rfl⟩), rfl, hsh _ _ _ _ _, hf⟩
        | some z =>
          have hzl := faults_len (d - 1) q _ 0 z okq hz
          have hzl' : 1 + z.length ≤ 10000000 := by omega
          rw [hz] at hf hc
          cases und <;> cases hh : hid so x <;> rw [hh] at hc hsx <;> simp only [Bool.or_self, Bool.false_or, Bool.or_false, Bool.true_or, Bool.or_true] at hc <;> exact .inr ⟨_, s', (by simp [hget, hs, hc, loopF_cons, hzl', sortsD, hsx, sortD]; rfl), rfl, by rw [hf]; simp [natD]⟩
      | ite x p q =>
        obtain ⟨hx, hp, hq, hd0, okp, okq⟩ := oka
        have hc := pc hd0 ws so p (und || hid so x) s' hl (by omega) okp
        have hc2 := pc hd0 ws so q (und || hid so x) s' hl (by omega) okq
        have hsx := so_get hx
        rw [hst] at hs
        rw [faultM, if_pos hst] at hf
        simp only [smD, strD, bodyD, sortsD, natD] at hs hget hc hc2
        cases hz : faultsM ws so (und || hid so x) 0 p with
        | none =>
          rw [hz] at hf hc
          cases hz2 : faultsM ws so (und || hid so x) 0 q with
          | none =>
            rw [hz2] at hf hc2
            cases und <;> cases hh : hid so x <;> rw [hh] at hc hc2 hsx <;> simp only [Bool.or_self, Bool.false_or, Bool.or_false, Bool.true_or, Bool.or_true] at hc hc2 <;> exact .inl ⟨_, s', (by simp [hget, hs, hc, hc2, loopF_cons, sortsD, hsx, sortD]; exact ⟨rfl, rfl, rfl, rfl, rfl⟩), rfl, hsh _ _ _ _ _, hf⟩
          | some z =>
            have hzl := faults_len (d - 1) q _ 0 z okq hz2
            have hzl' : 1 + 1 + z.length ≤ 10000000 := by omega
            have hzl2 : 2 + z.length ≤ 10000000 := by omega
            rw [hz2] at hf hc2
            cases und <;> cases hh : hid so x <;> rw [hh] at hc hc2 hsx <;> simp only [Bool.or_self, Bool.false_or, Bool.or_false, Bool.true_or, Bool.or_true] at hc hc2 <;> exact .inr ⟨_, s', (by simp [hget, hs, hc, hc2, loopF_cons, hzl', hzl2, sortsD, hsx, sortD]; rfl), rfl, by rw [hf]; simp [natD]⟩
        | some z =>
          have hzl := faults_len (d - 1) p _ 0 z okp hz
          have hzl' : 1 + 1 + z.length ≤ 10000000 := by omega
          have hzl2 : 2 + z.length ≤ 10000000 := by omega
          rw [hz] at hf hc
          cases und <;> cases hh : hid so x <;> rw [hh] at hc hsx <;> simp only [Bool.or_self, Bool.false_or, Bool.or_false, Bool.true_or, Bool.or_true] at hc <;> exact .inr ⟨_, s', (by simp [hget, hs, hc, loopF_cons, hzl', hzl2, sortsD, hsx, sortD]; rfl), rfl, by rw [hf]; simp [natD]⟩
  · rintro δ s' ⟨rfl, ⟨x1, x2, x3, x4, x5, rfl⟩, hf⟩
    rw [rangeD_length, List.drop_length, faultsM] at hf
    simp [hf]
  · rintro r s' ⟨rfl, rfl⟩
    rfl

end
end Fw

set_option Elab.async false
set_option linter.all false
set_option maxRecDepth 100000
set_option maxHeartbeats 4000000
namespace Fw
open PySem PySem.Spec PyProof.Rows L2
section
variable {P : Program} {w : World} {K : PySem.W.Frag} {mg : Str → Option Value} {base : Heap}
theorem ok_sorts {f : Addr} {fd : FuncData} (F : Fun K "_law_sorts" "_law_sorts" s_l_sorts f fd) (hm : mg "_law_sorts" = some (.ref f)) (B : Bi mg) {gt gp : FD} (k_l_taken : Kn P w K mg base "_law_taken" 2 1 gt) (pt : P_taken gt) (k_l_pick : Kn P w K mg base "_law_pick" 2 2 gp) (pp : P_pick gp) :
    ∃ g, Kn P w K mg base "_law_sorts" 1 3 g ∧ P_sorts g := by
  refine ⟨_, (kn_of (k := 2) F hm sc_l_sorts (F.binds (ps := ["row"]) fun _ _ _ _ _ _ us hl => match us, hl with | [_], _ => rfl) fun cdv A outer s H E hr => (dss_cons (ds_setLc (i := 1) (own := [("turn", 2)]) rfl sc_l_sorts.nd rfl rfl (sw_true rfl rfl rfl (by decide +kernel)) (di_range rfl (B.get "range") (da_cons (d_op op_addA g_add d_int (d_kn k_l_taken (hr.mono (by omega)) rfl (da_cons (d_var 0 (pv 0)) (da_cons d_int da_nil)))) da_nil)) (blkOk_by (N := ["row", "found", "turn"]) (sc := defScope s_l_sorts) (by decide +kernel)) (gt_name (i := 2) (vs := [2]) (by decide)) (fun _ _ _ _ _ => (pg_name (i := 2) sc_l_sorts.nd rfl (Or.inl rfl))) (fun _ _ _ _ _ => dts_nil) (fun _ _ _ _ _ => (d_kn k_l_pick (hr.mono (by omega)) rfl (da_cons (d_var 0 (pv 0)) (da_cons (d_lst (da_cons d_str (da_cons d_str da_nil))) da_nil)))))
  (dss_one (ds_ret (d_callTy call_tuple_ofZ g_tuple rfl (B.get "tuple") (by decide +kernel) (da_cons (d_op op_addA g_add (d_var 1 (pv 1)) (d_lst (da_cons (d_kn k_l_pick (hr.mono (by omega)) rfl (da_cons (d_var 0 (pv 0)) (da_cons (d_lst (da_cons d_str (da_cons d_str (da_cons d_str da_nil)))) da_nil))) da_nil))) da_nil)))))), ?_⟩
  intro a s hr
  obtain ⟨v, s1, e1, rt1, hv⟩ := takenN pt a s 3 hr (by omega) (by omega)
  have hc := compL_draw (fe := fCall 2 gp (fCons (fVar 0) (fCons (fLst (fCons (fC (.str (Str.ofString "open"))) (fCons (fC (.str (Str.ofString "secret"))) fNil))) fNil))) (i := 2) (δ := [some (.ref a), none, none]) (a := a) (fun v => ∃ n : Bool, v = sortD n) (rangeD 0 (1 + v)) s1 rt1.is fun d _ s hr => by
    obtain ⟨x, s', e, rt, hx⟩ := pp a s (.lst [.str (Str.ofString "open"), .str (Str.ofString "secret")]) _ rfl hr (by simp) (by simp)
    refine ⟨x, s', by simp [e], rt, ?_⟩
    simp at hx
    rcases hx with rfl | rfl
    · exact ⟨false, rfl⟩
    · exact ⟨true, rfl⟩
  obtain ⟨vs, s2, e2, rt2, hl, hvs⟩ := hc
  obtain ⟨so, rfl⟩ := bools_of hvs
  rw [rangeD_length, List.length_map] at hl
  obtain ⟨x, s3, e3, rt3, hx⟩ := pp a s2 (.lst [.str (Str.ofString "secret"), .str (Str.ofString "secret"), .str (Str.ofString "open")]) _ rfl rt2.is (by simp) (by simp)
  obtain ⟨b, rfl⟩ : ∃ b, x = sortD b := by
    simp at hx
    rcases hx with rfl | rfl
    · exact ⟨true, rfl⟩
    · exact ⟨false, rfl⟩
  have hv1 : -10000000 ≤ 1 + (v : Int) ∧ 1 + (v : Int) ≤ 10000000 := by omega
  have hv2 : (1 + (v : Int)).toNat = 1 + v := by omega
  have hv3 : 1 + v ≤ 10000000 := by omega
  have hv4 : so.length + 1 ≤ 10000000 := by omega
  refine ⟨so ++ [b], s3, ?_, rt1.trans (rt2.trans rt3), by simp; omega, by simp; omega⟩
  have e1' : gt [.ref a, .int 3] s = some (.int (v : Int), s1) := e1
  simp [e1', hv1, hv2, hv3, e2, e3, sortsD, hv4]

end
end Fw

set_option Elab.async false
set_option linter.all false
set_option maxRecDepth 100000
set_option maxHeartbeats 4000000
namespace Fw
open PySem PySem.Spec PyProof.Rows L2
section
variable {P : Program} {w : World} {K : PySem.W.Frag} {mg : Str → Option Value} {base : Heap}
theorem ok_statement {f : Addr} {fd : FuncData} (F : Fun K "_law_statement" "_law_statement" s_l_statement f fd) (hm : mg "_law_statement" = some (.ref f)) (B : Bi mg) {gt gp gr : FD} {lv : Nat} (hlv : 2 ≤ lv) (k_l_taken : Kn P w K mg base "_law_taken" 2 1 gt) (pt : P_taken gt) (k_l_pick : Kn P w K mg base "_law_pick" 2 2 gp) (pp : P_pick gp)
    {d : Nat} (k_l_statement : Kn P w K mg base "_law_statement" 3 lv gr) (pr : 0 < d → P_statement (d - 1) gr) :
    ∃ g, Kn P w K mg base "_law_statement" 3 (lv + 1) g ∧ P_statement d g := by
  refine ⟨_, (kn_of (k := lv) F hm sc_l_statement (F.binds (ps := ["row", "many", "deep"]) fun _ _ _ _ _ _ us hl => match us, hl with | [_, _, _], _ => rfl) fun cdv A outer s H E hr => (dss_cons (ds_par3 (i := 3) (j := 4) (l := 5) (ps_par3 rfl sc_l_statement.nd rfl rfl rfl (by decide) (by decide) (by decide) rfl rfl rfl (da_cons (d_kn k_l_taken (hr.mono (by omega)) rfl (da_cons (d_var 0 (pv 0)) (da_cons (d_var 1 (pv 1)) da_nil))) (da_cons (d_kn k_l_taken (hr.mono (by omega)) rfl (da_cons (d_var 0 (pv 0)) (da_cons (d_var 1 (pv 1)) da_nil))) (da_cons (d_kn k_l_taken (hr.mono (by omega)) rfl (da_cons (d_var 0 (pv 0)) (da_cons (d_var 1 (pv 1)) da_nil))) da_nil))) (by first | rfl | with_unfolding_all rfl)))
  (dss_cons (ds_set (i := 6) sc_l_statement.nd rfl (Or.inl rfl) (d_lst (da_cons d_str (da_cons d_str (da_cons d_str (da_cons d_str (da_cons d_str (da_cons d_str (da_cons d_str (da_cons d_str (da_cons d_str (da_cons d_str (da_cons d_str da_nil)))))))))))))
  (dss_cons (ds_set (i := 7) sc_l_statement.nd rfl (Or.inl rfl) (d_kn k_l_pick (hr.mono (by omega)) rfl (da_cons (d_var 0 (pv 0)) (da_cons (d_op op_addA g_add (d_var 6 (pv 6)) (d_op op_mulA g_mul (d_lst (da_cons d_str (da_cons d_str (da_cons d_str (da_cons d_str (da_cons d_str (da_cons d_str da_nil))))))) (d_callTy call_int1 g_int rfl (B.get "int") (by decide +kernel) (da_cons (d_cmp op_gt g_cmpI (d_var 2 (pv 2)) d_int (nomark _)) da_nil)))) da_nil))))
  (dss_cons (ds_if (dt_cmp (op_eqA hr.units) g_eq (d_var 7 (pv 7)) d_str (nomark _)) (dss_one (ds_ret (d_tup (da_cons (d_var 7 (pv 7)) (da_cons (d_var 3 (pv 3)) (da_cons (d_callTy call_tuple_ofZ g_tuple rfl (B.get "tuple") (by decide +kernel) (da_cons (d_lc (own := [("turn", 8)]) rfl sc_l_statement.nd (di_range rfl (B.get "range") (da_cons (d_kn k_l_taken (hr.mono (by omega)) rfl (da_cons (d_var 0 (pv 0)) (da_cons d_int da_nil))) da_nil)) (blkOk_by (N := ["row", "many", "deep", "x", "y", "z", "plain", "word", "turn", "first"]) (sc := defScope s_l_statement) (by decide +kernel)) (gt_name (i := 8) (vs := [8]) (by decide)) (fun _ _ _ _ _ => (pg_name (i := 8) sc_l_statement.nd rfl (Or.inl rfl))) (fun _ _ _ _ _ => dts_nil) (fun _ _ _ _ _ => (d_kn k_l_taken (hr.mono (by omega)) rfl (da_cons (d_var 0 (pv 0)) (da_cons (d_var 1 (pv 1)) da_nil))))) da_nil)) (da_cons (d_kn k_l_taken (hr.mono (by omega)) rfl (da_cons (d_var 0 (pv 0)) (da_cons d_int da_nil))) da_nil))))))) dss_nil)
  (dss_cons (ds_if (dt_cmp op_in_seq g_in (d_var 7 (pv 7)) (d_lst (da_cons d_str (da_cons d_str da_nil))) (by with_unfolding_all rfl)) (dss_one (ds_ret (d_tup (da_cons (d_var 7 (pv 7)) (da_cons (d_kn k_l_pick (hr.mono (by omega)) rfl (da_cons (d_var 0 (pv 0)) (da_cons (d_lst (da_cons d_str (da_cons d_str da_nil))) da_nil))) (da_cons (d_var 3 (pv 3)) (da_cons (d_var 4 (pv 4)) da_nil))))))) dss_nil)
  (dss_cons (ds_if (dt_cmp op_in_seq g_in (d_var 7 (pv 7)) (d_lst (da_cons d_str (da_cons d_str (da_cons d_str da_nil)))) (by with_unfolding_all rfl)) (dss_one (ds_ret (d_dictIx (hu_of hr) (dp_cons (d_tup (da_cons (d_var 7 (pv 7)) (da_cons (d_var 3 (pv 3)) da_nil))) (dp_cons (d_tup (da_cons (d_var 7 (pv 7)) da_nil)) (dp_cons (d_tup (da_cons (d_var 7 (pv 7)) (da_cons (d_var 3 (pv 3)) (da_cons (d_var 4 (pv 4)) da_nil)))) dp_nil))) (d_var 7 (pv 7)) (fun _ _ => rfl)))) dss_nil)
  (dss_cons (ds_set (i := 9) sc_l_statement.nd rfl (Or.inl rfl) (d_callTy call_tuple_ofZ g_tuple rfl (B.get "tuple") (by decide +kernel) (da_cons (d_lc (own := [("turn", 8)]) rfl sc_l_statement.nd (di_range rfl (B.get "range") (da_cons (d_kn k_l_taken (hr.mono (by omega)) rfl (da_cons (d_var 0 (pv 0)) (da_cons d_int da_nil))) da_nil)) (blkOk_by (N := ["row", "many", "deep", "x", "y", "z", "plain", "word", "turn", "first"]) (sc := defScope s_l_statement) (by decide +kernel)) (gt_name (i := 8) (vs := [8]) (by decide)) (fun _ _ _ _ _ => (pg_name (i := 8) sc_l_statement.nd rfl (Or.inl rfl))) (fun _ _ _ _ _ => dts_nil) (fun _ _ _ _ _ => (d_kn k_l_statement (hr.mono (by omega)) rfl (da_cons (d_var 0 (pv 0)) (da_cons (d_var 1 (pv 1)) (da_cons (d_op op_sub g_sub (d_var 2 (pv 2)) d_int) da_nil)))))) da_nil)))
  (dss_cons (ds_if (dt_cmp (op_eqA hr.units) g_eq (d_var 7 (pv 7)) d_str (nomark _)) (dss_one (ds_ret (d_tup (da_cons (d_var 7 (pv 7)) (da_cons (d_var 3 (pv 3)) (da_cons (d_var 9 (pv 9)) (da_cons (d_callTy call_tuple_ofZ g_tuple rfl (B.get "tuple") (by decide +kernel) (da_cons (d_lc (own := [("turn", 8)]) rfl sc_l_statement.nd (di_range rfl (B.get "range") (da_cons (d_kn k_l_taken (hr.mono (by omega)) rfl (da_cons (d_var 0 (pv 0)) (da_cons d_int da_nil))) da_nil)) (blkOk_by (N := ["row", "many", "deep", "x", "y", "z", "plain", "word", "turn", "first"]) (sc := defScope s_l_statement) (by decide +kernel)) (gt_name (i := 8) (vs := [8]) (by decide)) (fun _ _ _ _ _ => (pg_name (i := 8) sc_l_statement.nd rfl (Or.inl rfl))) (fun _ _ _ _ _ => dts_nil) (fun _ _ _ _ _ => (d_kn k_l_statement (hr.mono (by omega)) rfl (da_cons (d_var 0 (pv 0)) (da_cons (d_var 1 (pv 1)) (da_cons (d_op op_sub g_sub (d_var 2 (pv 2)) d_int) da_nil)))))) da_nil)) da_nil))))))) dss_nil)
  (dss_one (ds_ret (d_if (dt_cmp (op_eqA hr.units) g_eq (d_var 7 (pv 7)) d_str (nomark _)) (d_tup (da_cons (d_var 7 (pv 7)) (da_cons (d_kn k_l_taken (hr.mono (by omega)) rfl (da_cons (d_var 0 (pv 0)) (da_cons d_int da_nil))) (da_cons (d_var 9 (pv 9)) da_nil)))) (d_tup (da_cons (d_var 7 (pv 7)) (da_cons (d_var 5 (pv 5)) (da_cons (d_var 9 (pv 9)) da_nil)))))))))))))))), ?_⟩
  intro a s m hr hm0 hm1
  obtain ⟨x, s1, e1, rt1, hx⟩ := takenN pt a s m hr hm0 (by omega)
  obtain ⟨y, s2, e2, rt2, hy⟩ := takenN pt a s1 m rt1.is hm0 (by omega)
  obtain ⟨z, s3, e3, rt3, hz⟩ := takenN pt a s2 m rt2.is hm0 (by omega)
  have draws : ∀ (n : Nat) (s : S) (δ : Fr), IsRow s a → δ.length = 10 → δ[0]? = some (some (.ref a)) → δ[1]? = some (some (.int (m : Nat))) →
      ∃ (ts : List Nat) (s' : S), compL (gtName 8) tTrue (fCall 2 gt (fCons (fVar 0) (fCons (fVar 1) fNil))) (rangeD 0 n) δ s = some (ts.map natD, s') ∧ RowTo s a s' ∧ ts.length = n ∧ ∀ t ∈ ts, t < m := by
    intro n s δ hr hl h0 h1
    obtain ⟨vs, s', e, rt, hlv, hv⟩ := compL_draw (fe := fCall 2 gt (fCons (fVar 0) (fCons (fVar 1) fNil))) (i := 8) (δ := δ) (a := a) (fun v => ∃ n : Nat, v = .int (n : Int) ∧ n < m) (rangeD 0 n) s hr fun d _ s hr => by
      obtain ⟨v, s', e, rt, hv⟩ := takenN pt a s m hr hm0 (by omega)
      refine ⟨_, s', ?_, rt, v, rfl, hv⟩
      simp [h0, h1, e]
    obtain ⟨ts, rfl, ht⟩ := nats_of hv
    exact ⟨ts, s', e, rt, by simpa using hlv, ht⟩
  have bodies : 0 < d → ∀ (n : Nat) (s : S) (δ : Fr), IsRow s a → δ.length = 10 → δ[0]? = some (some (.ref a)) → δ[1]? = some (some (.int (m : Nat))) → δ[2]? = some (some (.int (d : Nat))) →
      ∃ (ts : List Sm) (s' : S), compL (gtName 8) tTrue (fCall 3 gr (fCons (fVar 0) (fCons (fVar 1) (fCons (f2 dSub (fVar 2) (fC (.int 1))) fNil)))) (rangeD 0 n) δ s = some (smsD ts, s') ∧ RowTo s a s' ∧ ts.length = n ∧ smsOk m (d - 1) ts := by
    intro hd n s δ hr hl h0 h1 h2
    obtain ⟨vs, s', e, rt, hlv, hv⟩ := compL_draw (fe := fCall 3 gr (fCons (fVar 0) (fCons (fVar 1) (fCons (f2 dSub (fVar 2) (fC (.int 1))) fNil)))) (i := 8) (δ := δ) (a := a) (fun v => ∃ n : Sm, v = smD n ∧ smOk m (d - 1) n) (rangeD 0 n) s hr fun dd _ s hr => by
      obtain ⟨v, s', e, rt, hv⟩ := pr hd a s m hr hm0 hm1
      refine ⟨_, s', ?_, rt, v, rfl, hv⟩
      have ed : (d : Int) - 1 = ((d - 1 : Nat) : Int) := by omega
      simp [h0, h1, h2, e, ed]
    obtain ⟨ts, rfl, ht, hl2⟩ := sms_of hv
    exact ⟨ts, s', e, rt, by rw [hl2]; simpa using hlv, ht⟩
  have hrt : ∀ {s'}, RowTo s3 a s' → RowTo s a s' := fun h => rt1.trans (rt2.trans (rt3.trans h))
  rcases Nat.eq_zero_or_pos d with h0 | hd
  · subst h0
    have h0 : ¬ (0 : Nat) < 0 := by omega
    obtain ⟨wd, s4, e4, rt4, hw⟩ := pp a s3 (.lst [.str (Str.ofString "sum"), .str (Str.ofString "sum"), .str (Str.ofString "sum"), .str (Str.ofString "print"), .str (Str.ofString "print"), .str (Str.ofString "stop"), .str (Str.ofString "split"), .str (Str.ofString "keep"), .str (Str.ofString "keep"), .str (Str.ofString "fetch"), .str (Str.ofString "fetch")]) _ rfl rt3.is (by simp) (by simp)
    replace hw : wd = .str (Str.ofString "sum") ∨ wd = .str (Str.ofString "print") ∨ wd = .str (Str.ofString "stop") ∨ wd = .str (Str.ofString "split") ∨ wd = .str (Str.ofString "keep") ∨ wd = .str (Str.ofString "fetch") := by
      simp only [List.mem_cons, List.mem_nil_iff, or_false] at hw
      rcases hw with h | h | h | h | h | h | h | h | h | h | h <;> simp [h]
    rcases hw with rfl | rfl | rfl | rfl | rfl | rfl
    · obtain ⟨v, s5, e5, rt5, hv⟩ := takenN pt a s4 3 rt4.is (by omega) (by omega)
      obtain ⟨ts, s6, e6, rt6, hl6, ht6⟩ := draws v s5 [some (.ref a), some (.int (m : Nat)), some (.int 0), some (.int (x : Nat)), some (.int (y : Nat)), some (.int (z : Nat)), some (.lst [.str (Str.ofString "sum"), .str (Str.ofString "sum"), .str (Str.ofString "sum"), .str (Str.ofString "print"), .str (Str.ofString "print"), .str (Str.ofString "stop"), .str (Str.ofString "split"), .str (Str.ofString "keep"), .str (Str.ofString "keep"), .str (Str.ofString "fetch"), .str (Str.ofString "fetch")]), some (.str (Str.ofString "sum")), none, none] rt5.is rfl rfl rfl
      obtain ⟨n, s7, e7, rt7, hn⟩ := takenN pt a s6 10 rt6.is (by omega) (by omega)
      have e5' : gt [.ref a, .int 3] s4 = some (.int (v : Nat), s5) := e5
      have e7' : gt [.ref a, .int 10] s6 = some (.int (n : Nat), s7) := e7
      have hv1 : (-10000000 : Int) ≤ (v : Int) ∧ (v : Int) ≤ 10000000 := by omega
      have hv2 : v ≤ 10000000 := by omega
      exact ⟨.sum x ts n, s7, by simp [e1, e2, e3, e4, h0, smD, natD, sortD, e5', e6, e7', hv1, hv2], hrt (rt4.trans (rt5.trans (rt6.trans rt7))), hx, by omega, ht6, by omega⟩
    · exact ⟨.print x, s4, by simp [e1, e2, e3, e4, h0, smD, natD, sortD], hrt rt4, hx⟩
    · exact ⟨.stop, s4, by simp [e1, e2, e3, e4, h0, smD, natD, sortD], hrt rt4, trivial⟩
    · exact ⟨.split x y, s4, by simp [e1, e2, e3, e4, h0, smD, natD, sortD], hrt rt4, hx, hy⟩
    · obtain ⟨t, s5, e5, rt5, hti⟩ := pp a s4 (.lst [.str (Str.ofString "open"), .str (Str.ofString "secret")]) _ rfl rt4.is (by simp) (by simp)
      simp only [List.mem_cons, List.mem_nil_iff, or_false] at hti
      rcases hti with rfl | rfl
      · exact ⟨.keep false x y, s5, by simp [e1, e2, e3, e4, h0, smD, natD, sortD, e5], hrt (rt4.trans rt5), hx, hy⟩
      · exact ⟨.keep true x y, s5, by simp [e1, e2, e3, e4, h0, smD, natD, sortD, e5], hrt (rt4.trans rt5), hx, hy⟩
    · obtain ⟨t, s5, e5, rt5, hti⟩ := pp a s4 (.lst [.str (Str.ofString "open"), .str (Str.ofString "secret")]) _ rfl rt4.is (by simp) (by simp)
      simp only [List.mem_cons, List.mem_nil_iff, or_false] at hti
      rcases hti with rfl | rfl
      · exact ⟨.fetch false x y, s5, by simp [e1, e2, e3, e4, h0, smD, natD, sortD, e5], hrt (rt4.trans rt5), hx, hy⟩
      · exact ⟨.fetch true x y, s5, by simp [e1, e2, e3, e4, h0, smD, natD, sortD, e5], hrt (rt4.trans rt5), hx, hy⟩
  · obtain ⟨wd, s4, e4, rt4, hw⟩ := pp a s3 (.lst [.str (Str.ofString "sum"), .str (Str.ofString "sum"), .str (Str.ofString "sum"), .str (Str.ofString "print"), .str (Str.ofString "print"), .str (Str.ofString "stop"), .str (Str.ofString "split"), .str (Str.ofString "keep"), .str (Str.ofString "keep"), .str (Str.ofString "fetch"), .str (Str.ofString "fetch"), .str (Str.ofString "if"), .str (Str.ofString "if"), .str (Str.ofString "if"), .str (Str.ofString "times"), .str (Str.ofString "while"), .str (Str.ofString "while")]) _ rfl rt3.is (by simp) (by simp)
    replace hw : wd = .str (Str.ofString "sum") ∨ wd = .str (Str.ofString "print") ∨ wd = .str (Str.ofString "stop") ∨ wd = .str (Str.ofString "split") ∨ wd = .str (Str.ofString "keep") ∨ wd = .str (Str.ofString "fetch") ∨ wd = .str (Str.ofString "if") ∨ wd = .str (Str.ofString "times") ∨ wd = .str (Str.ofString "while") := by
      simp only [List.mem_cons, List.mem_nil_iff, or_false] at hw
      rcases hw with h | h | h | h | h | h | h | h | h | h | h | h | h | h | h | h | h <;> simp [h]
    rcases hw with rfl | rfl | rfl | rfl | rfl | rfl | rfl | rfl | rfl
    · obtain ⟨v, s5, e5, rt5, hv⟩ := takenN pt a s4 3 rt4.is (by omega) (by omega)
      obtain ⟨ts, s6, e6, rt6, hl6, ht6⟩ := draws v s5 [some (.ref a), some (.int (m : Nat)), some (.int (d : Nat)), some (.int (x : Nat)), some (.int (y : Nat)), some (.int (z : Nat)), some (.lst [.str (Str.ofString "sum"), .str (Str.ofString "sum"), .str (Str.ofString "sum"), .str (Str.ofString "print"), .str (Str.ofString "print"), .str (Str.ofString "stop"), .str (Str.ofString "split"), .str (Str.ofString "keep"), .str (Str.ofString "keep"), .str (Str.ofString "fetch"), .str (Str.ofString "fetch")]), some (.str (Str.ofString "sum")), none, none] rt5.is rfl rfl rfl
      obtain ⟨n, s7, e7, rt7, hn⟩ := takenN pt a s6 10 rt6.is (by omega) (by omega)
      have e5' : gt [.ref a, .int 3] s4 = some (.int (v : Nat), s5) := e5
      have e7' : gt [.ref a, .int 10] s6 = some (.int (n : Nat), s7) := e7
      have hv1 : (-10000000 : Int) ≤ (v : Int) ∧ (v : Int) ≤ 10000000 := by omega
      have hv2 : v ≤ 10000000 := by omega
      exact ⟨.sum x ts n, s7, by simp [e1, e2, e3, e4, hd, smD, natD, sortD, e5', e6, e7', hv1, hv2], hrt (rt4.trans (rt5.trans (rt6.trans rt7))), hx, by omega, ht6, by omega⟩
    · exact ⟨.print x, s4, by simp [e1, e2, e3, e4, hd, smD, natD, sortD], hrt rt4, hx⟩
    · exact ⟨.stop, s4, by simp [e1, e2, e3, e4, hd, smD, natD, sortD], hrt rt4, trivial⟩
    · exact ⟨.split x y, s4, by simp [e1, e2, e3, e4, hd, smD, natD, sortD], hrt rt4, hx, hy⟩
    · obtain ⟨t, s5, e5, rt5, hti⟩ := pp a s4 (.lst [.str (Str.ofString "open"), .str (Str.ofString "secret")]) _ rfl rt4.is (by simp) (by simp)
      simp only [List.mem_cons, List.mem_nil_iff, or_false] at hti
      rcases hti with rfl | rfl
      · exact ⟨.keep false x y, s5, by simp [e1, e2, e3, e4, hd, smD, natD, sortD, e5], hrt (rt4.trans rt5), hx, hy⟩
      · exact ⟨.keep true x y, s5, by simp [e1, e2, e3, e4, hd, smD, natD, sortD, e5], hrt (rt4.trans rt5), hx, hy⟩
    · obtain ⟨t, s5, e5, rt5, hti⟩ := pp a s4 (.lst [.str (Str.ofString "open"), .str (Str.ofString "secret")]) _ rfl rt4.is (by simp) (by simp)
      simp only [List.mem_cons, List.mem_nil_iff, or_false] at hti
      rcases hti with rfl | rfl
      · exact ⟨.fetch false x y, s5, by simp [e1, e2, e3, e4, hd, smD, natD, sortD, e5], hrt (rt4.trans rt5), hx, hy⟩
      · exact ⟨.fetch true x y, s5, by simp [e1, e2, e3, e4, hd, smD, natD, sortD, e5], hrt (rt4.trans rt5), hx, hy⟩
    · obtain ⟨v, s5, e5, rt5, hv⟩ := takenN pt a s4 4 rt4.is (by omega) (by omega)
      obtain ⟨p, s6, e6, rt6, hl6, hp6⟩ := bodies hd v s5 [some (.ref a), some (.int (m : Nat)), some (.int (d : Nat)), some (.int (x : Nat)), some (.int (y : Nat)), some (.int (z : Nat)), some (.lst [.str (Str.ofString "sum"), .str (Str.ofString "sum"), .str (Str.ofString "sum"), .str (Str.ofString "print"), .str (Str.ofString "print"), .str (Str.ofString "stop"), .str (Str.ofString "split"), .str (Str.ofString "keep"), .str (Str.ofString "keep"), .str (Str.ofString "fetch"), .str (Str.ofString "fetch")]), some (.str (Str.ofString "if")), none, none] rt5.is rfl rfl rfl rfl
      have e5' : gt [.ref a, .int 4] s4 = some (.int (v : Nat), s5) := e5
      have hv1 : (-10000000 : Int) ≤ (v : Int) ∧ (v : Int) ≤ 10000000 := by omega
      have hv2 : v ≤ 10000000 := by omega
      obtain ⟨u, s7, e7, rt7, hu⟩ := takenN pt a s6 3 rt6.is (by omega) (by omega)
      obtain ⟨r, s8, e8, rt8, hl8, hp8⟩ := bodies hd u s7 [some (.ref a), some (.int (m : Nat)), some (.int (d : Nat)), some (.int (x : Nat)), some (.int (y : Nat)), some (.int (z : Nat)), some (.lst [.str (Str.ofString "sum"), .str (Str.ofString "sum"), .str (Str.ofString "sum"), .str (Str.ofString "print"), .str (Str.ofString "print"), .str (Str.ofString "stop"), .str (Str.ofString "split"), .str (Str.ofString "keep"), .str (Str.ofString "keep"), .str (Str.ofString "fetch"), .str (Str.ofString "fetch")]), some (.str (Str.ofString "if")), none, some (.tup (smsD p))] rt7.is rfl rfl rfl rfl
      have e7' : gt [.ref a, .int 3] s6 = some (.int (u : Nat), s7) := e7
      have hu1 : (-10000000 : Int) ≤ (u : Int) ∧ (u : Int) ≤ 10000000 := by omega
      have hu2 : u ≤ 10000000 := by omega
      exact ⟨.ite x p r, s8, by simp [e1, e2, e3, e4, hd, smD, natD, sortD, e5', e6, e7', e8, hv1, hv2, hu1, hu2], hrt (rt4.trans (rt5.trans (rt6.trans (rt7.trans rt8)))), hx, by omega, by omega, hd, hp6, hp8⟩
    · obtain ⟨v, s5, e5, rt5, hv⟩ := takenN pt a s4 4 rt4.is (by omega) (by omega)
      obtain ⟨p, s6, e6, rt6, hl6, hp6⟩ := bodies hd v s5 [some (.ref a), some (.int (m : Nat)), some (.int (d : Nat)), some (.int (x : Nat)), some (.int (y : Nat)), some (.int (z : Nat)), some (.lst [.str (Str.ofString "sum"), .str (Str.ofString "sum"), .str (Str.ofString "sum"), .str (Str.ofString "print"), .str (Str.ofString "print"), .str (Str.ofString "stop"), .str (Str.ofString "split"), .str (Str.ofString "keep"), .str (Str.ofString "keep"), .str (Str.ofString "fetch"), .str (Str.ofString "fetch")]), some (.str (Str.ofString "times")), none, none] rt5.is rfl rfl rfl rfl
      have e5' : gt [.ref a, .int 4] s4 = some (.int (v : Nat), s5) := e5
      have hv1 : (-10000000 : Int) ≤ (v : Int) ∧ (v : Int) ≤ 10000000 := by omega
      have hv2 : v ≤ 10000000 := by omega
      obtain ⟨u, s7, e7, rt7, hu⟩ := takenN pt a s6 4 rt6.is (by omega) (by omega)
      have e7' : gt [.ref a, .int 4] s6 = some (.int (u : Nat), s7) := e7
      exact ⟨.times u p, s7, by simp [e1, e2, e3, e4, hd, smD, natD, sortD, e5', e6, e7', hv1, hv2], hrt (rt4.trans (rt5.trans (rt6.trans rt7))), by omega, by omega, hd, hp6⟩
    · obtain ⟨v, s5, e5, rt5, hv⟩ := takenN pt a s4 4 rt4.is (by omega) (by omega)
      obtain ⟨p, s6, e6, rt6, hl6, hp6⟩ := bodies hd v s5 [some (.ref a), some (.int (m : Nat)), some (.int (d : Nat)), some (.int (x : Nat)), some (.int (y : Nat)), some (.int (z : Nat)), some (.lst [.str (Str.ofString "sum"), .str (Str.ofString "sum"), .str (Str.ofString "sum"), .str (Str.ofString "print"), .str (Str.ofString "print"), .str (Str.ofString "stop"), .str (Str.ofString "split"), .str (Str.ofString "keep"), .str (Str.ofString "keep"), .str (Str.ofString "fetch"), .str (Str.ofString "fetch")]), some (.str (Str.ofString "while")), none, none] rt5.is rfl rfl rfl rfl
      have e5' : gt [.ref a, .int 4] s4 = some (.int (v : Nat), s5) := e5
      have hv1 : (-10000000 : Int) ≤ (v : Int) ∧ (v : Int) ≤ 10000000 := by omega
      have hv2 : v ≤ 10000000 := by omega
      exact ⟨.whl z p, s6, by simp [e1, e2, e3, e4, hd, smD, natD, sortD, e5', e6, hv1, hv2], hrt (rt4.trans (rt5.trans rt6)), hz, by omega, hd, hp6⟩

end
end Fw

set_option Elab.async false
set_option linter.all false
set_option maxRecDepth 100000
set_option maxHeartbeats 4000000
namespace Fw
open PySem PySem.Spec PyProof.Rows L2 LamX NdefX
section
variable {P : Program} {w : World} {K : PySem.W.Frag} {mg : Str → Option Value} {base : Heap}
/-- a def of the module, by its name -/
structure Fat (K : PySem.W.Frag) (mg : Str → Option Value) (x : Str) (st : Stmt) (f : Addr) (fd : FuncData) : Prop where
  fn : Fun K x x st f fd
  at_ : mg x = some (.ref f)
theorem fa_mk {h : Heap} {x : Str} {st : Stmt} {f : Addr} {oc : Value} {od an : Option Addr} {osl : Array (Option Value)} {kV doc pm cdv ct : Value} (X : K.In h) (G : h.Ns mainGlobals mg)
    (a : PySem.W.nsIn K mainGlobals x = some (some (.ref f))) (l : K.lookup f = some ⟨oc, od, .func (PySem.W.fnOf x x (defArgs st) (defBody st) (defScope st) .none kV doc pm an cdv ct), osl⟩) (c : PySem.W.codeIn K cdv x = true) (k : PySem.W.keepIn K (.ref f) = true) :
    ∃ f fd, Fat K mg x st f fd := ⟨_, _, fun_mk l c k, PySem.W.mg_of X G a⟩
theorem fun_ne {x q x' q' : Str} {st st' : Stmt} {f f' : Addr} {fd fd' : FuncData} (F : Fun K x q st f fd) (F' : Fun K x' q' st' f' fd') (h : x ≠ x') : f ≠ f' := by
  intro e
  subst e
  obtain ⟨oc, od, kV, doc, pm, an, cdv, ct, osl, rfl, lk, _⟩ := F.ex
  obtain ⟨oc', od', kV', doc', pm', an', cdv', ct', osl', rfl, lk', _⟩ := F'.ex
  rw [lk] at lk'
  injection lk' with lk'
  injection lk' with _ _ lk' _
  injection lk' with lk'
  exact h (congrArg FuncData.name lk')
/-- nothing is promised -/
theorem kn_zero {x : Str} {st : Stmt} {f : Addr} {fd : FuncData} {n : Nat} {ps : List Str} (F : Fat K mg x st f fd) (bi : Binds K fd ps []) : Kn P w K mg base x n 0 (fun _ _ => none) := by
  have no : ∀ vs H Q E, ¬ spD K n (fun _ _ => none) vs H Q E := fun vs H Q E h => by
    obtain ⟨_, _, _, _, _, _, _, _, e, _⟩ := h
    cases e
  exact ⟨f, fd, ps, ⟨fun vs H Q E h => absurd h (no vs H Q E), fun A outer s H args us vs Q E _ _ _ _ h => absurd h (no vs H Q E)⟩, bi, F.fn.kp, F.at_⟩
theorem held_at {x : Str} {n k : Nat} {g : FD} {f : Addr} (F : Kn P w K mg base x n k g) (h : mg x = some (.ref f)) : Held P w K mg base k f (spD K n g) := by
  obtain ⟨f', e, q⟩ := held_of F
  rw [h] at e
  cases e
  exact q
theorem Held.mono {k l : Nat} {f : Addr} {sp : Sp} (F : Held P w K mg base k f sp) (h : k ≤ l) : Held P w K mg base l f sp := let ⟨fd, ps, a, b, c⟩ := F.ex; ⟨fd, ps, a.mono h, b, c⟩
/-- the constants of programs -/
structure ConstP (K : PySem.W.Frag) (w : World) (mg : Str → Option Value) (aF : Addr) : Prop where
  SORTS : Gc K mg "SORTS" (.tup [strD "open", strD "secret"])
  HIGHEST : Gc K mg "HIGHEST" (.int 9)
  MOST_NAMES : Gc K mg "MOST_NAMES" (.int 6)
  MOST_STATEMENTS : Gc K mg "MOST_STATEMENTS" (.int 8)
  MOST_INNER_STATEMENTS : Gc K mg "MOST_INNER_STATEMENTS" (.int 4)
  MOST_WITHIN : Gc K mg "MOST_WITHIN" (.int 2)
  MOST_TERMS : Gc K mg "MOST_TERMS" (.int 2)
  MOST_TURNS : Gc K mg "MOST_TURNS" (.int 3)
  FORMS : Gc K mg "FORMS" (.ref aF)
  formsK : GK K w formsL aF
/-! ### the checks of the program -/
section
variable {aF CB : Addr} (B : Bi mg) (C : ConstP K w mg aF) (mkB : BPMk P w K mg base CB)
  {f0 f1 f2 f3 f4 f5 f6 f7 f8 f9 f10 : Addr} {d0 d1 d2 d3 d4 d5 d6 d7 d8 d9 d10 : FuncData}
  (F0 : Fat K mg "is_program" s_is_program f0 d0) (F1 : Fat K mg "check_program" s_check_program f1 d1) (F2 : Fat K mg "is_pair" s_is_pair f2 d2) (F3 : Fat K mg "is_sorts" s_is_sorts f3 d3) (F4 : Fat K mg "is_sort" s_is_sort f4 d4) (F5 : Fat K mg "is_number" s_is_number f5 d5)
  (F6 : Fat K mg "is_whole_body" s_is_whole_body f6 d6) (F7 : Fat K mg "is_body" s_is_body f7 d7) (F8 : Fat K mg "is_statement" s_is_statement f8 d8) (F9 : Fat K mg "is_item" s_is_item f9 d9) (F10 : Fat K mg "is_terms" s_is_terms f10 d10)
include B C mkB F0 F1 F2 F3 F4 F5 F6 F7 F8 F9 F10
theorem checks_ok : (∃ g, KnX P w K mg base "check_program" 1 13 g ∧ P_cpX CB BadP g) ∧ ∃ g, Kn P w K mg base "is_program" 1 13 g ∧ P_is_program g := by
  obtain ⟨_, k2, p2, x2⟩ := ok_is_pair (P := P) (w := w) (base := base) F2.fn F2.at_ B
  obtain ⟨_, k4, p4, x4⟩ := ok_is_sort (P := P) (w := w) (base := base) F4.fn F4.at_ B C.SORTS
  obtain ⟨_, k3, p3, x3⟩ := ok_is_sorts (P := P) (w := w) (base := base) F3.fn F3.at_ B C.MOST_NAMES k4 p4 x4
  obtain ⟨_, k5, p5, x5⟩ := ok_is_number (P := P) (w := w) (base := base) F5.fn F5.at_ B
  obtain ⟨_, k10, p10, x10⟩ := ok_is_terms (P := P) (w := w) (base := base) F10.fn F10.at_ B C.MOST_TERMS k5 p5 x5
  have z := kn_zero (P := P) (w := w) (base := base) (n := 4) F7 (F7.fn.binds (ps := ["value", "names", "most", "depth"]) fun _ _ _ _ _ _ us hl => match us, hl with | [_, _, _, _], _ => rfl)
  obtain ⟨_, ki0, pi0, xi0⟩ := ok_is_item (P := P) (w := w) (base := base) (d := 0) (e := 2) F9.fn F9.at_ B C.HIGHEST C.MOST_TURNS C.MOST_WITHIN C.MOST_INNER_STATEMENTS (Nat.le_refl 2) k5 p5 x5 k4 p4 x4 k10 p10 x10 (z.mono (by decide : 0 ≤ 2)) (fun h => absurd h (by decide)) (by decide) (fun h => absurd h (by decide))
  obtain ⟨_, ks0, ps0, xs0⟩ := ok_is_statement (P := P) (w := w) (base := base) F8.fn F8.at_ B C.FORMS C.formsK (by decide) ki0 pi0 xi0
  obtain ⟨_, kb0, pb0, xb0, _⟩ := ok_is_body (P := P) (w := w) (base := base) F7.fn F7.at_ B ks0 ps0 xs0
  obtain ⟨_, ki1, pi1, xi1⟩ := ok_is_item (P := P) (w := w) (base := base) (d := 1) (e := 1) F9.fn F9.at_ B C.HIGHEST C.MOST_TURNS C.MOST_WITHIN C.MOST_INNER_STATEMENTS (by decide) k5 p5 x5 k4 p4 x4 k10 p10 x10 kb0 (fun _ => pb0) (by decide) (fun _ => xb0 1 (by decide) rfl)
  obtain ⟨_, ks1, ps1, xs1⟩ := ok_is_statement (P := P) (w := w) (base := base) F8.fn F8.at_ B C.FORMS C.formsK (by decide) ki1 pi1 xi1
  obtain ⟨_, kb1, pb1, xb1, _⟩ := ok_is_body (P := P) (w := w) (base := base) F7.fn F7.at_ B ks1 ps1 xs1
  obtain ⟨_, ki2, pi2, xi2⟩ := ok_is_item (P := P) (w := w) (base := base) (d := 2) (e := 0) F9.fn F9.at_ B C.HIGHEST C.MOST_TURNS C.MOST_WITHIN C.MOST_INNER_STATEMENTS (by decide) k5 p5 x5 k4 p4 x4 k10 p10 x10 kb1 (fun _ => pb1) (by decide) (fun _ => xb1 0 (by decide) rfl)
  obtain ⟨_, ks2, ps2, xs2⟩ := ok_is_statement (P := P) (w := w) (base := base) F8.fn F8.at_ B C.FORMS C.formsK (by decide) ki2 pi2 xi2
  obtain ⟨_, kb2, pb2, _, t2⟩ := ok_is_body (P := P) (w := w) (base := base) F7.fn F7.at_ B ks2 ps2 xs2
  obtain ⟨_, k6, p6, x6⟩ := ok_is_whole_body (P := P) (w := w) (base := base) F6.fn F6.at_ B C.MOST_STATEMENTS kb2 pb2 (t2 rfl rfl)
  exact ⟨ok_check_program (P := P) (w := w) (base := base) F1.fn F1.at_ B mkB (by decide) k2 p2 x2 k3 p3 x3 k6 x6, ok_is_program (P := P) (w := w) (base := base) F0.fn F0.at_ B (by decide) k2 p2 x2 k3 p3 x3 k6 p6 x6⟩
end
section
variable {f1 f2 f3 f4 f5 f6 f7 f8 f9 f10 : Addr} {d1 d2 d3 d4 d5 d6 d7 d8 d9 d10 : FuncData} (B : Bi mg)
  (F1 : Fat K mg "_law_taken" s_l_taken f1 d1) (F2 : Fat K mg "_law_pick" s_l_pick f2 d2) (F3 : Fat K mg "_law_lots" s_l_lots f3 d3) (F4 : Fat K mg "_law_told" s_l_told f4 d4) (F5 : Fat K mg "_law_into" s_l_into f5 d5) (F6 : Fat K mg "_law_stands" s_l_stands f6 d6)
  (F7 : Fat K mg "_law_check" s_l_check f7 d7) (F8 : Fat K mg "_law_statement" s_l_statement f8 d8) (F9 : Fat K mg "_law_sorts" s_l_sorts f9 d9) (F10 : Fat K mg "_law_program" s_l_program f10 d10)
include B F1 F2 F3 F4 F5 F6 F7 F8 F9 F10
theorem drawn_ok : ∃ g, Kn P w K mg base "_law_program" 2 6 g ∧ P_program g := by
  obtain ⟨gt, k1, p1⟩ := ok_taken (P := P) (w := w) (base := base) F1.fn F1.at_ B
  obtain ⟨_, k2, p2⟩ := ok_pick (P := P) (w := w) (base := base) F2.fn F2.at_ B k1 p1
  obtain ⟨_, k3, p3⟩ := ok_lots (P := P) (w := w) (base := base) F3.fn F3.at_ B
  obtain ⟨_, k4, p4⟩ := ok_told (P := P) (w := w) (base := base) F4.fn F4.at_ B
  obtain ⟨_, k5, p5⟩ := ok_into (P := P) (w := w) (base := base) F5.fn F5.at_ B
  obtain ⟨_, k6, p6⟩ := ok_stands (P := P) (w := w) (base := base) F6.fn F6.at_ B k5 p5
  have z7 := kn_zero (P := P) (w := w) (base := base) (n := 4) F7 (F7.fn.binds (ps := ["words", "sorts", "body", "under"]) fun _ _ _ _ _ _ us hl => match us, hl with | [_, _, _, _], _ => rfl)
  obtain ⟨_, c0, q0⟩ := ok_check (P := P) (w := w) (base := base) F7.fn F7.at_ B (Nat.le_refl 2) k6 p6 (d := 0) (by decide) (z7.mono (by decide : 0 ≤ 2)) (fun h => absurd h (by decide))
  obtain ⟨_, c1, q1⟩ := ok_check (P := P) (w := w) (base := base) F7.fn F7.at_ B (by decide) k6 p6 (d := 1) (by decide) c0 (fun _ => q0)
  obtain ⟨_, c2, q2⟩ := ok_check (P := P) (w := w) (base := base) F7.fn F7.at_ B (by decide) k6 p6 (d := 2) (by decide) c1 (fun _ => q1)
  have z8 := kn_zero (P := P) (w := w) (base := base) (n := 3) F8 (F8.fn.binds (ps := ["row", "many", "deep"]) fun _ _ _ _ _ _ us hl => match us, hl with | [_, _, _], _ => rfl)
  obtain ⟨_, s0, r0⟩ := ok_statement (P := P) (w := w) (base := base) F8.fn F8.at_ B (Nat.le_refl 2) k1 p1 k2 p2 (d := 0) (z8.mono (by decide : 0 ≤ 2)) (fun h => absurd h (by decide))
  obtain ⟨_, s1, r1⟩ := ok_statement (P := P) (w := w) (base := base) F8.fn F8.at_ B (by decide) k1 p1 k2 p2 (d := 1) s0 (fun _ => r0)
  obtain ⟨_, s2, r2⟩ := ok_statement (P := P) (w := w) (base := base) F8.fn F8.at_ B (by decide) k1 p1 k2 p2 (d := 2) s1 (fun _ => r1)
  obtain ⟨_, k9, p9⟩ := ok_sorts (P := P) (w := w) (base := base) F9.fn F9.at_ B k1 p1 k2 p2
  obtain ⟨gp, k10, p10⟩ := ok_program (P := P) (w := w) (base := base) F10.fn F10.at_ B (by decide) k1 p1 k2 p2 k9 p9 k3 p3 k4 p4 c2 q2 s2 r2
  exact ⟨gp, k10, p10⟩
end
/-! ### what the law's words draw -/
theorem small_ok {f1 f2 f3 f4 : Addr} {d1 d2 d3 d4 : FuncData} (B : Bi mg) (F1 : Fat K mg "_law_taken" s_l_taken f1 d1) (F2 : Fat K mg "_law_pick" s_l_pick f2 d2) (F3 : Fat K mg "_law_words" s_l_words f3 d3) (F4 : Fat K mg "_law_design" s_l_design f4 d4) :
    (∃ g, Kn P w K mg base "_law_taken" 2 1 g ∧ P_taken g) ∧ (∃ g, Kn P w K mg base "_law_pick" 2 2 g ∧ P_pick g) ∧ ∃ g, Kn P w K mg base "_law_design" 1 3 g ∧ P_design g := by
  obtain ⟨gt, k1, p1⟩ := ok_taken (P := P) (w := w) (base := base) F1.fn F1.at_ B
  obtain ⟨g2, k2, p2⟩ := ok_pick (P := P) (w := w) (base := base) F2.fn F2.at_ B k1 p1
  obtain ⟨_, k3, p3⟩ := ok_words (P := P) (w := w) (base := base) F3.fn F3.at_ B
  exact ⟨⟨gt, k1, p1⟩, ⟨g2, k2, p2⟩, ok_design (P := P) (w := w) (base := base) F4.fn F4.at_ B k1 p1 k2 p2 k3 p3⟩
/-! ### what is refused -/
theorem refs_ok {CD CB : Addr} {a_lots_in a_is_sound a_breaker a_greatest_sound a_fewest_drops a_fault a_lets_by a_strengths a_lets_by_all a_parting a_sees_all a_unseen a_alike a_leak a_run a_write_program a_is_strength a_lacking_strengths a_lacking_sights b1 b2 b3 : Addr} {e_lots_in e_is_sound e_breaker e_greatest_sound e_fewest_drops e_fault e_lets_by e_strengths e_lets_by_all e_parting e_sees_all e_unseen e_alike e_leak e_run e_write_program e_is_strength e_lacking_strengths e_lacking_sights c1 c2 c3 : FuncData} (B : Bi mg) (gW : Gc K mg "WORDS" (.tup (wordsL.map strD))) (gL : Gc K mg "LOOKER" (.tup (lookerL.map strD))) (gU : Gc K mg "UNDER_SECRETS" (.tup (underL.map strD))) (gB : Gc K mg "BRANCHES" (.tup (branchL.map strD))) (EB : ExA K mg "BadDesign" CD)
    (D1 : Fat K mg "is_word" s_is_word b1 c1) (D2 : Fat K mg "is_design" s_is_design b2 c2) (D3 : Fat K mg "check_design" s_check_design b3 c3)
    (F_lots_in : Fat K mg "lots_in" s_lots_in a_lots_in e_lots_in) (F_is_sound : Fat K mg "is_sound" s_is_sound a_is_sound e_is_sound) (F_breaker : Fat K mg "breaker" s_breaker a_breaker e_breaker) (F_greatest_sound : Fat K mg "greatest_sound" s_greatest_sound a_greatest_sound e_greatest_sound) (F_fewest_drops : Fat K mg "fewest_drops" s_fewest_drops a_fewest_drops e_fewest_drops) (F_fault : Fat K mg "fault" s_fault a_fault e_fault) (F_lets_by : Fat K mg "lets_by" s_lets_by a_lets_by e_lets_by) (F_strengths : Fat K mg "strengths" s_strengths a_strengths e_strengths) (F_lets_by_all : Fat K mg "lets_by_all" s_lets_by_all a_lets_by_all e_lets_by_all) (F_parting : Fat K mg "parting" s_parting a_parting e_parting) (F_sees_all : Fat K mg "sees_all" s_sees_all a_sees_all e_sees_all) (F_unseen : Fat K mg "unseen" s_unseen a_unseen e_unseen) (F_alike : Fat K mg "alike" s_alike a_alike e_alike) (F_leak : Fat K mg "leak" s_leak a_leak e_leak) (F_run : Fat K mg "run" s_run a_run e_run) (F_write_program : Fat K mg "write_program" s_write_program a_write_program e_write_program) (F_is_strength : Fat K mg "is_strength" s_is_strength a_is_strength e_is_strength) (F_lacking_strengths : Fat K mg "lacking_strengths" s_lacking_strengths a_lacking_strengths e_lacking_strengths) (F_lacking_sights : Fat K mg "lacking_sights" s_lacking_sights a_lacking_sights e_lacking_sights)
    (hc : ∃ g, KnX P w K mg base "check_program" 1 13 g ∧ P_cpX CB BadP g) : (∃ g, Kn P w K mg base "is_design" 1 2 g ∧ P_is_design g ∧ P_is_designX g) ∧ ∃ G : G8, KG8 P w K mg base 17 G ∧ PG8 CD CB G := by
  obtain ⟨_, kc, pc⟩ := hc
  obtain ⟨_, k1, p1, x1⟩ := ok_is_word (P := P) (w := w) (base := base) D1.fn D1.at_ B gW
  obtain ⟨gi, k2, p2, x2⟩ := ok_is_design (P := P) (w := w) (base := base) D2.fn D2.at_ B k1 p1 x1
  obtain ⟨_, kd0, pd⟩ := ok_check_design (P := P) (w := w) (base := base) D3.fn D3.at_ B EB k2 p2 x2
  have kd := kd0.mono (by decide : 3 ≤ 13)
  obtain ⟨g_lots_in, k_lots_in, p_lots_in⟩ := okX_lots_in (P := P) (w := w) (base := base) F_lots_in.fn F_lots_in.at_ B kd pd
  obtain ⟨g_is_sound, k_is_sound, p_is_sound⟩ := okX_is_sound (P := P) (w := w) (base := base) F_is_sound.fn F_is_sound.at_ B k_lots_in p_lots_in
  obtain ⟨g_breaker, k_breaker, p_breaker⟩ := okX_breaker (P := P) (w := w) (base := base) F_breaker.fn F_breaker.at_ B kd pd
  obtain ⟨g_greatest_sound, k_greatest_sound, p_greatest_sound⟩ := okX_greatest_sound (P := P) (w := w) (base := base) F_greatest_sound.fn F_greatest_sound.at_ B k_is_sound p_is_sound
  obtain ⟨g_fewest_drops, k_fewest_drops, p_fewest_drops⟩ := okX_fewest_drops (P := P) (w := w) (base := base) F_fewest_drops.fn F_fewest_drops.at_ B k_lots_in p_lots_in
  obtain ⟨g_fault, k_fault, p_fault⟩ := okX_fault (P := P) (w := w) (base := base) F_fault.fn F_fault.at_ B kd pd kc pc
  obtain ⟨g_lets_by, k_lets_by, p_lets_by⟩ := okX_lets_by (P := P) (w := w) (base := base) F_lets_by.fn F_lets_by.at_ B k_fault p_fault
  obtain ⟨_, k_is, p_is⟩ := ok_is_strength (P := P) (w := w) (base := base) F_is_strength.fn F_is_strength.at_ B gL gU gB
  obtain ⟨g_strengths, k_strengths, p_strengths⟩ := okX_strengths (P := P) (w := w) (base := base) F_strengths.fn F_strengths.at_ B (by decide) kd pd k_is p_is
  obtain ⟨_, k_ls, p_ls⟩ := okX_lacking_strengths (P := P) (w := w) (base := base) F_lacking_strengths.fn F_lacking_strengths.at_ B k_strengths p_strengths
  obtain ⟨_, k_lg, p_lg⟩ := okX_lacking_sights (P := P) (w := w) (base := base) F_lacking_sights.fn F_lacking_sights.at_ B kd pd
  obtain ⟨g_lets_by_all, k_lets_by_all, p_lets_by_all⟩ := okX_lets_by_all (P := P) (w := w) (base := base) F_lets_by_all.fn F_lets_by_all.at_ B k_ls p_ls
  obtain ⟨g_parting, k_parting, p_parting⟩ := okX_parting (P := P) (w := w) (base := base) F_parting.fn F_parting.at_ B k_ls p_ls
  obtain ⟨g_sees_all, k_sees_all, p_sees_all⟩ := okX_sees_all (P := P) (w := w) (base := base) F_sees_all.fn F_sees_all.at_ B k_lg p_lg
  obtain ⟨g_unseen, k_unseen, p_unseen⟩ := okX_unseen (P := P) (w := w) (base := base) F_unseen.fn F_unseen.at_ B k_lg p_lg
  obtain ⟨g_alike, k_alike, p_alike⟩ := okX_alike (P := P) (w := w) (base := base) F_alike.fn F_alike.at_ B kd pd kc pc
  obtain ⟨g_leak, k_leak, p_leak⟩ := okX_leak (P := P) (w := w) (base := base) F_leak.fn F_leak.at_ B kd pd kc pc
  obtain ⟨g_run, k_run, p_run⟩ := okX_run (P := P) (w := w) (base := base) F_run.fn F_run.at_ B kc pc
  obtain ⟨g_write_program, k_write_program, p_write_program⟩ := okX_write_program (P := P) (w := w) (base := base) F_write_program.fn F_write_program.at_ B kc pc
  exact ⟨⟨gi, k2, p2, x2⟩, ⟨g_is_sound, g_lots_in, g_breaker, g_greatest_sound, g_fewest_drops, g_fault, g_lets_by, g_strengths, g_lets_by_all, g_parting, g_sees_all, g_unseen, g_alike, g_leak, g_run, g_write_program⟩, ⟨k_is_sound.mono (by decide), k_lots_in.mono (by decide), k_breaker.mono (by decide), k_greatest_sound.mono (by decide), k_fewest_drops.mono (by decide), k_fault.mono (by decide), k_lets_by.mono (by decide), k_strengths.mono (by decide), k_lets_by_all.mono (by decide), k_parting.mono (by decide), k_sees_all.mono (by decide), k_unseen.mono (by decide), k_alike.mono (by decide), k_leak.mono (by decide), k_run.mono (by decide), k_write_program.mono (by decide)⟩, ⟨p_is_sound, p_lots_in, p_breaker, p_greatest_sound, p_fewest_drops, p_fault, p_lets_by, p_strengths, p_lets_by_all, p_parting, p_sees_all, p_unseen, p_alike, p_leak, p_run, p_write_program⟩⟩
end
/-! ### facts of the module -/
theorem fa_at {K : PySem.W.Frag} {mg : Str → Option Value} {h : Heap} {x : Str} {st : Stmt} {f : Addr} {oc : Value} {od an : Option Addr} {osl : Array (Option Value)} {kV doc pm cdv ct : Value} (X : K.In h) (G : h.Ns mainGlobals mg)
    (a : PySem.W.nsIn K mainGlobals x = some (some (.ref f))) (l : K.lookup f = some ⟨oc, od, .func (PySem.W.fnOf x x (defArgs st) (defBody st) (defScope st) .none kV doc pm an cdv ct), osl⟩) (c : PySem.W.codeIn K cdv x = true) (k : PySem.W.keepIn K (.ref f) = true) :
    Fat K mg x st f (PySem.W.fnOf x x (defArgs st) (defBody st) (defScope st) .none kV doc pm an cdv ct) := ⟨fun_mk l c k, PySem.W.mg_of X G a⟩
theorem gc_int {K : PySem.W.Frag} {mg : Str → Option Value} {h : Heap} {x : Str} {i : Int} {t : Tok} (X : K.In h) (G : h.Ns mainGlobals mg) (a : PySem.W.nsIn K mainGlobals x = some (some (.int i t))) : Gc K mg x (.int i) := ⟨⟨_, .int i, PySem.W.mg_of X G a, ⟨t, rfl⟩, fun H => .int i⟩⟩
theorem gc_ref {K : PySem.W.Frag} {mg : Str → Option Value} {h : Heap} {x : Str} {b : Addr} (X : K.In h) (G : h.Ns mainGlobals mg) (a : PySem.W.nsIn K mainGlobals x = some (some (.ref b))) : Gc K mg x (.ref b) := ⟨⟨_, .ref b, PySem.W.mg_of X G a, rfl, fun H => .ref b⟩⟩
/-- a value of the written part by data -/
def RepV (K : PySem.W.Frag) (u : Value) (d : D) : Prop := ∃ v, RelV v u ∧ ∀ H, Rep K H v d
theorem rv_str {K : PySem.W.Frag} {x : String} {t : Tok} : RepV K (.str (Str.ofString x) t) (strD x) := ⟨.str _, ⟨t, rfl⟩, fun H => .str _⟩
theorem rv_ref {K : PySem.W.Frag} {a : Addr} : RepV K (.ref a) (.ref a) := ⟨.ref a, rfl, fun H => .ref a⟩
theorem rv_tup {K : PySem.W.Frag} {a : Addr} {its : Array Value} {n : Nat} {sl : Array (Option Value)} {ds : List D} (l : K.lookup a = some ⟨.type "tuple", none, .seq its n, sl⟩) (hs : its.size ≤ sizeLine) (hv : Paired (RepV K) its.toList ds) : RepV K (.ref a) (.tup ds) := by
  have key : ∀ (us : List Value) (ds : List D), Paired (RepV K) us ds → ∃ vs, Vals vs us ∧ ∀ H, Reps K H vs ds := by
    intro us ds h
    induction h with
    | nil => exact ⟨[], .nil, fun H => .nil⟩
    | cons h _ ih =>
      obtain ⟨v, r1, r2⟩ := h
      obtain ⟨vs, q1, q2⟩ := ih
      exact ⟨v :: vs, .cons r1 q1, fun H => .cons (r2 H) (q2 H)⟩
  obtain ⟨vs, q1, q2⟩ := key _ _ hv
  exact ⟨.ref a, rfl, fun H => .tup (Or.inr ⟨_, its, n, l, rfl, rfl, rfl, hs, q1⟩) (q2 H)⟩
theorem gc_rv {K : PySem.W.Frag} {mg : Str → Option Value} {h : Heap} {x : Str} {u : Value} {d : D} (X : K.In h) (G : h.Ns mainGlobals mg) (a : PySem.W.nsIn K mainGlobals x = some (some u)) (r : RepV K u d) : Gc K mg x d :=
  let ⟨v, r1, r2⟩ := r; ⟨⟨u, v, PySem.W.mg_of X G a, r1, r2⟩⟩
/-- the entries of a written dict by data -/
def EntR (K : PySem.W.Frag) (e : DictEntry) (kv : Str × D) : Prop := (∃ t, e.key = .str kv.1 t) ∧ RepV K e.val kv.2
theorem gk_of {K : PySem.W.Frag} {w : World} {kvs : List (Str × D)} {a : Addr} {es : Array DictEntry} {n : Nat} (l : K.lookup a = some ⟨.type "dict", none, .dict es n, #[]⟩) (lit : PySem.W.KeysLit w.params es.toList) (low : (a == sysModules) = false) (hv : Paired (EntR K) es.toList kvs) : GK K w kvs a := by
  refine ⟨⟨es, n, l, lit, low⟩, fun z => ?_⟩
  have key : ∀ (l : List DictEntry) (kvs : List (Str × D)), Paired (EntR K) l kvs → l.any (·.refKey) = false ∧ ((l.find? (·.key.isStr z)).map (·.val)).isSome = (kvs.lookup z).isSome ∧ ∀ d, kvs.lookup z = some d → ∃ e, l.find? (·.key.isStr z) = some e ∧ RepV K e.val d := by
    intro l kvs h
    induction h with
    | nil => exact ⟨rfl, rfl, fun d e => nomatch e⟩
    | @cons e kv l kvs h _ ih =>
      obtain ⟨⟨t, hk⟩, hr⟩ := h
      obtain ⟨k, d⟩ := kv
      dsimp only at hk hr
      obtain ⟨i1, i2, i3⟩ := ih
      have hrk : e.refKey = false := by unfold DictEntry.refKey; rw [hk]
      have his : e.key.isStr z = (k == z) := by rw [hk]; rfl
      by_cases hz : k = z
      · subst hz
        have h1 : e.key.isStr k = true := by rw [his]; exact beq_self_eq_true k
        rw [List.any_cons, hrk, i1, List.find?_cons_of_pos (p := fun x : DictEntry => x.key.isStr k) h1, List.lookup_cons, beq_self_eq_true]
        exact ⟨rfl, rfl, fun d' q => by cases q; exact ⟨e, rfl, hr⟩⟩
      · have h1 : ¬ e.key.isStr z = true := by rw [his]; simpa using hz
        have h2 : (z == k) = false := beq_eq_false_iff_ne.mpr fun q => hz q.symm
        rw [List.any_cons, hrk, i1, List.find?_cons_of_neg (p := fun x : DictEntry => x.key.isStr z) h1, List.lookup_cons, h2]
        exact ⟨rfl, i2, i3⟩
  obtain ⟨k1, k2, k3⟩ := key _ _ hv
  unfold PySem.W.nsIn
  rw [l]
  dsimp only
  cases hf : es.toList.find? (·.key.isStr z) with
  | none =>
    rw [hf] at k2
    dsimp only
    rw [k1]
    refine ⟨none, rfl, k2, fun d hd => ?_⟩
    rw [hd] at k2
    cases k2
  | some e =>
    rw [hf] at k2
    refine ⟨some e.val, rfl, k2, fun d hd => ?_⟩
    obtain ⟨e', q1, v, r1, r2⟩ := k3 d hd
    rw [hf] at q1
    cases q1
    exact ⟨_, v, rfl, r1, r2⟩
theorem bi_of {K : PySem.W.Frag} {mg : Str → Option Value} {h : Heap} (X : K.In h) (G : h.Ns mainGlobals mg) (a : (["len", "int", "str", "tuple", "list", "sum", "all", "any", "isinstance", "range", "zip", "enumerate", "sorted", "set", "min", "max", "super", "bool"] : List String).all (fun x => PySem.W.nsIn K mainGlobals (Str.ofString x) == some none) = true) : Bi mg :=
  ⟨fun x hx => PySem.W.mg_none_of X G (by have := List.all_eq_true.mp a x hx; simpa using this)⟩

theorem rv_int {K : PySem.W.Frag} {i : Int} {t : Tok} : RepV K (.int i t) (.int i) := ⟨.int i, ⟨t, rfl⟩, fun H => .int i⟩
theorem gk_at {K : PySem.W.Frag} {w : World} {mg : Str → Option Value} {h : Heap} {x : Str} {kvs : List (Str × D)} {a : Addr} {es : Array DictEntry} {n : Nat} (X : K.In h) (G : h.Ns mainGlobals mg) (q : PySem.W.nsIn K mainGlobals x = some (some (.ref a)))
    (l : K.lookup a = some ⟨.type "dict", none, .dict es n, #[]⟩) (lit : PySem.W.KeysLit w.params es.toList) (low : (a == sysModules) = false) (hv : Paired (EntR K) es.toList kvs) : Gc K mg x (.ref a) ∧ GK K w kvs a := ⟨gc_ref X G q, gk_of l lit low hv⟩
section
variable {P : Program} {w : World} {K : PySem.W.Frag} {mg : Str → Option Value} {base : Heap}
/-- BadProgram and its __init__ -/
structure InvC (P : Program) (K : PySem.W.Frag) (mg : Str → Option Value) (CI fI : Addr) : Prop where
  sup : ∃ (c cc : Addr) (fd : FuncData), SupI P K "__init__" "BadProgram.__init__" (inClass (top 3) 0) fI CI c cc fd
  oex : OexC K CI
  ini : PySem.W.findIn K (.ref CI) "__init__" = some (some (.ref fI))
  ty : PySem.W.typeIn K (.ref fI) = some (.type "function")
  no : PySem.W.findIn K (.ref CI) partF = some none
  at_ : mg "BadProgram" = some (.ref CI)
  sp : mg "super" = none
theorem inv_mk {CI fI : Addr} (I : InvC P K mg CI fI) : BPMk P w K mg base CI := by
  intro X fs e p pos hP hw hK hmg hbase hr hg ha hstar
  subst hP hw hK hmg hbase
  obtain ⟨c, cc, fd, S⟩ := I.sup
  have F1 := init_fn (CX := CX0) (w := X.w) (mg := X.mg) (base := X.base) (k := 0) S I.oex I.no I.sp (by decide) rfl (nscope_by (by decide +kernel)) rfl ⟨_, rfl, rfl⟩ (by decide) (by decide) (fun env => rfl) (fun env => rfl)
  refine pmk_init (k := 1) I.oex I.ini I.ty F1 hr ?_ hg I.at_ ha (by decide) hstar
  obtain ⟨oc, od, kV, doc, pm, an, ct, osl, rfl, _⟩ := S.fn
  exact .all fun us hl => match us, hl with | [_, _], _ => rfl
end
/-- the errors of texts -/
structure TxErr (P : Program) (K : PySem.W.Frag) (mg : Str → Option Value) (CI CN CS fI : Addr) : Prop where
  inv : InvC P K mg CI fI
  ecI : ExcC K CI
  xfI : XfC K CI
  atN : mg "BadDesign" = some (.ref CN)
  exN : PySem.W.excIn K CN [.type "ValueError", .type "Exception", .type "BaseException", .type "object"] "ValueError.__new__" = true
  kpN : PySem.W.keepIn K (.ref CN) = true
  sbN : PySem.W.subIn K (.ref CN) (.type "BaseException") = some true
  tyN : PySem.W.typeIn K (.ref CN) = some (.type "type")
  ecN : ExcC K CN
  atS : mg "FlowError" = some (.ref CS)
  exI : PySem.W.exmOne K (.ref CI) (.ref CS) = some true
  exNS : PySem.W.exmOne K (.ref CN) (.ref CS) = some true
  kit : PySem.W.kitOne K (.ref CN) (.ref CI) = some false
def excB (K : PySem.W.Frag) (C : Addr) : Prop := PySem.W.findIn K (.ref C) "__getattribute__" = some (some (.builtin "BaseException.__getattribute__")) ∧ PySem.W.findIn K (.ref C) "__getattr__" = some none ∧ PySem.W.hasDictIn K C = true ∧ PySem.W.findIn K (.ref C) "__class__" = some (some (.builtin "object.__class__")) ∧ PySem.W.mroIn K C (.type "object") = some true
theorem excB_mk {K : PySem.W.Frag} {C : Addr} (e1 : PySem.W.findIn K (.ref C) "__getattribute__" = some (some (.builtin "BaseException.__getattribute__"))) (e2 : PySem.W.findIn K (.ref C) "__getattr__" = some none) (e4 : PySem.W.hasDictIn K C = true) (e5 : PySem.W.findIn K (.ref C) "__class__" = some (some (.builtin "object.__class__"))) (e8 : PySem.W.mroIn K C (.type "object") = some true) : excB K C := ⟨e1, e2, e4, e5, e8⟩
theorem sup_mk {P : Program} {K : PySem.W.Frag} {x qual : Str} {st : Stmt} {f C c cc : Addr} {oc : Value} {od : Option Addr} {kV doc pm : Value} {an : Option Addr} {ct : Value} {osl : Array (Option Value)} {ccl : Value} {cdd : Option Addr} {vs : Array Value} {ccs : Array (Option Value)} {file : Str} {tf : Tok} {cl : Value} {cld : Option Addr} {csl : Array (Option Value)}
    (l : K.lookup f = some ⟨oc, od, .func (PySem.W.fnX x qual (defArgs st) (defBody st) (defScope st) [("__class__", cc)] .none kV doc pm an (.ref c) ct), osl⟩) (co : PySem.W.codeIn K (.ref c) qual = true) (lc : K.lookup c = some ⟨ccl, cdd, .fields vs, ccs⟩) (hv : vs[2]? = some (.str file tf)) (hf : ((P.main.file : Str) == file) = true)
    (hcl : K.lookup cc = some ⟨cl, cld, .cell (some (.ref C)), csl⟩) (sub : PySem.W.mroIn K C (.ref C) = some true) (sup : PySem.W.ks_superIn K C C "__init__" = some (some (.builtin "ValueError.__init__"))) (subV : PySem.W.subIn K (.ref C) (.type "ValueError") = some true) (op : PySem.W.nsIn K cStatics "thirdparty.any" = some none)
    (htop : (P.main.scope.names.lookup ("super" : Str)).isSome = false) : ∃ (c cc : Addr) (fd : FuncData), SupI P K x qual st f C c cc fd :=
  ⟨c, cc, _, ⟨oc, od, kV, doc, pm, an, ct, osl, rfl, l⟩, co, ⟨ccl, cdd, vs, ccs, file, tf, lc, hv, hf⟩, ⟨cl, cld, csl, hcl⟩, sub, sup, subV, op, htop⟩
theorem oex_mk {K : PySem.W.Frag} {C : Addr} {nm q : Str} {N : Addr} {bs bm : List Value} {sn : List Str} {sub : List Value} {ab : Bool} {col : Option Bool} {dd : Option Addr} {k0 k1 k2 k3 k5 : Option Value} (l : K.lookup C = some (excClassObj nm q C N bs bm true sn sub ab col dd k0 k1 k2 k3 k5 "ValueError.__new__")) (hb : PySem.HandSPX.refsVE bm = true)
    (sa : PySem.W.findIn K (.ref C) "__setattr__" = some (some (.builtin "object.__setattr__"))) (exC : PySem.W.subIn K (.ref C) (.type "BaseException") = some true) (tyC : PySem.W.typeIn K (.ref C) = some (.type "type")) (kC : PySem.W.keepIn K (.ref C) = true) : OexC K C := ⟨⟨_, _, _, _, _, _, _, _, _, _, _, _, _, _, _, l, hb⟩, sa, exC, tyC, kC⟩
theorem tx_mk {P : Program} {K : PySem.W.Frag} {mg : Str → Option Value} {h : Heap} {CI CN CS fI : Addr} (X : K.In h) (G : h.Ns mainGlobals mg)
    (aI : PySem.W.nsIn K mainGlobals "BadProgram" = some (some (.ref CI))) (aN : PySem.W.nsIn K mainGlobals "BadDesign" = some (some (.ref CN))) (aS : PySem.W.nsIn K mainGlobals "FlowError" = some (some (.ref CS))) (ini : PySem.W.findIn K (.ref CI) "__init__" = some (some (.ref fI)))
    (sup : ∃ (c cc : Addr) (fd : FuncData), SupI P K "__init__" "BadProgram.__init__" (inClass (top 3) 0) fI CI c cc fd) (oex : OexC K CI) (ty : PySem.W.typeIn K (.ref fI) = some (.type "function")) (no : PySem.W.findIn K (.ref CI) partF = some none) (sp : mg "super" = none)
    (bI : excB K CI) (bN : excB K CN) (e6 : PySem.W.specialIn K (.builtin "object.__class__") "__get__" = some (some (.builtin "getset_descriptor.__get__"))) (e7 : PySem.W.takesIn K (.builtin "object.__class__") = some true)
    (exN : PySem.W.excIn K CN [.type "ValueError", .type "Exception", .type "BaseException", .type "object"] "ValueError.__new__" = true) (kpN : PySem.W.keepIn K (.ref CN) = true) (sbN : PySem.W.subIn K (.ref CN) (.type "BaseException") = some true) (tyN : PySem.W.typeIn K (.ref CN) = some (.type "type"))
    (sS : PySem.W.subIn K (.ref CS) (.type "BaseException") = some true) (dS : PySem.W.hasDictIn K CS = true) (tS : PySem.W.typeIn K (.ref CS) = some (.type "type")) (iS : PySem.W.subIn K (.ref CI) (.ref CS) = some true) (nS : PySem.W.subIn K (.ref CN) (.ref CS) = some true) (kit : PySem.W.kitOne K (.ref CN) (.ref CI) = some false) : TxErr P K mg CI CN CS fI :=
  ⟨⟨sup, oex, ini, ty, no, PySem.W.mg_of X G aI, sp⟩, ⟨bI.1, bI.2.1, oex.exC, bI.2.2.1, bI.2.2.2.1, e6, e7, bI.2.2.2.2⟩, ⟨bI.1, bI.2.1, oex.exC, bI.2.2.1⟩, PySem.W.mg_of X G aN, exN, kpN, sbN, tyN, ⟨bN.1, bN.2.1, sbN, bN.2.2.1, bN.2.2.2.1, e6, e7, bN.2.2.2.2⟩, PySem.W.mg_of X G aS, PySem.W.exm_ref sS dS tS iS, PySem.W.exm_ref sS dS tS nS, kit⟩
theorem lawAt {l : PySem.W.OpenLaw} {w : World} {K : PySem.W.Frag} {mg : Str → Option Value} {fa f3 c Pt : Addr} {h : Heap} {n : Nat} {oc kV dc pm ct : Value} {od an : Option Addr} {osl : Array (Option Value)} (X : K.In h) (G : h.Ns mainGlobals mg) (hfa : mg "law" = some (.ref fa))
    (a : PySem.W.nsIn K mainGlobals "law" = some (some (.ref f3))) (lk : K.lookup f3 = some ⟨oc, od, .func (PySem.W.fnOf "law" "law" (defArgs s_law) (defBody s_law) (defScope s_law) .none kV dc pm an (.ref c) ct), osl⟩) (hcd : PySem.W.codeIn K (.ref c) "law" = true) (kp : PySem.W.keepIn K (.ref f3) = true)
    (hT : h.get? Pt = some { cls := .none, data := .fields #[] }) (nT : K.lookup Pt = none) (hC : PySem.W.CodeHd h c Pt)
    (F : ∀ base : Heap, TabB base mg c Pt → Fat K mg "law" s_law fa (PySem.W.fnOf "law" "law" (defArgs s_law) (defBody s_law) (defScope s_law) .none kV dc pm an (.ref c) ct) → K.lookup fa = some ⟨oc, od, .func (PySem.W.fnOf "law" "law" (defArgs s_law) (defBody s_law) (defScope s_law) .none kV dc pm an (.ref c) ct), osl⟩ →
      FnOk l.prog w K mg base CX0 20 fa (PySem.W.fnOf "law" "law" (defArgs s_law) (defBody s_law) (defScope s_law) .none kV dc pm an (.ref c) ct) ["script"] (spLaw K Pt)) : LawAtS l w K CX0 20 n "script" mg fa h := by
  have e := hfa.symm.trans (PySem.W.mg_of X G a)
  cases e
  refine ⟨_, [(c, Pt)], spLaw K Pt, fun p hp => ?_, fun p hp => ?_, fun p hp => ?_, fun s u => .of_eq rfl, fun H a ns _ _ hH hS => ⟨a, ns, rfl, hS, hH _ List.mem_cons_self, fun _ => rfl⟩, fun base _ _ hB => F base (hB _ List.mem_cons_self) ⟨fun_mk lk hcd kp, hfa⟩ lk⟩
  · rw [List.mem_singleton.mp hp]; exact hT
  · rw [List.mem_singleton.mp hp]; exact nT
  · rw [List.mem_singleton.mp hp]; exact hC
end Fw

open PySem PySem.W PyProof.Rows
set_option Elab.async false
set_option linter.all false
/-! names taken, so that the head lays no second texts of its states (they would be most of the compiled size) -/
theorem PySem.W.Fast.tw735133952187030688 : True := trivial
theorem PySem.W.Fast.tw10642064596144606178 : True := trivial
theorem PySem.W.Fast.tw15232079454442815299 : True := trivial
theorem PySem.W.Fast.tw10292401870628531300 : True := trivial
theorem PySem.W.Fast.tw16675011366059809028 : True := trivial
theorem PySem.W.Fast.tw4089508139584083396 : True := trivial
theorem PySem.W.Fast.tw2739495525817888452 : True := trivial
theorem PySem.W.Fast.tw9617590699450339205 : True := trivial
theorem PySem.W.Fast.tw15149706360667634278 : True := trivial
theorem PySem.W.Fast.tw4806885573199817382 : True := trivial
theorem PySem.W.Fast.tw17775258860081946727 : True := trivial
theorem PySem.W.Fast.tw13614697773999072423 : True := trivial
theorem PySem.W.Fast.tw7987073687424003495 : True := trivial
theorem PySem.W.Fast.tw5711309371952758759 : True := trivial
theorem PySem.W.Fast.tw5349237714040982888 : True := trivial
theorem PySem.W.Fast.tw14815850145558202473 : True := trivial
theorem PySem.W.Fast.tw16057094886622394089 : True := trivial
theorem PySem.W.Fast.tw9983336212685455627 : True := trivial
theorem PySem.W.Fast.tw11702275259026843499 : True := trivial
theorem PySem.W.Fast.tw11801595829641823211 : True := trivial
theorem PySem.W.Fast.tw1484779809704196140 : True := trivial
theorem PySem.W.Fast.tw9393075580598631180 : True := trivial
theorem PySem.W.Fast.tw6494553199016221806 : True := trivial
theorem PySem.W.Fast.tw11788753530809820622 : True := trivial
theorem PySem.W.Fast.tw4246072112959497806 : True := trivial
theorem PySem.W.Fast.tw17621526815717181647 : True := trivial
theorem PySem.W.Fast.tw572910914141262383 : True := trivial
theorem PySem.W.Fast.tw14095309473172514896 : True := trivial
theorem PySem.W.Fast.tw2860713946913287440 : True := trivial
theorem PySem.W.Fast.tw11958352057466365521 : True := trivial
theorem PySem.W.Fast.tw14787512162304239859 : True := trivial
theorem PySem.W.Fast.tw3813782814173913588 : True := trivial
theorem PySem.W.Fast.tw7110360678166117364 : True := trivial
theorem PySem.W.Fast.tw9100134076035349237 : True := trivial
theorem PySem.W.Fast.tw15022509971066827862 : True := trivial
theorem PySem.W.Fast.tw17073349020612779766 : True := trivial
theorem PySem.W.Fast.tw358243500332752216 : True := trivial
theorem PySem.W.Fast.tw5353572536226665018 : True := trivial
theorem PySem.W.Fast.tw15290673444820768314 : True := trivial
theorem PySem.W.Fast.tw5842864510181305946 : True := trivial
theorem PySem.W.Fast.tw4918006546750735994 : True := trivial
theorem PySem.W.Fast.tw3759640129473918586 : True := trivial
theorem PySem.W.Fast.tw17623978296744860253 : True := trivial
theorem PySem.W.Fast.tw3228419792785422750 : True := trivial
theorem PySem.W.Fast.tw15539968898422806014 : True := trivial
theorem PySem.W.Fast.tw896619755819012287 : True := trivial
set_option maxRecDepth 100000 in
set_option maxHeartbeats 0 in
theorem PySem.Challenge.cw_flowborder_k08_whole_refused_holds : PySem.Challenge.rw_flowborder_k08_whole_refused.Holds := by
  w_on; o_law; k_head; (case hw => w_witness2)
  k_fill
  refine LamX.walk_ofTs (l := PySem.Challenge.rw_flowborder_k08_whole_refused) (n := 63) (k := 20) (x := "script") (CX := fun _ => L2.CX0) rfl (by decide) rfl ⟨rfl, by decide, by decide⟩ (fun w h Y => PySem.W.km_in_of Y) ?F (fun _ _ _ _ _ z => z)
  case F =>
    intro w mg fa h Y KX G hmg
    have F_is_design := Fw.fa_at (x := "is_design") (st := Fw.s_is_design) KX G (by k_is) (by k_is) (by k_is) (by k_is)
    have F_is_word := Fw.fa_at (x := "is_word") (st := Fw.s_is_word) KX G (by k_is) (by k_is) (by k_is) (by k_is)
    have F_check_design := Fw.fa_at (x := "check_design") (st := Fw.s_check_design) KX G (by k_is) (by k_is) (by k_is) (by k_is)
    have F_check_program := Fw.fa_at (x := "check_program") (st := Fw.s_check_program) KX G (by k_is) (by k_is) (by k_is) (by k_is)
    have F_is_pair := Fw.fa_at (x := "is_pair") (st := Fw.s_is_pair) KX G (by k_is) (by k_is) (by k_is) (by k_is)
    have F_is_sorts := Fw.fa_at (x := "is_sorts") (st := Fw.s_is_sorts) KX G (by k_is) (by k_is) (by k_is) (by k_is)
    have F_is_sort := Fw.fa_at (x := "is_sort") (st := Fw.s_is_sort) KX G (by k_is) (by k_is) (by k_is) (by k_is)
    have F_is_number := Fw.fa_at (x := "is_number") (st := Fw.s_is_number) KX G (by k_is) (by k_is) (by k_is) (by k_is)
    have F_is_whole_body := Fw.fa_at (x := "is_whole_body") (st := Fw.s_is_whole_body) KX G (by k_is) (by k_is) (by k_is) (by k_is)
    have F_is_body := Fw.fa_at (x := "is_body") (st := Fw.s_is_body) KX G (by k_is) (by k_is) (by k_is) (by k_is)
    have F_is_statement := Fw.fa_at (x := "is_statement") (st := Fw.s_is_statement) KX G (by k_is) (by k_is) (by k_is) (by k_is)
    have F_is_item := Fw.fa_at (x := "is_item") (st := Fw.s_is_item) KX G (by k_is) (by k_is) (by k_is) (by k_is)
    have F_is_terms := Fw.fa_at (x := "is_terms") (st := Fw.s_is_terms) KX G (by k_is) (by k_is) (by k_is) (by k_is)
    have F_is_program := Fw.fa_at (x := "is_program") (st := Fw.s_is_program) KX G (by k_is) (by k_is) (by k_is) (by k_is)
    have F_lots_in := Fw.fa_at (x := "lots_in") (st := Fw.s_lots_in) KX G (by k_is) (by k_is) (by k_is) (by k_is)
    have F_is_sound := Fw.fa_at (x := "is_sound") (st := Fw.s_is_sound) KX G (by k_is) (by k_is) (by k_is) (by k_is)
    have F_breaker := Fw.fa_at (x := "breaker") (st := Fw.s_breaker) KX G (by k_is) (by k_is) (by k_is) (by k_is)
    have F_greatest_sound := Fw.fa_at (x := "greatest_sound") (st := Fw.s_greatest_sound) KX G (by k_is) (by k_is) (by k_is) (by k_is)
    have F_fewest_drops := Fw.fa_at (x := "fewest_drops") (st := Fw.s_fewest_drops) KX G (by k_is) (by k_is) (by k_is) (by k_is)
    have F_fault := Fw.fa_at (x := "fault") (st := Fw.s_fault) KX G (by k_is) (by k_is) (by k_is) (by k_is)
    have F_lets_by := Fw.fa_at (x := "lets_by") (st := Fw.s_lets_by) KX G (by k_is) (by k_is) (by k_is) (by k_is)
    have F_strengths := Fw.fa_at (x := "strengths") (st := Fw.s_strengths) KX G (by k_is) (by k_is) (by k_is) (by k_is)
    have F_lets_by_all := Fw.fa_at (x := "lets_by_all") (st := Fw.s_lets_by_all) KX G (by k_is) (by k_is) (by k_is) (by k_is)
    have F_parting := Fw.fa_at (x := "parting") (st := Fw.s_parting) KX G (by k_is) (by k_is) (by k_is) (by k_is)
    have F_sees_all := Fw.fa_at (x := "sees_all") (st := Fw.s_sees_all) KX G (by k_is) (by k_is) (by k_is) (by k_is)
    have F_unseen := Fw.fa_at (x := "unseen") (st := Fw.s_unseen) KX G (by k_is) (by k_is) (by k_is) (by k_is)
    have F_alike := Fw.fa_at (x := "alike") (st := Fw.s_alike) KX G (by k_is) (by k_is) (by k_is) (by k_is)
    have F_leak := Fw.fa_at (x := "leak") (st := Fw.s_leak) KX G (by k_is) (by k_is) (by k_is) (by k_is)
    have F_run := Fw.fa_at (x := "run") (st := Fw.s_run) KX G (by k_is) (by k_is) (by k_is) (by k_is)
    have F_write_program := Fw.fa_at (x := "write_program") (st := Fw.s_write_program) KX G (by k_is) (by k_is) (by k_is) (by k_is)
    have F_is_strength := Fw.fa_at (x := "is_strength") (st := Fw.s_is_strength) KX G (by k_is) (by k_is) (by k_is) (by k_is)
    have F_lacking_strengths := Fw.fa_at (x := "lacking_strengths") (st := Fw.s_lacking_strengths) KX G (by k_is) (by k_is) (by k_is) (by k_is)
    have F_lacking_sights := Fw.fa_at (x := "lacking_sights") (st := Fw.s_lacking_sights) KX G (by k_is) (by k_is) (by k_is) (by k_is)
    have F_l_taken := Fw.fa_at (x := "_law_taken") (st := Fw.s_l_taken) KX G (by k_is) (by k_is) (by k_is) (by k_is)
    have F_l_pick := Fw.fa_at (x := "_law_pick") (st := Fw.s_l_pick) KX G (by k_is) (by k_is) (by k_is) (by k_is)
    have F_l_words := Fw.fa_at (x := "_law_words") (st := Fw.s_l_words) KX G (by k_is) (by k_is) (by k_is) (by k_is)
    have F_l_design := Fw.fa_at (x := "_law_design") (st := Fw.s_l_design) KX G (by k_is) (by k_is) (by k_is) (by k_is)
    have F_l_lots := Fw.fa_at (x := "_law_lots") (st := Fw.s_l_lots) KX G (by k_is) (by k_is) (by k_is) (by k_is)
    have F_l_told := Fw.fa_at (x := "_law_told") (st := Fw.s_l_told) KX G (by k_is) (by k_is) (by k_is) (by k_is)
    have F_l_into := Fw.fa_at (x := "_law_into") (st := Fw.s_l_into) KX G (by k_is) (by k_is) (by k_is) (by k_is)
    have F_l_stands := Fw.fa_at (x := "_law_stands") (st := Fw.s_l_stands) KX G (by k_is) (by k_is) (by k_is) (by k_is)
    have F_l_check := Fw.fa_at (x := "_law_check") (st := Fw.s_l_check) KX G (by k_is) (by k_is) (by k_is) (by k_is)
    have F_l_statement := Fw.fa_at (x := "_law_statement") (st := Fw.s_l_statement) KX G (by k_is) (by k_is) (by k_is) (by k_is)
    have F_l_sorts := Fw.fa_at (x := "_law_sorts") (st := Fw.s_l_sorts) KX G (by k_is) (by k_is) (by k_is) (by k_is)
    have F_l_program := Fw.fa_at (x := "_law_program") (st := Fw.s_l_program) KX G (by k_is) (by k_is) (by k_is) (by k_is)
    have F_l_wrong := Fw.fa_at (x := "_law_wrong") (st := Fw.s_l_wrong) KX G (by k_is) (by k_is) (by k_is) (by k_is)
    have C_HIGHEST := Fw.gc_int (x := "HIGHEST") KX G (by k_is)
    have C_MOST_NAMES := Fw.gc_int (x := "MOST_NAMES") KX G (by k_is)
    have C_MOST_STATEMENTS := Fw.gc_int (x := "MOST_STATEMENTS") KX G (by k_is)
    have C_MOST_INNER_STATEMENTS := Fw.gc_int (x := "MOST_INNER_STATEMENTS") KX G (by k_is)
    have C_MOST_WITHIN := Fw.gc_int (x := "MOST_WITHIN") KX G (by k_is)
    have C_MOST_TERMS := Fw.gc_int (x := "MOST_TERMS") KX G (by k_is)
    have C_MOST_TURNS := Fw.gc_int (x := "MOST_TURNS") KX G (by k_is)
    have C_SORTS := Fw.gc_rv (x := "SORTS") (d := .tup [Fw.strD "open", Fw.strD "secret"]) KX G (by k_is) (Fw.rv_tup (by k_is) (by decide) (by repeat' (first | exact .nil | refine .cons Fw.rv_str ?_)))
    have C_WORDS := Fw.gc_rv (x := "WORDS") (d := .tup (Fw.wordsL.map Fw.strD)) KX G (by k_is) (Fw.rv_tup (by k_is) (by decide) (by repeat' (first | exact .nil | refine .cons Fw.rv_str ?_)))
    have C_LOOKER := Fw.gc_rv (x := "LOOKER") (d := .tup (Fw.lookerL.map Fw.strD)) KX G (by k_is) (Fw.rv_tup (by k_is) (by decide) (by repeat' (first | exact .nil | refine .cons Fw.rv_str ?_)))
    have C_UNDER_SECRETS := Fw.gc_rv (x := "UNDER_SECRETS") (d := .tup (Fw.underL.map Fw.strD)) KX G (by k_is) (Fw.rv_tup (by k_is) (by decide) (by repeat' (first | exact .nil | refine .cons Fw.rv_str ?_)))
    have C_BRANCHES := Fw.gc_rv (x := "BRANCHES") (d := .tup (Fw.branchL.map Fw.strD)) KX G (by k_is) (Fw.rv_tup (by k_is) (by decide) (by repeat' (first | exact .nil | refine .cons Fw.rv_str ?_)))
    have C_FORMS := Fw.gk_at (w := w) (x := "FORMS") (kvs := Fw.formsL) KX G (by k_is) (by k_is) (by repeat' (first | exact True.intro | refine ⟨⟨_, _, rfl, rfl⟩, ?_⟩)) (by rfl) (by exact .cons ⟨⟨_, rfl⟩, Fw.rv_tup (by k_is) (by decide) (by repeat' (first | exact .nil | refine .cons Fw.rv_str ?_))⟩ (.cons ⟨⟨_, rfl⟩, Fw.rv_tup (by k_is) (by decide) (by repeat' (first | exact .nil | refine .cons Fw.rv_str ?_))⟩ (.cons ⟨⟨_, rfl⟩, Fw.rv_tup (by k_is) (by decide) (by repeat' (first | exact .nil | refine .cons Fw.rv_str ?_))⟩ (.cons ⟨⟨_, rfl⟩, Fw.rv_tup (by k_is) (by decide) (by repeat' (first | exact .nil | refine .cons Fw.rv_str ?_))⟩ (.cons ⟨⟨_, rfl⟩, Fw.rv_tup (by k_is) (by decide) (by repeat' (first | exact .nil | refine .cons Fw.rv_str ?_))⟩ (.cons ⟨⟨_, rfl⟩, Fw.rv_tup (by k_is) (by decide) (by repeat' (first | exact .nil | refine .cons Fw.rv_str ?_))⟩ (.cons ⟨⟨_, rfl⟩, Fw.rv_tup (by k_is) (by decide) (by repeat' (first | exact .nil | refine .cons Fw.rv_str ?_))⟩ (.cons ⟨⟨_, rfl⟩, Fw.rv_tup (by k_is) (by decide) (by repeat' (first | exact .nil | refine .cons Fw.rv_str ?_))⟩ (.cons ⟨⟨_, rfl⟩, Fw.rv_tup (by k_is) (by decide) (by repeat' (first | exact .nil | refine .cons Fw.rv_str ?_))⟩ (.nil))))))))))
    have B := Fw.bi_of KX G (by kernel_rfl)
    have Co : Fw.ConstP _ w mg _ := ⟨C_SORTS, C_HIGHEST, C_MOST_NAMES, C_MOST_STATEMENTS, C_MOST_INNER_STATEMENTS, C_MOST_WITHIN, C_MOST_TERMS, C_MOST_TURNS, C_FORMS.1, C_FORMS.2⟩
    have T := Fw.tx_mk (P := PySem.Challenge.rw_flowborder_k08_whole_refused.prog) KX G (by k_is) (by k_is) (by k_is) (by k_is) (Fw.sup_mk (by k_is) (by k_is) (by k_is) rfl (by decide +kernel) (by k_is) (by k_is) (by kernel_rfl) (by k_is) (by k_is) (by decide +kernel)) (Fw.oex_mk (by k_is) (by decide +kernel) (by k_is) (by k_is) (by k_is) (by k_is)) (by k_is) (by k_is) (B.get "super") (Fw.excB_mk (by k_is) (by k_is) (by k_is) (by k_is) (by k_is)) (Fw.excB_mk (by k_is) (by k_is) (by k_is) (by k_is) (by k_is)) (by k_is) (by k_is) (by k_exc) (by k_is) (by k_is) (by k_is) (by k_is) (by k_is) (by k_is) (by k_is) (by k_is) (by kernel_rfl)
    refine Fw.lawAt (c := 862) (Pt := 858) KX G hmg (by k_is) (by k_is) (by k_is) (by k_is) (PySem.W.km_tabs_of Y 858 (by k_mem)) (by kernel_rfl) (PySem.W.codeHd_of_K KX (by kernel_rfl)) fun base TB fp lk => ?_
    obtain ⟨hc, _, k_ip, p_ip⟩ := Fw.checks_ok (P := PySem.Challenge.rw_flowborder_k08_whole_refused.prog) (w := w) (base := base) B Co (Fw.inv_mk T.inv) F_is_program F_check_program F_is_pair F_is_sorts F_is_sort F_is_number F_is_whole_body F_is_body F_is_statement F_is_item F_is_terms
    obtain ⟨⟨_, k_id, p_id, x_id⟩, _, KG, PG⟩ := Fw.refs_ok (P := PySem.Challenge.rw_flowborder_k08_whole_refused.prog) (w := w) (base := base) B C_WORDS C_LOOKER C_UNDER_SECRETS C_BRANCHES ⟨T.exN, T.atN, T.kpN, T.sbN, T.tyN⟩ F_is_word F_is_design F_check_design F_lots_in F_is_sound F_breaker F_greatest_sound F_fewest_drops F_fault F_lets_by F_strengths F_lets_by_all F_parting F_sees_all F_unseen F_alike F_leak F_run F_write_program F_is_strength F_lacking_strengths F_lacking_sights hc
    obtain ⟨_, k_pr, p_pr⟩ := Fw.drawn_ok (P := PySem.Challenge.rw_flowborder_k08_whole_refused.prog) (w := w) (base := base) B F_l_taken F_l_pick F_l_lots F_l_told F_l_into F_l_stands F_l_check F_l_statement F_l_sorts F_l_program
    obtain ⟨⟨_, k_t, p_t⟩, ⟨_, k_p, p_p⟩, _, k_d, p_d⟩ := Fw.small_ok (P := PySem.Challenge.rw_flowborder_k08_whole_refused.prog) (w := w) (base := base) B F_l_taken F_l_pick F_l_words F_l_design
    exact Fw.ok_law (lv := 17) B lk (by k_is) TB (k_d.mono (by decide)) p_d (k_pr.mono (by decide)) p_pr (k_p.mono (by decide)) p_p (k_t.mono (by decide)) p_t (k_id.mono (by decide)) p_id x_id (k_ip.mono (by decide)) p_ip KG PG F_l_wrong.at_ F_l_wrong.fn.kp (by k_is) (by k_is) T.atS T.inv.at_ T.atN (B.get "isinstance") T.ecI T.ecN T.xfI T.inv.no T.exI T.exNS T.kit

