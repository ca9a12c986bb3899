import PyProof.Rows.All
import Wide.All
import OpenK.AllK
import Wide.FinOn
import HandS.ForMost
import HandS.Exc
import KE.KeyNested
import HandS.Deep
import HandS.TupMul
import HandS.TupAny
import HandS.Conv
import HandS.Strs
import PyProof.FactsAll.tuple_0
import PyProof.FactsAll.tuple_2
import HandS.IsInst
import HandS.Wide
import HandS.Flow
import HandS.SortInts
import HandS.Style
import HandS.Dict
import PyProof.DictRoadsH
import PyProof.Rows.TupTab
import HandS.SetBool
import HandS.SetFor
import HandS.TupSets
import HandS.SortRule
import KE.SortData
import HandS.Codes
import HandS.TupLe
import HandS.RevRange
import HandS.Iter
import PyProof.Transfer
import HandS.DictTup
import HandS.Set
import KE.KDictList
import KE.KDictDisplayH
import HandS.DictComp
import PyProof.DictValues
import KE.GoesEnum
import KE.GoesMore
import HandS.Zip
import HandS.SetKeys
import HandS.Rev
import PySem.Challenge.RW_letterhalls_k09_whole_likes
set_option Elab.async false
set_option linter.all false
set_option maxRecDepth 100000
set_option maxHeartbeats 8000000
/-! D00: tuples that are known with their objects. -/
namespace DL
open PySem L2 PyProof.Rows PySem.Spec
/-- at a: a tuple, its object known, no dict -/
def TupF (H : Hp) (a : Addr) (xs : List V) : Prop := ∃ o : Obj, H a = some (.frz o (.tup xs)) ∧ o.dict = none
def tIxF (K : PySem.W.Frag) (to : TE) (t : TA) : TE := fun σ H Q => to σ H fun x H1 => ∃ a xs, x = .ref a ∧ TupF H1 a xs ∧ t σ H1 fun ys H2 => ∃ (y : V) (d : PyData) (ds : List PyData) (j : Nat) (z : PyData), ys = [y] ∧ TupF H2 a xs ∧ DpAll K H2 xs ds ∧ Dp K H2 y d ∧
  PyData.canLayAll0 ds = true ∧ PyData.depthAll ds ≤ 60 ∧ SeqAt.shaped d = true ∧ ds[j]? = some z ∧ PyData.eqv z d = true ∧ (∀ (m : Nat) (z' : PyData), m < j → ds[m]? = some z' → PyData.eqv z' d = false) ∧ Q (.int (j : Nat)) H2
section
variable {X : Cx} {o e : Expr} {es : List Expr} {to : TE} {t : TA} {apos cpos : Pos}
theorem pe_ixF (hu : X.A.units + 65 < cLine) (ho : PE X o to) (ha : PA X [e] t)
    (hbase : attributeBase o "index" X.env (eval o X.env) = eval o X.env := by rfl)
    (hfew : ((backTo cpos (starEach [e] X.env)).all (fun x => !x.1) && (backToKw cpos (keywordEach [] X.env)).all (fun x => x.1.isSome)
      && decide (([e] : List Expr).length + ([] : List Keyword).length + (if ([] : List Keyword).isEmpty then 0 else 1) < 30)) = true := by rfl)
    (hline : (apos.endLine == cpos.line) = true := by rfl) (hs : starEach [e] X.env = (false, eval e X.env) :: starEach [] X.env := by rfl) (hplain : (backTo cpos (starEach [] X.env)).any (·.1) = false := by rfl) :
    PE X (.Call (.Attribute o "index" apos) [e] [] cpos) (tIxF X.K to t) := by
  refine ⟨fun pins s σ H Q I h => ?_⟩
  refine wpAny_Call_method_late hbase hfew hline rfl (thn (ho.run pins s σ H _ I h) fun v s1 ⟨x, H1, I1, r1, a, xs, ex, ⟨ob, ea, nd⟩, q1⟩ => ?_)
  subst ex
  obtain rfl : v = Value.ref a := r1
  have f1 : ObjOk X.prog X.w H1 s1.heap a (.frz ob (.tup xs)) := I1.hok a _ ea
  obtain ⟨g1, _, _, _, o1, g2, c1, _⟩ := f1
  have eo : o1 = ob := Option.some.inj (g2.symm.trans g1)
  subst eo
  refine ⟨"tuple", "tuple.index", PySem.F.plainAttrs_tuple, PySem.F.slot_tuple_index, PySem.F.type_tuple_index, ⟨o1, g1, c1⟩, fun b eb => by cases eb; exact ⟨o1, g1, nd⟩, ?_⟩
  have hA := ha.run cpos pins s1 σ H1 _ I1 q1
  rw [hs] at hA ⊢
  refine Calls.callWith_builtin (by show (false || (backTo cpos (starEach [] X.env)).any (·.1)) = false; rw [hplain]; rfl) (Calls.evalArgs_plain (thn hA fun us s2 ⟨vs, H2, I2, r2, y, d, ds, j, z, ev, ⟨ob2, ea2, nd2⟩, da, dy, cl, dp, sd, hz, hzj, hno, q⟩ => ?_))
  subst ev
  cases r2 with
  | @cons _ uy _ ut ry rt =>
    cases rt
    obtain ⟨bs, rd⟩ := Dp.reads I2 d y uy dy ry
    obtain ⟨h1, _, its, rv, o2, h2, c2, n, h3⟩ : ObjOk X.prog X.w H2 s2.heap a (.frz ob2 (.tup xs)) := I2.hok a _ ea2
    obtain ⟨as, rs⟩ := Dp.readsAll I2 ds xs its da rv
    have e1 : its.length = ds.length := SeqAt.ReadsAll.length ds its as rs
    have e2 : its.map (SeqAt.readOf s2.heap) = ds := SeqAt.readsAll_map ds its as cl rs
    have hu2 : X.A.units + 1 + min (PyData.depthAll ds) d.depth < cLine := by
      have : min (PyData.depthAll ds) d.depth ≤ 60 := Nat.le_trans (Nat.min_le_left _ _) dp
      omega
    have at_ : ∀ (m : Nat) (hm : m < its.toArray.size) (w : PyData), ds[m]? = some w → SeqAt.readOf s2.heap its.toArray[m] = w := fun m hm w hw => by
      have hm' : m < its.length := by simpa using hm
      rw [← e2, List.getElem?_map, List.getElem?_eq_getElem hm'] at hw
      have := Option.some.inj hw
      simpa using this
    have hj : j < its.toArray.size := by
      have := (List.getElem?_eq_some_iff.mp hz).1
      simp only [List.size_toArray]
      omega
    obtain ⟨cls, dd, dt, sl⟩ := o2
    simp only at c2 h3
    subst c2 h3
    refine call_meets PySem.F.slot_tuple_index ⟨_, h2, rfl⟩ PySem.F.entry_tuple_index (PySem.F.args_tuple_index_2 _ _) (TI.tuple_indexAt a its.toArray n dd sl uy (fun u => PyData.eqv (SeqAt.readOf s2.heap u) d) j hj ?_ ?_)
      ⟨h2, SeqAt.items_eqAt (vs := its.toArray) (show ReadsAll s2.heap its.toArray.toList ds as from rs) rd cl (SeqAt.canLay_of_shaped sd) hu2, ⟨.int (j : Nat), H2, I2.tok _, ⟨_, rfl⟩, q⟩⟩
    · show PyData.eqv (SeqAt.readOf s2.heap its.toArray[j]) d = true
      rw [at_ j hj z hz]
      exact hzj
    · intro m hm hmj
      have hmd : m < ds.length := by simp only [List.size_toArray] at hm; omega
      show PyData.eqv (SeqAt.readOf s2.heap its.toArray[m]) d = false
      have e3 := List.getElem?_eq_getElem hmd
      rw [at_ m hm _ e3]
      exact hno m _ hmj e3
end
end DL

namespace DL
open PySem L2 PyProof.Rows PySem.Spec
/-- the object of a new tuple -/
abbrev obT (its : List Value) : Obj := { cls := .type "tuple", data := .seq its.toArray }
theorem fresh_tup {X : Cx} {pins : List (Addr × Obj)} {σ : L2.St} {H : Hp} {s : Shared} {ys : List V} {its : List Value} (tk : Nat) (I : L2.Inv X pins σ H s) (r : Vals ys its) (hz : ys.length ≤ sizeLine) :
    L2.Inv X pins σ (upd H s.heap.objs.size (.frz (obT its) (.tup ys))) { s with heap := s.heap.push (obT its), toks := tk } :=
  I.laid (t' := tk) (fun _ _ e => Heap.get?_push_of_some _ e) (Nat.le_refl _) (show ObjOk X.prog X.w _ _ _ (.frz (obT its) (.tup ys)) from ⟨Heap.get?_push_at rfl rfl, hz, its, r, IsTup.new _ _⟩)
/-- what is wanted of a new tuple -/
def NewT (xs : List V) (H : Hp) (Q : VK) : Prop := ∀ (p : Addr) (o : Obj), H p = none → o.dict = none → Q (.ref p) (upd H p (.frz o (.tup xs)))
section
variable {X : Cx} {es : List Expr} {e : Expr} {t : TA} {pos p : Pos}
def tTupF (t : TA) : TE := fun σ H Q => t σ H fun xs H1 => xs.length ≤ sizeLine ∧ NewT xs H1 Q
theorem pe_tupF {kk : Nat} (h : PA X es t) : PE X (.Tuple es kk pos) (tTupF t) := ⟨fun pins s σ H Q I hq =>
  wpAny_Tuple_spliced (thn (h.run pos pins s σ H _ I hq) fun us s1 ⟨xs, H1, I1, r, z, q⟩ =>
    ⟨by rw [← r.length]; exact z, ⟨.ref s1.heap.objs.size, _, fresh_tup s1.toks I1 r z, rfl, q _ (obT us) (I1.hok.fresh (Nat.le_refl _)) rfl⟩⟩)⟩
/-- tuple(x) -/
def rTupF (K : PySem.W.Frag) : List V → Hp → VK → Prop := fun xs H Q => ∃ a ys, xs = [.ref a] ∧ ((SqL K H a ys ∧ NewT ys H Q) ∨ (SqT K H a ys ∧ Q (.ref a) H))
theorem cr_tupF : CallR X (.type "tuple") (rTupF X.K) := by
  rintro pins s σ H xs us Q I r ⟨a, ys, rfl, h⟩
  obtain ⟨u, rfl, rx⟩ := vals1 r
  cases rx
  rcases h with ⟨hq, q⟩ | ⟨hq, q⟩
  · obtain ⟨its, rv, pl, hz⟩ := I.list hq
    refine call_tuple_list pl.isList (fun h' kp => ?_) (by have := rv.length; simp only [List.size_toArray]; omega)
    have J : L2.Inv X pins σ H { s with heap := h' } := I.kept (t' := s.toks) kp
    exact ⟨.ref h'.objs.size, _, fresh_tup s.toks J rv hz, rfl, q _ (obT its) (J.hok.fresh (Nat.le_refl _)) rfl⟩
  · obtain ⟨its, rv, pl, _⟩ := I.tuple hq
    exact call_tuple_same pl ⟨.ref a, H, I, rfl, q⟩
/-- tuple(range(a, b)) -/
def tTupRgF (te : L2.St → Hp → (Int → Int → Hp → Prop) → Prop) : TE := fun σ H Q => te σ H fun a b H1 => RgOk a b ∧ NewT (rgV a b) H1 Q
theorem pe_tupRgF {te : L2.St → Hp → (Int → Int → Hp → Prop) → Prop} (hc : X.calm = true) (hg : Gl X "tuple") (hm : X.mg "tuple" = none) (he : PRg X e te) (na : starEach [e] X.env = (false, eval e X.env) :: starEach [] X.env := by rfl) : PE X (.Call (.Name "tuple" p) [e] [] pos) (tTupRgF te) := by
  refine ⟨fun pins s σ H Q I h => Call_ (ld_blt I hg hm boot_tuple (callWith_type1 (args_cons (thn (he pins s σ H _ I h) ?_) na) na))⟩
  rintro x s1 ⟨r, a, b, t, u, v, H1, rfl, hr, I1, ok, q⟩
  refine args_nil ?_
  obtain ⟨b1, b2, b3, b4, b5⟩ := ok
  refine call_tuple_range (n := (b - a).toNat) (I1.ok.hd hc) hr (small_one b1 b2 b3 b4) (rangeSize_nat a b) b5 fun h' tk acc hk hi => ?_
  have J : L2.Inv X pins σ H1 { s1 with heap := h', toks := tk } := I1.kept hk
  have hz : (rgV a b).length ≤ sizeLine := by rw [rgV_length, sizeLine_eq]; omega
  have F := fresh_tup tk J (vals_rg hi) hz
  have e1 : obT acc.toList = { cls := .type "tuple", data := .seq acc } := by unfold obT; rw [Array.toArray_toList]
  rw [e1] at F
  exact ⟨.ref h'.objs.size, _, F, rfl, q _ _ (J.hok.fresh (Nat.le_refl _)) rfl⟩
/-- t[lo:hi] -/
def rSlF (K : PySem.W.Frag) : V → Option Int → Option Int → Hp → VK → Prop := fun x lo hi H Q => ∃ a xs, x = .ref a ∧ SqT K H a xs ∧
  (HT.sIx xs.length 0 lo = 0 ∧ HT.sIx xs.length xs.length hi = xs.length → Q (.ref a) H) ∧ (¬ (HT.sIx xs.length 0 lo = 0 ∧ HT.sIx xs.length xs.length hi = xs.length) → NewT (cutV xs lo hi) H Q)
theorem sl_tupF : SlR X (rSlF X.K) := by
  rintro pins s σ H x v vl vu lo hi sl Q I rx hs pl pu ⟨a, xs, rfl, hx, q1, q2⟩
  by_cases hw : HT.sIx xs.length 0 lo = 0 ∧ HT.sIx xs.length xs.length hi = xs.length
  · exact sl_tupA pins s σ H _ v vl vu lo hi sl Q I rx hs pl pu ⟨a, xs, rfl, hx, q1, fun z => (z hw).elim⟩
  · cases rx
    obtain ⟨its, r, ht, hz⟩ := I.tuple hx
    have hl : its.toArray.size = xs.length := by rw [List.size_toArray]; exact r.length.symm
    refine ⟨"tuple", _, slot_tuple_getitem.lookup, ht.typeIs, HT.getItem_tuple_cut ht hs pl pu (by rw [hl]; exact hw) ?_ (by rw [hl]; exact hz)⟩
    rw [hl]
    have F := fresh_tup s.toks I ((r.drop (HT.sIx xs.length 0 lo)).take (HT.sIx xs.length xs.length hi - HT.sIx xs.length 0 lo)) (Nat.le_trans (cutV_length xs lo hi) hz)
    exact ⟨.ref s.heap.objs.size, _, F, rfl, q2 hw _ _ (I.hok.fresh (Nat.le_refl _)) rfl⟩
end
end DL

namespace DL
open PySem L2 PyProof.Rows PySem.Spec
section
variable {X : Cx}
/-- t + u -/
def rCatF (K : PySem.W.Frag) : R2 := fun x y H Q => ∃ a b xs ys, x = .ref a ∧ y = .ref b ∧ SqT K H a xs ∧ SqT K H b ys ∧ xs.length + ys.length ≤ sizeLine ∧
  (xs = [] → Q (.ref b) H) ∧ (xs ≠ [] → ys = [] → Q (.ref a) H) ∧ (xs ≠ [] → ys ≠ [] → NewT (xs ++ ys) H Q)
theorem op_catF : OpR X (binaryOp .Add) (rCatF X.K) := by
  rintro pins s σ H x y v u Q I rx ry ⟨a, b, xs, ys, rfl, rfl, ha, hb, hz, q0, q1, q2⟩
  by_cases he : xs = [] ∨ ys = []
  · exact op_catA pins s σ H _ _ v u Q I rx ry ⟨a, b, xs, ys, rfl, rfl, ha, hb, hz, q0, q1, fun h1 h2 => (he.elim h1 h2).elim⟩
  · have hx : xs ≠ [] := fun z => he (.inl z)
    have hy : ys ≠ [] := fun z => he (.inr z)
    cases rx
    cases ry
    obtain ⟨its, r1, p1, _⟩ := I.tuple ha
    obtain ⟨its2, r2, p2, _⟩ := I.tuple hb
    refine HT.cat_tup p1 p2 (fun z => hx (r1.nil_iff.mp z)) (fun z => (hy (r2.nil_iff.mp z)).elim) (fun z => ?_) (by rw [← r1.length, ← r2.length]; exact hz)
    have F := fresh_tup s.toks I (r1.append r2) (by rw [List.length_append]; exact hz)
    exact ⟨.ref s.heap.objs.size, _, F, rfl, q2 hx hy _ _ (I.hok.fresh (Nat.le_refl _)) rfl⟩
/-- t * k -/
def rRepF (K : PySem.W.Frag) : R2 := fun x y H Q => ∃ l k xs, x = .ref l ∧ y = .int k ∧ SqT K H l xs ∧ xs ≠ [] ∧ 2 ≤ k ∧ k ≤ 1000 ∧ xs.length ≤ 1000 ∧ NewT (List.replicate k.toNat xs).flatten H Q
theorem op_repF : OpR X (binaryOp .Mult) (rRepF X.K) := by
  rintro pins s σ H x y v u Q I rx ry ⟨l, k, xs, rfl, rfl, hT, hne, h1, h2, hz, q⟩
  cases rx
  obtain ⟨t, rfl⟩ := ry
  obtain ⟨its, r, ⟨⟨cls, dd, data, sl⟩, ho, hc, n, hd⟩, hs⟩ := I.tuple hT
  simp only at hc hd
  subst hc hd
  have len : its.length = xs.length := r.length.symm
  have his : its ≠ [] := fun z => hne (by rw [z] at len; exact List.eq_nil_of_length_eq_zero len.symm)
  have emp : its.toArray.isEmpty = false := by cases its <;> first | exact absurd rfl his | rfl
  have sz : its.toArray.size = xs.length := by rw [List.size_toArray, len]
  have few : ((its.toArray.size : Nat) : Int) * k ≤ 1000000 := by
    rw [sz]
    have : ((xs.length : Nat) : Int) * k ≤ 1000 * k := Int.mul_le_mul_of_nonneg_right (by omega) (by omega)
    omega
  have flat : (List.replicate k.toNat xs).flatten.length ≤ 1000000 := by
    rw [lm_len_rep_flat]
    have : k.toNat * xs.length ≤ 1000 * 1000 := Nat.mul_le_mul (by omega) hz
    omega
  have flat2 : (List.replicate k.toNat its).flatten.length ≤ sizeLine := by
    rw [lm_len_rep_flat, len, sizeLine_eq, ← lm_len_rep_flat]
    omega
  have m := tuple_mulW l its.toArray n dd sl k t (by rw [decide_eq_false (by omega), decide_eq_false (by omega)]; rfl) (by rw [emp, Bool.false_or]; exact beq_eq_false_iff_ne.mpr (by omega)) (by rw [emp, Bool.or_false]; exact decide_eq_false (by omega)) (by omega)
    (by unfold Builtin.Tuple.tupleTooMany; rw [sizeLine_eq]; exact decide_eq_false (by omega)) (by rw [size_rep, List.size_toArray]; exact flat2)
  refine wpAny_binaryOp_repeat_ref (T := "tuple") (U := "int") (by decide) ⟨_, ho, rfl⟩ (fun s' => typeIs_int s' k t) noFill_tuple_mul F.fills_int_mul F.slot_int_rmul repeat_tuple F.slot_int_index.lookup
    (call_meets F.slot_int_rmul (typeIs_int s k t) F.entry_int_rmul (F.args_int_rmul_2 _ _) (int_rmul_tuple k t l its.toArray n dd sl) ⟨ho, rfl, ⟨_, ho, rfl⟩, call_meets F.slot_tuple_mul ⟨_, ho, rfl⟩ F.entry_tuple_mul (F.args_tuple_mul_2 _ _) m ⟨ho, ?_⟩⟩)
  rw [size_rep]
  have F := fresh_tup s.toks I (r.rep k.toNat) (by rw [sizeLine_eq]; omega)
  exact ⟨.ref s.heap.objs.size, _, F, rfl, q _ _ (I.hok.fresh (Nat.le_refl _)) rfl⟩
end
end DL

/-! D0: plain data (PyData) over the abstract heap; a part G of the heap H is frozen; a def's slots hold data or lists and dicts of its own. -/
namespace DL
open PySem L2

abbrev Frag := PySem.W.Frag
abbrev D := PyData

def KeyD : D → Key → Prop
  | .int i, k => k = Sum.inl i
  | .str x, k => k = Sum.inr x
  | _, _ => False
/-! keys that are tuples, nested, of ints and None -/
abbrev NK := NestedKey
mutual
def plainN : NK → Bool
  | .none => true
  | .num _ => true
  | .text _ => false
  | .tup ks => plainNs ks
def plainNs : List NK → Bool
  | [] => true
  | k :: ks => plainN k && plainNs ks
end
mutual
/-- the hash of such a key, whatever the world -/
def hashN : NK → Int
  | .none => reduceHash 0xFCA86420
  | .num i => hashInt i
  | .text _ => 0
  | .tup ks => reduceHash (Builtin.Tuple.tupleHashOf (hashNs ks))
def hashNs : List NK → List Int
  | [] => []
  | k :: ks => hashN k :: hashNs ks
end
mutual
theorem hashN_eq (w : World) : ∀ k : NK, plainN k = true → k.hash w = hashN k
  | .none, _ => by simp only [NestedKey.hash, hashN]
  | .num i, _ => by simp only [NestedKey.hash, hashN]
  | .text x, h => by simp only [plainN] at h; cases h
  | .tup ks, h => by
    simp only [plainN] at h
    simp only [NestedKey.hash, hashN, hashNs_eq w ks h]
theorem hashNs_eq (w : World) : ∀ ks : List NK, plainNs ks = true → NestedKey.hashes w ks = hashNs ks
  | [], _ => by simp only [NestedKey.hashes, hashNs]
  | k :: ks, h => by
    simp only [plainNs, Bool.and_eq_true] at h
    simp only [NestedKey.hashes, hashNs, hashN_eq w k h.1, hashNs_eq w ks h.2]
end
/-- d is the key k -/
def KeyN (d : D) (k : NK) : Prop := d = k.data ∧ plainN k = true ∧ k.depth ≤ 8 ∧ ∃ ks, k = .tup ks
def entN (x : NK × Addr × Value) : DictEntry := ⟨hashN x.1, .ref x.2.1, x.2.2⟩
/-- at a stands a dict of such keys: the pairs, each key with the address of its tuple -/
def DN0 (a : Addr) (xs : List (NK × Addr × V)) (h : Heap) : Prop := (a == sysModules) = false ∧ xs.length ≤ sizeLine ∧ (xs.map (·.1)).Nodup ∧ (∀ x ∈ xs, plainN x.1 = true ∧ x.1.depth ≤ 8) ∧
  ∃ vs : List (NK × Addr × Value), Paired (fun (x : NK × Addr × V) (y : NK × Addr × Value) => x.1 = y.1 ∧ x.2.1 = y.2.1 ∧ RelV x.2.2 y.2.2) xs vs ∧
    ∃ o es ep, h.get? a = some o ∧ o.ExactDict ∧ o.data = .dict es ep ∧ es.toList = vs.map entN
def DNo (a : Addr) (xs : List (NK × Addr × V)) : HO := .ext (DN0 a xs)

/-- the script: a list of ints that is only read -/
def ScrAt (K : Frag) (G : Hp) (l : List (D × D)) (a : Addr) : Prop := ∃ ns : List Int, l = [(.none, .list (ns.map .int))] ∧ SqL K G a (ns.map V.int)
abbrev scrD (ns : List Int) : D := .dict [(.none, .list (ns.map .int))]
theorem TupF.mono {G H : Hp} {a : Addr} {vs : List V} (gh : Same G H) (e : TupF G a vs) : TupF H a vs := let ⟨o, h, n⟩ := e; ⟨o, gh _ _ h, n⟩
theorem tq {K : Frag} {G H : Hp} {a : Addr} {vs : List V} (gh : Same G H) (e : TupF G a vs) : SqT K H a vs := let ⟨o, h, _⟩ := e; .inl (.inr ⟨o, gh _ _ h⟩)
mutual
def Rp (K : Frag) (G : Hp) : D → V → Prop
  | .none, v => v = .non
  | .bool b, v => v = .bl b
  | .int i, v => v = .int i
  | .str x, v => v = .str x
  | .list l, v => ∃ a vs, v = .ref a ∧ G a = some (.lst vs) ∧ Rps K G l vs
  | .tuple l, v => ∃ a vs, v = .ref a ∧ TupF G a vs ∧ Rps K G l vs
  | .dict l, v => ∃ a, v = .ref a ∧ ((∃ kvs, G a = some (.dK kvs) ∧ RpK K G l kvs) ∨ (∃ xs, G a = some (DNo a xs) ∧ RpTM K G l xs) ∨ ScrAt K G l a)
def Rps (K : Frag) (G : Hp) : List D → List V → Prop
  | [], vs => vs = []
  | d :: l, vs => ∃ v r, vs = v :: r ∧ Rp K G d v ∧ Rps K G l r
def RpK (K : Frag) (G : Hp) : List (D × D) → List (Key × V) → Prop
  | [], kvs => kvs = []
  | p :: l, kvs => ∃ k v r, kvs = (k, v) :: r ∧ KeyD p.1 k ∧ Rp K G p.2 v ∧ RpK K G l r
def RpT (K : Frag) (G : Hp) : List (D × D) → List (NK × Addr × V) → Prop
  | [], kvs => kvs = []
  | p :: l, kvs => ∃ k b v r, kvs = (k, b, v) :: r ∧ KeyN p.1 k ∧ Rp K G p.1 (.ref b) ∧ Rp K G p.2 v ∧ RpT K G l r
/-- a dict whose keys are tuples bears a mark in front -/
def RpTM (K : Frag) (G : Hp) : List (D × D) → List (NK × Addr × V) → Prop
  | [], _ => False
  | p :: l, kvs => p.1 = .none ∧ p.2 = .none ∧ RpT K G l kvs
end

theorem same_sqL {K : Frag} {G G' : Hp} {a : Addr} {vs : List V} (h : Same G G') (q : SqL K G a vs) : SqL K G' a vs := by
  rcases q with (q | ⟨o, q⟩) | q
  · exact .inl (.inl (h _ _ q))
  · exact .inl (.inr ⟨o, h _ _ q⟩)
  · exact .inr q
theorem same_sqT {K : Frag} {G G' : Hp} {a : Addr} {vs : List V} (h : Same G G') (q : SqT K G a vs) : SqT K G' a vs := by
  rcases q with (q | ⟨o, q⟩) | q
  · exact .inl (.inl (h _ _ q))
  · exact .inl (.inr ⟨o, h _ _ q⟩)
  · exact .inr q

mutual
theorem Rp.mono {K : Frag} {G G' : Hp} (h : Same G G') : ∀ (d : D) (v : V), Rp K G d v → Rp K G' d v
  | .none, _, q => by simpa only [Rp] using q
  | .bool _, _, q => by simpa only [Rp] using q
  | .int _, _, q => by simpa only [Rp] using q
  | .str _, _, q => by simpa only [Rp] using q
  | .list l, v, q => by
    simp only [Rp] at q ⊢
    obtain ⟨a, vs, e, s, r⟩ := q
    exact ⟨a, vs, e, h _ _ s, Rps.mono h l vs r⟩
  | .tuple l, v, q => by
    simp only [Rp] at q ⊢
    obtain ⟨a, vs, e, s, r⟩ := q
    exact ⟨a, vs, e, s.mono h, Rps.mono h l vs r⟩
  | .dict l, v, q => by
    simp only [Rp] at q ⊢
    obtain ⟨a, e, q⟩ := q
    refine ⟨a, e, ?_⟩
    rcases q with ⟨kvs, s, r⟩ | ⟨kvs, s, r⟩ | ⟨ns, e, s⟩
    · exact .inl ⟨kvs, h _ _ s, RpK.mono h l kvs r⟩
    · exact .inr (.inl ⟨kvs, h _ _ s, RpTM.mono h l kvs r⟩)
    · exact .inr (.inr ⟨ns, e, same_sqL h s⟩)
theorem Rps.mono {K : Frag} {G G' : Hp} (h : Same G G') : ∀ (l : List D) (vs : List V), Rps K G l vs → Rps K G' l vs
  | [], _, q => by simpa only [Rps] using q
  | d :: l, vs, q => by
    simp only [Rps] at q ⊢
    obtain ⟨v, r, e, q1, q2⟩ := q
    exact ⟨v, r, e, Rp.mono h d v q1, Rps.mono h l r q2⟩
theorem RpK.mono {K : Frag} {G G' : Hp} (h : Same G G') : ∀ (l : List (D × D)) (kvs : List (Key × V)), RpK K G l kvs → RpK K G' l kvs
  | [], _, q => by simpa only [RpK] using q
  | p :: l, kvs, q => by
    simp only [RpK] at q ⊢
    obtain ⟨k, v, r, e, q0, q1, q2⟩ := q
    exact ⟨k, v, r, e, q0, Rp.mono h p.2 v q1, RpK.mono h l r q2⟩
theorem RpT.mono {K : Frag} {G G' : Hp} (h : Same G G') : ∀ (l : List (D × D)) (kvs : List (NK × Addr × V)), RpT K G l kvs → RpT K G' l kvs
  | [], _, q => by simpa only [RpT] using q
  | p :: l, kvs, q => by
    simp only [RpT] at q ⊢
    obtain ⟨k, b, v, r, e, q0, q3, q1, q2⟩ := q
    exact ⟨k, b, v, r, e, q0, Rp.mono h p.1 _ q3, Rp.mono h p.2 v q1, RpT.mono h l r q2⟩
theorem RpTM.mono {K : Frag} {G G' : Hp} (h : Same G G') : ∀ (l : List (D × D)) (kvs : List (NK × Addr × V)), RpTM K G l kvs → RpTM K G' l kvs
  | [], _, q => by simp only [RpTM] at q
  | p :: l, kvs, q => by
    simp only [RpTM] at q ⊢
    exact ⟨q.1, q.2.1, RpT.mono h l kvs q.2.2⟩
end

/-- the head is read in H, what is in it in G -/
def Rpt (K : Frag) (G H : Hp) : D → V → Prop
  | .list l, v => ∃ a vs, v = .ref a ∧ H a = some (.lst vs) ∧ Rps K G l vs
  | .tuple l, v => ∃ a vs, v = .ref a ∧ TupF G a vs ∧ Rps K G l vs
  | .dict l, v => ∃ a, v = .ref a ∧ ((∃ kvs, H a = some (.dK kvs) ∧ RpK K G l kvs) ∨ (∃ xs, H a = some (DNo a xs) ∧ RpTM K G l xs) ∨ ScrAt K H l a)
  | .none, v => v = .non
  | .bool b, v => v = .bl b
  | .int i, v => v = .int i
  | .str x, v => v = .str x
theorem Rp.top {K : Frag} {G H : Hp} (h : Same G H) {d : D} {v : V} (q : Rp K G d v) : Rpt K G H d v := by
  cases d with
  | none => simpa only [Rp, Rpt] using q
  | bool b => simpa only [Rp, Rpt] using q
  | int i => simpa only [Rp, Rpt] using q
  | str x => simpa only [Rp, Rpt] using q
  | list l =>
    simp only [Rp] at q
    obtain ⟨a, vs, e, s, r⟩ := q
    exact ⟨a, vs, e, h _ _ s, r⟩
  | tuple l =>
    simp only [Rp] at q
    exact q
  | dict l =>
    simp only [Rp] at q
    obtain ⟨a, e, q⟩ := q
    refine ⟨a, e, ?_⟩
    rcases q with ⟨kvs, s, r⟩ | ⟨kvs, s, r⟩ | ⟨ns, e, s⟩
    · exact .inl ⟨kvs, h _ _ s, r⟩
    · exact .inr (.inl ⟨kvs, h _ _ s, r⟩)
    · exact .inr (.inr ⟨ns, e, same_sqL h s⟩)
theorem Rpt.all {K : Frag} {G H : Hp} (h : Same G H) {d : D} {v : V} (q : Rpt K G H d v) : Rp K H d v := by
  cases d with
  | none => simpa only [Rp, Rpt] using q
  | bool b => simpa only [Rp, Rpt] using q
  | int i => simpa only [Rp, Rpt] using q
  | str x => simpa only [Rp, Rpt] using q
  | list l =>
    obtain ⟨a, vs, e, s, r⟩ := q
    simp only [Rp]
    exact ⟨a, vs, e, s, Rps.mono h l vs r⟩
  | tuple l =>
    obtain ⟨a, vs, e, s, r⟩ := q
    simp only [Rp]
    exact ⟨a, vs, e, s.mono h, Rps.mono h l vs r⟩
  | dict l =>
    obtain ⟨a, e, q⟩ := q
    simp only [Rp]
    refine ⟨a, e, ?_⟩
    rcases q with ⟨kvs, s, r⟩ | ⟨kvs, s, r⟩ | ⟨ns, e, s⟩
    · exact .inl ⟨kvs, s, RpK.mono h l kvs r⟩
    · exact .inr (.inl ⟨kvs, s, RpTM.mono h l kvs r⟩)
    · exact .inr (.inr ⟨ns, e, s⟩)

/-! ### slots -/
inductive Sl where
  | dat (d : D) | own (d : D) | bor (d : D)
def Sl.d : Sl → D
  | .dat d => d | .own d => d | .bor d => d
def Sl.isM : Sl → Bool
  | .dat _ => false | .own _ => true | .bor _ => true
def Sl.put : Sl → D → Sl
  | .dat _, d => .dat d | .own _, d => .own d | .bor _, d => .bor d
abbrev Env := List (Option Sl)
def kd : Option Sl → Nat
  | none => 0 | some (.dat _) => 1 | some (.own _) => 2 | some (.bor _) => 3

def OwnAt (K : Frag) (G H : Hp) (d : D) (a : Addr) : Prop := G a = none ∧ match d with
  | .list l => ∃ vs, H a = some (.lst vs) ∧ Rps K G l vs
  | .dict l => (∃ kvs, H a = some (.dK kvs) ∧ RpK K G l kvs) ∨ (∃ xs, H a = some (DNo a xs) ∧ RpTM K G l xs)
  | _ => False
theorem OwnAt.there {K : Frag} {G H : Hp} {d : D} {a : Addr} (h : OwnAt K G H d a) : H a ≠ none := by
  obtain ⟨_, h⟩ := h
  cases d with
  | list l => obtain ⟨vs, e, _⟩ := h; rw [e]; exact fun z => by cases z
  | dict l =>
    rcases h with ⟨vs, e, _⟩ | ⟨vs, e, _⟩
    · rw [e]; exact fun z => by cases z
    · rw [e]; exact fun z => by cases z
  | _ => exact h.elim
theorem OwnAt.top {K : Frag} {G H : Hp} {d : D} {a : Addr} (h : OwnAt K G H d a) : Rpt K G H d (.ref a) := by
  obtain ⟨_, h⟩ := h
  cases d with
  | list l => obtain ⟨vs, e, r⟩ := h; exact ⟨a, vs, rfl, e, r⟩
  | dict l =>
    rcases h with h | h
    · exact ⟨a, rfl, .inl h⟩
    · exact ⟨a, rfl, .inr (.inl h)⟩
  | _ => exact h.elim
theorem OwnAt.step {K : Frag} {G H G' H' : Hp} {d : D} {a : Addr} (h : OwnAt K G H d a) (gg : Same G G') (hn : G' a = none) (hh : ∀ o, H a = some o → H' a = some o) : OwnAt K G' H' d a := by
  obtain ⟨_, h⟩ := h
  refine ⟨hn, ?_⟩
  cases d with
  | list l => obtain ⟨vs, e, r⟩ := h; exact ⟨vs, hh _ e, r.mono gg⟩
  | dict l =>
    rcases h with ⟨vs, e, r⟩ | ⟨vs, e, r⟩
    · exact .inl ⟨vs, hh _ e, r.mono gg⟩
    · exact .inr ⟨vs, hh _ e, RpTM.mono gg _ _ r⟩
  | _ => exact h.elim

def SlOk (K : Frag) (G H : Hp) : Sl → V → Prop
  | .dat d, v => Rp K G d v
  | .own d, v => ∃ a, v = .ref a ∧ OwnAt K G H d a
  | .bor d, v => ∃ a, v = .ref a ∧ OwnAt K G H d a
theorem SlOk.m {K : Frag} {G H : Hp} {s : Sl} {v : V} (h : SlOk K G H s v) (m : s.isM = true) : ∃ a, v = .ref a ∧ OwnAt K G H s.d a := by
  cases s with
  | dat d => cases m
  | own d => exact h
  | bor d => exact h
theorem SlOk.of_m {K : Frag} {G H : Hp} {s : Sl} {a : Addr} (m : s.isM = true) (h : OwnAt K G H s.d a) : SlOk K G H s (.ref a) := by
  cases s with
  | dat d => cases m
  | own d => exact ⟨a, rfl, h⟩
  | bor d => exact ⟨a, rfl, h⟩
theorem SlOk.top {K : Frag} {G H : Hp} {s : Sl} {v : V} (gh : Same G H) (h : SlOk K G H s v) : Rpt K G H s.d v := by
  cases s with
  | dat d => exact Rp.top gh h
  | own d => obtain ⟨a, rfl, h⟩ := h; exact h.top
  | bor d => obtain ⟨a, rfl, h⟩ := h; exact h.top

structure St0 (K : Frag) (G H : Hp) (ρ : Env) (σ : St) : Prop where
  gh : Same G H
  len : ρ.length = σ.length
  slot : ∀ (i : Nat) (s : Sl), ρ[i]? = some (some s) → ∃ v, σ[i]? = some (some v) ∧ SlOk K G H s v
  dis : ∀ (i j : Nat) (s t : Sl) (a : Addr), ρ[i]? = some (some s) → ρ[j]? = some (some t) → s.isM = true → t.isM = true → σ[i]? = some (some (V.ref a)) → σ[j]? = some (some (V.ref a)) → i = j

def Ow (ρ : Env) (σ : St) (a : Addr) : Prop := ∃ (i : Nat) (s : Sl), ρ[i]? = some (some s) ∧ s.isM = true ∧ σ[i]? = some (some (V.ref a))
def Sh (ρ ρ' : Env) : Prop := ρ.map kd = ρ'.map kd
theorem Sh.refl (ρ : Env) : Sh ρ ρ := rfl
theorem Sh.trans {a b c : Env} (h : Sh a b) (k : Sh b c) : Sh a c := Eq.trans h k
theorem Sh.symm {a b : Env} (h : Sh a b) : Sh b a := Eq.symm h
theorem Sh.get {ρ ρ' : Env} (h : Sh ρ ρ') (i : Nat) : (ρ[i]?).map kd = (ρ'[i]?).map kd := by
  have e : (ρ.map kd)[i]? = (ρ'.map kd)[i]? := by rw [h]
  simpa using e
theorem Sh.m {ρ ρ' : Env} (h : Sh ρ ρ') {i : Nat} {s : Sl} (e : ρ[i]? = some (some s)) (m : s.isM = true) : ∃ s', ρ'[i]? = some (some s') ∧ s'.isM = true := by
  have q := h.get i
  rw [e] at q
  cases e' : ρ'[i]? with
  | none => rw [e'] at q; cases q
  | some o =>
    rw [e'] at q
    cases o with
    | none => cases s <;> cases q
    | some s' =>
      refine ⟨s', rfl, ?_⟩
      cases s <;> cases s' <;> first | (exfalso; revert m; simp [Sl.isM]; done) | (exfalso; revert q; simp [kd]; done) | rfl
theorem Sh.ow {ρ ρ' : Env} {σ : St} {a : Addr} (h : Sh ρ ρ') : Ow ρ σ a → Ow ρ' σ a := by
  rintro ⟨i, s, e, m, q⟩
  obtain ⟨s', e', m'⟩ := h.m e m
  exact ⟨i, s', e', m', q⟩

structure Stp (G H G' H' : Hp) (ow : Addr → Prop) : Prop where
  gg : Same G G'
  nf : ∀ a, H a ≠ none → G a = none → G' a = none
  fr : ∀ a o, H a = some o → ¬ ow a → H' a = some o
  tr : ∀ a, H a ≠ none → H' a ≠ none
theorem Stp.refl {G H : Hp} {ow : Addr → Prop} : Stp G H G H ow := ⟨Same.refl G, fun _ _ h => h, fun _ _ h _ => h, fun _ h => h⟩
theorem Stp.trans {G H G1 H1 G2 H2 : Hp} {ow ow' : Addr → Prop} (a : Stp G H G1 H1 ow) (b : Stp G1 H1 G2 H2 ow') (w : ∀ x, ow' x → ow x) : Stp G H G2 H2 ow :=
  ⟨a.gg.trans b.gg, fun x h g => b.nf x (a.tr x h) (a.nf x h g), fun x o h n => b.fr x o (a.fr x o h n) fun q => n (w x q), fun x h => b.tr x (a.tr x h)⟩
/-- what a pure operation does: all stays, new things may come -/
structure Gro (G H G' H' : Hp) : Prop where
  gg : Same G G'
  hh : Same H H'
  gh : Same G' H'
  nf : ∀ a, H a ≠ none → G a = none → G' a = none
theorem Gro.refl {G H : Hp} (h : Same G H) : Gro G H G H := ⟨Same.refl G, Same.refl H, h, fun _ _ h => h⟩
theorem ne_none_of {H : Hp} {a : Addr} {o : HO} (h : H a = some o) : H a ≠ none := by rw [h]; exact fun z => by cases z
theorem some_of_ne {H : Hp} {a : Addr} (h : H a ≠ none) : ∃ o, H a = some o := by
  cases e : H a with
  | none => exact (h e).elim
  | some o => exact ⟨o, rfl⟩
theorem Gro.stp {G H G' H' : Hp} {ow : Addr → Prop} (g : Gro G H G' H') : Stp G H G' H' ow :=
  ⟨g.gg, g.nf, fun a o h _ => g.hh a o h, fun a h => by obtain ⟨o, e⟩ := some_of_ne h; exact ne_none_of (g.hh a o e)⟩
theorem Gro.trans {G H G1 H1 G2 H2 : Hp} (a : Gro G H G1 H1) (b : Gro G1 H1 G2 H2) : Gro G H G2 H2 :=
  ⟨a.gg.trans b.gg, a.hh.trans b.hh, b.gh, fun x h g => b.nf x (by obtain ⟨o, e⟩ := some_of_ne h; exact ne_none_of (a.hh x o e)) (a.nf x h g)⟩
theorem Gro.new {G H : Hp} (gh : Same G H) {p : Addr} (hp : H p = none) (o : HO) : Gro G H (upd G p o) (upd H p o) := by
  have gp : G p = none := by
    cases e : G p with
    | none => rfl
    | some u => rw [gh p u e] at hp; cases hp
  refine ⟨fun b u e => ?_, fun b u e => ?_, fun b u e => ?_, fun b e g => ?_⟩
  · rw [upd_ne (ne_of_none e gp)]; exact e
  · rw [upd_ne (ne_of_none e hp)]; exact e
  · by_cases hb : b = p
    · subst hb; rw [upd_same] at e ⊢; exact e
    · rw [upd_ne hb] at e ⊢; exact gh b u e
  · have hb : b ≠ p := fun z => by subst z; exact e hp
    rw [upd_ne hb]; exact g
/-- a new thing of one's own -/
theorem Gro.mine {G H : Hp} (gh : Same G H) {p : Addr} (hp : H p = none) (o : HO) : Gro G H G (upd H p o) :=
  ⟨Same.refl G, fun b u e => by rw [upd_ne (ne_of_none e hp)]; exact e, fun b u e => by rw [upd_ne (ne_of_none (gh b u e) hp)]; exact gh b u e, fun _ _ g => g⟩
theorem St0.gro {K : Frag} {G H G' H' : Hp} {ρ : Env} {σ : St} (s : St0 K G H ρ σ) (g : Gro G H G' H') : St0 K G' H' ρ σ := by
  refine ⟨g.gh, s.len, fun i sl e => ?_, s.dis⟩
  obtain ⟨v, e1, q⟩ := s.slot i sl e
  refine ⟨v, e1, ?_⟩
  have own : ∀ d a, OwnAt K G H d a → OwnAt K G' H' d a := fun d a h => h.step g.gg (g.nf a h.there h.1) fun o e => g.hh a o e
  cases sl with
  | dat d => exact Rp.mono g.gg d v q
  | own d => obtain ⟨a, e, q⟩ := q; exact ⟨a, e, own d a q⟩
  | bor d => obtain ⟨a, e, q⟩ := q; exact ⟨a, e, own d a q⟩

/-! ### what a piece of text means -/
inductive IV where
  | val (d : D) | sl (i : Nat)
structure Exc where
  name : Str
  fs : List (Str × D)
inductive Res (α : Type) where
  | un | ok (a : α) (ρ : Env) | exc (x : Exc) (ρ : Env)
abbrev M (α : Type) := Env → Res α
@[inline] def M.pure {α : Type} (a : α) : M α := fun ρ => .ok a ρ
def M.bind {α β : Type} (m : M α) (f : α → M β) : M β := fun ρ => match m ρ with
  | .un => .un
  | .ok a ρ1 => f a ρ1
  | .exc x ρ1 => .exc x ρ1
instance : Monad M where
  pure := M.pure
  bind := M.bind
def M.un {α : Type} : M α := fun _ => .un
def M.opt {α : Type} (o : Option α) : M α := match o with
  | some a => M.pure a
  | none => M.un
/-- what an intermediate value is worth now -/
def M.now (iv : IV) : M D := fun ρ => match iv with
  | .val d => .ok d ρ
  | .sl i => match ρ[i]? with
    | some (some s) => .ok s.d ρ
    | _ => .un
/-- .. as data that may be kept -/
def M.keep (iv : IV) : M D := match iv with
  | .val d => M.pure d
  | .sl _ => M.un

structure Cc where
  K : Frag
  mg : Str → Option Value
  E : XK
def XRep (C : Cc) (x : Exc) (c : Value) (dx : Option Addr) (G H : Hp) : Prop :=
  ∃ a, c = .ref a ∧ C.mg x.name = some (.ref a) ∧ match x.fs with
    | [] => dx = none
    | _ => ∃ d fs, dx = some d ∧ H d = some (.xd fs) ∧ fs.map (·.1) = x.fs.map (·.1) ∧ Rps C.K G (x.fs.map (·.2)) (fs.map (·.2))

def IvOk (K : Frag) (G : Hp) (ρ : Env) (σ : St) : IV → V → Prop
  | .val d, v => Rp K G d v
  | .sl i, v => (∃ s : Sl, ρ[i]? = some (some s) ∧ s.isM = true) ∧ σ[i]? = some (some v)
theorem IvOk.step {K : Frag} {G G' : Hp} {ρ ρ' : Env} {σ : St} {iv : IV} {v : V} (h : IvOk K G ρ σ iv v) (gg : Same G G') (sh : Sh ρ ρ') : IvOk K G' ρ' σ iv v := by
  cases iv with
  | val d => exact Rp.mono gg d v h
  | sl i => obtain ⟨⟨s, e, m⟩, q⟩ := h; exact ⟨sh.m e m, q⟩

abbrev Rel (α β : Type) := Hp → Hp → Env → St → α → β → Prop
abbrev T (β : Type) := St → Hp → (β → Hp → Prop) → Prop
def Post {α β : Type} (C : Cc) (R : Rel α β) (G H : Hp) (ρ : Env) (σ : St) (r : Res α) (Q : β → Hp → Prop) : Prop := match r with
  | .un => False
  | .ok a ρ' => ∀ b G' H', Stp G H G' H' (Ow ρ σ) → St0 C.K G' H' ρ' σ → Sh ρ ρ' → R G' H' ρ' σ a b → Q b H'
  | .exc x ρ' => ∀ c dx G' H', Stp G H G' H' (Ow ρ σ) → St0 C.K G' H' ρ' σ → Sh ρ ρ' → XRep C x c dx G' H' → C.E c dx H'
def MOk {α β : Type} (C : Cc) (R : Rel α β) (t : T β) (m : M α) : Prop :=
  ∀ (G H : Hp) (ρ : Env) (σ : St) (Q : β → Hp → Prop), St0 C.K G H ρ σ → Post C R G H ρ σ (m ρ) Q → t σ H Q
theorem bindT {α β γ δ : Type} {C : Cc} {R : Rel α β} {R' : Rel γ δ} {t : T β} {m : M α} {f : α → M γ} {G H : Hp} {ρ : Env} {σ : St} {Q : δ → Hp → Prop} {k : β → Hp → Prop} (hm : MOk C R t m) (st : St0 C.K G H ρ σ)
    (h : Post C R' G H ρ σ (M.bind m f ρ) Q)
    (hk : ∀ a ρ1 b G1 H1, Stp G H G1 H1 (Ow ρ σ) → St0 C.K G1 H1 ρ1 σ → Sh ρ ρ1 → R G1 H1 ρ1 σ a b → Post C R' G1 H1 ρ1 σ (f a ρ1) Q → k b H1) : t σ H k := by
  refine hm G H ρ σ k st ?_
  unfold M.bind at h
  cases e : m ρ with
  | un => rw [e] at h; exact h
  | exc x ρ1 => rw [e] at h; exact h
  | ok a ρ1 =>
    rw [e] at h
    intro b G1 H1 s1 st1 sh1 r1
    refine hk a ρ1 b G1 H1 s1 st1 sh1 r1 ?_
    have h : Post C R' G H ρ σ (f a ρ1) Q := h
    cases e2 : f a ρ1 with
    | un => rw [e2] at h; exact h.elim
    | ok c ρ2 =>
      rw [e2] at h
      exact fun b2 G2 H2 s2 st2 sh2 r2 => h b2 G2 H2 (s1.trans s2 fun x q => Sh.ow sh1.symm q) st2 (sh1.trans sh2) r2
    | exc x ρ2 =>
      rw [e2] at h
      exact fun c dx G2 H2 s2 st2 sh2 r2 => h c dx G2 H2 (s1.trans s2 fun x q => Sh.ow sh1.symm q) st2 (sh1.trans sh2) r2
/-- the rest of a text behind data that is at hand -/
theorem post_opt {α γ δ : Type} {C : Cc} {R' : Rel γ δ} {o : Option α} {f : α → M γ} {G H : Hp} {ρ : Env} {σ : St} {Q : δ → Hp → Prop} (h : Post C R' G H ρ σ (M.bind (M.opt o) f ρ) Q) : ∃ a, o = some a ∧ Post C R' G H ρ σ (f a ρ) Q := by
  cases o with
  | none => exact h.elim
  | some a => exact ⟨a, rfl, h⟩
theorem post_now {γ δ : Type} {C : Cc} {R' : Rel γ δ} {iv : IV} {v : V} {f : D → M γ} {G H : Hp} {ρ : Env} {σ : St} {Q : δ → Hp → Prop} (st : St0 C.K G H ρ σ) (r : IvOk C.K G ρ σ iv v) (h : Post C R' G H ρ σ (M.bind (M.now iv) f ρ) Q) :
    ∃ d, Rpt C.K G H d v ∧ Post C R' G H ρ σ (f d ρ) Q := by
  cases iv with
  | val d => exact ⟨d, Rp.top st.gh r, h⟩
  | sl i =>
    obtain ⟨⟨s, e, m⟩, q⟩ := r
    unfold M.bind M.now at h
    simp only [e] at h
    obtain ⟨v', e', ok⟩ := st.slot i s e
    rw [q] at e'
    cases e'
    exact ⟨s.d, ok.top st.gh, h⟩
theorem post_keep {γ δ : Type} {C : Cc} {R' : Rel γ δ} {iv : IV} {v : V} {f : D → M γ} {G H : Hp} {ρ : Env} {σ : St} {Q : δ → Hp → Prop} (r : IvOk C.K G ρ σ iv v) (h : Post C R' G H ρ σ (M.bind (M.keep iv) f ρ) Q) :
    ∃ d, Rp C.K G d v ∧ Post C R' G H ρ σ (f d ρ) Q := by
  cases iv with
  | val d => exact ⟨d, r, h⟩
  | sl i => exact h.elim
/-- what is wanted of a result c of a pure operation -/
def Kt (K : Frag) (G H : Hp) (c : D) (Q : VK) : Prop := ∀ v G' H', Gro G H G' H' → Rp K G' c v → Q v H'
abbrev RIv (K : Frag) : Rel IV V := fun G _ ρ σ iv v => IvOk K G ρ σ iv v
abbrev RD (K : Frag) : Rel D V := fun G _ _ _ d v => Rp K G d v
abbrev RB : Rel Bool Bool := fun _ _ _ _ b b' => b' = b
abbrev RIvs (K : Frag) : Rel (List IV) (List V) := fun G _ ρ σ ivs vs => Paired (fun iv v => IvOk K G ρ σ iv v) ivs vs
theorem kt_of {C : Cc} {G H : Hp} {ρ : Env} {σ : St} {c : D} {Q : VK} (st : St0 C.K G H ρ σ) (h : Post C (RIv C.K) G H ρ σ (M.pure (IV.val c) ρ) Q) : Kt C.K G H c Q :=
  fun v G' H' g r => h v G' H' g.stp (st.gro g) (Sh.refl ρ) r
/-- the result as it is -/
theorem Kt.at {K : Frag} {G H : Hp} {c : D} {Q : VK} (k : Kt K G H c Q) (gh : Same G H) {v : V} (r : Rp K G c v) : Q v H := k v G H (Gro.refl gh) r
theorem Kt.new_lst {K : Frag} {G H : Hp} {l : List D} {vs : List V} {Q : VK} (k : Kt K G H (.list l) Q) (gh : Same G H) (r : Rps K G l vs) {p : Addr} (hp : H p = none) : Q (.ref p) (upd H p (.lst vs)) := by
  have g := Gro.new gh hp (.lst vs)
  refine k _ _ _ g ?_
  simp only [Rp]
  exact ⟨p, vs, rfl, upd_same, r.mono g.gg⟩
theorem Kt.new_tup {K : Frag} {G H : Hp} {l : List D} {vs : List V} {Q : VK} (k : Kt K G H (.tuple l) Q) (gh : Same G H) (r : Rps K G l vs) : NewT vs H Q := fun p o hp nd => by
  have g := Gro.new gh hp (.frz o (.tup vs))
  refine k _ _ _ g ?_
  simp only [Rp]
  exact ⟨p, vs, rfl, ⟨o, upd_same, nd⟩, r.mono g.gg⟩
end DL

/-! D1: expressions. -/
namespace DL
open PySem L2

def EJ (C : Cc) (X : Cx) (e : Expr) (t : TE) (m : M IV) : Prop := PE X e t ∧ MOk C (RIv C.K) t m
def TJ (C : Cc) (X : Cx) (e : Expr) (t : TT) (m : M Bool) : Prop := PT X e t ∧ MOk C RB t m
def AJ (C : Cc) (X : Cx) (es : List Expr) (t : TA) (m : M (List IV)) : Prop := PA X es t ∧ MOk C (RIvs C.K) t m

/-! ### pure operations -/
abbrev F2 := D → D → Option D
abbrev F1 := D → Option D
abbrev FN := List D → Option D
def P2 (K : Frag) (r : R2) (f : F2) : Prop := ∀ (G H : Hp) (x y : V) (d e c : D) (Q : VK), Same G H → Rpt K G H d x → Rpt K G H e y → f d e = some c → Kt K G H c Q → r x y H Q
def P1 (K : Frag) (r : V → Hp → VK → Prop) (f : F1) : Prop := ∀ (G H : Hp) (x : V) (d c : D) (Q : VK), Same G H → Rpt K G H d x → f d = some c → Kt K G H c Q → r x H Q
def PN (K : Frag) (r : List V → Hp → VK → Prop) (f : FN) : Prop := ∀ (G H : Hp) (xs : List V) (ds : List D) (c : D) (Q : VK), Same G H → Paired (fun d x => Rpt K G H d x) ds xs → f ds = some c → Kt K G H c Q → r xs H Q
/-- .. whose answer is a truth value -/
def d2 (f : F2) (ma mb : M IV) : M IV := .bind ma fun a => .bind mb fun b => .bind (.now a) fun x => .bind (.now b) fun y => .bind (.opt (f x y)) fun c => .pure (.val c)
def d1 (f : F1) (ma : M IV) : M IV := .bind ma fun a => .bind (.now a) fun x => .bind (.opt (f x)) fun c => .pure (.val c)
def nows : List IV → M (List D)
  | [] => .pure []
  | a :: l => .bind (.now a) fun d => .bind (nows l) fun ds => .pure (d :: ds)
def keeps : List IV → M (List D)
  | [] => .pure []
  | a :: l => .bind (.keep a) fun d => .bind (keeps l) fun ds => .pure (d :: ds)
def dN (f : FN) (ma : M (List IV)) : M IV := .bind ma fun a => .bind (nows a) fun xs => .bind (.opt (f xs)) fun c => .pure (.val c)
theorem ok_op2 {C : Cc} {r : R2} {f : F2} {ta tb : TE} {ma mb : M IV} (p : P2 C.K r f) (ha : MOk C (RIv C.K) ta ma) (hb : MOk C (RIv C.K) tb mb) : MOk C (RIv C.K) (tOp r ta tb) (d2 f ma mb) := by
  intro G H ρ σ Q st h
  show ta σ H fun x H1 => tb σ H1 fun y H2 => r x y H2 Q
  refine bindT ha st h fun a ρ1 x G1 H1 s1 st1 sh1 r1 h1 => ?_
  refine bindT hb st1 h1 fun b ρ2 y G2 H2 s2 st2 sh2 r2 h2 => ?_
  obtain ⟨d, rd, h3⟩ := post_now st2 (IvOk.step r1 s2.gg sh2) h2
  obtain ⟨e, re, h4⟩ := post_now st2 r2 h3
  obtain ⟨c, ec, h5⟩ := post_opt h4
  exact p _ _ _ _ _ _ _ _ st2.gh rd re ec (kt_of st2 h5)
theorem ok_op1 {C : Cc} {r : V → Hp → VK → Prop} {f : F1} {ta : TE} {ma : M IV} (p : P1 C.K r f) (ha : MOk C (RIv C.K) ta ma) : MOk C (RIv C.K) (fun σ H Q => ta σ H fun x H1 => r x H1 Q) (d1 f ma) := by
  intro G H ρ σ Q st h
  refine bindT ha st h fun a ρ1 x G1 H1 s1 st1 sh1 r1 h1 => ?_
  obtain ⟨d, rd, h3⟩ := post_now st1 r1 h1
  obtain ⟨c, ec, h5⟩ := post_opt h3
  exact p _ _ _ _ _ _ st1.gh rd ec (kt_of st1 h5)
theorem M_bind_assoc {α β γ : Type} (m : M α) (f : α → M β) (g : β → M γ) : M.bind (M.bind m f) g = M.bind m fun a => M.bind (f a) g := by
  funext ρ
  unfold M.bind
  cases m ρ <;> rfl
theorem M_pure_bind {α β : Type} (a : α) (f : α → M β) : M.bind (M.pure a) f = f a := rfl
theorem post_nows {γ δ : Type} {C : Cc} {R' : Rel γ δ} {G H : Hp} {ρ : Env} {σ : St} {Q : δ → Hp → Prop} (st : St0 C.K G H ρ σ) : ∀ {ivs : List IV} {vs : List V} {f : List D → M γ}, Paired (fun iv v => IvOk C.K G ρ σ iv v) ivs vs →
    Post C R' G H ρ σ (M.bind (nows ivs) f ρ) Q → ∃ ds, Paired (fun d v => Rpt C.K G H d v) ds vs ∧ Post C R' G H ρ σ (f ds ρ) Q
  | _, _, _, .nil, h => ⟨[], .nil, h⟩
  | _, _, f, .cons r t, h => by
    unfold nows at h
    rw [M_bind_assoc] at h
    obtain ⟨d, rd, h1⟩ := post_now st r h
    rw [M_bind_assoc] at h1
    obtain ⟨ds, rs, h2⟩ := post_nows st (f := fun ds => M.bind (M.pure (d :: ds)) f) t h1
    exact ⟨d :: ds, .cons rd rs, h2⟩
theorem post_keeps {γ δ : Type} {C : Cc} {R' : Rel γ δ} {G H : Hp} {ρ : Env} {σ : St} {Q : δ → Hp → Prop} : ∀ {ivs : List IV} {vs : List V} {f : List D → M γ}, Paired (fun iv v => IvOk C.K G ρ σ iv v) ivs vs →
    Post C R' G H ρ σ (M.bind (keeps ivs) f ρ) Q → ∃ ds, Rps C.K G ds vs ∧ Post C R' G H ρ σ (f ds ρ) Q
  | _, _, _, .nil, h => ⟨[], by simp only [Rps], h⟩
  | _, _, f, .cons r t, h => by
    unfold keeps at h
    rw [M_bind_assoc] at h
    obtain ⟨d, rd, h1⟩ := post_keep r h
    rw [M_bind_assoc] at h1
    obtain ⟨ds, rs, h2⟩ := post_keeps (f := fun ds => M.bind (M.pure (d :: ds)) f) t h1
    exact ⟨d :: ds, by simp only [Rps]; exact ⟨_, _, rfl, rd, rs⟩, h2⟩
theorem ok_opN {C : Cc} {r : List V → Hp → VK → Prop} {f : FN} {ta : TA} {ma : M (List IV)} (p : PN C.K r f) (ha : MOk C (RIvs C.K) ta ma) : MOk C (RIv C.K) (fun σ H Q => ta σ H fun xs H1 => r xs H1 Q) (dN f ma) := by
  intro G H ρ σ Q st h
  refine bindT ha st h fun a ρ1 x G1 H1 s1 st1 sh1 r1 h1 => ?_
  obtain ⟨ds, rd, h3⟩ := post_nows st1 r1 h1
  obtain ⟨c, ec, h5⟩ := post_opt h3
  exact p _ _ _ _ _ _ st1.gh rd ec (kt_of st1 h5)

section
variable {C : Cc} {X : Cx} {a b c e : Expr} {es : List Expr} {pos : Pos} {ma mb mc me : M IV} {mas : M (List IV)} {ta tb tc te : TE} {tas : TA} {tt : TT}
/-! ### names, constants -/
def dVar (i : Nat) : M IV := fun ρ => match ρ[i]? with
  | some (some (.dat d)) => .ok (.val d) ρ
  | some (some (.own _)) => .ok (.sl i) ρ
  | some (some (.bor _)) => .ok (.sl i) ρ
  | _ => .un
theorem ok_var {C : Cc} (i : Nat) : MOk C (RIv C.K) (tVar i) (dVar i) := by
  intro G H ρ σ Q st h
  unfold dVar at h
  split at h
  · rename_i d e
    obtain ⟨v, ev, r⟩ := st.slot i _ e
    exact ⟨v, ev, h v G H Stp.refl st (Sh.refl ρ) r⟩
  · rename_i d e
    obtain ⟨v, ev, r⟩ := st.slot i _ e
    exact ⟨v, ev, h v G H Stp.refl st (Sh.refl ρ) ⟨⟨_, e, rfl⟩, ev⟩⟩
  · rename_i d e
    obtain ⟨v, ev, r⟩ := st.slot i _ e
    exact ⟨v, ev, h v G H Stp.refl st (Sh.refl ρ) ⟨⟨_, e, rfl⟩, ev⟩⟩
  · exact h.elim
theorem ej_var (i : Nat) {x : Str} (h : PE X (.Name x pos) (tVar i)) : EJ C X (.Name x pos) (tVar i) (dVar i) := ⟨h, ok_var i⟩
def dC (d : D) : M IV := .pure (.val d)
theorem ok_c {C : Cc} {d : D} {v : V} (h : ∀ G, Rp C.K G d v) : MOk C (RIv C.K) (tC v) (dC d) := by
  intro G H ρ σ Q st q
  exact q v G H Stp.refl st (Sh.refl ρ) (h G)
theorem ej_int {i j} : EJ C X (.Constant (.int i) j pos) (tC (.int i)) (dC (.int i)) := ⟨pe_int, ok_c fun _ => by simp only [Rp]⟩
theorem ej_bl {i j} : EJ C X (.Constant (.bool i) j pos) (tC (.bl i)) (dC (.bool i)) := ⟨pe_bl, ok_c fun _ => by simp only [Rp]⟩
theorem ej_non {j} : EJ C X (.Constant .none j pos) (tC .non) (dC .none) := ⟨pe_non, ok_c fun _ => by simp only [Rp]⟩
theorem ej_str {x j} : EJ C X (.Constant (.str x) j pos) (tC (.str x)) (dC (.str x)) := ⟨pe_str, ok_c fun _ => by simp only [Rp]⟩
theorem ej_gint {x : Str} {i : Int} (h : PE X (.Name x pos) (tC (.int i))) : EJ C X (.Name x pos) (tC (.int i)) (dC (.int i)) := ⟨h, ok_c fun _ => by simp only [Rp]⟩

/-! ### operators -/
theorem ej_op {op : Operator} {r : R2} {f : F2} (ho : OpR X (binaryOp op) r) (p : P2 C.K r f) (ha : EJ C X a ta ma) (hb : EJ C X b tb mb) : EJ C X (.BinOp a op b pos) (tOp r ta tb) (d2 f ma mb) := by
  obtain ⟨pa, oa⟩ := ha
  obtain ⟨pb, ob⟩ := hb
  exact ⟨pe_op ho pa pb, ok_op2 p oa ob⟩
theorem ej_cmp {op : CmpOp} {r : R2} {f : F2} (ho : OpR X (compareOp op) r) (p : P2 C.K r f) (ha : EJ C X a ta ma) (hb : EJ C X b tb mb) (hm : behindInMarks op b = false) : EJ C X (.Compare a [op] [b] pos) (tOp r ta tb) (d2 f ma mb) := by
  obtain ⟨pa, oa⟩ := ha
  obtain ⟨pb, ob⟩ := hb
  exact ⟨pe_cmpR ho pa pb hm, ok_op2 p oa ob⟩
theorem OpR.or {f : Value → Value → Sem Value} {r r' : R2} (h : OpR X f r) (h' : OpR X f r') : OpR X f (fun x y H Q => r x y H Q ∨ r' x y H Q) := by
  intro pins s σ H x y v u Q I rx ry q
  rcases q with q | q
  · exact h pins s σ H x y v u Q I rx ry q
  · exact h' pins s σ H x y v u Q I rx ry q
theorem CallR.or {f : Value} {r r' : List V → Hp → VK → Prop} (h : CallR X f r) (h' : CallR X f r') : CallR X f (fun xs H Q => r xs H Q ∨ r' xs H Q) := by
  intro pins s σ H xs us Q I r1 q
  rcases q with q | q
  · exact h pins s σ H xs us Q I r1 q
  · exact h' pins s σ H xs us Q I r1 q
theorem Kt.int {K : Frag} {G H : Hp} {i : Int} {Q : VK} (k : Kt K G H (.int i) Q) (gh : Same G H) : Q (.int i) H := k.at gh (by simp only [Rp])
theorem Kt.bl {K : Frag} {G H : Hp} {i : Bool} {Q : VK} (k : Kt K G H (.bool i) Q) (gh : Same G H) : Q (.bl i) H := k.at gh (by simp only [Rp])
theorem Kt.str {K : Frag} {G H : Hp} {i : Str} {Q : VK} (k : Kt K G H (.str i) Q) (gh : Same G H) : Q (.str i) H := k.at gh (by simp only [Rp])

theorem Rps.length {K : Frag} {G : Hp} : ∀ {l : List D} {vs : List V}, Rps K G l vs → l.length = vs.length
  | [], _, h => by simp only [Rps] at h; rw [h]; rfl
  | d :: l, vs, h => by
    simp only [Rps] at h
    obtain ⟨v, r, rfl, _, h⟩ := h
    simp only [List.length_cons, Rps.length h]
theorem Rps.append {K : Frag} {G : Hp} : ∀ {l m : List D} {vs ws : List V}, Rps K G l vs → Rps K G m ws → Rps K G (l ++ m) (vs ++ ws)
  | [], _, _, _, h, k => by simp only [Rps] at h; rw [h]; exact k
  | d :: l, m, vs, ws, h, k => by
    simp only [Rps] at h
    obtain ⟨v, r, rfl, q, h⟩ := h
    simp only [List.cons_append, Rps]
    exact ⟨v, r ++ ws, rfl, q, Rps.append h k⟩
theorem Rps.get {K : Frag} {G : Hp} : ∀ {l : List D} {vs : List V} {i : Nat} {d : D}, Rps K G l vs → l[i]? = some d → ∃ v, vs[i]? = some v ∧ Rp K G d v
  | [], _, _, _, _, e => by simp at e
  | d :: l, vs, i, d', h, e => by
    simp only [Rps] at h
    obtain ⟨v, r, rfl, q, h⟩ := h
    cases i with
    | zero => simp at e; subst e; exact ⟨v, rfl, q⟩
    | succ i => simpa using Rps.get (i := i) h (by simpa using e)
theorem Rps.getV {K : Frag} {G : Hp} : ∀ {l : List D} {vs : List V} {i : Nat} {v : V}, Rps K G l vs → vs[i]? = some v → ∃ d, l[i]? = some d ∧ Rp K G d v
  | [], _, _, _, h, e => by simp only [Rps] at h; subst h; simp at e
  | d :: l, vs, i, v', h, e => by
    simp only [Rps] at h
    obtain ⟨v, r, rfl, q, h⟩ := h
    cases i with
    | zero => simp at e; subst e; exact ⟨d, rfl, q⟩
    | succ i => simpa using Rps.getV (i := i) h (by simpa using e)
theorem Rps.ints {K : Frag} {G : Hp} : ∀ {l : List Int} {vs : List V}, Rps K G (l.map .int) vs → vs = l.map V.int
  | [], _, h => by simpa only [List.map_nil, Rps] using h
  | d :: l, vs, h => by
    simp only [List.map_cons, Rps, Rp] at h
    obtain ⟨v, r, rfl, rfl, h⟩ := h
    rw [Rps.ints h, List.map_cons]
theorem Rps.of_ints {K : Frag} {G : Hp} : ∀ (l : List Int), Rps K G (l.map .int) (l.map V.int)
  | [] => by simp only [List.map_nil, Rps]
  | d :: l => by
    simp only [List.map_cons, Rps, Rp]
    exact ⟨_, _, rfl, rfl, Rps.of_ints l⟩
theorem Rps.set {K : Frag} {G : Hp} : ∀ {l : List D} {vs : List V} {d : D} {v : V} (i : Nat), Rps K G l vs → Rp K G d v → Rps K G (l.set i d) (vs.set i v)
  | [], _, _, _, _, h, _ => by simp only [Rps] at h; subst h; simp only [List.set_nil, Rps]
  | d :: l, vs, d', v', i, h, k => by
    simp only [Rps] at h
    obtain ⟨v, r, rfl, q, h⟩ := h
    cases i with
    | zero => simp only [List.set_cons_zero, Rps]; exact ⟨_, _, rfl, k, h⟩
    | succ i => simp only [List.set_cons_succ, Rps]; exact ⟨_, _, rfl, q, Rps.set i h k⟩
theorem Rps.eraseIdx {K : Frag} {G : Hp} : ∀ {l : List D} {vs : List V} (i : Nat), Rps K G l vs → Rps K G (l.eraseIdx i) (vs.eraseIdx i)
  | [], _, _, h => by simp only [Rps] at h; subst h; simp only [List.eraseIdx_nil, Rps]
  | d :: l, vs, i, h => by
    simp only [Rps] at h
    obtain ⟨v, r, rfl, q, h⟩ := h
    cases i with
    | zero => simpa only [List.eraseIdx_cons_zero] using h
    | succ i => simp only [List.eraseIdx_cons_succ, Rps]; exact ⟨_, _, rfl, q, Rps.eraseIdx i h⟩
theorem Rps.dropLast {K : Frag} {G : Hp} : ∀ {l : List D} {vs : List V}, Rps K G l vs → Rps K G l.dropLast vs.dropLast
  | [], _, h => by simp only [Rps] at h; subst h; simp only [List.dropLast_nil, Rps]
  | [d], vs, h => by
    simp only [Rps] at h
    obtain ⟨v, r, rfl, q, rfl⟩ := h
    simp only [List.dropLast_singleton, Rps]
  | d :: d' :: l, vs, h => by
    simp only [Rps] at h
    obtain ⟨v, r, rfl, q, v', r', rfl, q', h⟩ := h
    have k : Rps K G (d' :: l) (v' :: r') := by simp only [Rps]; exact ⟨_, _, rfl, q', h⟩
    have z := Rps.dropLast k
    simp only [List.dropLast_cons₂, Rps]
    exact ⟨_, _, rfl, q, z⟩

/-! ### what the operators do to data -/
abbrev LIM : Nat := 100000
theorem lim_le : LIM ≤ sizeLine := by rw [PySem.sizeLine_eq]; decide
def addD : F2
  | .int i, .int j => some (.int (i + j))
  | .list l, .list m => if l.length + m.length ≤ LIM then some (.list (l ++ m)) else none
  | .tuple l, .tuple m => if l.length + m.length ≤ LIM then some (.tuple (l ++ m)) else none
  | _, _ => none
def rAddD (K : Frag) : R2 := fun x y H Q => rI0 (fun i j => .int (i + j)) x y H Q ∨ rCat x y H Q ∨ rCatF K x y H Q
theorem or_addD : OpR X (binaryOp .Add) (rAddD X.K) := OpR.or op_add (OpR.or op_cat op_catF)
theorem p_addD {K : Frag} : P2 K (rAddD K) addD := by
  intro G H x y d e c Q gh rx ry h k
  cases d <;> cases e <;> simp only [addD] at h <;> try (cases h; done)
  · rename_i i j
    cases h
    simp only [Rpt] at rx ry
    subst rx ry
    exact .inl ⟨i, j, rfl, rfl, k.int gh⟩
  · rename_i l m
    split at h
    · rename_i hl
      cases h
      obtain ⟨a, vs, rfl, ea, ra⟩ := rx
      obtain ⟨b, ws, rfl, eb, rb⟩ := ry
      have z : vs.length + ws.length ≤ sizeLine := by rw [← ra.length, ← rb.length]; exact Nat.le_trans hl lim_le
      exact .inr (.inl ⟨a, b, vs, ws, rfl, rfl, ea, eb, z, fun p hp => k.new_lst gh (ra.append rb) hp⟩)
    · cases h
  · rename_i l m
    split at h
    · rename_i hl
      cases h
      obtain ⟨a, vs, rfl, ea, ra⟩ := id rx
      obtain ⟨b, ws, rfl, eb, rb⟩ := id ry
      have z : vs.length + ws.length ≤ sizeLine := by rw [← ra.length, ← rb.length]; exact Nat.le_trans hl lim_le
      refine .inr (.inr ⟨a, b, vs, ws, rfl, rfl, tq gh ea, tq gh eb, z, fun e0 => ?_, fun _ e0 => ?_, fun _ _ => k.new_tup gh (ra.append rb)⟩)
      · subst e0
        have e1 : l = [] := List.length_eq_zero_iff.mp ra.length
        subst e1
        exact k.at gh (by simp only [List.nil_append, Rp]; exact ry)
      · subst e0
        have e1 : m = [] := List.length_eq_zero_iff.mp rb.length
        subst e1
        exact k.at gh (by simp only [List.append_nil, Rp]; exact rx)
    · cases h

def subD : F2
  | .int i, .int j => some (.int (i - j))
  | _, _ => none
theorem p_subD {K : Frag} : P2 K (rI0 fun i j => .int (i - j)) subD := by
  intro G H x y d e c Q gh rx ry h k
  cases d <;> cases e <;> simp only [subD] at h <;> try (cases h; done)
  cases h
  simp only [Rpt] at rx ry
  subst rx ry
  exact ⟨_, _, rfl, rfl, k.int gh⟩
def small64 (i : Int) : Bool := decide (-(2 ^ 64) < i ∧ i < 2 ^ 64)
def mulD : F2
  | .int i, .int j => if small64 i || small64 j then some (.int (i * j)) else none
  | .list l, .int k => if 0 ≤ k ∧ k ≤ 1000 ∧ l.length * k.toNat ≤ LIM then some (.list (List.replicate k.toNat l).flatten) else none
  | _, _ => none
def rMulD : R2 := fun x y H Q => rI CMul (fun i j => .int (i * j)) x y H Q ∨ rRep x y H Q
theorem or_mulD : OpR X (binaryOp .Mult) rMulD := OpR.or op_mul op_rep
theorem Rps.rep {K : Frag} {G : Hp} {l : List D} {vs : List V} (h : Rps K G l vs) : ∀ n : Nat, Rps K G (List.replicate n l).flatten (List.replicate n vs).flatten
  | 0 => by simp only [List.replicate_zero, List.flatten_nil, Rps]
  | n + 1 => by simp only [List.replicate_succ, List.flatten_cons]; exact h.append (Rps.rep h n)
theorem p_mulD {K : Frag} : P2 K rMulD mulD := by
  intro G H x y d e c Q gh rx ry h k
  cases d <;> cases e <;> simp only [mulD] at h <;> try (cases h; done)
  · rename_i i j
    split at h
    · rename_i hz
      cases h
      simp only [Rpt] at rx ry
      subst rx ry
      rw [Bool.or_eq_true] at hz
      refine .inl ⟨i, j, rfl, rfl, ?_, k.int gh⟩
      rcases hz with hz | hz
      · exact .inl (of_decide_eq_true hz)
      · exact .inr (of_decide_eq_true hz)
    · cases h
  · rename_i l n
    split at h
    · rename_i hz
      cases h
      obtain ⟨a, vs, rfl, ea, ra⟩ := rx
      simp only [Rpt] at ry
      subst ry
      have e1 := ra.length
      refine .inr ⟨a, n, vs, rfl, rfl, ea, by omega, by omega, ?_, fun p hp => k.new_lst gh (ra.rep _) hp⟩
      rw [← e1]
      exact Nat.le_trans hz.2.2 lim_le
    · cases h
def fdivD : F2
  | .int i, .int j => if 0 < j ∧ j < 1000000000 then some (.int (i / j)) else none
  | _, _ => none
theorem p_fdivD {K : Frag} : P2 K (rI CDiv fun i j => .int (i / j)) fdivD := by
  intro G H x y d e c Q gh rx ry h k
  cases d <;> cases e <;> simp only [fdivD] at h <;> try (cases h; done)
  split at h
  · rename_i hz
    cases h
    simp only [Rpt] at rx ry
    subst rx ry
    exact ⟨_, _, rfl, rfl, ⟨hz.1, by omega⟩, k.int gh⟩
  · cases h
def modD : F2
  | .int i, .int j => if 0 < j then some (.int (i % j)) else none
  | _, _ => none
theorem p_modD {K : Frag} : P2 K (rI (fun _ j => 0 < j) fun i j => .int (i % j)) modD := by
  intro G H x y d e c Q gh rx ry h k
  cases d <;> cases e <;> simp only [modD] at h <;> try (cases h; done)
  split at h
  · rename_i hz
    cases h
    simp only [Rpt] at rx ry
    subst rx ry
    exact ⟨_, _, rfl, rfl, hz, k.int gh⟩
  · cases h
def powD : F2
  | .int i, .int j => if 0 ≤ j ∧ j ≤ 100 ∧ i.natAbs < 100 then some (.int (i ^ j.toNat)) else none
  | _, _ => none
theorem p_powD {K : Frag} : P2 K (rI CPow fun i j => .int (i ^ j.toNat)) powD := by
  intro G H x y d e c Q gh rx ry h k
  cases d <;> cases e <;> simp only [powD] at h <;> try (cases h; done)
  split at h
  · rename_i hz
    cases h
    simp only [Rpt] at rx ry
    subst rx ry
    exact ⟨_, _, rfl, rfl, ⟨hz.1, by omega, by omega⟩, k.int gh⟩
  · cases h
def cmpD (g : Int → Int → Bool) : F2
  | .int i, .int j => some (.bool (g i j))
  | _, _ => none
theorem p_cmpD {K : Frag} {g : Int → Int → Bool} : P2 K (rI0 fun i j => .bl (g i j)) (cmpD g) := by
  intro G H x y d e c Q gh rx ry h k
  cases d <;> cases e <;> simp only [cmpD] at h <;> try (cases h; done)
  cases h
  simp only [Rpt] at rx ry
  subst rx ry
  exact ⟨_, _, rfl, rfl, k.bl gh⟩
abbrev ltD : F2 := cmpD fun i j => decide (i < j)
abbrev leD : F2 := cmpD fun i j => decide (i ≤ j)
abbrev gtD : F2 := cmpD fun i j => decide (j < i)
abbrev geD : F2 := cmpD fun i j => decide (j ≤ i)

mutual
theorem Rp.dp {K : Frag} {H : Hp} : ∀ (d : D) (v : V), Rp K H d v → d.canLay0 = true → Dp K H v d
  | .none, v, h, _ => by simp only [Rp] at h; subst h; exact .non
  | .bool b, v, h, _ => by simp only [Rp] at h; subst h; exact .bl b
  | .int b, v, h, _ => by simp only [Rp] at h; subst h; exact .int b
  | .str b, v, h, _ => by simp only [Rp] at h; subst h; exact .str b
  | .list l, v, h, c => by
    simp only [Rp] at h
    obtain ⟨a, vs, rfl, e, r⟩ := h
    simp only [PyData.canLay0] at c
    exact .lst (.inl (.inl e)) (Rps.dp l vs r c)
  | .tuple l, v, h, c => by
    simp only [Rp] at h
    obtain ⟨a, vs, rfl, e, r⟩ := h
    simp only [PyData.canLay0] at c
    exact .tup (tq (Same.refl H) e) (Rps.dp l vs r c)
  | .dict l, v, h, c => by simp only [PyData.canLay0] at c; cases c
theorem Rps.dp {K : Frag} {H : Hp} : ∀ (l : List D) (vs : List V), Rps K H l vs → PyData.canLayAll0 l = true → DpAll K H vs l
  | [], vs, h, _ => by simp only [Rps] at h; subst h; exact .nil
  | d :: l, vs, h, c => by
    simp only [Rps] at h
    obtain ⟨v, r, rfl, q, h⟩ := h
    simp only [PyData.canLayAll0, Bool.and_eq_true] at c
    exact .cons (Rp.dp d v q c.1) (Rps.dp l r h c.2)
end
def eqD : F2 := fun d e => if SeqAt.shaped d && SeqAt.shaped e then some (.bool (PyData.eqv d e)) else none
def neD : F2 := fun d e => if SeqAt.shaped d && SeqAt.shaped e then some (.bool (!PyData.eqv d e)) else none
theorem p_eqD {K : Frag} : P2 K (rEqD K) eqD := by
  intro G H x y d e c Q gh rx ry h k
  unfold eqD at h
  split at h
  · rename_i hs
    rw [Bool.and_eq_true] at hs
    cases h
    exact ⟨d, e, Rp.dp _ _ (rx.all gh) (SeqAt.canLay_of_shaped hs.1), Rp.dp _ _ (ry.all gh) (SeqAt.canLay_of_shaped hs.2), hs.1, hs.2, k.bl gh⟩
  · cases h
theorem p_neD {K : Frag} : P2 K (rNeD K) neD := by
  intro G H x y d e c Q gh rx ry h k
  unfold neD at h
  split at h
  · rename_i hs
    rw [Bool.and_eq_true] at hs
    cases h
    exact ⟨d, e, Rp.dp _ _ (rx.all gh) (SeqAt.canLay_of_shaped hs.1), Rp.dp _ _ (ry.all gh) (SeqAt.canLay_of_shaped hs.2), hs.1, hs.2, k.bl gh⟩
  · cases h
/-- in: a list, a tuple -/
def rInTD (K : Frag) (neg : Bool) : R2 := fun x y H Q => ∃ d ds, Dp K H x d ∧ (Dp K H y (.tuple ds) ∨ Dp K H y (.list ds)) ∧ SeqAt.shaped d = true ∧ PyData.canLayAll0 ds = true ∧ Q (.bl (if neg then !(ds.any fun z => PyData.eqv z d) else ds.any fun z => PyData.eqv z d)) H
theorem or_inTD (hu : X.A.units + 65 < cLine) : OpR X (compareOp .In) (rInTD X.K false) := by
  intro pins s σ H x y v u Q I rx ry h
  obtain ⟨d, ds, hd, he, sd, se, q⟩ := h
  obtain ⟨as, r1⟩ := Dp.reads I d x v hd rx
  rcases he with he | he
  · obtain ⟨bs, r2⟩ := Dp.reads I (.tuple ds) y u he ry
    exact SeqAt.in_tuple_reads r2 r1 se (SeqAt.canLay_of_shaped sd) (PyProof.Rows.room_in_shaped sd hu) ⟨.bl _, H, I, rfl, q⟩
  · obtain ⟨bs, r2⟩ := Dp.reads I (.list ds) y u he ry
    exact SeqAt.in_list_reads r2 r1 se (SeqAt.canLay_of_shaped sd) (PyProof.Rows.room_in_shaped sd hu) ⟨.bl _, H, I, rfl, q⟩
theorem or_notInTD (hu : X.A.units + 65 < cLine) : OpR X (compareOp .NotIn) (rInTD X.K true) := by
  intro pins s σ H x y v u Q I rx ry h
  obtain ⟨d, ds, hd, he, sd, se, q⟩ := h
  obtain ⟨as, r1⟩ := Dp.reads I d x v hd rx
  rcases he with he | he
  · obtain ⟨bs, r2⟩ := Dp.reads I (.tuple ds) y u he ry
    exact SeqAt.notIn_tuple_reads r2 r1 se (SeqAt.canLay_of_shaped sd) (PyProof.Rows.room_in_shaped sd hu) ⟨.bl _, H, I, rfl, q⟩
  · obtain ⟨bs, r2⟩ := Dp.reads I (.list ds) y u he ry
    exact SeqAt.notIn_list_reads r2 r1 se (SeqAt.canLay_of_shaped sd) (PyProof.Rows.room_in_shaped sd hu) ⟨.bl _, H, I, rfl, q⟩
def memD (d : D) (ds : List D) : Bool := ds.any fun z => PyData.eqv z d
def inD (neg : Bool) : F2
  | d, .list ds => if SeqAt.shaped d && PyData.canLayAll0 ds then some (.bool (if neg then !memD d ds else memD d ds)) else none
  | d, .tuple ds => if SeqAt.shaped d && PyData.canLayAll0 ds then some (.bool (if neg then !memD d ds else memD d ds)) else none
  | _, _ => none
theorem p_inD {K : Frag} {neg : Bool} : P2 K (rInTD K neg) (inD neg) := by
  intro G H x y d e c Q gh rx ry h k
  cases e <;> simp only [inD] at h <;> try (cases h; done)
  · rename_i ds
    split at h
    · rename_i hs
      rw [Bool.and_eq_true] at hs
      cases h
      exact ⟨d, ds, Rp.dp _ _ (rx.all gh) (SeqAt.canLay_of_shaped hs.1), .inr (Rp.dp _ _ (ry.all gh) (by simp only [PyData.canLay0]; exact hs.2)), hs.1, hs.2, k.bl gh⟩
    · cases h
  · rename_i ds
    split at h
    · rename_i hs
      rw [Bool.and_eq_true] at hs
      cases h
      exact ⟨d, ds, Rp.dp _ _ (rx.all gh) (SeqAt.canLay_of_shaped hs.1), .inl (Rp.dp _ _ (ry.all gh) (by simp only [PyData.canLay0]; exact hs.2)), hs.1, hs.2, k.bl gh⟩
    · cases h
/-- x is None, x is not None -/
def isNoneD (neg : Bool) : F2
  | d, .none => some (.bool (match d with
    | .none => !neg
    | _ => neg))
  | _, _ => none
theorem Rpt.non_iff {K : Frag} {G H : Hp} {d : D} {v : V} (h : Rpt K G H d v) : decide (v = V.non) = (match d with | .none => true | _ => false) := by
  cases d <;> simp only [Rpt] at h
  · subst h; rfl
  · subst h; rfl
  · subst h; rfl
  · subst h; rfl
  · obtain ⟨a, vs, rfl, _⟩ := h; rfl
  · obtain ⟨a, vs, rfl, _⟩ := h; rfl
  · obtain ⟨a, rfl, _⟩ := h; rfl
theorem p_isN {K : Frag} : P2 K (fun x y H Q => y = .non ∧ Q (.bl (decide (x = .non))) H) (isNoneD false) := by
  intro G H x y d e c Q gh rx ry h k
  cases e <;> simp only [isNoneD] at h <;> try (cases h; done)
  simp only [Rpt] at ry
  refine ⟨ry, ?_⟩
  rw [Rpt.non_iff rx]
  cases d <;> (cases h; exact k.bl gh)
theorem p_notN {K : Frag} : P2 K (fun x y H Q => y = .non ∧ Q (.bl (!decide (x = .non))) H) (isNoneD true) := by
  intro G H x y d e c Q gh rx ry h k
  cases e <;> simp only [isNoneD] at h <;> try (cases h; done)
  simp only [Rpt] at ry
  refine ⟨ry, ?_⟩
  rw [Rpt.non_iff rx]
  cases d <;> (cases h; exact k.bl gh)

/-! ### truth, tests -/
def trD : D → Option Bool
  | .none => some false
  | .bool b => some b
  | .int i => some (i != 0)
  | .list l => some (!l.isEmpty)
  | .tuple l => some (!l.isEmpty)
  | _ => none
theorem isEmpty_rps {K : Frag} {G : Hp} {l : List D} {vs : List V} (h : Rps K G l vs) : l.isEmpty = vs.isEmpty := by
  have e := h.length
  cases l <;> cases vs <;> first | rfl | cases e
theorem truV_of {K : Frag} {G H : Hp} {d : D} {v : V} {k : Bool} (gh : Same G H) (r : Rpt K G H d v) (h : trD d = some k) : TruV K v H k := by
  cases d <;> simp only [trD] at h <;> try (cases h; done)
  · cases h; simp only [Rpt] at r; subst r; rfl
  · cases h; simp only [Rpt] at r; subst r; rfl
  · cases h; simp only [Rpt] at r; subst r; rfl
  · cases h
    obtain ⟨a, vs, rfl, e, q⟩ := r
    exact .inl ⟨vs, .inl (.inl e), by rw [isEmpty_rps q]⟩
  · cases h
    obtain ⟨a, vs, rfl, e, q⟩ := r
    exact .inr (.inl ⟨vs, tq gh e, by rw [isEmpty_rps q]⟩)
def dTru (ma : M IV) : M Bool := .bind ma fun a => .bind (.now a) fun x => .opt (trD x)
theorem ok_tru {C : Cc} {ta : TE} {ma : M IV} (ha : MOk C (RIv C.K) ta ma) : MOk C RB (fun σ H Q => ta σ H fun x H' => ∃ k, TruV C.K x H' k ∧ Q k H') (dTru ma) := by
  intro G H ρ σ Q st h
  refine bindT ha st h fun a ρ1 x G1 H1 s1 st1 sh1 r1 h1 => ?_
  obtain ⟨d, rd, h2⟩ := post_now st1 r1 h1
  cases e : trD d with
  | none => rw [e] at h2; exact h2.elim
  | some k =>
    rw [e] at h2
    exact ⟨k, truV_of st1.gh rd e, h2 k _ _ Stp.refl st1 (Sh.refl _) rfl⟩
theorem tj_val (he : ∀ whole, isTrue a X.env whole = (do let v ← whole; standAt a.pos; holding [v] (truthy v))) (hK : X.K = C.K) (ha : EJ C X a ta ma) : TJ C X a (fun σ H Q => ta σ H fun x H' => ∃ k, TruV C.K x H' k ∧ Q k H') (dTru ma) := by
  obtain ⟨pa, oa⟩ := ha
  rw [← hK]
  refine ⟨pt_truth pa he, ?_⟩
  rw [hK]
  exact ok_tru oa
def WJ (C : Cc) (X : Cx) (e : Expr) (t : TT) (m : M Bool) : Prop := PW X e t ∧ MOk C RB t m
theorem WJ.tj {m : M Bool} (h : WJ C X e tt m) : TJ C X e tt m := ⟨h.1.pt, h.2⟩
def dAndB (ma mb : M Bool) : M Bool := .bind ma fun c => if c = true then mb else .pure false
def dOrB (ma mb : M Bool) : M Bool := .bind ma fun c => if c = true then .pure true else mb
def dNotB (ma : M Bool) : M Bool := .bind ma fun c => .pure (!c)
theorem wj_and1 {m : M Bool} (h : TJ C X a tt m) : WJ C X (.BoolOp .And [a] pos) tt m := ⟨pw_and1 h.1, h.2⟩
theorem wj_or1 {m : M Bool} (h : TJ C X a tt m) : WJ C X (.BoolOp .Or [a] pos) tt m := ⟨pw_or1 h.1, h.2⟩
theorem wj_and {rest : List Expr} {m n : M Bool} {t u : TT} (h : TJ C X a t m) (k : WJ C X (.BoolOp .And (b :: rest) pos) u n) : WJ C X (.BoolOp .And (a :: b :: rest) pos) (tAnd t u) (dAndB m n) := by
  obtain ⟨p, o⟩ := h
  obtain ⟨q, r⟩ := k
  refine ⟨pw_and p q, ?_⟩
  intro G H ρ σ Q st h
  show t σ H _
  refine bindT o st h fun c ρ1 x G1 H1 s1 st1 sh1 r1 h1 => ?_
  cases r1
  cases c with
  | true => exact iteT (r _ _ _ _ _ st1 h1)
  | false => exact iteF (h1 false _ _ Stp.refl st1 (Sh.refl _) rfl)
theorem wj_or {rest : List Expr} {m n : M Bool} {t u : TT} (h : TJ C X a t m) (k : WJ C X (.BoolOp .Or (b :: rest) pos) u n) : WJ C X (.BoolOp .Or (a :: b :: rest) pos) (tOr t u) (dOrB m n) := by
  obtain ⟨p, o⟩ := h
  obtain ⟨q, r⟩ := k
  refine ⟨pw_or p q, ?_⟩
  intro G H ρ σ Q st h
  show t σ H _
  refine bindT o st h fun c ρ1 x G1 H1 s1 st1 sh1 r1 h1 => ?_
  cases r1
  cases c with
  | false => exact iteF (r _ _ _ _ _ st1 h1)
  | true => exact iteT (h1 true _ _ Stp.refl st1 (Sh.refl _) rfl)
theorem tj_not {m : M Bool} (h : TJ C X a tt m) : TJ C X (.UnaryOp .Not a pos) (tNot tt) (dNotB m) := by
  obtain ⟨p, o⟩ := h
  refine ⟨pt_not p, ?_⟩
  intro G H ρ σ Q st h
  show tt σ H _
  refine bindT o st h fun c ρ1 x G1 H1 s1 st1 sh1 r1 h1 => ?_
  cases r1
  exact h1 (!c) _ _ Stp.refl st1 (Sh.refl _) rfl
/-- a comparison as a test -/
def boolD : D → Option Bool
  | .bool b => some b
  | _ => none
def dBool (ma : M IV) : M Bool := .bind ma fun a => .bind (.now a) fun x => .opt (boolD x)
theorem boolD_of {K : Frag} {G H : Hp} {d : D} {v : V} {k : Bool} (r : Rpt K G H d v) (h : boolD d = some k) : v = .bl k := by
  cases d <;> simp only [boolD] at h <;> try (cases h; done)
  cases h
  simpa only [Rpt] using r
theorem ok_bool {C : Cc} {ta : TE} {ma : M IV} (ha : MOk C (RIv C.K) ta ma) : MOk C RB (tTest ta) (dBool ma) := by
  intro G H ρ σ Q st h
  show ta σ H _
  refine bindT ha st h fun a ρ1 x G1 H1 s1 st1 sh1 r1 h1 => ?_
  obtain ⟨d, rd, h2⟩ := post_now st1 r1 h1
  cases e : boolD d with
  | none => rw [e] at h2; exact h2.elim
  | some k =>
    rw [e] at h2
    exact ⟨k, boolD_of rd e, h2 k _ _ Stp.refl st1 (Sh.refl _) rfl⟩
theorem tj_cmp {op : CmpOp} {r : R2} {f : F2} (ho : OpR X (compareOp op) r) (p : P2 C.K r f) (ha : EJ C X a ta ma) (hb : EJ C X b tb mb) (hm : behindInMarks op b = false) : TJ C X (.Compare a [op] [b] pos) (tTest (tOp r ta tb)) (dBool (d2 f ma mb)) := by
  obtain ⟨pa, oa⟩ := ha
  obtain ⟨pb, ob⟩ := hb
  exact ⟨pt_cmpR ho pa pb hm, ok_bool (ok_op2 p oa ob)⟩
theorem Post.gro {α β : Type} {C : Cc} {R : Rel α β} {G H G' H' : Hp} {ρ : Env} {σ : St} {r : Res α} {Q : β → Hp → Prop} (h : Post C R G H ρ σ r Q) (g : Gro G H G' H') : Post C R G' H' ρ σ r Q := by
  cases r with
  | un => exact h
  | ok a ρ' => exact fun b G2 H2 s st sh q => h b G2 H2 (Stp.trans g.stp s fun _ z => z) st sh q
  | exc x ρ' => exact fun c dx G2 H2 s st sh q => h c dx G2 H2 (Stp.trans g.stp s fun _ z => z) st sh q
theorem Rp.bool_inv {K : Frag} {G : Hp} {b : Bool} {v : V} (h : Rp K G (.bool b) v) : v = .bl b := by simpa only [Rp] using h
def dChain (f g : F2) (ma mb mc : M IV) : M IV := .bind ma fun a => .bind mb fun b => .bind (.now a) fun x => .bind (.now b) fun y => .bind (.opt ((f x y).bind boolD)) fun k =>
  if k = true then .bind mc fun c => .bind (.now b) fun y => .bind (.now c) fun z => .bind (.opt (g y z)) fun w => .pure (.val w) else .pure (.val (.bool false))
theorem bind_bool {o : Option D} {k : Bool} (h : o.bind boolD = some k) : o = some (.bool k) := by
  cases o with
  | none => cases h
  | some d =>
    cases d <;> simp only [Option.bind, boolD] at h <;> try (cases h; done)
    cases h; rfl
theorem ok_chain {C : Cc} {r r' : R2} {f g : F2} {ta tb tc : TE} {ma mb mc : M IV} (p : P2 C.K r f) (p' : P2 C.K r' g) (ha : MOk C (RIv C.K) ta ma) (hb : MOk C (RIv C.K) tb mb) (hc : MOk C (RIv C.K) tc mc) :
    MOk C (RIv C.K) (tChain r r' ta tb tc) (dChain f g ma mb mc) := by
  intro G H ρ σ Q st h
  show ta σ H _
  refine bindT ha st h fun a ρ1 x G1 H1 s1 st1 sh1 r1 h1 => ?_
  refine bindT hb st1 h1 fun b ρ2 y G2 H2 s2 st2 sh2 r2 h2 => ?_
  obtain ⟨d, rd, h3⟩ := post_now st2 (IvOk.step r1 s2.gg sh2) h2
  obtain ⟨e, re, h4⟩ := post_now st2 r2 h3
  obtain ⟨k, ec, h5⟩ := post_opt h4
  refine p G2 H2 x y d e (.bool k) _ st2.gh rd re (bind_bool ec) fun v G3 H3 g3 rv => ⟨k, rv.bool_inv, ?_⟩
  have st3 := st2.gro g3
  have h6 := Post.gro h5 g3
  cases k with
  | false => exact iteF ((kt_of st3 h6).bl st3.gh)
  | true =>
    refine iteT ?_
    refine bindT hc st3 h6 fun c ρ4 z G4 H4 s4 st4 sh4 r4 h7 => ?_
    obtain ⟨y', ry', h8⟩ := post_now st4 (IvOk.step r2 (g3.gg.trans s4.gg) sh4) h7
    obtain ⟨z', rz', h9⟩ := post_now st4 r4 h8
    obtain ⟨w, ew, h10⟩ := post_opt h9
    exact p' _ _ _ _ _ _ _ _ st4.gh ry' rz' ew (kt_of st4 h10)
theorem ej_chain {op op' : CmpOp} {r r' : R2} {f g : F2} (ho : OpR X (compareOp op) r) (p : P2 C.K r f) (ho' : OpR X (compareOp op') r') (p' : P2 C.K r' g) (ha : EJ C X a ta ma) (hb : EJ C X b tb mb) (hc : EJ C X c tc mc)
    (hm : lastMarks [op, op'] [b, c] = false) : EJ C X (.Compare a [op, op'] [b, c] pos) (tChain r r' ta tb tc) (dChain f g ma mb mc) := by
  obtain ⟨pa, oa⟩ := ha
  obtain ⟨pb, ob⟩ := hb
  obtain ⟨pc, oc⟩ := hc
  exact ⟨pe_chain ho ho' pa pb pc hm, ok_chain p p' oa ob oc⟩

/-! ### and, or, not as values -/
def dAndV (ma mb : M IV) : M IV := .bind ma fun a => .bind (.now a) fun x => .bind (.opt (trD x)) fun k => if k = true then mb else .pure a
def dOrV (ma mb : M IV) : M IV := .bind ma fun a => .bind (.now a) fun x => .bind (.opt (trD x)) fun k => if k = true then .pure a else mb
def dNotV (ma : M IV) : M IV := .bind ma fun a => .bind (.now a) fun x => .bind (.opt (trD x)) fun k => .pure (.val (.bool (!k)))
theorem ej_one {op} (h : EJ C X a ta ma) : EJ C X (.BoolOp op [a] pos) ta ma := ⟨pe_one h.1, h.2⟩
theorem ej_and {rest : List Expr} (h : EJ C X a ta ma) (k : EJ C X (.BoolOp .And (b :: rest) pos) tb mb) (hK : X.K = C.K) : EJ C X (.BoolOp .And (a :: b :: rest) pos) (tAndT C.K ta tb) (dAndV ma mb) := by
  obtain ⟨p, o⟩ := h
  obtain ⟨q, r⟩ := k
  refine ⟨by rw [← hK]; exact pe_andT p q, ?_⟩
  intro G H ρ σ Q st h
  show ta σ H _
  refine bindT o st h fun c ρ1 x G1 H1 s1 st1 sh1 r1 h1 => ?_
  obtain ⟨d, rd, h2⟩ := post_now st1 r1 h1
  obtain ⟨k, ek, h3⟩ := post_opt h2
  refine ⟨k, truV_of st1.gh rd ek, ?_⟩
  cases k with
  | true => exact iteT (r _ _ _ _ _ st1 h3)
  | false => exact iteF (h3 x _ _ Stp.refl st1 (Sh.refl _) r1)
theorem ej_or {rest : List Expr} (h : EJ C X a ta ma) (k : EJ C X (.BoolOp .Or (b :: rest) pos) tb mb) (hK : X.K = C.K) : EJ C X (.BoolOp .Or (a :: b :: rest) pos) (tOrT C.K ta tb) (dOrV ma mb) := by
  obtain ⟨p, o⟩ := h
  obtain ⟨q, r⟩ := k
  refine ⟨by rw [← hK]; exact pe_orT p q, ?_⟩
  intro G H ρ σ Q st h
  show ta σ H _
  refine bindT o st h fun c ρ1 x G1 H1 s1 st1 sh1 r1 h1 => ?_
  obtain ⟨d, rd, h2⟩ := post_now st1 r1 h1
  obtain ⟨k, ek, h3⟩ := post_opt h2
  refine ⟨k, truV_of st1.gh rd ek, ?_⟩
  cases k with
  | false => exact iteF (r _ _ _ _ _ st1 h3)
  | true => exact iteT (h3 x _ _ Stp.refl st1 (Sh.refl _) r1)
theorem ej_not (h : EJ C X a ta ma) (hK : X.K = C.K) : EJ C X (.UnaryOp .Not a pos) (tNotT C.K ta) (dNotV ma) := by
  obtain ⟨p, o⟩ := h
  refine ⟨by rw [← hK]; exact pe_notT p, ?_⟩
  intro G H ρ σ Q st h
  show ta σ H _
  refine bindT o st h fun c ρ1 x G1 H1 s1 st1 sh1 r1 h1 => ?_
  obtain ⟨d, rd, h2⟩ := post_now st1 r1 h1
  obtain ⟨k, ek, h3⟩ := post_opt h2
  exact ⟨k, truV_of st1.gh rd ek, (kt_of st1 h3).bl st1.gh⟩
def dIf (mt : M Bool) (ma mb : M IV) : M IV := .bind mt fun c => if c = true then ma else mb
theorem ej_ifx {t : Expr} {mt : M Bool} (ht : TJ C X t tt mt) (ha : EJ C X a ta ma) (hb : EJ C X b tb mb) : EJ C X (.IfExp t a b pos) (tIf tt ta tb) (dIf mt ma mb) := by
  obtain ⟨pt, ot⟩ := ht
  obtain ⟨pa, oa⟩ := ha
  obtain ⟨pb, ob⟩ := hb
  refine ⟨pe_ifExp pt pa pb, ?_⟩
  intro G H ρ σ Q st h
  show tt σ H _
  refine bindT ot st h fun c ρ1 x G1 H1 s1 st1 sh1 r1 h1 => ?_
  cases r1
  cases c with
  | true => exact iteT (oa _ _ _ _ _ st1 h1)
  | false => exact iteF (ob _ _ _ _ _ st1 h1)
def negD : F1
  | .int i => some (.int (-i))
  | _ => none
theorem ej_neg (h : EJ C X a ta ma) : EJ C X (.UnaryOp .USub a pos) (tUn (rU fun i => V.int (-i)) ta) (d1 negD ma) := by
  obtain ⟨p, o⟩ := h
  refine ⟨pe_un un_neg p, ?_⟩
  show MOk C (RIv C.K) (fun σ H Q => ta σ H fun x H1 => rU (fun i => V.int (-i)) x H1 Q) _
  refine ok_op1 (C := C) (r := rU fun i => V.int (-i)) (f := negD) ?_ o
  intro G H x d c Q gh rx h k
  cases d <;> simp only [negD] at h <;> try (cases h; done)
  cases h
  simp only [Rpt] at rx
  subst rx
  exact ⟨_, rfl, k.int gh⟩
/-- is of truth values -/
def isBD : F2
  | .bool a, .bool b => some (.bool (decide (a = b)))
  | _, _ => none
theorem p_isB {K : Frag} : P2 K rIsB isBD := by
  intro G H x y d e c Q gh rx ry h k
  cases d <;> cases e <;> simp only [isBD] at h <;> try (cases h; done)
  cases h
  simp only [Rpt] at rx ry
  subst rx ry
  exact ⟨_, _, rfl, rfl, k.bl gh⟩

/-! ### subscripts, displays -/
def idxD : F2
  | .list l, .int i => atI l i
  | .tuple l, .int i => atI l i
  | .dict [(.none, .list l)], .int i => atI l i
  | _, _ => none
def rIdx (K : Frag) : R2 := fun x y H Q => rIxL K x y H Q ∨ rIxT K x y H Q
theorem ir_idx : IxR X (rIdx X.K) := IxR.or ix_list ix_tup
theorem Rps.atI {K : Frag} {G : Hp} {l : List D} {vs : List V} {i : Int} {d : D} (h : Rps K G l vs) (e : L2.atI l i = some d) : ∃ v, L2.atI vs i = some v ∧ Rp K G d v := by
  unfold L2.atI at e ⊢
  rw [← h.length]
  cases q : ixN l.length i with
  | none => rw [q] at e; cases e
  | some j =>
    rw [q] at e
    exact h.get e
theorem scr_inv {K : Frag} {G H : Hp} {l : List D} {v : V} (r : Rpt K G H (.dict [(.none, .list l)]) v) : ∃ (a : Addr) (ns : List Int), v = .ref a ∧ l = ns.map .int ∧ SqL K H a (ns.map V.int) := by
  obtain ⟨a, rfl, q⟩ := r
  rcases q with ⟨kvs, e, r⟩ | ⟨kvs, e, r⟩ | ⟨ns, e, q⟩
  · simp only [RpK, KeyD] at r
    obtain ⟨_, _, _, _, z, _⟩ := r
    exact z.elim
  · simp only [RpTM] at r
    exact (by cases r.2.1)
  · refine ⟨a, ns, rfl, ?_, q⟩
    injection e with e1 _
    injection e1 with _ e2
    injection e2
theorem p_idx {K : Frag} : P2 K (rIdx K) idxD := by
  intro G H x y d e c Q gh rx ry h k
  unfold idxD at h
  split at h
  · rename_i l i
    simp only [Rpt] at ry
    subst ry
    obtain ⟨a, vs, rfl, e, r⟩ := rx
    obtain ⟨v, ev, rv⟩ := r.atI h
    exact .inl ⟨a, vs, i, v, rfl, rfl, .inl (.inl e), ev, k.at gh rv⟩
  · rename_i l i
    simp only [Rpt] at ry
    subst ry
    obtain ⟨a, vs, rfl, e, r⟩ := rx
    obtain ⟨v, ev, rv⟩ := r.atI h
    exact .inr ⟨a, vs, i, v, rfl, rfl, tq gh e, ev, k.at gh rv⟩
  · rename_i l i
    simp only [Rpt] at ry
    subst ry
    obtain ⟨a, ns, rfl, e, q⟩ := scr_inv rx
    subst e
    obtain ⟨v, ev, rv⟩ := (Rps.of_ints (K := K) (G := G) ns).atI h
    exact .inl ⟨a, _, i, v, rfl, rfl, q, ev, k.at gh rv⟩
  · cases h
theorem ej_ix (ha : EJ C X a ta ma) (hb : EJ C X b tb mb) (hs : PlainIx b) (hK : X.K = C.K) : EJ C X (.Subscript a b pos) (tOp (rIdx C.K) ta tb) (d2 idxD ma mb) := by
  obtain ⟨pa, oa⟩ := ha
  obtain ⟨pb, ob⟩ := hb
  exact ⟨by rw [← hK]; exact pe_ix ir_idx pa pb hs, ok_op2 p_idx oa ob⟩

theorem paired_step {K : Frag} {G G' : Hp} {ρ ρ' : Env} {σ : St} (gg : Same G G') (sh : Sh ρ ρ') {ivs : List IV} {vs : List V} (h : Paired (fun iv v => IvOk K G ρ σ iv v) ivs vs) : Paired (fun iv v => IvOk K G' ρ' σ iv v) ivs vs := by
  induction h with
  | nil => exact .nil
  | cons r _ ih => exact .cons (IvOk.step r gg sh) ih
theorem aj_nil : AJ C X [] tNil (.pure []) := ⟨pa_nil, fun G H ρ σ Q st h => h [] G H Stp.refl st (Sh.refl ρ) .nil⟩
def dCons (ma : M IV) (mas : M (List IV)) : M (List IV) := .bind ma fun a => .bind mas fun l => .pure (a :: l)
theorem aj_cons (ha : EJ C X a ta ma) (hb : AJ C X es tas mas) (hs : starEach (a :: es) X.env = (false, eval a X.env) :: starEach es X.env) : AJ C X (a :: es) (tCons ta tas) (dCons ma mas) := by
  obtain ⟨pa, oa⟩ := ha
  obtain ⟨pb, ob⟩ := hb
  refine ⟨pa_cons pa pb hs, ?_⟩
  intro G H ρ σ Q st h
  show ta σ H _
  refine bindT oa st h fun a ρ1 x G1 H1 s1 st1 sh1 r1 h1 => ?_
  refine bindT ob st1 h1 fun l ρ2 xs G2 H2 s2 st2 sh2 r2 h2 => ?_
  exact h2 (x :: xs) _ _ Stp.refl st2 (Sh.refl _) (.cons (IvOk.step r1 s2.gg sh2) r2)
def fewD (l : List D) : Option (List D) := if l.length ≤ LIM then some l else none
def dTup (mas : M (List IV)) : M IV := .bind mas fun a => .bind (keeps a) fun ds => .bind (.opt (fewD ds)) fun ds => .pure (.val (.tuple ds))
def dLst (mas : M (List IV)) : M IV := .bind mas fun a => .bind (keeps a) fun ds => .bind (.opt (fewD ds)) fun ds => .pure (.val (.list ds))
theorem fewD_ok {K : Frag} {G : Hp} {l m : List D} {vs : List V} (h : fewD l = some m) (r : Rps K G l vs) : vs.length ≤ sizeLine ∧ m = l := by
  unfold fewD at h
  split at h
  · cases h
    exact ⟨by rw [← r.length]; exact Nat.le_trans (by assumption) lim_le, rfl⟩
  · cases h
theorem ej_tup {x1} (h : AJ C X es tas mas) : EJ C X (.Tuple es x1 pos) (tTupF tas) (dTup mas) := by
  obtain ⟨p, o⟩ := h
  refine ⟨pe_tupF p, ?_⟩
  intro G H ρ σ Q st h
  show tas σ H _
  refine bindT o st h fun l ρ1 xs G1 H1 s1 st1 sh1 r1 h1 => ?_
  obtain ⟨ds, rd, h2⟩ := post_keeps r1 h1
  obtain ⟨ds', e, h3⟩ := post_opt h2
  obtain ⟨z, e2⟩ := fewD_ok e rd
  subst e2
  exact ⟨z, (kt_of st1 h3).new_tup st1.gh rd⟩
theorem ej_lst (h : AJ C X es tas mas) : EJ C X (.List es pos) (tLst tas) (dLst mas) := by
  obtain ⟨p, o⟩ := h
  refine ⟨pe_lst p, ?_⟩
  intro G H ρ σ Q st h
  show tas σ H _
  refine bindT o st h fun l ρ1 xs G1 H1 s1 st1 sh1 r1 h1 => ?_
  obtain ⟨ds, rd, h2⟩ := post_keeps r1 h1
  obtain ⟨ds', e, h3⟩ := post_opt h2
  obtain ⟨z, e2⟩ := fewD_ok e rd
  subst e2
  exact ⟨z, fun q hq => (kt_of st1 h3).new_lst st1.gh rd hq⟩

/-! ### calls of built-ins -/
theorem ej_callB {r : List V → Hp → VK → Prop} {f : FN} (hp : PA X es tas → PE X e (tCB r tas)) (p : PN C.K r f) (ha : AJ C X es tas mas) : EJ C X e (tCB r tas) (dN f mas) :=
  ⟨hp ha.1, ok_opN p ha.2⟩
def lenD : FN
  | [.list l] => some (.int l.length)
  | [.tuple l] => some (.int l.length)
  | [.dict [(.none, .list l)]] => some (.int l.length)
  | _ => none
theorem Paired.one {α β : Type} {R : α → β → Prop} {a : α} {bs : List β} (h : Paired R [a] bs) : ∃ b, bs = [b] ∧ R a b := by
  cases h with
  | cons r t => cases t; exact ⟨_, rfl, r⟩
theorem p_len {K : Frag} : PN K (fun xs H Q => ∃ x n, xs = [x] ∧ LenV K x H n ∧ Q (.int n) H) lenD := by
  intro G H xs ds c Q gh rx h k
  unfold lenD at h
  split at h
  · rename_i l
    cases h
    obtain ⟨x, rfl, r⟩ := Paired.one rx
    obtain ⟨a, vs, rfl, e, r⟩ := r
    exact ⟨_, _, rfl, .inl ⟨vs, .inl (.inl e), r.length⟩, k.int gh⟩
  · rename_i l
    cases h
    obtain ⟨x, rfl, r⟩ := Paired.one rx
    obtain ⟨a, vs, rfl, e, r⟩ := r
    exact ⟨_, _, rfl, .inr ⟨vs, tq gh e, r.length⟩, k.int gh⟩
  · rename_i l
    cases h
    obtain ⟨x, rfl, r⟩ := Paired.one rx
    obtain ⟨a, ns, rfl, e, q⟩ := scr_inv r
    subst e
    exact ⟨_, _, rfl, .inl ⟨_, q, by simp⟩, k.int gh⟩
  · cases h
def intD : FN
  | [.int i] => some (.int i)
  | [.bool b] => some (.int (if b then 1 else 0))
  | _ => none
theorem p_int {K : Frag} : PN K (fun xs H Q => (∃ i, xs = [.int i] ∧ Q (.int i) H) ∨ ∃ k, xs = [.bl k] ∧ Q (.int (if k then 1 else 0)) H) intD := by
  intro G H xs ds c Q gh rx h k
  unfold intD at h
  split at h
  · cases h
    obtain ⟨x, rfl, r⟩ := Paired.one rx
    simp only [Rpt] at r
    subst r
    exact .inl ⟨_, rfl, k.int gh⟩
  · cases h
    obtain ⟨x, rfl, r⟩ := Paired.one rx
    simp only [Rpt] at r
    subst r
    exact .inr ⟨_, rfl, k.int gh⟩
  · cases h
def listD : FN
  | [.list l] => some (.list l)
  | [.tuple l] => some (.list l)
  | _ => none
theorem p_list {K : Frag} : PN K (fun xs H Q => ∃ p ys, xs = [.ref p] ∧ (SqL K H p ys ∨ SqT K H p ys) ∧ ∀ l, H l = none → Q (.ref l) (upd H l (.lst ys))) listD := by
  intro G H xs ds c Q gh rx h k
  unfold listD at h
  split at h
  · cases h
    obtain ⟨x, rfl, r⟩ := Paired.one rx
    obtain ⟨a, vs, rfl, e, r⟩ := r
    exact ⟨_, _, rfl, .inl (.inl (.inl e)), fun l hl => k.new_lst gh r hl⟩
  · cases h
    obtain ⟨x, rfl, r⟩ := Paired.one rx
    obtain ⟨a, vs, rfl, e, r⟩ := r
    exact ⟨_, _, rfl, .inr (tq gh e), fun l hl => k.new_lst gh r hl⟩
  · cases h
def tupleD : FN
  | [.list l] => some (.tuple l)
  | [.tuple l] => some (.tuple l)
  | _ => none
theorem p_tuple {K : Frag} : PN K (rTupF K) tupleD := by
  intro G H xs ds c Q gh rx h k
  unfold tupleD at h
  split at h
  · cases h
    obtain ⟨x, rfl, r⟩ := Paired.one rx
    obtain ⟨a, vs, rfl, e, r⟩ := r
    exact ⟨_, _, rfl, .inl ⟨.inl (.inl e), k.new_tup gh r⟩⟩
  · cases h
    obtain ⟨x, rfl, r⟩ := Paired.one rx
    obtain ⟨a, vs, rfl, e, q⟩ := id r
    exact ⟨_, _, rfl, .inr ⟨tq gh e, k.at gh (by simp only [Rp]; exact r)⟩⟩
  · cases h
def boolsD : List D → Option (List Bool)
  | [] => some []
  | .bool b :: l => (boolsD l).map (b :: ·)
  | _ => none
theorem Rps.bools {K : Frag} {G : Hp} : ∀ {l : List D} {vs : List V} {bs : List Bool}, Rps K G l vs → boolsD l = some bs → vs = bs.map V.bl
  | [], vs, bs, h, e => by
    simp only [boolsD] at e
    simp only [Rps] at h
    cases e; exact h
  | d :: l, vs, bs, h, e => by
    cases d <;> simp only [boolsD] at e <;> try (cases e; done)
    simp only [Rps, Rp] at h
    obtain ⟨v, r, rfl, rfl, h⟩ := h
    cases q : boolsD l with
    | none => rw [q] at e; cases e
    | some cs =>
      rw [q] at e
      cases e
      rw [Rps.bools h q, List.map_cons]
def allD : FN
  | [.list l] => (boolsD l).map fun bs => .bool (bs.all id)
  | _ => none
def anyD : FN
  | [.list l] => (boolsD l).map fun bs => .bool (bs.any id)
  | _ => none
theorem p_all {K : Frag} : PN K (rAll K) allD := by
  intro G H xs ds c Q gh rx h k
  unfold allD at h
  split at h
  · rename_i l
    obtain ⟨x, rfl, r⟩ := Paired.one rx
    obtain ⟨a, vs, rfl, e, r⟩ := r
    cases q : boolsD l with
    | none => rw [q] at h; cases h
    | some bs =>
      rw [q] at h
      cases h
      exact ⟨a, bs, rfl, .inl (.inl (by rw [e, r.bools q])), k.bl gh⟩
  · cases h
theorem p_any {K : Frag} : PN K (rAny K) anyD := by
  intro G H xs ds c Q gh rx h k
  unfold anyD at h
  split at h
  · rename_i l
    obtain ⟨x, rfl, r⟩ := Paired.one rx
    obtain ⟨a, vs, rfl, e, r⟩ := r
    cases q : boolsD l with
    | none => rw [q] at h; cases h
    | some bs =>
      rw [q] at h
      cases h
      exact ⟨a, bs, rfl, .inl (.inl (by rw [e, r.bools q])), k.bl gh⟩
  · cases h
end
end DL

/-! D2: isinstance, ranges, calls of the program's own defs, methods of one's own lists and dicts. -/
namespace DL
open PySem L2

/-! ### isinstance -/
def tyD : D → String
  | .none => "NoneType" | .bool _ => "bool" | .int _ => "int" | .str _ => "str" | .list _ => "list" | .tuple _ => "tuple" | .dict _ => "dict"
def scrOnly : D → Bool
  | .dict ((.none, _) :: _) => true
  | _ => false
theorem tyX_of {K : Frag} {G H : Hp} {d : D} {v : V} (gh : Same G H) (r : Rpt K G H d v) (hs : scrOnly d = false) : TyX K H v (.type (tyD d)) := by
  cases d with
  | none => simp only [Rpt] at r; subst r; exact .base .non
  | bool b => simp only [Rpt] at r; subst r; exact .base (.bl b)
  | int b => simp only [Rpt] at r; subst r; exact .base (.int b)
  | str b => simp only [Rpt] at r; subst r; exact .base (.str b)
  | list l => obtain ⟨a, vs, rfl, e, _⟩ := r; exact .base (.lst e)
  | tuple l =>
    obtain ⟨a, vs, rfl, ⟨o, e, _⟩, _⟩ := r
    exact .fTuple (gh _ _ e)
  | dict l =>
    obtain ⟨a, rfl, e⟩ := r
    rcases e with ⟨kvs, e, _⟩ | ⟨kvs, e, _⟩ | ⟨ns, e, _⟩
    · exact .base (.dK e)
    · exfalso
      rename_i z
      cases l with
      | nil => simp only [RpTM] at z
      | cons p l =>
        obtain ⟨p1, p2⟩ := p
        simp only [RpTM] at z
        obtain ⟨z1, z2, _⟩ := z
        subst z1 z2
        cases hs
    · subst e; cases hs
def isiD (T : String) : F1 := fun d => if scrOnly d then none else (kitB (tyD d) T).map .bool
theorem p_isi {K : Frag} {T : String} : P1 K (fun x H Q => rIsi K [x, .ty T] H Q) (isiD T) := by
  intro G H x d c Q gh rx h k
  unfold isiD at h
  split at h
  · cases h
  · rename_i hs
    cases q : kitB (tyD d) T with
    | none => rw [q] at h; cases h
    | some b =>
      rw [q] at h
      cases h
      exact ⟨x, .ty T, _, _, b, rfl, .ty T, tyX_of gh rx (by simpa using hs), kit_ty q, k.bl gh⟩
def isi2D (T S : String) : F1 := fun d => if scrOnly d then none else (kitB (tyD d) T).bind fun b => (kitB (tyD d) S).map fun c => .bool (b || c)
theorem p_isi2 {K : Frag} {T S : String} : P1 K (fun x H Q => [V.ty T, V.ty S].length ≤ sizeLine ∧ ∀ p, H p = none → rIsiT K [x, .ref p] (upd H p (.tup [.ty T, .ty S])) Q) (isi2D T S) := by
  intro G H x d c Q gh rx h k
  unfold isi2D at h
  split at h
  · cases h
  · rename_i hs
    cases q : kitB (tyD d) T with
    | none => rw [q] at h; cases h
    | some b =>
      cases q2 : kitB (tyD d) S with
      | none => rw [q, q2] at h; cases h
      | some b2 =>
        rw [q, q2] at h
        cases h
        refine ⟨Nat.le_trans (show 2 ≤ LIM by decide) lim_le, fun p hp => ?_⟩
        have g := Gro.mine gh hp (.tup [.ty T, .ty S])
        have rx' : Rpt K G (upd H p (.tup [.ty T, .ty S])) d x := by
          cases d with
          | list l => obtain ⟨a, vs, rfl, e, r⟩ := rx; exact ⟨a, vs, rfl, g.hh _ _ e, r⟩
          | dict l =>
            obtain ⟨a, rfl, e⟩ := rx
            refine ⟨a, rfl, ?_⟩
            rcases e with ⟨kvs, e, r⟩ | ⟨kvs, e, r⟩ | ⟨ns, e, r⟩
            · exact .inl ⟨kvs, g.hh _ _ e, r⟩
            · exact .inr (.inl ⟨kvs, g.hh _ _ e, r⟩)
            · exact .inr (.inr ⟨ns, e, same_sqL g.hh r⟩)
          | _ => exact rx
        refine ⟨x, p, _, _, _, b || b2, rfl, upd_same, .cons (.ty T) (.cons (.ty S) .nil), tyX_of g.gh rx' (by simpa using hs), ?_, k _ _ _ g (by simp only [Rp])⟩
        refine kitAny_cons (kit_ty q) (fun e => ?_) (fun e => by rw [e]; rfl)
        subst e
        refine kitAny_cons (kit_ty q2) (fun e => ?_) (fun e => by rw [e]; rfl)
        subst e
        exact kitAny_nil

section
variable {C : Cc} {X : Cx} {a b c e : Expr} {es : List Expr} {pos : Pos} {ma mb mc me : M IV} {mas : M (List IV)} {ta tb tc te : TE} {tas : TA} {tt : TT}
/-- isinstance(e, T) -/
theorem ej_isi {T : String} {r : V → Hp → VK → Prop} {f : F1} (hp : PE X a ta → PE X e (fun σ H Q => ta σ H fun x H1 => r x H1 Q)) (p : P1 C.K r f) (ha : EJ C X a ta ma) : EJ C X e (fun σ H Q => ta σ H fun x H1 => r x H1 Q) (d1 f ma) :=
  ⟨hp ha.1, ok_op1 p ha.2⟩

/-! ### ranges -/
def rgD (a b : Int) : List D := (List.range (b - a).toNat).map fun i => .int (a + (i : Nat))
theorem rgD_eq (a b : Int) : rgD a b = ((List.range (b - a).toNat).map fun i => a + ((i : Nat) : Int)).map .int := by unfold rgD; rw [List.map_map]; rfl
theorem rgV_eq (a b : Int) : rgV a b = ((List.range (b - a).toNat).map fun i => a + ((i : Nat) : Int)).map V.int := by unfold rgV; rw [List.map_map]; rfl
def rangeD : FN
  | [.int n] => if n ≤ 100000 then some (.list (rgD 0 n)) else none
  | [.int a, .int b] => if -100000 ≤ a ∧ a ≤ 100000 ∧ b ≤ 100000 then some (.list (rgD a b)) else none
  | _ => none
end

/-! ### calls of own defs -/
def mkArgs (ρ : Env) : List IV → Option Env
  | [] => some []
  | .val d :: l => (mkArgs ρ l).map (some (.dat d) :: ·)
  | .sl i :: l => match ρ[i]? with
    | some (some s) => if s.isM = true then (mkArgs ρ l).map (some (.bor s.d) :: ·) else none
    | _ => none
def slots : List IV → List Nat
  | [] => []
  | .val _ :: l => slots l
  | .sl i :: l => i :: slots l
def posOf : List IV → Nat → Option Nat
  | [], _ => none
  | .val _ :: l, j => (posOf l j).map (· + 1)
  | .sl i :: l, j => if i = j then some 0 else (posOf l j).map (· + 1)
def pbAt (ivs : List IV) (ρc : Env) (j : Nat) (s : Option Sl) : Option Sl := match s, posOf ivs j with
  | some s, some p => match ρc[p]? with
    | some (some t) => some (s.put t.d)
    | _ => some s
  | s, _ => s
def pb (ivs : List IV) (ρc : Env) : Nat → Env → Env
  | _, [] => []
  | j, s :: l => pbAt ivs ρc j s :: pb ivs ρc (j + 1) l
def dCall (n : Nat) (f : M D) (mas : M (List IV)) : M IV := .bind mas fun ivs => fun ρ => if (slots ivs).Nodup ∧ ivs.length = n then match mkArgs ρ ivs with
  | none => .un
  | some ρc => match f ρc with
    | .un => .un
    | .ok d ρc' => .ok (.val d) (pb ivs ρc' 0 ρ)
    | .exc x ρc' => .exc x (pb ivs ρc' 0 ρ) else .un
def ArgsOk (ρ : Env) : Prop := ∀ s ∈ ρ, (∃ d, s = some (Sl.dat d)) ∨ ∃ d, s = some (Sl.bor d)
/-- what a def's text promises -/
def spD (K : Frag) (mg : Str → Option Value) (n : Nat) (f : M D) : Sp := fun vs H Q E => vs.length = n ∧ ∃ G ρ, St0 K G H ρ (vs.map some) ∧ ArgsOk ρ ∧ Post ⟨K, mg, E⟩ (RD K) G H ρ (vs.map some) (f ρ) Q

theorem pb_get (ivs : List IV) (ρc : Env) : ∀ (ρ : Env) (k j : Nat), (pb ivs ρc k ρ)[j]? = (ρ[j]?).map (pbAt ivs ρc (k + j))
  | [], _, _ => by simp [pb]
  | s :: l, k, 0 => by simp [pb]
  | s :: l, k, j + 1 => by
    simp only [pb, List.getElem?_cons_succ]
    rw [pb_get ivs ρc l (k + 1) j, show k + 1 + j = k + (j + 1) by omega]
theorem pb_len (ivs : List IV) (ρc : Env) : ∀ (ρ : Env) (k : Nat), (pb ivs ρc k ρ).length = ρ.length
  | [], _ => rfl
  | s :: l, k => by simp only [pb, List.length_cons, pb_len ivs ρc l (k + 1)]
theorem put_kd (s : Sl) (d : D) : kd (some (s.put d)) = kd (some s) := by cases s <;> rfl
theorem pbAt_kd (ivs : List IV) (ρc : Env) (j : Nat) (s : Option Sl) : kd (pbAt ivs ρc j s) = kd s := by
  unfold pbAt
  split
  · split
    · exact put_kd _ _
    · rfl
  · rfl
theorem pb_sh (ivs : List IV) (ρc : Env) : ∀ (ρ : Env) (k : Nat), (pb ivs ρc k ρ).map kd = ρ.map kd
  | [], _ => rfl
  | s :: l, k => by simp only [pb, List.map_cons, pb_sh ivs ρc l (k + 1), pbAt_kd]
theorem posOf_some : ∀ {ivs : List IV} {j p : Nat}, posOf ivs j = some p → ivs[p]? = some (.sl j)
  | [], _, _, h => by cases h
  | .val d :: l, j, p, h => by
    simp only [posOf] at h
    cases q : posOf l j with
    | none => rw [q] at h; cases h
    | some r => rw [q] at h; cases h; simpa using posOf_some q
  | .sl i :: l, j, p, h => by
    simp only [posOf] at h
    split at h
    · rename_i e; cases h; subst e; rfl
    · cases q : posOf l j with
      | none => rw [q] at h; cases h
      | some r => rw [q] at h; cases h; simpa using posOf_some q
theorem posOf_none : ∀ {ivs : List IV} {j p : Nat}, posOf ivs j = none → ivs[p]? ≠ some (.sl j)
  | [], _, _, _ => by simp
  | .val d :: l, j, p, h => by
    simp only [posOf] at h
    have q : posOf l j = none := by cases q : posOf l j with
      | none => rfl
      | some r => rw [q] at h; cases h
    cases p with
    | zero => simp
    | succ p => simpa using posOf_none (p := p) q
  | .sl i :: l, j, p, h => by
    simp only [posOf] at h
    split at h
    · cases h
    · rename_i e
      have q : posOf l j = none := by cases q : posOf l j with
        | none => rfl
        | some r => rw [q] at h; cases h
      cases p with
      | zero => simp; exact e
      | succ p => simpa using posOf_none (p := p) q
theorem slots_nd : ∀ {ivs : List IV} {j p q : Nat}, (slots ivs).Nodup → ivs[p]? = some (.sl j) → ivs[q]? = some (.sl j) → p = q := by
  have mem : ∀ {ivs : List IV} {j p : Nat}, ivs[p]? = some (.sl j) → j ∈ slots ivs := by
    intro ivs
    induction ivs with
    | nil => intro j p h; simp at h
    | cons iv l ih =>
      intro j p h
      cases p with
      | zero => simp at h; subst h; simp [slots]
      | succ p =>
        have := ih (p := p) (j := j) (by simpa using h)
        cases iv <;> simp [slots, this]
  intro ivs
  induction ivs with
  | nil => intro j p q _ h; simp at h
  | cons iv l ih =>
    intro j p q hn h1 h2
    cases p with
    | zero =>
      cases q with
      | zero => rfl
      | succ q =>
        simp at h1; subst h1
        simp only [slots, List.nodup_cons] at hn
        exact (hn.1 (mem (p := q) (by simpa using h2))).elim
    | succ p =>
      cases q with
      | zero =>
        simp at h2; subst h2
        simp only [slots, List.nodup_cons] at hn
        exact (hn.1 (mem (p := p) (by simpa using h1))).elim
      | succ q =>
        have hn' : (slots l).Nodup := by
          cases iv with
          | val d => exact hn
          | sl i => simp only [slots, List.nodup_cons] at hn; exact hn.2
        rw [ih (j := j) (p := p) (q := q) hn' (by simpa using h1) (by simpa using h2)]
/-- the callee's slots, one by one -/
theorem mkArgs_get {K : Frag} {G H : Hp} {ρ : Env} {σ : St} (st : St0 K G H ρ σ) : ∀ {ivs : List IV} {vs : List V} {ρc : Env}, mkArgs ρ ivs = some ρc → Paired (fun iv v => IvOk K G ρ σ iv v) ivs vs →
    ρc.length = vs.length ∧ ArgsOk ρc ∧ (∀ (p : Nat) (s : Sl), ρc[p]? = some (some s) → ∃ v, vs[p]? = some v ∧ SlOk K G H s v ∧
      (s.isM = true → ∃ (j : Nat) (t : Sl), ivs[p]? = some (IV.sl j) ∧ ρ[j]? = some (some t) ∧ t.isM = true ∧ σ[j]? = some (some v))) ∧
    (∀ (p j : Nat), ivs[p]? = some (IV.sl j) → ∃ (s : Sl) (v : V), ρc[p]? = some (some s) ∧ s.isM = true ∧ vs[p]? = some v ∧ σ[j]? = some (some v))
  | [], _, ρc, h, r => by
    cases r
    cases h
    exact ⟨rfl, fun s hs => (by cases hs), fun p s e => by simp at e, fun p j e => by simp at e⟩
  | .val d :: l, _, ρc, h, .cons (b := v) (l₂ := vs) r t => by
    simp only [mkArgs] at h
    cases q : mkArgs ρ l with
    | none => rw [q] at h; cases h
    | some ρ1 =>
      rw [q] at h
      cases h
      obtain ⟨h1, h2, h3, h4⟩ := mkArgs_get st q t
      refine ⟨by simp [h1], fun s hs => ?_, fun p s e => ?_, fun p j e => ?_⟩
      · rcases List.mem_cons.mp hs with e | e
        · exact .inl ⟨d, e⟩
        · exact h2 s e
      · cases p with
        | zero =>
          simp at e; subst e
          exact ⟨v, rfl, r, fun z => by cases z⟩
        | succ p =>
          obtain ⟨w, e1, e2, e3⟩ := h3 p s (by simpa using e)
          exact ⟨w, by simpa using e1, e2, fun z => by obtain ⟨j, t, z1, z2⟩ := e3 z; exact ⟨j, t, by simpa using z1, z2⟩⟩
      · cases p with
        | zero => simp at e
        | succ p =>
          obtain ⟨s, w, e1, e2, e3⟩ := h4 p j (by simpa using e)
          exact ⟨s, w, by simpa using e1, e2, by simpa using e3⟩
  | .sl i :: l, _, ρc, h, .cons (b := v) (l₂ := vs) r t => by
    obtain ⟨⟨s, es, ms⟩, ev⟩ := r
    simp only [mkArgs, es, ms, if_true] at h
    cases q : mkArgs ρ l with
    | none => rw [q] at h; cases h
    | some ρ1 =>
      rw [q] at h
      cases h
      obtain ⟨h1, h2, h3, h4⟩ := mkArgs_get st q t
      obtain ⟨v', ev', ok⟩ := st.slot i s es
      rw [ev] at ev'
      cases ev'
      obtain ⟨a, rfl, oa⟩ := ok.m ms
      refine ⟨by simp [h1], fun s' hs => ?_, fun p s' e => ?_, fun p j e => ?_⟩
      · rcases List.mem_cons.mp hs with e | e
        · exact .inr ⟨_, e⟩
        · exact h2 s' e
      · cases p with
        | zero =>
          simp at e; subst e
          exact ⟨_, rfl, ⟨a, rfl, oa⟩, fun _ => ⟨i, s, rfl, es, ms, ev⟩⟩
        | succ p =>
          obtain ⟨w, e1, e2, e3⟩ := h3 p s' (by simpa using e)
          exact ⟨w, by simpa using e1, e2, fun z => by obtain ⟨j, t, z1, z2⟩ := e3 z; exact ⟨j, t, by simpa using z1, z2⟩⟩
      · cases p with
        | zero => simp at e; subst e; exact ⟨.bor s.d, _, rfl, rfl, rfl, ev⟩
        | succ p =>
          obtain ⟨s', w, e1, e2, e3⟩ := h4 p j (by simpa using e)
          exact ⟨s', w, by simpa using e1, e2, by simpa using e3⟩

theorem paired_len {α β : Type} {R : α → β → Prop} {l : List α} {m : List β} (h : Paired R l m) : l.length = m.length := by
  induction h with
  | nil => rfl
  | cons _ _ ih => simp [ih]
theorem isM_put (s : Sl) (d : D) : (s.put d).isM = s.isM := by cases s <;> rfl
theorem d_put (s : Sl) (d : D) : (s.put d).d = d := by cases s <;> rfl
/-- behind a call: the caller's slots -/
theorem call_back {K : Frag} {G H G' H' : Hp} {ρ ρc ρc' : Env} {σ : St} {ivs : List IV} {vs : List V} (st : St0 K G H ρ σ) (nd : (slots ivs).Nodup) (mk : mkArgs ρ ivs = some ρc) (r : Paired (fun iv v => IvOk K G ρ σ iv v) ivs vs)
    (s : Stp G H G' H' (Ow ρc (vs.map some))) (st' : St0 K G' H' ρc' (vs.map some)) (sh : Sh ρc ρc') :
    Stp G H G' H' (Ow ρ σ) ∧ St0 K G' H' (pb ivs ρc' 0 ρ) σ ∧ Sh ρ (pb ivs ρc' 0 ρ) := by
  obtain ⟨hl, _, h3, h4⟩ := mkArgs_get st mk r
  have ow : ∀ a, Ow ρc (vs.map some) a → Ow ρ σ a := by
    rintro a ⟨p, c, e, m, q⟩
    obtain ⟨v, e1, ok, k⟩ := h3 p c e
    obtain ⟨j, t, z1, z2, z3, z4⟩ := k m
    have ev : v = .ref a := by simpa [e1] using q
    subst ev
    exact ⟨j, t, z2, z3, z4⟩
  have sh2 : Sh ρ (pb ivs ρc' 0 ρ) := (pb_sh ivs ρc' ρ 0).symm
  refine ⟨⟨s.gg, s.nf, fun a o e n => s.fr a o e fun z => n (ow a z), s.tr⟩, ⟨st'.gh, by rw [pb_len]; exact st.len, ?_, ?_⟩, sh2⟩
  · intro j t e
    rw [pb_get, Nat.zero_add] at e
    cases e0 : ρ[j]? with
    | none => rw [e0] at e; cases e
    | some o =>
      rw [e0] at e
      simp only [Option.map_some, Option.some.injEq] at e
      cases o with
      | none =>
        unfold pbAt at e
        cases e
      | some t0 =>
        obtain ⟨v, ev, ok⟩ := st.slot j t0 e0
        refine ⟨v, ev, ?_⟩
        unfold pbAt at e
        cases q : posOf ivs j with
        | none =>
          rw [q] at e
          simp only [Option.some.injEq] at e
          subst e
          cases m : t0.isM with
          | false =>
            cases t0 with
            | dat d => exact Rp.mono s.gg d v ok
            | own d => cases m
            | bor d => cases m
          | true =>
            obtain ⟨a, rfl, oa⟩ := ok.m m
            refine SlOk.of_m m (oa.step s.gg (s.nf a oa.there oa.1) fun o e => s.fr a o e ?_)
            rintro ⟨p, c, z1, z2, z3⟩
            obtain ⟨w, y1, y2, y3⟩ := h3 p c z1
            obtain ⟨i, t, x1, x2, x3, x4⟩ := y3 z2
            have ew : w = .ref a := by simpa [y1] using z3
            subst ew
            have : i = j := st.dis i j t t0 a x2 e0 x3 m x4 ev
            subst this
            exact posOf_none q x1
        | some p =>
          have x1 := posOf_some q
          obtain ⟨c, w, y1, y2, y3, y4⟩ := h4 p j x1
          obtain ⟨c', y1', y2'⟩ := sh.m y1 y2
          rw [q] at e
          simp only [y1', Option.some.injEq] at e
          subst e
          obtain ⟨w', z1, z2⟩ := st'.slot p c' y1'
          have ew : w' = w := by simpa [y3] using z1.symm
          subst ew
          have evw : v = w' := by rw [ev] at y4; cases y4; rfl
          subst evw
          obtain ⟨a, rfl, oa⟩ := z2.m y2'
          have mt : t0.isM = true := by
            obtain ⟨u, w2, z4⟩ : ∃ (t : Sl) (v : V), ρ[j]? = some (some t) ∧ t.isM = true := by
              obtain ⟨w3, y5, y6, y7⟩ := h3 p c y1
              obtain ⟨i, t, x5, x6, x7, x8⟩ := y7 y2
              rw [x1] at x5
              cases x5
              exact ⟨t, w3, x6, x7⟩
            rw [e0] at z4
            obtain ⟨z4, z5⟩ := z4
            cases z4
            exact z5
          refine SlOk.of_m (by rw [isM_put]; exact mt) ?_
          rw [d_put]
          exact oa
  · intro i j t u a e1 e2 m1 m2 q1 q2
    obtain ⟨t', f1, n1⟩ := sh2.symm.m e1 m1
    obtain ⟨u', f2, n2⟩ := sh2.symm.m e2 m2
    exact st.dis i j t' u' a f1 f2 n1 n2 q1 q2
theorem ok_call {C : Cc} {n : Nat} {f : M D} {t : TA} {mas : M (List IV)} (oa : MOk C (RIvs C.K) t mas) : MOk C (RIv C.K) (tCall (spD C.K C.mg n f) [] C.E t) (dCall n f mas) := by
  intro G H ρ σ Q st h
  show t σ H fun vs H1 => spD C.K C.mg n f (vs ++ []) H1 Q C.E
  refine bindT oa st h fun ivs ρ1 vs G1 H1 s1 st1 sh1 r1 h1 => ?_
  rw [List.append_nil]
  split at h1
  · rename_i hc
    split at h1
    · exact h1.elim
    · rename_i ρc mk
      obtain ⟨hl, ha, h3, h4⟩ := mkArgs_get st1 mk r1
      refine ⟨by rw [← paired_len r1]; exact hc.2, G1, ρc, ⟨st1.gh, by simp [hl], fun p s e => ?_, fun i j s t a e1 e2 m1 m2 q1 q2 => ?_⟩, ha, ?_⟩
      · obtain ⟨v, e1, e2, _⟩ := h3 p s e
        exact ⟨v, by simp [e1], e2⟩
      · obtain ⟨v, x1, x2, x3⟩ := h3 i s e1
        obtain ⟨w, y1, y2, y3⟩ := h3 j t e2
        obtain ⟨i', s', z1, z2, z3, z4⟩ := x3 m1
        obtain ⟨j', t', u1, u2, u3, u4⟩ := y3 m2
        have ev : v = .ref a := by simpa [x1] using q1
        have ew : w = .ref a := by simpa [y1] using q2
        subst ev
        rw [ew] at u4
        have : i' = j' := st1.dis i' j' s' t' a z2 u2 z3 u3 z4 u4
        subst this
        exact slots_nd hc.1 z1 u1
      · cases e : f ρc with
        | un => rw [e] at h1; exact h1.elim
        | ok d ρc' =>
          rw [e] at h1
          intro v G2 H2 s2 st2 sh2 rv
          obtain ⟨a1, a2, a3⟩ := call_back st1 hc.1 mk r1 s2 st2 sh2
          exact h1 v G2 H2 a1 a2 a3 rv
        | exc x ρc' =>
          rw [e] at h1
          intro c dx G2 H2 s2 st2 sh2 rv
          obtain ⟨a1, a2, a3⟩ := call_back st1 hc.1 mk r1 s2 st2 sh2
          exact h1 c dx G2 H2 a1 a2 a3 rv
  · exact h1.elim
section
variable {C : Cc} {X : Cx} {a b c e : Expr} {es : List Expr} {pos : Pos} {ma mb mc me : M IV} {mas : M (List IV)} {ta tb tc te : TE} {tas : TA} {tt : TT}
theorem ej_call {n : Nat} {f : M D} (hp : PA X es tas → PE X e (tCall (spD C.K C.mg n f) [] C.E tas)) (ha : AJ C X es tas mas) : EJ C X e (tCall (spD C.K C.mg n f) [] C.E tas) (dCall n f mas) :=
  ⟨hp ha.1, ok_call ha.2⟩
end
end DL

/-! D3: targets, what is walked, comprehensions. -/
namespace DL
open PySem L2

/-! ### targets -/
structure PatRel (ts : List Nat) (ρ : Env) (σ : St) (ρ' : Env) (σ' : St) : Prop where
  len : ρ'.length = ρ.length
  lens : σ'.length = σ.length
  out : ∀ i, i ∉ ts → ρ'[i]? = ρ[i]? ∧ σ'[i]? = σ[i]?
  inn : ∀ i, i ∈ ts → (∃ d, ρ'[i]? = some (some (Sl.dat d))) ∧ ¬ ∃ d, ρ[i]? = some (some (Sl.bor d))
def GOk (K : Frag) (g : TG) (ts : List Nat) (pat : D → M Unit) : Prop := ∀ (G H : Hp) (ρ : Env) (σ : St) (d : D) (v : V) (ρ' : Env) (Q : St → Hp → Prop), St0 K G H ρ σ → Rp K G d v → pat d ρ = .ok () ρ' →
  (∀ σ', St0 K G H ρ' σ' → PatRel ts ρ σ ρ' σ' → Q σ' H) → g v σ H Q
structure GsOk (K : Frag) (n : Nat) (g : TGs) (ts : List Nat) (pat : List D → M Unit) : Prop where
  len : ∀ l ρ ρ', pat l ρ = .ok () ρ' → l.length = n
  run : ∀ (G H : Hp) (ρ : Env) (σ : St) (l : List D) (vs : List V) (ρ' : Env) (Q : St → Hp → Prop), St0 K G H ρ σ → Rps K G l vs → pat l ρ = .ok () ρ' → (∀ σ', St0 K G H ρ' σ' → PatRel ts ρ σ ρ' σ' → Q σ' H) → g vs σ H Q
def GJ (C : Cc) (X : Cx) (tg : Expr) (g : TG) (ts : List Nat) (pat : D → M Unit) : Prop := PG X tg g ∧ GOk C.K g ts pat
def GsJ (C : Cc) (X : Cx) (n : Nat) (tg : List Expr) (g : TGs) (ts : List Nat) (pat : List D → M Unit) : Prop := PGs X tg g ∧ GsOk C.K n g ts pat
def isBor : Option (Option Sl) → Bool
  | some (some (.bor _)) => true
  | none => true
  | _ => false
def dPut (i : Nat) (s : Sl) : M Unit := fun ρ => if isBor ρ[i]? = true then .un else .ok () (ρ.set i (some s))
def patNm (i : Nat) : D → M Unit := fun d => dPut i (.dat d)
theorem isBor_no {ρ : Env} {i : Nat} (h : ¬ isBor ρ[i]? = true) : i < ρ.length ∧ ¬ ∃ d, ρ[i]? = some (some (Sl.bor d)) := by
  constructor
  · cases e : ρ[i]? with
    | none => rw [e] at h; exact (h rfl).elim
    | some o => exact (List.getElem?_eq_some_iff.mp e).1
  · rintro ⟨d, e⟩
    rw [e] at h
    exact h rfl
theorem St0.put {K : Frag} {G H : Hp} {ρ : Env} {σ : St} {i : Nat} {d : D} {v : V} (st : St0 K G H ρ σ) (hi : i < ρ.length) (r : Rp K G d v) : St0 K G H (ρ.set i (some (.dat d))) (σ.set i (some v)) := by
  have hi' : i < σ.length := by rw [← st.len]; exact hi
  refine ⟨st.gh, by simp [st.len], fun j s e => ?_, fun j k s t a e1 e2 m1 m2 q1 q2 => ?_⟩
  · by_cases hj : j = i
    · subst hj
      rw [List.getElem?_set_self hi] at e
      cases e
      exact ⟨v, by rw [List.getElem?_set_self hi'], r⟩
    · rw [List.getElem?_set_ne (Ne.symm hj)] at e
      rw [List.getElem?_set_ne (Ne.symm hj)]
      exact st.slot j s e
  · have hj : j ≠ i := by
      rintro rfl
      rw [List.getElem?_set_self hi] at e1
      cases e1; cases m1
    have hk : k ≠ i := by
      rintro rfl
      rw [List.getElem?_set_self hi] at e2
      cases e2; cases m2
    rw [List.getElem?_set_ne (Ne.symm hj)] at e1 q1
    rw [List.getElem?_set_ne (Ne.symm hk)] at e2 q2
    exact st.dis j k s t a e1 e2 m1 m2 q1 q2
theorem PatRel.put {ρ : Env} {σ : St} {i : Nat} {d : D} {v : V} (hi : i < ρ.length) (hb : ¬ ∃ d, ρ[i]? = some (some (Sl.bor d))) : PatRel [i] ρ σ (ρ.set i (some (.dat d))) (σ.set i (some v)) := by
  refine ⟨by simp, by simp, fun j hj => ?_, fun j hj => ?_⟩
  · have hj : j ≠ i := by simpa using hj
    rw [List.getElem?_set_ne (Ne.symm hj), List.getElem?_set_ne (Ne.symm hj)]
    exact ⟨rfl, rfl⟩
  · have hj : j = i := by simpa using hj
    subst hj
    exact ⟨⟨d, by rw [List.getElem?_set_self hi]⟩, hb⟩
theorem ok_gname {K : Frag} (i : Nat) : GOk K (gName i) [i] (patNm i) := by
  intro G H ρ σ d v ρ' Q st r h q
  unfold patNm dPut at h
  split at h
  · cases h
  · rename_i hb
    obtain ⟨h1, h2⟩ := isBor_no hb
    cases h
    exact q _ (st.put h1 r) (PatRel.put h1 h2)
def patNil : List D → M Unit
  | [] => .pure ()
  | _ => .un
def patCons (p : D → M Unit) (ps : List D → M Unit) : List D → M Unit
  | d :: l => .bind (p d) fun _ => ps l
  | _ => .un
def patTup (ps : List D → M Unit) : D → M Unit
  | .tuple l => ps l
  | _ => .un
theorem ok_gnil {K : Frag} : GsOk K 0 gNil [] patNil := by
  refine ⟨fun l ρ ρ' h => ?_, fun G H ρ σ l vs ρ' Q st r h q => ?_⟩
  · cases l with
    | nil => rfl
    | cons _ _ => cases h
  · cases l with
    | cons _ _ => cases h
    | nil =>
      simp only [Rps] at r
      cases h
      exact ⟨r, q σ st ⟨rfl, rfl, fun _ _ => ⟨rfl, rfl⟩, fun _ z => by cases z⟩⟩
theorem bind_ok {α β : Type} {m : M α} {f : α → M β} {ρ ρ' : Env} {b : β} (h : M.bind m f ρ = .ok b ρ') : ∃ a ρ1, m ρ = .ok a ρ1 ∧ f a ρ1 = .ok b ρ' := by
  unfold M.bind at h
  cases e : m ρ with
  | un => rw [e] at h; cases h
  | exc x ρ1 => rw [e] at h; cases h
  | ok a ρ1 => rw [e] at h; exact ⟨a, ρ1, rfl, h⟩
theorem PatRel.trans {ts us : List Nat} {ρ ρ1 ρ2 : Env} {σ σ1 σ2 : St} (a : PatRel ts ρ σ ρ1 σ1) (b : PatRel us ρ1 σ1 ρ2 σ2) : PatRel (ts ++ us) ρ σ ρ2 σ2 := by
  refine ⟨b.len.trans a.len, b.lens.trans a.lens, fun i hi => ?_, fun i hi => ?_⟩
  · have h1 : i ∉ ts := fun z => hi (List.mem_append_left _ z)
    have h2 : i ∉ us := fun z => hi (List.mem_append_right _ z)
    exact ⟨(b.out i h2).1.trans (a.out i h1).1, (b.out i h2).2.trans (a.out i h1).2⟩
  · by_cases hu : i ∈ us
    · refine ⟨(b.inn i hu).1, ?_⟩
      by_cases ht : i ∈ ts
      · exact (a.inn i ht).2
      · rw [← (a.out i ht).1]
        exact (b.inn i hu).2
    · have ht : i ∈ ts := (List.mem_append.mp hi).resolve_right hu
      rw [(b.out i hu).1]
      exact a.inn i ht
theorem ok_gcons {K : Frag} {n : Nat} {g : TG} {gs : TGs} {ts us : List Nat} {p : D → M Unit} {ps : List D → M Unit} (h1 : GOk K g ts p) (h2 : GsOk K n gs us ps) : GsOk K (n + 1) (gCons g gs) (ts ++ us) (patCons p ps) := by
  refine ⟨fun l ρ ρ' h => ?_, fun G H ρ σ l vs ρ' Q st r h q => ?_⟩
  · cases l with
    | nil => cases h
    | cons d l =>
      obtain ⟨_, ρ1, _, e⟩ := bind_ok h
      rw [List.length_cons, h2.len l ρ1 ρ' e]
  · cases l with
    | nil => cases h
    | cons d l =>
      obtain ⟨⟨⟩, ρ1, e1, e2⟩ := bind_ok h
      simp only [Rps] at r
      obtain ⟨v, rv, rfl, r1, r2⟩ := r
      exact ⟨v, rv, rfl, h1 G H ρ σ d v ρ1 _ st r1 e1 fun σ1 st1 k1 => h2.run G H ρ1 σ1 l rv ρ' _ st1 r2 e2 fun σ2 st2 k2 => q σ2 st2 (k1.trans k2)⟩
theorem ok_gtup {K : Frag} {n : Nat} {gs : TGs} {ts : List Nat} {ps : List D → M Unit} (h : GsOk K n gs ts ps) : GOk K (gTup K n gs) ts (patTup ps) := by
  intro G H ρ σ d v ρ' Q st r e q
  cases d with
  | tuple l =>
    simp only [Rp] at r
    obtain ⟨a, vs, rfl, s, r⟩ := r
    exact ⟨a, vs, rfl, tq st.gh s, by rw [← r.length]; exact h.len l ρ ρ' e, h.run G H ρ σ l vs ρ' Q st r e q⟩
  | _ => cases e
section
variable {C : Cc} {X : Cx} {tg : Expr} {tgs : List Expr} {pos : Pos} {g : TG} {gs : TGs} {ts us : List Nat} {p : D → M Unit} {ps : List D → M Unit} {n : Nat}
theorem gj_name (i : Nat) {x : Str} (h : PG X (.Name x pos) (gName i)) : GJ C X (.Name x pos) (gName i) [i] (patNm i) := ⟨h, ok_gname i⟩
theorem gsj_nil : GsJ C X 0 [] gNil [] patNil := ⟨pgs_nil, ok_gnil⟩
theorem gsj_cons (h1 : GJ C X tg g ts p) (h2 : GsJ C X n tgs gs us ps) (hs : (assignEach (tg :: tgs) X.env).map (·.2) = assign tg X.env :: (assignEach tgs X.env).map (·.2)) : GsJ C X (n + 1) (tg :: tgs) (gCons g gs) (ts ++ us) (patCons p ps) :=
  ⟨pgs_cons h1.1 h2.1 hs, ok_gcons h1.2 h2.2⟩
theorem gj_tup {k : Nat} (h : GsJ C X n tgs gs ts ps) (hK : X.K = C.K) (hc : X.calm = true) (hn : (assignEach tgs X.env).length = n) (hst : (assignEach tgs X.env).findIdx? (·.1) = none) : GJ C X (.Tuple tgs k pos) (gTup C.K n gs) ts (patTup ps) :=
  ⟨by rw [← hK]; exact pg_tup hc h.1 hn hst, ok_gtup h.2⟩
end

/-! ### what is walked -/
structure Wk (K : Frag) (G1 : Hp) (J : It) (ds : List D) : Prop where
  step : ∀ (G H : Hp) (i : Nat) (d : D), ds[i]? = some d → Same G1 G → Same G H → J.go i H ∧ ∀ x H', J.yld i H x H' → ∃ G', Gro G H G' H' ∧ Rp K G' d x
  fin : ∀ (G H : Hp), Same G1 G → Same G H → J.stop ds.length H
abbrev RW (K : Frag) : Rel (List D) It := fun G _ _ _ ds J => Wk K G J ds
def IJ (C : Cc) (X : Cx) (tg iter : Expr) (wi : TI) (mi : M (List D)) : Prop := PI X tg iter wi ∧ MOk C (RW C.K) wi mi
def seqD : D → Option (List D)
  | .list l => some l
  | .tuple l => some l
  | _ => none
def dSq (me : M IV) : M (List D) := .bind me fun iv => .bind (.keep iv) fun d => .opt (seqD d)
def iSeq (K : Frag) (te : TE) : TI := fun σ H R => iList K te σ H R ∨ iTup K te σ H R
theorem wk_list {K : Frag} {G : Hp} {a : Addr} {l : List D} {vs : List V} (e : G a = some (.lst vs)) (r : Rps K G l vs) : Wk K G (Itl K a) l := by
  have sq : ∀ {G' H' : Hp}, Same G G' → Same G' H' → SqL K H' a vs := fun h1 h2 => .inl (.inl (h2 _ _ (h1 _ _ e)))
  have uniq : ∀ {G' H' : Hp} {xs : List V}, Same G G' → Same G' H' → SqL K H' a xs → True := fun _ _ _ => trivial
  refine ⟨fun G' H' i d ed h1 h2 => ?_, fun G' H' h1 h2 => ⟨vs, sq h1 h2, by rw [r.length]; exact Nat.le_refl _⟩⟩
  obtain ⟨v, ev, rv⟩ := r.get ed
  refine ⟨⟨vs, v, sq h1 h2, ev⟩, fun x H2 ⟨e2, q⟩ => ?_⟩
  subst e2
  have z := q vs (sq h1 h2)
  rw [ev] at z
  cases z
  exact ⟨G', Gro.refl h2, Rp.mono h1 _ _ rv⟩
theorem wk_tup {K : Frag} {G : Hp} {a : Addr} {l : List D} {vs : List V} (e : TupF G a vs) (r : Rps K G l vs) : Wk K G (Itt K a) l := by
  have sq : ∀ {G' H' : Hp}, Same G G' → Same G' H' → SqT K H' a vs := fun h1 h2 => tq h2 (e.mono h1)
  refine ⟨fun G' H' i d ed h1 h2 => ?_, fun G' H' h1 h2 => ⟨vs, sq h1 h2, by rw [r.length]; exact Nat.le_refl _⟩⟩
  obtain ⟨v, ev, rv⟩ := r.get ed
  refine ⟨⟨vs, v, sq h1 h2, ev⟩, fun x H2 ⟨e2, q⟩ => ?_⟩
  subst e2
  have z := q vs (sq h1 h2)
  rw [ev] at z
  cases z
  exact ⟨G', Gro.refl h2, Rp.mono h1 _ _ rv⟩
theorem wk_rg {K : Frag} {G : Hp} {a : Int} {n : Nat} : Wk K G (Itr a n) ((List.range n).map fun i => .int (a + (i : Nat))) := by
  refine ⟨fun G' H' i d ed h1 h2 => ?_, fun G' H' h1 h2 => ?_⟩
  · have hi : i < n := by
      have := (List.getElem?_eq_some_iff.mp ed).1
      simpa using this
    rw [List.getElem?_map, List.getElem?_range hi] at ed
    simp only [Option.map_some, Option.some.injEq] at ed
    subst ed
    refine ⟨hi, fun x H2 ⟨e2, e3⟩ => ?_⟩
    subst e2 e3
    exact ⟨G', Gro.refl h2, by simp only [Rp]⟩
  · show n ≤ _
    simp
theorem PI.or {X : Cx} {tg e : Expr} {w1 w2 : TI} (h1 : PI X tg e w1) (h2 : PI X tg e w2) : PI X tg e (fun σ H R => w1 σ H R ∨ w2 σ H R) := by
  refine ⟨fun pins s σ H R I h => ?_⟩
  rcases h with h | h
  · exact h1.run pins s σ H R I h
  · exact h2.run pins s σ H R I h
theorem ok_sq {C : Cc} {te : TE} {me : M IV} (oe : MOk C (RIv C.K) te me) : MOk C (RW C.K) (iSeq C.K te) (dSq me) := by
  intro G H ρ σ R st h
  unfold dSq M.bind at h
  cases e : me ρ with
  | un => rw [e] at h; exact h.elim
  | exc x ρ1 =>
    rw [e] at h
    refine .inl (oe G H ρ σ _ st ?_)
    rw [e]
    exact h
  | ok iv ρ1 =>
    rw [e] at h
    cases iv with
    | sl i => exact h.elim
    | val d =>
      cases d <;> try (exact h.elim)
      · rename_i l
        refine .inl (oe G H ρ σ _ st ?_)
        rw [e]
        intro v G1 H1 s1 st1 sh1 r1
        have r1 : Rp C.K G1 (.list l) v := r1
        simp only [Rp] at r1
        obtain ⟨a, vs, rfl, ea, r⟩ := r1
        exact ⟨a, rfl, ⟨vs, .inl (.inl (st1.gh _ _ ea))⟩, h (Itl C.K a) G1 H1 s1 st1 sh1 (wk_list ea r)⟩
      · rename_i l
        refine .inr (oe G H ρ σ _ st ?_)
        rw [e]
        intro v G1 H1 s1 st1 sh1 r1
        have r1 : Rp C.K G1 (.tuple l) v := r1
        simp only [Rp] at r1
        obtain ⟨a, vs, rfl, ea, r⟩ := r1
        exact ⟨a, rfl, ⟨vs, tq st1.gh ea⟩, h (Itt C.K a) G1 H1 s1 st1 sh1 (wk_tup ea r)⟩
theorem Paired.two {α β : Type} {R : α → β → Prop} {a b : α} {bs : List β} (h : Paired R [a, b] bs) : ∃ x y, bs = [x, y] ∧ R a x ∧ R b y := by
  cases h with
  | cons r t => cases t with
    | cons r2 t2 => cases t2; exact ⟨_, _, rfl, r, r2⟩
def rgIt1 : List D → Option (List D)
  | [.int n] => if -100000 ≤ n ∧ n ≤ 100000 then some (rgD 0 n) else none
  | _ => none
def rgIt2 : List D → Option (List D)
  | [.int a, .int b] => if -100000 ≤ a ∧ a ≤ 100000 ∧ -100000 ≤ b ∧ b ≤ 100000 then some (rgD a b) else none
  | _ => none
def dRg1 (mas : M (List IV)) : M (List D) := .bind mas fun l => .bind (nows l) fun ds => .opt (rgIt1 ds)
def dRg2 (mas : M (List IV)) : M (List D) := .bind mas fun l => .bind (nows l) fun ds => .opt (rgIt2 ds)
theorem ok_rg1 {C : Cc} {ta : TA} {mas : M (List IV)} (oa : MOk C (RIvs C.K) ta mas) : MOk C (RW C.K) (iRng1 ta) (dRg1 mas) := by
  intro G H ρ σ R st h
  show ta σ H _
  refine bindT oa st h fun l ρ1 vs G1 H1 s1 st1 sh1 r1 h1 => ?_
  obtain ⟨ds, rd, h2⟩ := post_nows st1 r1 h1
  unfold rgIt1 at h2
  split at h2
  · rename_i n
    split at h2
    · rename_i hn
      obtain ⟨x, rfl, rx⟩ := Paired.one rd
      simp only [Rpt] at rx
      subst rx
      refine ⟨n, rfl, by omega, by omega, ?_⟩
      refine h2 _ _ _ Stp.refl st1 (Sh.refl _) ?_
      unfold rgD
      rw [Int.sub_zero]
      exact wk_rg
    · exact h2.elim
  · exact h2.elim
theorem ok_rg2 {C : Cc} {ta : TA} {mas : M (List IV)} (oa : MOk C (RIvs C.K) ta mas) : MOk C (RW C.K) (iRng2 ta) (dRg2 mas) := by
  intro G H ρ σ R st h
  show ta σ H _
  refine bindT oa st h fun l ρ1 vs G1 H1 s1 st1 sh1 r1 h1 => ?_
  obtain ⟨ds, rd, h2⟩ := post_nows st1 r1 h1
  unfold rgIt2 at h2
  split at h2
  · rename_i a b
    split at h2
    · rename_i hn
      obtain ⟨x, y, rfl, rx, ry⟩ := Paired.two rd
      simp only [Rpt] at rx ry
      subst rx ry
      refine ⟨a, b, rfl, ⟨by omega, by omega, by omega, by omega⟩, ?_⟩
      refine h2 _ _ _ Stp.refl st1 (Sh.refl _) ?_
      unfold rgD
      exact wk_rg
    · exact h2.elim
  · exact h2.elim
section
variable {C : Cc} {X : Cx} {tg a e : Expr} {es : List Expr} {me : M IV} {mas : M (List IV)} {te : TE} {tas : TA}
theorem ij_seq (h : EJ C X e te me) (hK : X.K = C.K) : IJ C X tg e (iSeq C.K te) (dSq me) :=
  ⟨by rw [← hK]; exact PI.or (pi_list h.1) (pi_tup h.1), ok_sq h.2⟩
theorem ij_rg1 (hp : PA X es tas → PI X tg e (iRng1 tas)) (h : AJ C X es tas mas) : IJ C X tg e (iRng1 tas) (dRg1 mas) := ⟨hp h.1, ok_rg1 h.2⟩
theorem ij_rg2 (hp : PA X es tas → PI X tg e (iRng2 tas)) (h : AJ C X es tas mas) : IJ C X tg e (iRng2 tas) (dRg2 mas) := ⟨hp h.1, ok_rg2 h.2⟩
end

/-! ### what is new and nobody else's -/
abbrev RF (K : Frag) (H0 : Hp) : Rel D V := fun G H _ _ d v => ∃ a, v = .ref a ∧ H0 a = none ∧ OwnAt K G H d a
def FOk (C : Cc) (t : TE) (m : M D) : Prop := ∀ (G H : Hp) (ρ : Env) (σ : St) (Q : VK), St0 C.K G H ρ σ → Post C (RF C.K H) G H ρ σ (m ρ) Q → t σ H Q
def FJ (C : Cc) (X : Cx) (e : Expr) (t : TE) (m : M D) : Prop := PE X e t ∧ FOk C t m
theorem upd_self {G : Hp} {a : Addr} {o : HO} (h : G a = some o) : upd G a o = G := by
  funext b
  unfold upd
  split
  · rename_i e; subst e; exact h.symm
  · rfl
/-- an own thing is frozen -/
theorem frozen {K : Frag} {G H : Hp} {d : D} {a : Addr} (gh : Same G H) (h : OwnAt K G H d a) : ∃ o, H a = some o ∧ Same G (upd G a o) ∧ Same (upd G a o) H ∧ Rp K (upd G a o) d (.ref a) := by
  obtain ⟨o, e⟩ := some_of_ne h.there
  have gg : Same G (upd G a o) := fun b u q => by rw [upd_ne (ne_of_none q h.1)]; exact q
  refine ⟨o, e, gg, fun b u q => ?_, ?_⟩
  · by_cases hb : b = a
    · subst hb; rw [upd_same] at q; cases q; exact e
    · rw [upd_ne hb] at q; exact gh b u q
  · obtain ⟨hn, h⟩ := h
    cases d with
    | list l =>
      obtain ⟨vs, e1, r⟩ := h
      rw [e] at e1
      cases e1
      simp only [Rp]
      exact ⟨a, vs, rfl, upd_same, r.mono gg⟩
    | dict l =>
      simp only [Rp]
      refine ⟨a, rfl, ?_⟩
      rcases h with ⟨kvs, e1, r⟩ | ⟨kvs, e1, r⟩
      · rw [e] at e1; cases e1
        exact .inl ⟨kvs, upd_same, r.mono gg⟩
      · rw [e] at e1; cases e1
        exact .inr (.inl ⟨kvs, upd_same, r.mono gg⟩)
    | _ => exact h.elim
/-- something that is no slot's is frozen: the slots stay -/
theorem St0.freeze {K : Frag} {G H : Hp} {ρ : Env} {σ : St} {a : Addr} {o : HO} (st : St0 K G H ρ σ) (gg : Same G (upd G a o)) (gh : Same (upd G a o) H) (n : ¬ Ow ρ σ a) : St0 K (upd G a o) H ρ σ := by
  refine ⟨gh, st.len, fun i s e => ?_, st.dis⟩
  obtain ⟨v, ev, ok⟩ := st.slot i s e
  refine ⟨v, ev, ?_⟩
  cases m : s.isM with
  | false =>
    cases s with
    | dat d => exact Rp.mono gg d v ok
    | own d => cases m
    | bor d => cases m
  | true =>
    obtain ⟨b, rfl, oa⟩ := ok.m m
    have hb : b ≠ a := fun z => n ⟨i, s, e, m, by rw [← z]; exact ev⟩
    exact SlOk.of_m m (oa.step gg (by rw [upd_ne hb]; exact oa.1) fun _ q => q)
theorem Ow.there {K : Frag} {G H : Hp} {ρ : Env} {σ : St} {a : Addr} (st : St0 K G H ρ σ) (h : Ow ρ σ a) : H a ≠ none := by
  obtain ⟨i, s, e, m, q⟩ := h
  obtain ⟨v, ev, ok⟩ := st.slot i s e
  obtain ⟨b, rfl, oa⟩ := ok.m m
  rw [q] at ev
  cases ev
  exact oa.there
def dF (m : M D) : M IV := .bind m fun d => .pure (.val d)
theorem FOk.mok {C : Cc} {t : TE} {m : M D} (h : FOk C t m) : MOk C (RIv C.K) t (dF m) := by
  intro G H ρ σ Q st q
  refine h G H ρ σ Q st ?_
  unfold dF M.bind at q
  cases e : m ρ with
  | un => rw [e] at q; exact q.elim
  | exc x ρ1 => rw [e] at q; exact q
  | ok d ρ1 =>
    rw [e] at q
    intro v G1 H1 s1 st1 sh1 ⟨a, ev, hn, oa⟩
    subst ev
    obtain ⟨o, eo, gg, gh, rp⟩ := frozen st1.gh oa
    have hno : ¬ Ow ρ1 σ a := fun z => Ow.there st (sh1.symm.ow z) hn
    refine q (.ref a) (upd G1 a o) H1 ⟨s1.gg.trans gg, fun b hb g => ?_, s1.fr, s1.tr⟩ (st1.freeze gg gh hno) sh1 rp
    have hba : b ≠ a := fun z => by subst z; exact hb hn
    rw [upd_ne hba]
    exact s1.nf b hb g
theorem FJ.ej {C : Cc} {X : Cx} {e : Expr} {t : TE} {m : M D} (h : FJ C X e t m) : EJ C X e t (dF m) := ⟨h.1, h.2.mok⟩
end DL

/-! D4: list comprehensions. -/
namespace DL
open PySem L2

def wipeE : Env → List Nat → Env
  | ρ, [] => ρ
  | ρ, v :: vs => (wipeE ρ vs).set v none
def restE (ρ ρ0 : Env) : List Nat → Env
  | [] => ρ
  | v :: vs => match ρ0[v]? with
    | some s => (restE ρ ρ0 vs).set v s
    | none => restE ρ ρ0 vs
def cleanV (ρ : Env) (vs : List Nat) : Bool := vs.all fun v => match ρ[v]? with
  | some (some s) => !s.isM
  | some none => true
  | none => false
theorem wipeE_len (ρ : Env) : ∀ vs : List Nat, (wipeE ρ vs).length = ρ.length
  | [] => rfl
  | v :: vs => by unfold wipeE; rw [List.length_set, wipeE_len ρ vs]
theorem wipeE_get (ρ : Env) : ∀ (vs : List Nat) (i : Nat), (i ∉ vs → (wipeE ρ vs)[i]? = ρ[i]?) ∧ (i ∈ vs → ∀ s, (wipeE ρ vs)[i]? ≠ some (some s))
  | [], i => ⟨fun _ => rfl, fun h => by cases h⟩
  | v :: vs, i => by
    obtain ⟨h1, h2⟩ := wipeE_get ρ vs i
    unfold wipeE
    by_cases e : v = i
    · subst e
      refine ⟨fun h => (h List.mem_cons_self).elim, fun _ s z => ?_⟩
      rw [List.getElem?_set] at z
      split at z
      · split at z
        · cases z
        · cases z
      · rename_i q; exact q rfl
    · rw [List.getElem?_set_ne e]
      exact ⟨fun h => h1 fun z => h (List.mem_cons_of_mem _ z), fun h => h2 ((List.mem_cons.mp h).resolve_left fun z => e z.symm)⟩
theorem wipe_get (σ : St) : ∀ (vs : List Nat) (i : Nat), i ∉ vs → (wipe σ vs)[i]? = σ[i]?
  | [], i, _ => rfl
  | v :: vs, i, h => by
    unfold wipe
    rw [List.getElem?_set_ne (fun e => h (by rw [e]; exact List.mem_cons_self))]
    exact wipe_get σ vs i fun z => h (List.mem_cons_of_mem _ z)
theorem wipe_in (σ : St) : ∀ (vs : List Nat) (i : Nat), i ∈ vs → i < σ.length → (wipe σ vs)[i]? = some none
  | [], i, h, _ => by cases h
  | v :: vs, i, h, hl => by
    unfold wipe
    by_cases e : v = i
    · subst e
      rw [List.getElem?_set_self (by rw [wipe_length]; exact hl)]
    · rw [List.getElem?_set_ne e]
      exact wipe_in σ vs i ((List.mem_cons.mp h).resolve_left fun z => e z.symm) hl
/-- two states that are alike but for the slots vs, wiped -/
theorem wipe_eq {σ σ' : St} {vs ts : List Nat} (hl : σ'.length = σ.length) (ht : ∀ i, i ∈ ts → i ∈ vs) (h : ∀ i, i ∉ ts → σ'[i]? = (wipe σ vs)[i]?) : wipe σ' vs = wipe σ vs := by
  apply List.ext_getElem?
  intro i
  by_cases hi : i ∈ vs
  · by_cases hb : i < σ.length
    · rw [wipe_in σ vs i hi hb, wipe_in σ' vs i hi (by rw [hl]; exact hb)]
    · rw [List.getElem?_eq_none (by rw [wipe_length, hl]; omega), List.getElem?_eq_none (by rw [wipe_length]; omega)]
  · rw [wipe_get σ' vs i hi, h i fun z => hi (ht i z)]
theorem wipe_wipe (σ : St) (vs : List Nat) : wipe (wipe σ vs) vs = wipe σ vs := wipe_eq (ts := []) (by rw [wipe_length]) (fun _ z => by cases z) fun _ _ => rfl
theorem St0.wipe {K : Frag} {G H : Hp} {ρ : Env} {σ : St} (st : St0 K G H ρ σ) (vs : List Nat) : St0 K G H (wipeE ρ vs) (L2.wipe σ vs) := by
  have out : ∀ (i : Nat) (s : Sl), (wipeE ρ vs)[i]? = some (some s) → i ∉ vs ∧ ρ[i]? = some (some s) := fun i s e => by
    have h : i ∉ vs := fun z => (wipeE_get ρ vs i).2 z s e
    exact ⟨h, by rw [← (wipeE_get ρ vs i).1 h]; exact e⟩
  refine ⟨st.gh, by rw [wipeE_len, wipe_length]; exact st.len, fun i s e => ?_, fun i j s t a e1 e2 m1 m2 q1 q2 => ?_⟩
  · obtain ⟨h, e⟩ := out i s e
    rw [wipe_get σ vs i h]
    exact st.slot i s e
  · obtain ⟨h1, e1⟩ := out i s e1
    obtain ⟨h2, e2⟩ := out j t e2
    rw [wipe_get σ vs i h1] at q1
    rw [wipe_get σ vs j h2] at q2
    exact st.dis i j s t a e1 e2 m1 m2 q1 q2
theorem wipe_ow {ρ : Env} {σ : St} {vs : List Nat} {a : Addr} (h : Ow (wipeE ρ vs) (L2.wipe σ vs) a) : Ow ρ σ a := by
  obtain ⟨i, s, e, m, q⟩ := h
  have hi : i ∉ vs := fun z => (wipeE_get ρ vs i).2 z s e
  rw [(wipeE_get ρ vs i).1 hi] at e
  rw [wipe_get σ vs i hi] at q
  exact ⟨i, s, e, m, q⟩
theorem restE_len (ρ ρ0 : Env) : ∀ vs : List Nat, (restE ρ ρ0 vs).length = ρ.length
  | [] => rfl
  | v :: vs => by
    unfold restE
    split
    · rw [List.length_set, restE_len ρ ρ0 vs]
    · exact restE_len ρ ρ0 vs
theorem restE_get (ρ ρ0 : Env) (hl : ρ.length = ρ0.length) : ∀ (vs : List Nat) (i : Nat), (i ∉ vs → (restE ρ ρ0 vs)[i]? = ρ[i]?) ∧ (i ∈ vs → i < ρ0.length → (restE ρ ρ0 vs)[i]? = ρ0[i]?)
  | [], i => ⟨fun _ => rfl, fun h => by cases h⟩
  | v :: vs, i => by
    obtain ⟨h1, h2⟩ := restE_get ρ ρ0 hl vs i
    unfold restE
    by_cases e : v = i
    · subst e
      refine ⟨fun h => (h List.mem_cons_self).elim, fun _ hb => ?_⟩
      have e0 : ρ0[v]? = some ρ0[v] := List.getElem?_eq_getElem hb
      rw [e0]
      simp only
      rw [List.getElem?_set_self (by rw [restE_len, hl]; exact hb)]
    · have r1 : i ∉ v :: vs → i ∉ vs := fun h z => h (List.mem_cons_of_mem _ z)
      have r2 : i ∈ v :: vs → i ∈ vs := fun h => (List.mem_cons.mp h).resolve_left fun z => e z.symm
      split
      · rw [List.getElem?_set_ne e]
        exact ⟨fun h => h1 (r1 h), fun h hb => h2 (r2 h) hb⟩
      · exact ⟨fun h => h1 (r1 h), fun h hb => h2 (r2 h) hb⟩

def lcLoop (pat : D → M Unit) (mt : M Bool) (me : M IV) (vs : List Nat) : List D → List D → M (List D)
  | [], acc => .pure acc
  | d :: l, acc => .bind (pat d) fun _ => .bind mt fun b => if b = true then .bind me fun iv => .bind (.keep iv) fun e => fun ρ => if acc.length < LIM then lcLoop pat mt me vs l (acc ++ [e]) (wipeE ρ vs) else .un
    else fun ρ => lcLoop pat mt me vs l acc (wipeE ρ vs)
def dLc (mi : M (List D)) (pat : D → M Unit) (mt : M Bool) (me : M IV) (vs : List Nat) : M D := .bind mi fun ds => fun ρ => if cleanV ρ vs = true then match lcLoop pat mt me vs ds [] (wipeE ρ vs) with
  | .ok acc ρ' => .ok (.list acc) (restE ρ' ρ vs)
  | _ => .un else .un
abbrev C0 (C : Cc) : Cc := ⟨C.K, C.mg, E0⟩

theorem clean_get {ρ : Env} {vs : List Nat} (h : cleanV ρ vs = true) {i : Nat} (hi : i ∈ vs) : i < ρ.length ∧ ∀ s, ρ[i]? = some (some s) → s.isM = false := by
  unfold cleanV at h
  rw [List.all_eq_true] at h
  have q := h i hi
  split at q
  · rename_i s e
    exact ⟨(List.getElem?_eq_some_iff.mp e).1, fun t z => by rw [e] at z; cases z; simpa using q⟩
  · rename_i e
    exact ⟨(List.getElem?_eq_some_iff.mp e).1, fun t z => by rw [e] at z; cases z⟩
  · cases q
/-- the slots behind a comprehension: its own names are what they were -/
theorem rest_ok {K : Frag} {G1 H1 G H : Hp} {ρ1 ρt : Env} {σ : St} {vs : List Nat} (hc : cleanV ρ1 vs = true) (st1 : St0 K G1 H1 ρ1 σ) (gg : Same G1 G) (st : St0 K G H ρt (wipe σ vs)) (sh : Sh (wipeE ρ1 vs) ρt) :
    St0 K G H (restE ρt ρ1 vs) σ ∧ Sh ρ1 (restE ρt ρ1 vs) := by
  have hl : ρt.length = ρ1.length := by
    have := congrArg List.length sh
    simp only [List.length_map, wipeE_len] at this
    exact this.symm
  have sh2 : Sh ρ1 (restE ρt ρ1 vs) := by
    apply List.ext_getElem?
    intro i
    rw [List.getElem?_map, List.getElem?_map]
    by_cases hi : i ∈ vs
    · rw [(restE_get ρt ρ1 hl vs i).2 hi (clean_get hc hi).1]
    · rw [(restE_get ρt ρ1 hl vs i).1 hi, ← sh.get i, (wipeE_get ρ1 vs i).1 hi]
  refine ⟨⟨st.gh, by rw [restE_len, hl]; exact st1.len, fun i s e => ?_, fun i j s t a e1 e2 m1 m2 q1 q2 => ?_⟩, sh2⟩
  · by_cases hi : i ∈ vs
    · rw [(restE_get ρt ρ1 hl vs i).2 hi (clean_get hc hi).1] at e
      obtain ⟨v, ev, ok⟩ := st1.slot i s e
      refine ⟨v, ev, ?_⟩
      have hm := (clean_get hc hi).2 s e
      cases s with
      | dat d => exact Rp.mono gg d v ok
      | own d => cases hm
      | bor d => cases hm
    · rw [(restE_get ρt ρ1 hl vs i).1 hi] at e
      obtain ⟨v, ev, ok⟩ := st.slot i s e
      rw [wipe_get σ vs i hi] at ev
      exact ⟨v, ev, ok⟩
  · obtain ⟨s', f1, n1⟩ := sh2.symm.m e1 m1
    obtain ⟨t', f2, n2⟩ := sh2.symm.m e2 m2
    exact st1.dis i j s' t' a f1 f2 n1 n2 q1 q2
theorem ok_lc {C : Cc} {wi : TI} {g : TG} {tt : TT} {te : TE} {vs ts : List Nat} {mi : M (List D)} {pat : D → M Unit} {mt : M Bool} {me : M IV} (oi : MOk C (RW C.K) wi mi) (og : GOk C.K g ts pat) (hts : ∀ i, i ∈ ts → i ∈ vs)
    (ot : MOk (C0 C) RB tt mt) (oe : MOk (C0 C) (RIv C.K) te me) : FOk C (tLc wi g tt te vs) (dLc mi pat mt me vs) := by
  intro G H ρ σ Q st h
  show wi σ H _
  refine bindT oi st h fun ds ρ1 J G1 H1 s1 st1 sh1 wk h1 => ?_
  split at h1
  case isFalse => exact h1.elim
  rename_i hc
  cases eL : lcLoop pat mt me vs ds [] (wipeE ρ1 vs) with
  | un => rw [eL] at h1; exact h1.elim
  | exc x ρ2 => rw [eL] at h1; exact h1.elim
  | ok accF ρF =>
  rw [eL] at h1
  intro Dd hD
  have hD0 : H Dd = none := by
    cases q : H Dd with
    | none => rfl
    | some o => exact (s1.tr Dd (ne_none_of q) hD).elim
  have stw := st1.wipe vs
  have noOw : ∀ ρt, Sh (wipeE ρ1 vs) ρt → ¬ Ow ρt (wipe σ vs) Dd := fun ρt sh z => Ow.there st1 (wipe_ow (sh.symm.ow z)) hD
  let W : Nat → Hp → Prop := fun i H' => i ≤ ds.length ∧ ∃ G' ρt acc vacc, St0 C.K G' H' ρt (wipe σ vs) ∧ Stp G1 H1 G' H' (Ow ρ1 σ) ∧ H' Dd = some (.lst vacc) ∧ G' Dd = none ∧ Rps C.K G' acc vacc ∧ Sh (wipeE ρ1 vs) ρt ∧ acc.length ≤ LIM ∧
    lcLoop pat mt me vs (ds.drop i) acc ρt = .ok accF ρF
  refine ⟨fun i m H' => m = ds.length - i ∧ W i H', ⟨ds.length, by simp, Nat.zero_le _, G1, wipeE ρ1 vs, [], [], stw.gro (Gro.mine st1.gh hD _), (Gro.mine st1.gh hD _).stp, upd_same, ?_, by simp only [Rps], Sh.refl _, Nat.zero_le _, eL⟩, ?_⟩
  · cases q : G1 Dd with
    | none => rfl
    | some o => rw [st1.gh _ _ q] at hD; cases hD
  rintro i m H2 ⟨rfl, hi, G2, ρt, acc, vacc, st2, s2, hDd, gD, racc, sht, hlim, eLi⟩
  by_cases hlt : i < ds.length
  case neg =>
    have e : i = ds.length := by omega
    subst e
    refine .inl ⟨wk.fin G2 H2 s2.gg st2.gh, ?_⟩
    rw [List.drop_length] at eLi
    cases eLi
    obtain ⟨a1, a2⟩ := rest_ok hc st1 s2.gg st2 sht
    exact h1 (.ref Dd) G2 H2 s2 a1 a2 ⟨Dd, rfl, hD0, gD, vacc, hDd, racc⟩
  case pos =>
    have ed : ds[i]? = some ds[i] := List.getElem?_eq_getElem hlt
    obtain ⟨jgo, jy⟩ := wk.step G2 H2 i ds[i] ed s2.gg st2.gh
    refine .inr ⟨jgo, W (i + 1), fun H' w => ⟨ds.length - (i + 1), by omega, rfl, w⟩, fun x H3 yx => ?_⟩
    obtain ⟨G3, g3, rx⟩ := jy x H3 yx
    rw [List.drop_eq_getElem_cons hlt] at eLi
    unfold lcLoop at eLi
    obtain ⟨⟨⟩, ρ3, ep, eLi⟩ := bind_ok eLi
    obtain ⟨b, ρ4, et, eLi⟩ := bind_ok eLi
    have hD3 : H3 Dd = some (.lst vacc) := g3.hh _ _ hDd
    have gD3 : G3 Dd = none := g3.nf Dd (ne_none_of hDd) gD
    refine og G3 H3 ρt (wipe σ vs) ds[i] x ρ3 _ (st2.gro g3) rx ep fun σ3 st3 pr => ?_
    have ew : wipe σ3 vs = wipe σ vs := wipe_eq (ts := ts) (by rw [pr.lens, wipe_length]) hts fun j hj => (pr.out j hj).2
    refine ⟨ew, ?_⟩
    have noOw3 : ¬ Ow ρ3 σ3 Dd := by
      rintro ⟨j, s, z1, z2, z3⟩
      by_cases hj : j ∈ ts
      · obtain ⟨⟨d, z⟩, _⟩ := pr.inn j hj
        rw [z] at z1; cases z1; cases z2
      · rw [(pr.out j hj).1] at z1
        rw [(pr.out j hj).2] at z3
        exact noOw ρt sht ⟨j, s, z1, z2, z3⟩
    have ow3 : ∀ a, Ow ρ3 σ3 a → Ow ρ1 σ a := by
      rintro a ⟨j, s, z1, z2, z3⟩
      by_cases hj : j ∈ ts
      · obtain ⟨⟨d, z⟩, _⟩ := pr.inn j hj
        rw [z] at z1; cases z1; cases z2
      · rw [(pr.out j hj).1] at z1
        rw [(pr.out j hj).2] at z3
        exact wipe_ow (sht.symm.ow ⟨j, s, z1, z2, z3⟩)
    have s23 : Stp G1 H1 G3 H3 (Ow ρ1 σ) := s2.trans (g3.stp (ow := Ow ρ1 σ)) fun _ z => z
    -- the shape behind a turn
    have shw : ∀ ρ5, Sh ρ3 ρ5 → Sh (wipeE ρ1 vs) (wipeE ρ5 vs) := by
      intro ρ5 sh5
      have l5 : ρ5.length = (wipeE ρ1 vs).length := by
        have a := congrArg List.length sh5
        have b := congrArg List.length sht
        simp only [List.length_map] at a b
        rw [← a, pr.len, ← b]
      apply List.ext_getElem?
      intro j
      rw [List.getElem?_map, List.getElem?_map]
      by_cases hj : j ∈ vs
      · have z1 : ∀ ρ0 : Env, j < ρ0.length → ((wipeE ρ0 vs)[j]?).map kd = some 0 := fun ρ0 hb => by
          have hb' : j < (wipeE ρ0 vs).length := by rw [wipeE_len]; exact hb
          have q := (wipeE_get ρ0 vs j).2 hj
          rw [List.getElem?_eq_getElem hb'] at q ⊢
          cases r : (wipeE ρ0 vs)[j] with
          | none => rfl
          | some s => rw [r] at q; exact (q s rfl).elim
        have hb := (clean_get hc hj).1
        rw [z1 ρ1 hb, z1 ρ5 (by rw [l5, wipeE_len]; exact hb)]
      · have hjt : j ∉ ts := fun z => hj (hts j z)
        rw [(wipeE_get ρ5 vs j).1 hj, ← sh5.get j, (pr.out j hjt).1, ← sht.get j]
    refine ot G3 H3 ρ3 σ3 _ st3 ?_
    rw [et]
    intro b' G4 H4 s4 st4 sh4 eb
    cases eb
    have hD4 : H4 Dd = some (.lst vacc) := s4.fr _ _ hD3 noOw3
    have gD4 : G4 Dd = none := s4.nf Dd (ne_none_of hD3) gD3
    have s24 : Stp G1 H1 G4 H4 (Ow ρ1 σ) := s23.trans s4 ow3
    cases b with
    | false =>
      refine iteF ?_
      have eLi : lcLoop pat mt me vs (ds.drop (i + 1)) acc (wipeE ρ4 vs) = .ok accF ρF := eLi
      refine ⟨hlt, G4, wipeE ρ4 vs, acc, vacc, by rw [← ew]; exact st4.wipe vs, s24, hD4, gD4, racc.mono (g3.gg.trans s4.gg), shw _ sh4, hlim, eLi⟩
    | true =>
      refine iteT ?_
      obtain ⟨iv, ρ5, ee, eLi⟩ := bind_ok (show M.bind me (fun iv => .bind (.keep iv) fun e => fun ρ => if acc.length < LIM then lcLoop pat mt me vs (ds.drop (i + 1)) (acc ++ [e]) (wipeE ρ vs) else .un) ρ4 = .ok accF ρF from eLi)
      obtain ⟨e, ρ6, ek, eLi⟩ := bind_ok eLi
      cases iv with
      | sl j => cases ek
      | val e' =>
        cases ek
        split at eLi
        case isFalse => cases eLi
        rename_i hacc
        refine oe G4 H4 ρ4 σ3 _ st4 ?_
        rw [ee]
        intro y G5 H5 s5 st5 sh5 ry
        have noOw4 : ¬ Ow ρ4 σ3 Dd := fun z => noOw3 (sh4.symm.ow z)
        have hD5 : H5 Dd = some (.lst vacc) := s5.fr _ _ hD4 noOw4
        have gD5 : G5 Dd = none := s5.nf Dd (ne_none_of hD4) gD4
        have s25 : Stp G1 H1 G5 H5 (Ow ρ1 σ) := s24.trans s5 fun a z => ow3 a (sh4.symm.ow z)
        refine ⟨vacc, hD5, by rw [← racc.length]; exact Nat.lt_of_lt_of_le hacc lim_le, hlt, G5, wipeE ρ5 vs, acc ++ [e], vacc ++ [y], ?_, ?_, upd_same, gD5, ?_, shw _ (sh4.trans sh5), by rw [List.length_append]; exact hacc, eLi⟩
        · rw [← ew]
          have stw5 := st5.wipe vs
          refine ⟨fun a o q => ?_, stw5.len, fun j s q => ?_, stw5.dis⟩
          · rw [upd_ne (ne_of_none q gD5)]; exact stw5.gh a o q
          · obtain ⟨v, ev, ok⟩ := stw5.slot j s q
            refine ⟨v, ev, ?_⟩
            cases ms : s.isM with
            | false =>
              cases s with
              | dat d => exact ok
              | own d => cases ms
              | bor d => cases ms
            | true =>
              obtain ⟨a, rfl, oa⟩ := ok.m ms
              have ha : a ≠ Dd := fun z => noOw4 (sh5.symm.ow (wipe_ow ⟨j, s, q, ms, by rw [← z]; exact ev⟩))
              exact SlOk.of_m ms (oa.step (Same.refl _) oa.1 fun o q => by rw [upd_ne ha]; exact q)
        · refine ⟨s25.gg, s25.nf, fun a o q n => ?_, fun a q => ?_⟩
          · rw [upd_ne (ne_of_none q hD)]; exact s25.fr a o q n
          · by_cases ha : a = Dd
            · subst ha; exact (q hD).elim
            · rw [upd_ne ha]; exact s25.tr a q
        · refine Rps.append (racc.mono (g3.gg.trans (s4.gg.trans s5.gg))) ?_
          simp only [Rps]
          exact ⟨y, [], rfl, ry, rfl⟩

def TsJ (C : Cc) (X : Cx) (ifs : List Expr) (t : TT) (m : M Bool) : Prop := PTs X ifs t ∧ MOk C RB t m
section
variable {C : Cc} {X : Cx} {tg iter elt a : Expr} {ifs : List Expr} {scope : Scope} {own : List (Str × Nat)} {pos : Pos} {wi : TI} {g : TG} {tt : TT} {te : TE} {ts : List Nat} {mi : M (List D)} {pat : D → M Unit} {mt : M Bool} {me : M IV}
theorem tsj_nil : TsJ C X [] tYes (.pure true) := ⟨pts_nil, fun G H ρ σ Q st h => h true G H Stp.refl st (Sh.refl ρ) rfl⟩
theorem tsj_one (h : TJ C X a tt mt) : TsJ C X [a] tt mt := ⟨pts_one h.1, h.2⟩
/-- a comprehension's block -/
abbrev Blk (X : Cx) (scope : Scope) (s : Shared) (H : Hp) (Ca : Addr) (cl : List (Str × Addr)) (fp : List Addr) : Cx := X.blk s H scope (compEnvC scope cl Ca X.env) fp
theorem fj_lc (hc : X.calm = true) (hN : X.N.Nodup) (hi : IJ C X tg iter wi mi) (ok : BlkOk X.N X.env.scope scope own)
    (hg : ∀ s H Ca cl fp, GJ C (Blk X scope s H Ca cl fp) tg g ts pat) (hts : ∀ i, i ∈ ts → i ∈ own.map (·.2)) (ht : ∀ s H Ca cl fp, TsJ (C0 C) (Blk X scope s H Ca cl fp) ifs tt mt)
    (he : ∀ s H Ca cl fp, EJ (C0 C) (Blk X scope s H Ca cl fp) elt te me) (hs : ∀ x, foldedSetIterable iter X.env x = pure x) (s0 : Shared) :
    FJ C X (.ListComp elt [⟨tg, iter, ifs, 0⟩] scope pos) (tLc wi g tt te (own.map (·.2))) (dLc mi pat mt me (own.map (·.2))) :=
  ⟨pe_lc hc hN hi.1 ok (fun s H Ca cl fp => (hg s H Ca cl fp).1) (fun s H Ca cl fp => (ht s H Ca cl fp).1) (fun s H Ca cl fp => (he s H Ca cl fp).1) hs,
   ok_lc hi.2 (hg s0 (fun _ => none) 0 [] []).2 hts (ht s0 (fun _ => none) 0 [] []).2 (he s0 (fun _ => none) 0 [] []).2⟩
end
end DL

/-! D5: statements, bodies. -/
namespace DL
open PySem L2

/-- within a def's body: from its entry (G0, H0; B: the slots whose lists are the caller's) to now -/
structure Ent (K : Frag) (G0 H0 : Hp) (B : Nat → Option Addr) (G H : Hp) (ρ : Env) (σ : St) : Prop where
  st : St0 K G H ρ σ
  gg : Same G0 G
  fr : ∀ a o, H0 a = some o → (∀ i, B i ≠ some a) → H a = some o
  nf : ∀ a, H0 a ≠ none → G0 a = none → G a = none
  tr : ∀ a, H0 a ≠ none → H a ≠ none
  own : ∀ (i : Nat) (d : D) (a : Addr), ρ[i]? = some (some (Sl.own d)) → σ[i]? = some (some (V.ref a)) → H0 a = none
  bor : ∀ (i : Nat) (a : Addr), B i = some a ↔ (∃ d, ρ[i]? = some (some (Sl.bor d))) ∧ σ[i]? = some (some (V.ref a))
theorem Sh.own {ρ ρ' : Env} (h : Sh ρ ρ') {i : Nat} {d : D} (e : ρ[i]? = some (some (Sl.own d))) : ∃ d', ρ'[i]? = some (some (Sl.own d')) := by
  have q := h.get i
  rw [e] at q
  cases e' : ρ'[i]? with
  | none => rw [e'] at q; cases q
  | some o =>
    rw [e'] at q
    cases o with
    | none => cases q
    | some s => cases s with
      | dat d => cases q
      | own d => exact ⟨d, rfl⟩
      | bor d => cases q
theorem Sh.bor {ρ ρ' : Env} (h : Sh ρ ρ') {i : Nat} {d : D} (e : ρ[i]? = some (some (Sl.bor d))) : ∃ d', ρ'[i]? = some (some (Sl.bor d')) := by
  have q := h.get i
  rw [e] at q
  cases e' : ρ'[i]? with
  | none => rw [e'] at q; cases q
  | some o =>
    rw [e'] at q
    cases o with
    | none => cases q
    | some s => cases s with
      | dat d => cases q
      | own d => cases q
      | bor d => exact ⟨d, rfl⟩
theorem Ent.step {K : Frag} {G0 H0 G H G' H' : Hp} {B : Nat → Option Addr} {ρ ρ' : Env} {σ : St} (e : Ent K G0 H0 B G H ρ σ) (s : Stp G H G' H' (Ow ρ σ)) (st : St0 K G' H' ρ' σ) (sh : Sh ρ ρ') : Ent K G0 H0 B G' H' ρ' σ := by
  refine ⟨st, e.gg.trans s.gg, fun a o h n => s.fr a o (e.fr a o h n) ?_, fun a h g => s.nf a (e.tr a h) (e.nf a h g), fun a h => s.tr a (e.tr a h), fun i d a h q => ?_, fun i a => ?_⟩
  · rintro ⟨i, sl, z1, z2, z3⟩
    cases sl with
    | dat d => cases z2
    | own d => rw [e.own i d a z1 z3] at h; cases h
    | bor d => exact n i ((e.bor i a).mpr ⟨⟨d, z1⟩, z3⟩)
  · obtain ⟨d', h'⟩ := Sh.own sh.symm h
    exact e.own i d' a h' q
  · rw [e.bor i a]
    constructor
    · rintro ⟨⟨d, h⟩, q⟩
      exact ⟨Sh.bor sh h, q⟩
    · rintro ⟨⟨d, h⟩, q⟩
      exact ⟨Sh.bor sh.symm h, q⟩

inductive Fl where
  | nx | bk | ct | rt (d : D)
abbrev SM := M Fl
def SPost (C : Cc) (G0 H0 : Hp) (B : Nat → Option Addr) (D : Ends) (r : Res Fl) : Prop := match r with
  | .un => False
  | .ok .nx ρ' => ∀ σ' G' H', Ent C.K G0 H0 B G' H' ρ' σ' → D.nx σ' H'
  | .ok .bk ρ' => ∀ σ' G' H', Ent C.K G0 H0 B G' H' ρ' σ' → D.bk σ' H'
  | .ok .ct ρ' => ∀ σ' G' H', Ent C.K G0 H0 B G' H' ρ' σ' → D.ct σ' H'
  | .ok (.rt d) ρ' => ∀ v σ' G' H', Ent C.K G0 H0 B G' H' ρ' σ' → Rp C.K G' d v → D.rt v H'
  | .exc x ρ' => ∀ c dx σ' G' H', Ent C.K G0 H0 B G' H' ρ' σ' → XRep C x c dx G' H' → C.E c dx H'
def SOk (C : Cc) (t : TS) (m : SM) : Prop := ∀ (G0 H0 : Hp) (B : Nat → Option Addr) (G H : Hp) (ρ : Env) (σ : St) (D : Ends), Ent C.K G0 H0 B G H ρ σ → SPost C G0 H0 B D (m ρ) → t D σ H
def SJ (C : Cc) (X : Cx) (st : Stmt) (t : TS) (m : SM) : Prop := PS X st t ∧ SOk C t m
def SsJ (C : Cc) (X : Cx) (sts : List Stmt) (t : TS) (m : SM) : Prop := PSs X sts t ∧ SOk C t m

/-- an expression ahead of the rest of a statement -/
theorem bindS {α β : Type} {C : Cc} {R : Rel α β} {t : T β} {m : M α} {f : α → SM} {G0 H0 G H : Hp} {B : Nat → Option Addr} {ρ : Env} {σ : St} {D : Ends} {k : β → Hp → Prop} (hm : MOk C R t m) (en : Ent C.K G0 H0 B G H ρ σ)
    (h : SPost C G0 H0 B D (M.bind m f ρ)) (hk : ∀ a ρ1 b G1 H1, Same G G1 → Sh ρ ρ1 → Ent C.K G0 H0 B G1 H1 ρ1 σ → R G1 H1 ρ1 σ a b → SPost C G0 H0 B D (f a ρ1) → k b H1) : t σ H k := by
  refine hm G H ρ σ k en.st ?_
  unfold M.bind at h
  cases e : m ρ with
  | un => rw [e] at h; exact h
  | exc x ρ1 =>
    rw [e] at h
    exact fun c dx G1 H1 s1 st1 sh1 r => h c dx σ G1 H1 (en.step s1 st1 sh1) r
  | ok a ρ1 =>
    rw [e] at h
    exact fun b G1 H1 s1 st1 sh1 r => hk a ρ1 b G1 H1 s1.gg sh1 (en.step s1 st1 sh1) r h
theorem spost_keep {C : Cc} {iv : IV} {v : V} {f : D → SM} {G0 H0 G : Hp} {B : Nat → Option Addr} {ρ : Env} {σ : St} {D : Ends} (r : IvOk C.K G ρ σ iv v) (h : SPost C G0 H0 B D (M.bind (M.keep iv) f ρ)) :
    ∃ d, Rp C.K G d v ∧ SPost C G0 H0 B D (f d ρ) := by
  cases iv with
  | val d => exact ⟨d, r, h⟩
  | sl i => exact h.elim
theorem spost_opt {C : Cc} {α : Type} {o : Option α} {f : α → SM} {G0 H0 : Hp} {B : Nat → Option Addr} {ρ : Env} {D : Ends} (h : SPost C G0 H0 B D (M.bind (M.opt o) f ρ)) : ∃ a, o = some a ∧ SPost C G0 H0 B D (f a ρ) := by
  cases o with
  | none => exact h.elim
  | some a => exact ⟨a, rfl, h⟩

/-! ### blocks -/
def sNx : SM := .pure .nx
def sSeq (m n : SM) : SM := .bind m fun f => match f with
  | .nx => n
  | f => .pure f
theorem ok_seq {C : Cc} {t u : TS} {m n : SM} (h : SOk C t m) (k : SOk C u n) : SOk C (tSeq t u) (sSeq m n) := by
  intro G0 H0 B G H ρ σ D en q
  refine h G0 H0 B G H ρ σ _ en ?_
  unfold sSeq M.bind at q
  cases e : m ρ with
  | un => rw [e] at q; exact q
  | exc x ρ1 => rw [e] at q; exact q
  | ok f ρ1 =>
    rw [e] at q
    cases f with
    | nx => exact fun σ1 G1 H1 en1 => k G0 H0 B G1 H1 ρ1 σ1 D en1 q
    | bk => exact q
    | ct => exact q
    | rt d => exact q
section
variable {C : Cc} {X : Cx} {s : Stmt} {ss : List Stmt} {t u : TS} {m n : SM} {e a b : Expr} {te ta tb : TE} {me ma mb : M IV} {pos : Pos}
theorem ssj_nil : SsJ C X [] tNext sNx := ⟨pss_nil, fun G0 H0 B G H ρ σ D en q => q σ G H en⟩
theorem ssj_cons (h : SJ C X s t m) (k : SsJ C X ss u n) : SsJ C X (s :: ss) (tSeq t u) (sSeq m n) := ⟨pss_cons h.1 k.1, ok_seq h.2 k.2⟩
theorem ssj_one (h : SJ C X s t m) : SsJ C X [s] t m := ⟨pss_one h.1, h.2⟩
theorem sj_pass : SJ C X (.Pass pos) tNext sNx := ⟨ps_pass, fun G0 H0 B G H ρ σ D en q => q σ G H en⟩
theorem sj_break : SJ C X (.Break pos) tBreak (.pure .bk) := ⟨ps_break, fun G0 H0 B G H ρ σ D en q => q σ G H en⟩
theorem sj_continue : SJ C X (.Continue pos) tCont (.pure .ct) := ⟨ps_continue, fun G0 H0 B G H ρ σ D en q => q σ G H en⟩
/-- what is never come to -/
theorem sj_never : SJ C X s tNever .un := ⟨ps_never, fun G0 H0 B G H ρ σ D en q => q.elim⟩
def sExpr (me : M IV) : SM := .bind me fun _ => .pure .nx
theorem sj_expr (h : EJ C X e te me) (hs : swapsWith e none pos.line X.env = pure false) : SJ C X (.Expr e pos) (tDrop te) (sExpr me) := by
  refine ⟨ps_expr h.1 hs, fun G0 H0 B G H ρ σ D en q => ?_⟩
  show te σ H _
  exact bindS h.2 en q fun iv ρ1 v G1 H1 gg1 sh1 en1 r1 q1 => q1 σ G1 H1 en1
/-- return of data, or of a list of one's own, which is frozen -/
def retIv (iv : IV) : SM := match iv with
  | .val d => .pure (.rt d)
  | .sl i => fun ρ => match ρ[i]? with
    | some (some (.own d)) => .ok (.rt d) (ρ.set i none)
    | _ => .un
def sRet (me : M IV) : SM := .bind me retIv
theorem Ent.freeze {K : Frag} {G0 H0 G H : Hp} {B : Nat → Option Addr} {ρ : Env} {σ : St} {i : Nat} {d : D} {v : V} {s' : Option Sl} (en : Ent K G0 H0 B G H ρ σ) (e : ρ[i]? = some (some (Sl.own d))) (ev : σ[i]? = some (some v)) (hs : s' = none ∨ s' = some (.dat d)) :
    ∃ G', Ent K G0 H0 B G' H (ρ.set i s') σ ∧ Rp K G' d v := by
  obtain ⟨v', ev', ok⟩ := en.st.slot i _ e
  rw [ev] at ev'
  cases ev'
  obtain ⟨a, rfl, oa⟩ := ok
  obtain ⟨o, eo, gg, gh, rp⟩ := frozen en.st.gh oa
  have hi : i < ρ.length := (List.getElem?_eq_some_iff.mp e).1
  have get : ∀ j, j ≠ i → (ρ.set i s')[j]? = ρ[j]? := fun j hj => List.getElem?_set_ne (Ne.symm hj)
  have geti : (ρ.set i s')[i]? = some s' := List.getElem?_set_self hi
  have mm : ∀ (j : Nat) (s : Sl), (ρ.set i s')[j]? = some (some s) → s.isM = true → j ≠ i ∧ ρ[j]? = some (some s) := fun j s q m => by
    have hj : j ≠ i := by
      rintro rfl
      rw [geti] at q
      rcases hs with hs | hs
      · subst hs; cases q
      · subst hs; cases q; cases m
    exact ⟨hj, by rw [← get j hj]; exact q⟩
  refine ⟨upd G a o, ⟨⟨gh, by simp [en.st.len], fun j s q => ?_, fun j k s t b e1 e2 m1 m2 q1 q2 => ?_⟩, en.gg.trans gg, en.fr, fun b hb g => ?_, en.tr, fun j d' b q q2 => ?_, fun j b => ?_⟩, rp⟩
  · by_cases hj : j = i
    · subst hj
      rw [geti] at q
      rcases hs with hs | hs
      · subst hs; cases q
      · subst hs; cases q
        exact ⟨_, ev, rp⟩
    · rw [get j hj] at q
      obtain ⟨w, ew, ok⟩ := en.st.slot j s q
      refine ⟨w, ew, ?_⟩
      cases m : s.isM with
      | false =>
        cases s with
        | dat d => exact Rp.mono gg d w ok
        | own d => cases m
        | bor d => cases m
      | true =>
        obtain ⟨b, rfl, ob⟩ := ok.m m
        have hb : b ≠ a := by
          rintro rfl
          exact hj (en.st.dis j i s _ b q e m rfl ew ev)
        exact SlOk.of_m m (ob.step gg (by rw [upd_ne hb]; exact ob.1) fun _ z => z)
  · obtain ⟨h1, e1⟩ := mm j s e1 m1
    obtain ⟨h2, e2⟩ := mm k t e2 m2
    exact en.st.dis j k s t b e1 e2 m1 m2 q1 q2
  · have hba : b ≠ a := by
      rintro rfl
      exact hb (en.own i d b e ev)
    rw [upd_ne hba]
    exact en.nf b hb g
  · obtain ⟨_, q⟩ := mm j _ q rfl
    exact en.own j d' b q q2
  · rw [en.bor j b]
    constructor
    · rintro ⟨⟨d', q⟩, q2⟩
      have hj : j ≠ i := by rintro rfl; rw [e] at q; cases q
      exact ⟨⟨d', by rw [get j hj]; exact q⟩, q2⟩
    · rintro ⟨⟨d', q⟩, q2⟩
      exact ⟨⟨d', (mm j _ q rfl).2⟩, q2⟩
theorem sj_ret (h : EJ C X e te me) : SJ C X (.Return (some e) pos) (tRet te) (sRet me) := by
  refine ⟨ps_ret h.1, fun G0 H0 B G H ρ σ D en q => ?_⟩
  show te σ H _
  refine bindS h.2 en q fun iv ρ1 v G1 H1 gg1 sh1 en1 r1 q1 => ?_
  cases iv with
  | val d => exact q1 v σ G1 H1 en1 r1
  | sl i =>
    obtain ⟨_, ev⟩ := r1
    unfold retIv at q1
    simp only at q1
    split at q1
    · rename_i d e
      obtain ⟨G2, en2, rp⟩ := en1.freeze e ev (.inl rfl)
      exact q1 v σ G2 H1 en2 rp
    · exact q1.elim
theorem sj_retN : SJ C X (.Return none pos) tRetN (.pure (.rt .none)) := ⟨ps_retN, fun G0 H0 B G H ρ σ D en q => q .non σ G H en (by simp only [Rp])⟩

/-! ### assignments -/
theorem Ent.pat {K : Frag} {G0 H0 G H : Hp} {B : Nat → Option Addr} {ρ ρ' : Env} {σ σ' : St} {ts : List Nat} (en : Ent K G0 H0 B G H ρ σ) (st : St0 K G H ρ' σ') (r : PatRel ts ρ σ ρ' σ') : Ent K G0 H0 B G H ρ' σ' := by
  refine ⟨st, en.gg, en.fr, en.nf, en.tr, fun i d a e q => ?_, fun i a => ?_⟩
  · by_cases hi : i ∈ ts
    · obtain ⟨⟨d', z⟩, _⟩ := r.inn i hi
      rw [z] at e; cases e
    · rw [(r.out i hi).1] at e
      rw [(r.out i hi).2] at q
      exact en.own i d a e q
  · by_cases hi : i ∈ ts
    · obtain ⟨⟨d', z⟩, nb⟩ := r.inn i hi
      rw [en.bor i a]
      constructor
      · rintro ⟨h, _⟩; exact (nb h).elim
      · rintro ⟨⟨d, h⟩, _⟩; rw [z] at h; cases h
    · rw [en.bor i a, (r.out i hi).1, (r.out i hi).2]
def onPat (pat : D → M Unit) (d : D) (m : SM) : SM := fun ρ => match pat d ρ with
  | .ok _ ρ' => m ρ'
  | _ => .un
def sAsg (me : M IV) (pat : D → M Unit) : SM := .bind me fun iv => .bind (.keep iv) fun d => onPat pat d sNx
def sSet (i : Nat) (me : M IV) : SM := sAsg me (patNm i)
theorem ok_asg {C : Cc} {te : TE} {g : TG} {me : M IV} {pat : D → M Unit} {ts : List Nat} (he : MOk C (RIv C.K) te me) (hg : GOk C.K g ts pat) : SOk C (tAsg te g) (sAsg me pat) := by
  intro G0 H0 B G H ρ σ D en q
  show te σ H _
  refine bindS he en q fun iv ρ1 v G1 H1 gg1 sh1 en1 r1 q1 => ?_
  obtain ⟨d, rd, q2⟩ := spost_keep r1 q1
  unfold onPat at q2
  cases e : pat d ρ1 with
  | un => rw [e] at q2; exact q2.elim
  | exc x ρ2 => rw [e] at q2; exact q2.elim
  | ok u ρ2 =>
    rw [e] at q2
    exact hg G1 H1 ρ1 σ d v ρ2 _ en1.st rd e fun σ2 st2 pr => q2 σ2 G1 H1 (en1.pat st2 pr)
theorem sj_asg {tg : Expr} {g : TG} {ts : List Nat} {pat : D → M Unit} (hp : PE X e te → PG X tg g → PS X s (tAsg te g)) (he : EJ C X e te me) (hg : GJ C X tg g ts pat) : SJ C X s (tAsg te g) (sAsg me pat) :=
  ⟨hp he.1 hg.1, ok_asg he.2 hg.2⟩
theorem sj_set (i : Nat) (hp : PE X e te → PS X s (tAsg te (gName i))) (he : EJ C X e te me) : SJ C X s (tAsg te (gName i)) (sSet i me) := ⟨hp he.1, ok_asg he.2 (ok_gname i)⟩

/-- a new thing of one's own ahead of the rest of a statement -/
theorem bindF {C : Cc} {t : TE} {m : M D} {f : D → SM} {G0 H0 G H : Hp} {B : Nat → Option Addr} {ρ : Env} {σ : St} {D : Ends} {k : V → Hp → Prop} (hm : FOk C t m) (en : Ent C.K G0 H0 B G H ρ σ)
    (h : SPost C G0 H0 B D (M.bind m f ρ)) (hk : ∀ d ρ1 a G1 H1, Ent C.K G0 H0 B G1 H1 ρ1 σ → OwnAt C.K G1 H1 d a → H a = none → ¬ Ow ρ1 σ a → SPost C G0 H0 B D (f d ρ1) → k (.ref a) H1) : t σ H k := by
  refine hm G H ρ σ k en.st ?_
  unfold M.bind at h
  cases e : m ρ with
  | un => rw [e] at h; exact h
  | exc x ρ1 =>
    rw [e] at h
    exact fun c dx G1 H1 s1 st1 sh1 r => h c dx σ G1 H1 (en.step s1 st1 sh1) r
  | ok d ρ1 =>
    rw [e] at h
    rintro v G1 H1 s1 st1 sh1 ⟨a, rfl, hn, oa⟩
    exact hk d ρ1 a G1 H1 (en.step s1 st1 sh1) oa hn (fun z => Ow.there en.st (sh1.symm.ow z) hn) h
theorem Ent.putOwn {K : Frag} {G0 H0 G H : Hp} {B : Nat → Option Addr} {ρ : Env} {σ : St} {i : Nat} {d : D} {a : Addr} (en : Ent K G0 H0 B G H ρ σ) (oa : OwnAt K G H d a) (hn : H0 a = none) (no : ¬ Ow ρ σ a) (hi : i < ρ.length) (hb : ¬ ∃ d, ρ[i]? = some (some (Sl.bor d))) :
    Ent K G0 H0 B G H (ρ.set i (some (.own d))) (σ.set i (some (.ref a))) := by
  have hi' : i < σ.length := by rw [← en.st.len]; exact hi
  have ge : ∀ j, j ≠ i → (ρ.set i (some (Sl.own d)))[j]? = ρ[j]? ∧ (σ.set i (some (V.ref a)))[j]? = σ[j]? := fun j hj => ⟨List.getElem?_set_ne (Ne.symm hj), List.getElem?_set_ne (Ne.symm hj)⟩
  have gi : (ρ.set i (some (Sl.own d)))[i]? = some (some (Sl.own d)) ∧ (σ.set i (some (V.ref a)))[i]? = some (some (V.ref a)) := ⟨List.getElem?_set_self hi, List.getElem?_set_self hi'⟩
  refine ⟨⟨en.st.gh, by simp [en.st.len], fun j s e => ?_, fun j k s t b e1 e2 m1 m2 q1 q2 => ?_⟩, en.gg, en.fr, en.nf, en.tr, fun j d' b e q => ?_, fun j b => ?_⟩
  · by_cases hj : j = i
    · subst hj
      rw [gi.1] at e
      cases e
      exact ⟨_, gi.2, a, rfl, oa⟩
    · rw [(ge j hj).1] at e
      rw [(ge j hj).2]
      exact en.st.slot j s e
  · by_cases hj : j = i
    · subst hj
      by_cases hk : k = j
      · exact hk.symm
      · rw [gi.2] at q1
        cases q1
        rw [(ge k hk).1] at e2
        rw [(ge k hk).2] at q2
        exact (no ⟨k, t, e2, m2, q2⟩).elim
    · by_cases hk : k = i
      · subst hk
        rw [gi.2] at q2
        cases q2
        rw [(ge j hj).1] at e1
        rw [(ge j hj).2] at q1
        exact (no ⟨j, s, e1, m1, q1⟩).elim
      · rw [(ge j hj).1] at e1
        rw [(ge j hj).2] at q1
        rw [(ge k hk).1] at e2
        rw [(ge k hk).2] at q2
        exact en.st.dis j k s t b e1 e2 m1 m2 q1 q2
  · by_cases hj : j = i
    · subst hj
      rw [gi.2] at q
      cases q
      exact hn
    · rw [(ge j hj).1] at e
      rw [(ge j hj).2] at q
      exact en.own j d' b e q
  · by_cases hj : j = i
    · subst hj
      rw [en.bor j b, gi.1]
      constructor
      · rintro ⟨h, _⟩; exact (hb h).elim
      · rintro ⟨⟨d', h⟩, _⟩; cases h
    · rw [en.bor j b, (ge j hj).1, (ge j hj).2]
def putOwn (i : Nat) (d : D) : SM := fun ρ => if isBor ρ[i]? = true then .un else .ok .nx (ρ.set i (some (.own d)))
def sSetO (i : Nat) (m : M D) : SM := .bind m fun d => putOwn i d
theorem ok_setO {C : Cc} {te : TE} {m : M D} (i : Nat) (he : FOk C te m) : SOk C (tAsg te (gName i)) (sSetO i m) := by
  intro G0 H0 B G H ρ σ D en q
  show te σ H _
  refine bindF he en q fun d ρ1 a G1 H1 en1 oa hn no q1 => ?_
  unfold putOwn at q1
  split at q1
  · exact q1.elim
  · rename_i hb
    obtain ⟨h1, h2⟩ := isBor_no hb
    have h0 : H0 a = none := by
      cases z : H0 a with
      | none => rfl
      | some o => exact (en.tr a (ne_none_of z) hn).elim
    exact q1 _ G1 H1 (en1.putOwn oa h0 no h1 h2)
theorem sj_setO (i : Nat) {m : M D} (hp : PE X e te → PS X s (tAsg te (gName i))) (he : FJ C X e te m) : SJ C X s (tAsg te (gName i)) (sSetO i m) := ⟨hp he.1, ok_setO i he.2⟩

/-- name op= e -/
def sAug (i : Nat) (f : F2) (me : M IV) : SM := .bind (dVar i) fun a => .bind (.keep a) fun x => .bind me fun b => .bind (.keep b) fun y => .bind (.opt (f x y)) fun c => onPat (patNm i) c sNx
theorem Ent.gro {K : Frag} {G0 H0 G H G' H' : Hp} {B : Nat → Option Addr} {ρ : Env} {σ : St} (en : Ent K G0 H0 B G H ρ σ) (g : Gro G H G' H') : Ent K G0 H0 B G' H' ρ σ := en.step g.stp (en.st.gro g) (Sh.refl ρ)
theorem Ent.put {K : Frag} {G0 H0 G H : Hp} {B : Nat → Option Addr} {ρ : Env} {σ : St} {i : Nat} {d : D} {v : V} (en : Ent K G0 H0 B G H ρ σ) (r : Rp K G d v) (hb : ¬ isBor ρ[i]? = true) : Ent K G0 H0 B G H (ρ.set i (some (.dat d))) (σ.set i (some v)) := by
  obtain ⟨h1, h2⟩ := isBor_no hb
  exact en.pat (en.st.put h1 r) (PatRel.put h1 h2)
theorem ok_aug {C : Cc} {te : TE} {me : M IV} {f : F2} {ti : TIp} (i : Nat) (p : P2 C.K ti f) (he : MOk C (RIv C.K) te me) : SOk C (tAug i te ti) (sAug i f me) := by
  intro G0 H0 B G H ρ σ D en q
  have key : tVar i σ H fun x H1 => te σ H1 fun y H2 => ti x y H2 fun z H3 => D.nx (σ.set i (some z)) H3 := by
    refine bindS (ok_var (C := C) i) en q fun a ρ1 x G1 H1 gg1 sh1 en1 r1 q1 => ?_
    obtain ⟨d, rd, q2⟩ := spost_keep r1 q1
    refine bindS he en1 q2 fun b ρ2 y G2 H2 gg2 sh2 en2 r2 q3 => ?_
    obtain ⟨e, re, q4⟩ := spost_keep r2 q3
    obtain ⟨c, ec, q5⟩ := spost_opt q4
    refine p G2 H2 x y d e c _ en2.st.gh (Rp.top en2.st.gh (Rp.mono gg2 d x rd)) (Rp.top en2.st.gh re) ec fun v G3 H3 g3 rv => ?_
    unfold onPat patNm dPut at q5
    by_cases hb : isBor ρ2[i]? = true
    · rw [if_pos hb] at q5; exact q5.elim
    · rw [if_neg hb] at q5
      exact q5 _ G3 H3 ((en2.gro g3).put rv hb)
  exact key
theorem sj_aug (i : Nat) {f : F2} {ti : TIp} (hp : PE X e te → PS X s (tAug i te ti)) (p : P2 C.K ti f) (he : EJ C X e te me) : SJ C X s (tAug i te ti) (sAug i f me) := ⟨hp he.1, ok_aug i p he.2⟩
theorem p_ipAdd {K : Frag} : P2 K (ipI fun i j => i + j) (fun | .int i, .int j => some (.int (i + j)) | _, _ => none) := by
  intro G H x y d e c Q gh rx ry h k
  cases d <;> cases e <;> simp only at h <;> try (cases h; done)
  cases h
  simp only [Rpt] at rx ry
  subst rx ry
  exact ⟨_, _, rfl, rfl, k.int gh⟩
theorem p_ipSub {K : Frag} : P2 K (ipI fun i j => i - j) (fun | .int i, .int j => some (.int (i - j)) | _, _ => none) := by
  intro G H x y d e c Q gh rx ry h k
  cases d <;> cases e <;> simp only at h <;> try (cases h; done)
  cases h
  simp only [Rpt] at rx ry
  subst rx ry
  exact ⟨_, _, rfl, rfl, k.int gh⟩

/-! ### if, while, for -/
def sIf (mt : M Bool) (m n : SM) : SM := .bind mt fun c => if c = true then m else n
theorem sj_if {c : Expr} {sa sb : List Stmt} {tt : TT} {mt : M Bool} (hc : TJ C X c tt mt) (ha : SsJ C X sa t m) (hb : SsJ C X sb u n) : SJ C X (.If c sa sb pos) (tIfS tt t u) (sIf mt m n) := by
  refine ⟨ps_if hc.1 ha.1 hb.1, fun G0 H0 B G H ρ σ D en q => ?_⟩
  show tt σ H _
  refine bindS hc.2 en q fun c ρ1 b G1 H1 gg1 sh1 en1 r1 q1 => ?_
  cases r1
  cases c with
  | true => exact iteT (ha.2 _ _ _ _ _ _ _ _ en1 q1)
  | false => exact iteF (hb.2 _ _ _ _ _ _ _ _ en1 q1)
def loopFl (k : SM) (f : Fl) : SM := match f with
  | .nx => k
  | .ct => k
  | .bk => .pure .nx
  | .rt d => .pure (.rt d)
def sWhile (mt : M Bool) (m : SM) : Nat → SM
  | 0 => .un
  | n + 1 => .bind mt fun c => if c = true then .bind m (loopFl (sWhile mt m n)) else .pure .nx
theorem ok_while {C : Cc} {tc : TT} {tb : TS} {mt : M Bool} {m : SM} (n : Nat) (hc : MOk C RB tc mt) (hb : SOk C tb m) : SOk C (tWhile tc tb) (sWhile mt m n) := by
  intro G0 H0 B G H ρ σ D en q
  refine ⟨fun k σ H => ∃ G ρ, Ent C.K G0 H0 B G H ρ σ ∧ SPost C G0 H0 B D (sWhile mt m k ρ), ⟨n, G, ρ, en, q⟩, ?_⟩
  rintro k σ1 H1 ⟨G1, ρ1, en1, q1⟩
  cases k with
  | zero => exact q1.elim
  | succ k =>
    unfold sWhile at q1
    refine bindS hc en1 q1 fun c ρ2 b G2 H2 gg2 sh2 en2 r2 q2 => ?_
    cases r2
    cases c with
    | false => exact iteF (q2 σ1 G2 H2 en2)
    | true =>
      refine iteT ⟨fun σ' H' => ∃ G ρ, Ent C.K G0 H0 B G H' ρ σ' ∧ SPost C G0 H0 B D (sWhile mt m k ρ), fun σ' H' w => ⟨k, Nat.lt_succ_self k, w⟩, ?_⟩
      refine hb G0 H0 B G2 H2 ρ2 σ1 _ en2 ?_
      have q2 : SPost C G0 H0 B D (M.bind m (loopFl (sWhile mt m k)) ρ2) := q2
      unfold M.bind at q2
      cases e : m ρ2 with
      | un => rw [e] at q2; exact q2
      | exc x ρ3 => rw [e] at q2; exact q2
      | ok f ρ3 =>
        rw [e] at q2
        cases f with
        | nx => exact fun σ3 G3 H3 en3 => ⟨G3, ρ3, en3, q2⟩
        | ct => exact fun σ3 G3 H3 en3 => ⟨G3, ρ3, en3, q2⟩
        | bk => exact q2
        | rt d => exact q2
theorem sj_while {c : Expr} {body : List Stmt} {tt : TT} {mt : M Bool} (n : Nat) (hp : PassesOwn (model X.prog X.w) X.A X.env X.xe) (hc : TJ C X c tt mt) (hb : SsJ C X body t m) : SJ C X (.While c body [] pos) (tWhile tt t) (sWhile mt m n) :=
  ⟨ps_while hp hc.1 hb.1, ok_while n hc.2 hb.2⟩
def sForL (pat : D → M Unit) (m : SM) : List D → SM
  | [] => .pure .nx
  | d :: l => onPat pat d (.bind m (loopFl (sForL pat m l)))
def sFor (mi : M (List D)) (pat : D → M Unit) (m : SM) : SM := .bind mi fun ds => sForL pat m ds
theorem Ent.here {K : Frag} {G0 H0 G H : Hp} {B : Nat → Option Addr} {ρ : Env} {σ : St} (a : Ent K G0 H0 B G H ρ σ) : Ent K G H0 B G H ρ σ := ⟨a.st, Same.refl G, a.fr, fun _ _ g => g, a.tr, a.own, a.bor⟩
theorem Ent.over {K : Frag} {G0 H0 G1 H1 G2 H2 : Hp} {B : Nat → Option Addr} {ρ1 ρ2 : Env} {σ1 σ2 : St} (a : Ent K G0 H0 B G1 H1 ρ1 σ1) (b : Ent K G1 H0 B G2 H2 ρ2 σ2) : Ent K G0 H0 B G2 H2 ρ2 σ2 :=
  ⟨b.st, a.gg.trans b.gg, b.fr, fun x h g => b.nf x h (a.nf x h g), b.tr, b.own, b.bor⟩
theorem SPost.over {C : Cc} {G0 H0 G1 H1 : Hp} {B : Nat → Option Addr} {ρ1 : Env} {σ1 : St} {D : Ends} {r : Res Fl} (a : Ent C.K G0 H0 B G1 H1 ρ1 σ1) (h : SPost C G0 H0 B D r) : SPost C G1 H0 B D r := by
  cases r with
  | un => exact h
  | exc x ρ => exact fun c dx σ' G' H' en k => h c dx σ' G' H' (a.over en) k
  | ok f ρ =>
    cases f with
    | nx => exact fun σ' G' H' en => h σ' G' H' (a.over en)
    | bk => exact fun σ' G' H' en => h σ' G' H' (a.over en)
    | ct => exact fun σ' G' H' en => h σ' G' H' (a.over en)
    | rt d => exact fun v σ' G' H' en k => h v σ' G' H' (a.over en) k
theorem ok_for {C : Cc} {wi : TI} {g : TG} {tb : TS} {mi : M (List D)} {pat : D → M Unit} {ts : List Nat} {m : SM} (oi : MOk C (RW C.K) wi mi) (og : GOk C.K g ts pat) (hb : SOk C tb m) : SOk C (tFor wi g tb) (sFor mi pat m) := by
  intro G0 H0 B G H ρ σ D en q
  show wi σ H _
  refine bindS oi en q fun ds ρ1 J G1 H1 gg1 sh1 en1 wk q1 => ?_
  let W : Nat → Nat → St → Hp → Prop := fun i k σ' H' => k = ds.length - i ∧ i ≤ ds.length ∧ ∃ G' ρ', Same G1 G' ∧ Ent C.K G0 H0 B G' H' ρ' σ' ∧ SPost C G0 H0 B D (sForL pat m (ds.drop i) ρ')
  refine ⟨W, ⟨ds.length, by simp, Nat.zero_le _, G1, ρ1, Same.refl G1, en1, q1⟩, ?_⟩
  rintro i k σ2 H2 ⟨rfl, hi, G2, ρ2, g12, en2, q2⟩
  by_cases hlt : i < ds.length
  case neg =>
    have e : i = ds.length := by omega
    subst e
    rw [List.drop_length] at q2
    exact .inl ⟨wk.fin G2 H2 g12 en2.st.gh, q2 σ2 G2 H2 en2⟩
  case pos =>
    obtain ⟨jgo, jy⟩ := wk.step G2 H2 i ds[i] (List.getElem?_eq_getElem hlt) g12 en2.st.gh
    refine .inr ⟨jgo, fun σ' H' => W (i + 1) (ds.length - (i + 1)) σ' H', fun σ' H' w => ⟨_, by omega, w⟩, fun x H3 yx => ?_⟩
    obtain ⟨G3, g3, rx⟩ := jy x H3 yx
    have en3 := en2.gro g3
    rw [List.drop_eq_getElem_cons hlt] at q2
    unfold sForL onPat at q2
    cases ep : pat ds[i] ρ2 with
    | un => rw [ep] at q2; exact q2.elim
    | exc x ρ3 => rw [ep] at q2; exact q2.elim
    | ok u ρ3 =>
      rw [ep] at q2
      refine og G3 H3 ρ2 σ2 ds[i] x ρ3 _ en3.st rx ep fun σ3 st3 pr => ?_
      have en4 := en3.pat st3 pr
      have q2 : SPost C G0 H0 B D (M.bind m (loopFl (sForL pat m (ds.drop (i + 1)))) ρ3) := q2
      refine hb G3 H0 B G3 H3 ρ3 σ3 _ en4.here ?_
      unfold M.bind at q2
      cases e : m ρ3 with
      | un => rw [e] at q2; exact q2
      | exc x ρ4 => rw [e] at q2; exact SPost.over en4 q2
      | ok f ρ4 =>
        rw [e] at q2
        have again : SPost C G0 H0 B D (sForL pat m (ds.drop (i + 1)) ρ4) → ∀ σ' G' H', Ent C.K G3 H0 B G' H' ρ4 σ' → W (i + 1) (ds.length - (i + 1)) σ' H' := fun z σ' G' H' en => ⟨rfl, hlt, G', ρ4, g12.trans (g3.gg.trans en.gg), en4.over en, z⟩
        cases f with
        | nx => exact again q2
        | ct => exact again q2
        | bk => exact fun σ' G' H' en => q2 σ' G' H' (en4.over en)
        | rt d => exact fun v σ' G' H' en r => q2 v σ' G' H' (en4.over en) r
theorem sj_for {tg iter : Expr} {body : List Stmt} {wi : TI} {g : TG} {ts : List Nat} {mi : M (List D)} {pat : D → M Unit} (hp : PassesOwn (model X.prog X.w) X.A X.env X.xe) (hc : X.calm = true) (hi : IJ C X tg iter wi mi) (hg : GJ C X tg g ts pat) (hb : SsJ C X body t m)
    (hs : ∀ x, foldedSetIterable iter X.env x = pure x) : SJ C X (.For tg iter body [] pos) (tFor wi g t) (sFor mi pat m) :=
  ⟨ps_for hp hc hi.1 hg.1 hb.1 hs, ok_for hi.2 hg.2 hb.2⟩

/-! ### changing a list or dict of one's own -/
theorem St0.mut {K : Frag} {G H : Hp} {ρ : Env} {σ : St} {i : Nat} {sl : Sl} {a : Addr} {o : HO} {d : D} (st : St0 K G H ρ σ) (e : ρ[i]? = some (some sl)) (m : sl.isM = true) (ev : σ[i]? = some (some (V.ref a))) (oa : OwnAt K G (upd H a o) d a) :
    St0 K G (upd H a o) (ρ.set i (some (sl.put d))) σ ∧ Stp G H G (upd H a o) (Ow ρ σ) ∧ Sh ρ (ρ.set i (some (sl.put d))) := by
  have hi : i < ρ.length := (List.getElem?_eq_some_iff.mp e).1
  have gn : G a = none := oa.1
  have sh : Sh ρ (ρ.set i (some (sl.put d))) := by
    apply List.ext_getElem?
    intro j
    rw [List.getElem?_map, List.getElem?_map]
    by_cases hj : j = i
    · subst hj
      rw [List.getElem?_set_self hi, e]
      simp only [Option.map_some, put_kd]
    · rw [List.getElem?_set_ne (Ne.symm hj)]
  refine ⟨⟨fun b u q => by rw [upd_ne (ne_of_none q gn)]; exact st.gh b u q, by simp [st.len], fun j s q => ?_, fun j k s t b e1 e2 m1 m2 q1 q2 => ?_⟩, ⟨Same.refl G, fun _ _ g => g, fun b u q n => ?_, fun b q => ?_⟩, sh⟩
  · by_cases hj : j = i
    · subst hj
      rw [List.getElem?_set_self hi] at q
      cases q
      exact ⟨_, ev, SlOk.of_m (by rw [isM_put]; exact m) (by rw [d_put]; exact oa)⟩
    · rw [List.getElem?_set_ne (Ne.symm hj)] at q
      obtain ⟨v, evj, ok⟩ := st.slot j s q
      refine ⟨v, evj, ?_⟩
      cases ms : s.isM with
      | false =>
        cases s with
        | dat d => exact ok
        | own d => cases ms
        | bor d => cases ms
      | true =>
        obtain ⟨b, rfl, ob⟩ := ok.m ms
        have hb : b ≠ a := by
          rintro rfl
          exact hj (st.dis j i s sl b q e ms m evj ev)
        exact SlOk.of_m ms (ob.step (Same.refl G) ob.1 fun u z => by rw [upd_ne hb]; exact z)
  · obtain ⟨s', f1, n1⟩ := sh.symm.m e1 m1
    obtain ⟨t', f2, n2⟩ := sh.symm.m e2 m2
    exact st.dis j k s' t' b f1 f2 n1 n2 q1 q2
  · have hb : b ≠ a := by
      rintro rfl
      exact n ⟨i, sl, e, m, ev⟩
    rw [upd_ne hb]; exact q
  · by_cases hb : b = a
    · subst hb; rw [upd_same]; exact fun z => by cases z
    · rw [upd_ne hb]; exact q
/-- the slot i's list or dict is replaced by d -/
def mPut (i : Nat) (d : D) : M Unit := fun ρ => match ρ[i]? with
  | some (some s) => if s.isM = true then .ok () (ρ.set i (some (s.put d))) else .un
  | _ => .un
/-- its content -/
def mGet (iv : IV) : M (Nat × D) := fun ρ => match iv with
  | .sl i => match ρ[i]? with
    | some (some s) => if s.isM = true then .ok (i, s.d) ρ else .un
    | _ => .un
  | .val _ => .un
theorem mGet_inv {K : Frag} {G H : Hp} {ρ ρ' : Env} {σ : St} {iv : IV} {v : V} {p : Nat × D} (st : St0 K G H ρ σ) (r : IvOk K G ρ σ iv v) (h : mGet iv ρ = .ok p ρ') :
    ρ' = ρ ∧ iv = .sl p.1 ∧ ∃ s a, ρ[p.1]? = some (some s) ∧ s.isM = true ∧ s.d = p.2 ∧ v = .ref a ∧ σ[p.1]? = some (some (V.ref a)) ∧ OwnAt K G H p.2 a := by
  unfold mGet at h
  cases iv with
  | val d => cases h
  | sl i =>
    simp only at h
    split at h
    · rename_i s e
      split at h
      · rename_i ms
        cases h
        obtain ⟨_, ev⟩ := r
        obtain ⟨w, ew, ok⟩ := st.slot i s e
        rw [ev] at ew
        cases ew
        obtain ⟨a, rfl, oa⟩ := ok.m ms
        exact ⟨rfl, rfl, s, a, e, ms, rfl, rfl, ev, oa⟩
      · cases h
    · cases h
end
end DL

/-! D5b: dicts whose keys are tuples, nested, of ints and None: what stands, what is read, what is stored. -/
namespace DL
open PySem L2 PyProof.Rows

mutual
/-- the value v is the key k -/
def KeyV (H : Hp) : NK → V → Prop
  | .none, v => v = .non
  | .num i, v => v = .int i
  | .text _, _ => False
  | .tup ks, v => ∃ a vs, v = .ref a ∧ TupF H a vs ∧ KeyVs H ks vs
def KeyVs (H : Hp) : List NK → List V → Prop
  | [], vs => vs = []
  | k :: ks, vs => ∃ v r, vs = v :: r ∧ KeyV H k v ∧ KeyVs H ks r
end
mutual
theorem KeyV.of {K : Frag} {G : Hp} : ∀ (k : NK) (v : V), plainN k = true → Rp K G k.data v → KeyV G k v
  | .none, v, _, r => by simp only [NestedKey.data, Rp] at r; simp only [KeyV]; exact r
  | .num i, v, _, r => by simp only [NestedKey.data, Rp] at r; simp only [KeyV]; exact r
  | .text x, v, h, _ => by simp only [plainN] at h; cases h
  | .tup ks, v, h, r => by
    simp only [plainN] at h
    simp only [NestedKey.data, Rp] at r
    obtain ⟨a, vs, e, ea, r⟩ := r
    simp only [KeyV]
    exact ⟨a, vs, e, ea, KeyVs.of ks vs h r⟩
theorem KeyVs.of {K : Frag} {G : Hp} : ∀ (ks : List NK) (vs : List V), plainNs ks = true → Rps K G (NestedKey.datas ks) vs → KeyVs G ks vs
  | [], vs, _, r => by simp only [NestedKey.datas, Rps] at r; simp only [KeyVs]; exact r
  | k :: ks, vs, h, r => by
    simp only [plainNs, Bool.and_eq_true] at h
    simp only [NestedKey.datas, Rps] at r
    obtain ⟨v, q, e, r1, r2⟩ := r
    simp only [KeyVs]
    exact ⟨v, q, e, KeyV.of k v h.1 r1, KeyVs.of ks q h.2 r2⟩
end
mutual
theorem KeyV.mono {G H : Hp} (gh : Same G H) : ∀ (k : NK) (v : V), KeyV G k v → KeyV H k v
  | .none, v, r => by simp only [KeyV] at r ⊢; exact r
  | .num i, v, r => by simp only [KeyV] at r ⊢; exact r
  | .text x, v, r => by simp only [KeyV] at r
  | .tup ks, v, r => by
    simp only [KeyV] at r ⊢
    obtain ⟨a, vs, e, ea, r⟩ := r
    exact ⟨a, vs, e, ea.mono gh, KeyVs.mono gh ks vs r⟩
theorem KeyVs.mono {G H : Hp} (gh : Same G H) : ∀ (ks : List NK) (vs : List V), KeyVs G ks vs → KeyVs H ks vs
  | [], vs, r => by simp only [KeyVs] at r ⊢; exact r
  | k :: ks, vs, r => by
    simp only [KeyVs] at r ⊢
    obtain ⟨v, q, e, r1, r2⟩ := r
    exact ⟨v, q, e, KeyV.mono gh k v r1, KeyVs.mono gh ks q r2⟩
end
section
variable {P : Program} {w : World} {H : Hp} {h : Heap}
mutual
theorem KeyV.isKey (ok : HOk P w H h) : ∀ (k : NK) (v : V) (u : Value), KeyV H k v → RelV v u → NestedIs h k u
  | .none, v, u, r, ru => by
    simp only [KeyV] at r
    subst r
    obtain rfl : u = .none := ru
    exact .none
  | .num i, v, u, r, ru => by
    simp only [KeyV] at r
    subst r
    obtain ⟨t, rfl⟩ := (show ∃ t, u = Value.int i t from ru)
    exact .int i t
  | .text x, v, u, r, ru => by simp only [KeyV] at r
  | .tup ks, v, u, r, ru => by
    simp only [KeyV] at r
    obtain ⟨a, vs, rfl, ⟨ob, ea, _⟩, r⟩ := r
    obtain rfl : u = Value.ref a := ru
    obtain ⟨_, _, its, rv, o, h1, h2, n, h3⟩ := (show ObjOk P w H h a (.frz ob (.tup vs)) from ok a _ ea)
    exact .tup h1 h2 h3 (KeyVs.isKeys ok ks vs its r rv)
theorem KeyVs.isKeys (ok : HOk P w H h) : ∀ (ks : List NK) (vs : List V) (us : List Value), KeyVs H ks vs → Vals vs us → NestedAll h ks us
  | [], vs, us, r, ru => by
    simp only [KeyVs] at r
    subst r
    cases ru
    exact .nil
  | k :: ks, vs, us, r, ru => by
    simp only [KeyVs] at r
    obtain ⟨v, q, rfl, r1, r2⟩ := r
    cases ru with
    | cons a b => exact .cons (KeyV.isKey ok k v _ r1 a) (KeyVs.isKeys ok ks q _ r2 b)
end
end

/-! ### the pairs -/
def vAtN (xs : List (NK × Addr × V)) (k : NK) : Option V := (xs.find? fun x => decide (x.1 = k)).map (·.2.2)
def putN (xs : List (NK × Addr × V)) (k : NK) (b : Addr) (v : V) : List (NK × Addr × V) :=
  if (vAtN xs k).isSome = true then xs.map (fun x => if x.1 = k then (x.1, x.2.1, v) else x) else xs ++ [(k, b, v)]
abbrev PairN : List (NK × Addr × V) → List (NK × Addr × Value) → Prop := Paired fun x y => x.1 = y.1 ∧ x.2.1 = y.2.1 ∧ RelV x.2.2 y.2.2
theorem PairN.at {xs : List (NK × Addr × V)} {vs : List (NK × Addr × Value)} (r : PairN xs vs) (k : NK) : RelO (vAtN xs k) ((atKey vs k).map (·.2)) := by
  induction r with
  | nil => exact True.intro
  | @cons x y xs vs h t ih =>
    obtain ⟨h1, h2, h3⟩ := h
    by_cases e : x.1 = k
    · have e2 : y.1 = k := h1 ▸ e
      have q1 : vAtN (x :: xs) k = some x.2.2 := by simp [vAtN, List.find?_cons, e]
      have q2 : (atKey (y :: vs) k).map (·.2) = some y.2.2 := by simp [atKey, List.find?_cons, e2]
      rw [q1, q2]
      exact h3
    · have e2 : ¬ y.1 = k := h1 ▸ e
      have q1 : vAtN (x :: xs) k = vAtN xs k := by simp [vAtN, List.find?_cons, e]
      have q2 : (atKey (y :: vs) k).map (·.2) = (atKey vs k).map (·.2) := by simp [atKey, List.find?_cons, e2]
      rw [q1, q2]
      exact ih
theorem PairN.keys {xs : List (NK × Addr × V)} {vs : List (NK × Addr × Value)} (r : PairN xs vs) : xs.map (·.1) = vs.map (·.1) := by
  induction r with
  | nil => rfl
  | cons h _ ih => simp [h.1, ih]
theorem PairN.put {xs : List (NK × Addr × V)} {vs : List (NK × Addr × Value)} (r : PairN xs vs) (k : NK) (b : Addr) {v : V} {u : Value} (ru : RelV v u) : PairN (putN xs k b v) (storedH vs k b u) := by
  have hs : (vAtN xs k).isSome = (atKey vs k).isSome := by
    have z := (r.at k).isSome_eq
    rw [Option.isSome_map] at z
    exact z
  unfold putN storedH
  rw [hs]
  by_cases c : (atKey vs k).isSome = true
  · rw [if_pos c, if_pos c]
    clear hs c
    induction r with
    | nil => exact .nil
    | @cons x y xs vs h t ih =>
      obtain ⟨h1, h2, h3⟩ := h
      rw [List.map_cons, List.map_cons]
      refine .cons ?_ ih
      unfold putAt
      by_cases e : x.1 = k
      · rw [if_pos e, if_pos (h1 ▸ e)]
        exact ⟨h1, h2, ru⟩
      · rw [if_neg e, if_neg (h1 ▸ e)]
        exact ⟨h1, h2, h3⟩
  · rw [if_neg c, if_neg c]
    clear hs c
    induction r with
    | nil => exact .cons ⟨rfl, rfl, ru⟩ .nil
    | cons h _ ih => exact .cons h ih
theorem putN_keys (xs : List (NK × Addr × V)) (k : NK) (b : Addr) (v : V) : ∀ x ∈ putN xs k b v, (∃ y ∈ xs, x.1 = y.1 ∧ x.2.1 = y.2.1) ∨ (x.1 = k ∧ x.2.1 = b) := by
  intro x hx
  unfold putN at hx
  split at hx
  · obtain ⟨y, hy, rfl⟩ := List.mem_map.mp hx
    refine .inl ⟨y, hy, ?_⟩
    split <;> exact ⟨rfl, rfl⟩
  · rcases List.mem_append.mp hx with h | h
    · exact .inl ⟨x, h, rfl, rfl⟩
    · obtain rfl : x = (k, b, v) := by simpa using h
      exact .inr ⟨rfl, rfl⟩
theorem putN_len (xs : List (NK × Addr × V)) (k : NK) (b : Addr) (v : V) : (putN xs k b v).length ≤ xs.length + 1 := by
  unfold putN
  split
  · rw [List.length_map]; omega
  · simp

/-! ### what stands -/
def KeyOk (k : NK) : Prop := plainN k = true ∧ k.depth ≤ 8
theorem dn_ok {P : Program} {w : World} {H : Hp} {h : Heap} {a : Addr} {xs : List (NK × Addr × V)} (q : DN0 a xs h) : ObjOk P w H h a (DNo a xs) := by
  refine ⟨q, ?_, fun h1 h2 => ?_⟩
  · obtain ⟨_, _, _, _, vs, _, o, es, ep, e, _⟩ := q
    exact ⟨o, e⟩
  · rintro ⟨z1, z2, z3, z4, vs, z5, o, es, ep, e, z6⟩ k
    exact ⟨z1, z2, z3, z4, vs, z5, o, es, ep, k o e, z6⟩
theorem dn_empty {P : Program} {w : World} {H : Hp} (h : Heap) (hb : sysModules < h.objs.size) : ObjOk P w H (h.push { cls := .type "dict", data := .dict #[] }) h.objs.size (DNo h.objs.size []) :=
  dn_ok ⟨beq_eq_false_iff_ne.mpr (Nat.ne_of_gt hb), Nat.zero_le _, List.nodup_nil, fun x hx => absurd hx List.not_mem_nil, [], .nil, _, #[], 0, Heap.get?_push_size _ rfl, ⟨rfl, rfl, rfl⟩, rfl, rfl⟩
theorem ent_map {P : Program} {w : World} {vs : List (NK × Addr × Value)} (h : ∀ x ∈ vs, plainN x.1 = true) : vs.map (entryOfKey (nestedKind P w)) = vs.map entN :=
  List.map_congr_left fun x hx => by
    show (⟨(nestedKind P w).hash x.1, .ref x.2.1, x.2.2⟩ : DictEntry) = ⟨hashN x.1, .ref x.2.1, x.2.2⟩
    have e : (nestedKind P w).hash x.1 = hashN x.1 := hashN_eq w x.1 (h x hx)
    rw [e]
section
variable {X : Cx} {pins : List (Addr × Obj)} {σ : L2.St} {H : Hp} {s : Shared} {a : Addr} {xs : List (NK × Addr × V)}
theorem keyIs (I : Inv X pins σ H s) {k : NK} {b : Addr} (hk : KeyOk k) (r : KeyV H k (.ref b)) : (nestedKind X.prog X.w).is s.heap k b := ⟨KeyV.isKey I.hok k _ _ r rfl, hk.2⟩
theorem dn_of (I : Inv X pins σ H s) (e : H a = some (DNo a xs)) (hx : ∀ x ∈ xs, KeyV H x.1 (.ref x.2.1)) :
    (a == sysModules) = false ∧ xs.length ≤ sizeLine ∧ (∀ x ∈ xs, KeyOk x.1) ∧ ∃ vs, PairN xs vs ∧ s.heap.DictOfH (nestedKind X.prog X.w) a vs := by
  obtain ⟨⟨z1, z2, z3, z4, vs, z5, o, es, ep, e1, e2, e3, e4⟩, zz⟩ := (show ObjOk X.prog X.w H s.heap a (DNo a xs) from I.hok a _ e)
  clear zz
  have mem : ∀ y ∈ vs, ∃ x ∈ xs, x.1 = y.1 ∧ x.2.1 = y.2.1 := by
    clear z2 z3 z4 e4 hx e
    induction z5 with
    | nil => intro y hy; cases hy
    | @cons x y xs vs h t ih =>
      intro y' hy
      rcases List.mem_cons.mp hy with q | q
      · subst q; exact ⟨x, List.mem_cons_self, h.1, h.2.1⟩
      · obtain ⟨x', hx', q⟩ := ih y' q
        exact ⟨x', List.mem_cons_of_mem _ hx', q⟩
  have pl : ∀ y ∈ vs, plainN y.1 = true := fun y hy => by
    obtain ⟨x, hx', q, _⟩ := mem y hy
    rw [← q]; exact (z4 x hx').1
  refine ⟨z1, z2, z4, vs, z5, o, es, ep, e1, e2, e3, by rw [e4, ent_map pl], fun y hy => ?_, by rw [← PairN.keys z5]; exact z3⟩
  obtain ⟨x, hx', q1, q2⟩ := mem y hy
  have k1 := hx x hx'
  rw [q1, q2] at k1
  exact keyIs I (q1 ▸ z4 x hx') k1
theorem dn_back {P : Program} {w : World} {h' : Heap} {ys : List (NK × Addr × V)} {vs : List (NK × Addr × Value)} (z1 : (a == sysModules) = false) (z2 : ys.length ≤ sizeLine) (ok : ∀ y ∈ ys, KeyOk y.1) (r : PairN ys vs) (dd : h'.DictOfH (nestedKind P w) a vs) : DN0 a ys h' := by
  obtain ⟨o, es, ep, e1, e2, e3, e4, _, e6⟩ := dd
  have pl : ∀ y ∈ vs, plainN y.1 = true := fun y hy => by
    have hm : y.1 ∈ ys.map (·.1) := by rw [PairN.keys r]; exact List.mem_map.mpr ⟨y, hy, rfl⟩
    obtain ⟨x, hx, q⟩ := List.mem_map.mp hm
    rw [← q]; exact (ok x hx).1
  exact ⟨z1, z2, by rw [PairN.keys r]; exact e6, ok, vs, r, o, es, ep, e1, e2, e3, by rw [e4, ent_map pl]⟩
end
/-- what is found at a key -/
def NGet (H : Hp) (a : Addr) (y : V) (o : Option V) : Prop := ∃ xs k b, H a = some (DNo a xs) ∧ (∀ x ∈ xs, KeyV H x.1 (.ref x.2.1)) ∧ y = .ref b ∧ KeyOk k ∧ KeyV H k (.ref b) ∧ o = vAtN xs k
def NPut (H : Hp) (a : Addr) (y v : V) (H' : Hp) : Prop := ∃ xs k b, H a = some (DNo a xs) ∧ (∀ x ∈ xs, KeyV H x.1 (.ref x.2.1)) ∧ y = .ref b ∧ KeyOk k ∧ KeyV H k (.ref b) ∧ xs.length < sizeLine ∧ H' = upd H a (DNo a (putN xs k b v))
section
variable {X : Cx} {pins : List (Addr × Obj)} {σ : L2.St} {H : Hp} {s : Shared} {a : Addr} {y v : V} {u r : Value} {o : Option V} {A : Around} {E : Value → Shared → Prop}
theorem room_in1 {P : Program} {w : World} (hu : A.units + 64 < cLine) : (nestedKind P w).room A.in1 := by
  show A.units + 1 + 8 < cLine
  omega
theorem room_here {P : Program} {w : World} (hu : A.units + 64 < cLine) : (nestedKind P w).room A := by
  show A.units + 8 < cLine
  omega
theorem n_getItem {Q : Value → Shared → Prop} (hu : A.units + 64 < cLine) (I : Inv X pins σ H s) (g : NGet H a y (some v)) (ry : RelV y u) (h : ∀ w' s', Inv X pins σ H s' → RelV v w' → Q w' s') :
    wpAny (model X.prog X.w) A (getItem (.ref a) u) Q E s := by
  obtain ⟨xs, k, b, e, hx, rfl, hk, kb, eo⟩ := g
  obtain rfl : u = Value.ref b := ry
  obtain ⟨z1, z2, z3, vs, rel, dd⟩ := dn_of I e hx
  obtain ⟨w', hw, rw'⟩ := RelO.some_of (v := v) (o := (atKey vs k).map (·.2)) (by rw [eo]; exact rel.at k)
  obtain ⟨p, hp, hp2⟩ := Option.map_eq_some_iff.mp hw
  refine wpAny_getItem_heap (room_in1 hu) (keyIs I hk kb) dd hp ?_
  rw [hp2]
  exact h w' _ (I.tok _) rw'
theorem n_in {Q : Value → Shared → Prop} (hu : A.units + 64 < cLine) (I : Inv X pins σ H s) (g : NGet H a y o) (ry : RelV y u) (h : ∀ s', Inv X pins σ H s' → Q (.bool o.isSome) s') :
    wpAny (model X.prog X.w) A (compareOp .In u (.ref a)) Q E s := by
  obtain ⟨xs, k, b, e, hx, rfl, hk, kb, eo⟩ := g
  obtain rfl : u = Value.ref b := ry
  obtain ⟨z1, z2, z3, vs, rel, dd⟩ := dn_of I e hx
  refine wpAny_in_heap (room_in1 hu) (keyIs I hk kb) z1 dd ?_
  have q := (rel.at k).isSome_eq
  rw [Option.isSome_map, ← eo] at q
  rw [← q]
  exact h _ (I.tok _)
theorem n_notIn {Q : Value → Shared → Prop} (hu : A.units + 64 < cLine) (I : Inv X pins σ H s) (g : NGet H a y o) (ry : RelV y u) (h : ∀ s', Inv X pins σ H s' → Q (.bool (!o.isSome)) s') :
    wpAny (model X.prog X.w) A (compareOp .NotIn u (.ref a)) Q E s := by
  obtain ⟨xs, k, b, e, hx, rfl, hk, kb, eo⟩ := g
  obtain rfl : u = Value.ref b := ry
  obtain ⟨z1, z2, z3, vs, rel, dd⟩ := dn_of I e hx
  refine wpAny_notIn_heap (room_in1 hu) (keyIs I hk kb) z1 dd ?_
  have q := (rel.at k).isSome_eq
  rw [Option.isSome_map, ← eo] at q
  rw [← q]
  exact h _ (I.tok _)
theorem putN_ok {xs : List (NK × Addr × V)} {k : NK} {b : Addr} (hx : ∀ x ∈ xs, KeyOk x.1) (hk : KeyOk k) : ∀ x ∈ putN xs k b v, KeyOk x.1 := fun x hm => by
  rcases putN_keys xs k b v x hm with ⟨y, hy, e, _⟩ | ⟨e, _⟩
  · rw [e]; exact hx y hy
  · rw [e]; exact hk
theorem n_setItem {H' : Hp} {Q : Unit → Shared → Prop} (hu : A.units + 64 < cLine) (I : Inv X pins σ H s) (g : NPut H a y v H') (ry : RelV y u) (rv : RelV v r) (h : ∀ s', Inv X pins σ H' s' → Q () s') :
    wpAny (model X.prog X.w) A (setItem (.ref a) u r) Q E s := by
  obtain ⟨xs, k, b, e, hx, rfl, hk, kb, hl, rfl⟩ := g
  obtain rfl : u = Value.ref b := ry
  obtain ⟨z1, z2, z3, vs, rel, dd⟩ := dn_of I e hx
  have hz : vs.length ≤ sizeLine := by rw [← Paired.length rel]; exact z2
  have hl' : (putN xs k b v).length ≤ sizeLine := by have := putN_len xs k b v; omega
  refine wpAny_setItem_heap (hsz := hz) (room_in1 hu) (keyIs I hk kb) dd fun h' dd' hs => h _ ?_
  have he : ∃ q, h'.get? a = some q := let ⟨q, _, _, hq, _⟩ := dd'; ⟨q, hq⟩
  exact d_write I (by rw [e]; exact True.intro) hs he (dn_ok (dn_back z1 hl' (putN_ok z3 hk) (PairN.put rel k b rv) dd'))
/-- .. by a comprehension -/
theorem n_dictSet {H' : Hp} {Q : Unit → Shared → Prop} (hu : A.units + 64 < cLine) (I : Inv X pins σ H s) (g : NPut H a y v H') (ry : RelV y u) (rv : RelV v r) (h : ∀ s', Inv X pins σ H' s' → Q () s') :
    wpAny (model X.prog X.w) A (dictSet a u r) Q E s := by
  obtain ⟨xs, k, b, e, hx, rfl, hk, kb, hl, rfl⟩ := g
  obtain rfl : u = Value.ref b := ry
  obtain ⟨z1, z2, z3, vs, rel, dd⟩ := dn_of I e hx
  have hz : vs.length ≤ sizeLine := by rw [← Paired.length rel]; exact z2
  have hl' : (putN xs k b v).length ≤ sizeLine := by have := putN_len xs k b v; omega
  refine wpAny_dictSet_heap (hsz := hz) (room_here hu) (keyIs I hk kb) dd fun h' dd' hs => h _ ?_
  have he : ∃ q, h'.get? a = some q := let ⟨q, _, _, hq, _⟩ := dd'; ⟨q, hq⟩
  exact d_write I (by rw [e]; exact True.intro) hs he (dn_ok (dn_back z1 hl' (putN_ok z3 hk) (PairN.put rel k b rv) dd'))
theorem n_typeIs (I : Inv X pins σ H s) (g : NGet H a y o) : s.TypeIs (.ref a) "dict" := by
  obtain ⟨xs, k, b, e, hx, _⟩ := g
  obtain ⟨_, _, _, vs, _, dd⟩ := dn_of I e hx
  exact dd.typeIs
end
/-! ### both kinds of dicts -/
def GetD (H : Hp) (a : Addr) (y : V) (o : Option V) : Prop := DGet H a y o ∨ NGet H a y o
def PutD (H : Hp) (a : Addr) (y v : V) (H' : Hp) : Prop := DPut H a y v H' ∨ NPut H a y v H'
def tGetD (td ty : TE) : TE := fun σ H Q => td σ H fun x H1 => ty σ H1 fun y H2 => ∃ a v, x = .ref a ∧ GetD H2 a y (some v) ∧ Q v H2
def tInD (ty td : TE) : TE := fun σ H Q => ty σ H fun y H1 => td σ H1 fun x H2 => ∃ a o, x = .ref a ∧ GetD H2 a y o ∧ Q (.bl o.isSome) H2
def tNotInD (ty td : TE) : TE := fun σ H Q => ty σ H fun y H1 => td σ H1 fun x H2 => ∃ a o, x = .ref a ∧ GetD H2 a y o ∧ Q (.bl (!o.isSome)) H2
def sPutD (td ty tv : TE) : TS := fun D σ H => tv σ H fun v H1 => td σ H1 fun x H2 => ty σ H2 fun y H3 => ∃ a H4, x = .ref a ∧ PutD H3 a y v H4 ∧ D.nx σ H4
section
variable {X : Cx} {o i e value : Expr} {pos pos' tpos : Pos} {td ty tv : TE}
theorem up1 (hu : X.A.units + 64 < cLine) : X.A.units + 1 < cLine := by omega
theorem pe_getD (hu : X.A.units + 64 < cLine) (ho : PE X o td) (hi : PE X i ty) (hs : NoSl i) : PE X (.Subscript o i pos) (tGetD td ty) := by
  constructor
  intro pins s σ H Q I h
  refine subD_of F.slot_dict_getitem.lookup hs ?_
  refine thn (ho.run pins s σ H _ I h) ?_
  rintro u s1 ⟨x, H1, I1, rx, q1⟩
  refine thn (hi.run pins s1 σ H1 _ I1 q1) ?_
  rintro iv s2 ⟨y, H2, I2, ry, a, v, rfl, g, q2⟩
  obtain rfl : u = Value.ref a := rx
  rcases g with g | g
  · exact ⟨dict_typeIs I2 g, d_getItem (up1 hu) I2 g ry fun w' s3 I3 rw' => ⟨_, _, I3, rw', q2⟩⟩
  · exact ⟨n_typeIs I2 g, n_getItem hu I2 g ry fun w' s3 I3 rw' => ⟨_, _, I3, rw', q2⟩⟩
theorem pc_inD (hu : X.A.units + 64 < cLine) (hi : PE X i ty) (ho : PE X o td) : PC X .In i o (tInD ty td) := by
  constructor
  intro pins s σ H Q I h
  refine thn (hi.run pins s σ H _ I h) ?_
  rintro iv s1 ⟨y, H1, I1, ry, q1⟩
  refine thn (ho.run pins s1 σ H1 _ I1 q1) ?_
  rintro u s2 ⟨x, H2, I2, rx, a, ov, rfl, g, q2⟩
  obtain rfl : u = Value.ref a := rx
  rcases g with g | g
  · exact d_in (up1 hu) I2 g ry fun s3 I3 => ⟨.bl ov.isSome, _, I3, rfl, q2⟩
  · exact n_in hu I2 g ry fun s3 I3 => ⟨.bl ov.isSome, _, I3, rfl, q2⟩
theorem pc_notInD (hu : X.A.units + 64 < cLine) (hi : PE X i ty) (ho : PE X o td) : PC X .NotIn i o (tNotInD ty td) := by
  constructor
  intro pins s σ H Q I h
  refine thn (hi.run pins s σ H _ I h) ?_
  rintro iv s1 ⟨y, H1, I1, ry, q1⟩
  refine thn (ho.run pins s1 σ H1 _ I1 q1) ?_
  rintro u s2 ⟨x, H2, I2, rx, a, ov, rfl, g, q2⟩
  obtain rfl : u = Value.ref a := rx
  rcases g with g | g
  · exact d_notIn (up1 hu) I2 g ry fun s3 I3 => ⟨.bl (!ov.isSome), _, I3, rfl, q2⟩
  · exact n_notIn hu I2 g ry fun s3 I3 => ⟨.bl (!ov.isSome), _, I3, rfl, q2⟩
theorem ps_putD (hu : X.A.units + 64 < cLine) (ho : PE X o td) (hi : PE X i ty) (hv : PE X value tv) (hs : swapsWith value (some (.Subscript o i pos')) pos.line X.env = pure false) :
    PS X (.Assign [.Subscript o i pos'] value pos) (sPutD td ty tv) := by
  constructor
  intro pins s σ H D I h
  refine wpAny_Assign_Subscript ?_ hs
  refine thn (hv.run pins s σ H _ I h) ?_
  rintro r s1 ⟨v, H1, I1, rv, q1⟩
  refine thn (ho.run pins s1 σ H1 _ I1 q1) ?_
  rintro u s2 ⟨x, H2, I2, rx, q2⟩
  refine thn (hi.run pins s2 σ H2 _ I2 q2) ?_
  rintro iv s3 ⟨y, H3, I3, ry, a, H4, rfl, g, q3⟩
  obtain rfl : u = Value.ref a := rx
  rcases g with g | g
  · exact d_setItem (up1 hu) I3 g ry rv fun s4 I4 => ⟨_, _, I4, q3⟩
  · exact n_setItem hu I3 g ry rv fun s4 I4 => ⟨_, _, I4, q3⟩
/-- {}, to be a dict of tuples -/
def tNewN : TE := fun _ H Q => ∀ p, H p = none → Q (.ref p) (upd H p (DNo p []))
theorem pe_newN : PE X (.Dict [] [] pos) tNewN := by
  constructor
  intro pins s σ H Q I h
  have J := I.laid (a := s.heap.objs.size) (o := DNo s.heap.objs.size []) (t' := s.toks) (fun _ _ q => Heap.get?_push_of_some _ q) (Nat.le_refl _) (dn_empty s.heap I.big)
  exact wpAny_Dict_empty ⟨.ref s.heap.objs.size, _, J, rfl, h _ (I.hok.fresh (Nat.le_refl _))⟩
end
end DL

/-! D6: lists and dicts of one's own changed; a def's body. -/
namespace DL
open PySem L2

/-! ### methods of one's own lists -/
/-- a method by values: the thing of one's own at a becomes d', the answer is c -/
def PM (K : Frag) (r : V → List V → Hp → VK → Prop) (f : D → List D → Option (D × D)) : Prop := ∀ (G H : Hp) (a : Addr) (d : D) (xs : List V) (ds : List D) (c d' : D) (Q : VK), Same G H → OwnAt K G H d a → Rps K G ds xs → f d ds = some (c, d') →
  (∀ v o, Rp K G c v → OwnAt K G (upd H a o) d' a → Q v (upd H a o)) → r (.ref a) xs H Q
def isL : D → Bool
  | .list _ => true
  | _ => false
def mList (iv : IV) : M Unit := .bind (mGet iv) fun p => if isL p.2 = true then .pure () else .un
def dMut (f : D → List D → Option (D × D)) (mo : M IV) (mas : M (List IV)) : M IV := .bind mo fun o => .bind (mList o) fun _ => .bind mas fun as => .bind (keeps as) fun xs => .bind (mGet o) fun p => .bind (.opt (f p.2 xs)) fun r => .bind (mPut p.1 r.2) fun _ => .pure (.val r.1)
theorem post_get {γ δ : Type} {C : Cc} {R' : Rel γ δ} {iv : IV} {v : V} {f : Nat × D → M γ} {G H : Hp} {ρ : Env} {σ : St} {Q : δ → Hp → Prop} (st : St0 C.K G H ρ σ) (r : IvOk C.K G ρ σ iv v) (h : Post C R' G H ρ σ (M.bind (mGet iv) f ρ) Q) :
    ∃ i d s a, iv = .sl i ∧ ρ[i]? = some (some s) ∧ s.isM = true ∧ s.d = d ∧ v = .ref a ∧ σ[i]? = some (some (V.ref a)) ∧ OwnAt C.K G H d a ∧ Post C R' G H ρ σ (f (i, d) ρ) Q := by
  unfold M.bind at h
  cases e : mGet iv ρ with
  | un => rw [e] at h; exact h.elim
  | exc x ρ1 =>
    exfalso
    unfold mGet at e
    cases iv with
    | val d => cases e
    | sl i =>
      simp only at e
      split at e
      · split at e <;> cases e
      · cases e
  | ok p ρ1 =>
    rw [e] at h
    obtain ⟨rfl, h1, s, a, h2, h3, h4, h5, h6, h7⟩ := mGet_inv st r e
    exact ⟨p.1, p.2, s, a, h1, h2, h3, h4, h5, h6, h7, h⟩
/-- storing behind the operation: what is wanted -/
theorem post_put {C : Cc} {i : Nat} {s : Sl} {c d' : D} {a : Addr} {o : HO} {v : V} {G H : Hp} {ρ : Env} {σ : St} {Q : VK} (st : St0 C.K G H ρ σ) (e : ρ[i]? = some (some s)) (m : s.isM = true) (ev : σ[i]? = some (some (V.ref a)))
    (h : Post C (RIv C.K) G H ρ σ (M.bind (mPut i d') (fun _ => M.pure (IV.val c)) ρ) Q) (rc : Rp C.K G c v) (oa : OwnAt C.K G (upd H a o) d' a) : Q v (upd H a o) := by
  unfold M.bind mPut at h
  simp only [e, m, if_true] at h
  obtain ⟨st2, s2, sh2⟩ := st.mut e m ev oa
  exact h v G (upd H a o) s2 st2 sh2 rc
theorem post_un {γ δ : Type} {C : Cc} {R' : Rel γ δ} {b : Bool} {f : Unit → M γ} {G H : Hp} {ρ : Env} {σ : St} {Q : δ → Hp → Prop} (h : Post C R' G H ρ σ (M.bind (if b = true then M.pure () else M.un) f ρ) Q) : b = true ∧ Post C R' G H ρ σ (f () ρ) Q := by
  cases b with
  | true => exact ⟨rfl, h⟩
  | false => exact h.elim
section
variable {C : Cc} {X : Cx} {e a b o : Expr} {es : List Expr} {te ta tb to : TE} {me ma mb mo mi mv : M IV} {mas : M (List IV)} {tas : TA} {pos : Pos} {s : Stmt}
theorem ok_mut {C : Cc} {r : V → List V → Hp → VK → Prop} {f : D → List D → Option (D × D)} {to : TE} {tas : TA} {mo : M IV} {mas : M (List IV)} (p : PM C.K r f) (ho : MOk C (RIv C.K) to mo) (ha : MOk C (RIvs C.K) tas mas) : MOk C (RIv C.K) (tBM C.K "list" r to tas) (dMut f mo mas) := by
  intro G H ρ σ Q st h
  show to σ H _
  refine bindT ho st h fun ov ρ1 x G1 H1 s1 st1 sh1 r1 h1 => ?_
  unfold mList at h1
  rw [M_bind_assoc] at h1
  obtain ⟨i, d, sl, ad, rfl, e1, m1, d1, rfl, ev, oa, h2⟩ := post_get st1 r1 h1
  obtain ⟨hl, h3⟩ := post_un h2
  refine ⟨?_, ?_⟩
  · cases d <;> try (cases hl; done)
    obtain ⟨_, vs, ea, _⟩ := oa
    exact .inl ⟨rfl, vs, .inl (.inl ea)⟩
  · refine bindT ha st1 h3 fun l ρ2 xs G2 H2 s2 st2 sh2 r2 h4 => ?_
    obtain ⟨ds, rd, h5⟩ := post_keeps r2 h4
    obtain ⟨j, d2, sl2, ad2, ej, e2, m2, d3, ea2, ev2, oa2, h6⟩ := post_get st2 (IvOk.step r1 s2.gg sh2) h5
    cases ej
    cases ea2
    obtain ⟨⟨c, d'⟩, ef, h7⟩ := post_opt h6
    exact p G2 H2 ad d2 xs ds c d' Q st2.gh oa2 rd ef fun v o rc oa3 => post_put st2 e2 m2 ev2 h7 rc oa3
theorem ej_mut {r : V → List V → Hp → VK → Prop} {f : D → List D → Option (D × D)} (hp : PE X o to → PA X es tas → PE X e (tBM C.K "list" r to tas)) (p : PM C.K r f) (ho : EJ C X o to mo) (ha : AJ C X es tas mas) : EJ C X e (tBM C.K "list" r to tas) (dMut f mo mas) :=
  ⟨hp ho.1 ha.1, ok_mut p ho.2 ha.2⟩
/-- .. without arguments -/
theorem ok_mut0 {C : Cc} {r : V → List V → Hp → VK → Prop} {f : D → List D → Option (D × D)} {to : TE} {mo : M IV} (p : PM C.K r f) (ho : MOk C (RIv C.K) to mo) : MOk C (RIv C.K) (tBM0 C.K "list" r to) (dMut f mo (.pure [])) := by
  have h0 : MOk C (RIvs C.K) tNil (M.pure []) := fun G H ρ σ Q st h => h [] G H Stp.refl st (Sh.refl ρ) .nil
  exact ok_mut p ho h0
theorem ej_mut0 {r : V → List V → Hp → VK → Prop} {f : D → List D → Option (D × D)} (hp : PE X o to → PE X e (tBM0 C.K "list" r to)) (p : PM C.K r f) (ho : EJ C X o to mo) : EJ C X e (tBM0 C.K "list" r to) (dMut f mo (.pure [])) :=
  ⟨hp ho.1, ok_mut0 p ho.2⟩
def appF : D → List D → Option (D × D)
  | .list l, [x] => if l.length < LIM then some (.none, .list (l ++ [x])) else none
  | _, _ => none
theorem own_lst {K : Frag} {G H : Hp} {l : List D} {a : Addr} {vs : List V} (gn : G a = none) (r : Rps K G l vs) : OwnAt K G (upd H a (.lst vs)) (.list l) a := ⟨gn, vs, upd_same, r⟩
theorem pm_append {K : Frag} : PM K rAppend appF := by
  intro G H a d xs ds c d' Q gh oa rx h k
  unfold appF at h
  split at h
  · rename_i l x
    split at h
    · rename_i hl
      cases h
      obtain ⟨gn, vs, ea, r⟩ := oa
      simp only [Rps] at rx
      obtain ⟨v, _, rfl, rv, rfl⟩ := rx
      refine ⟨a, vs, v, rfl, rfl, ea, by rw [← r.length]; exact Nat.lt_of_lt_of_le hl lim_le, k .non _ (by simp only [Rp]) (own_lst gn (r.append ?_))⟩
      simp only [Rps]
      exact ⟨v, [], rfl, rv, rfl⟩
    · cases h
  · cases h
def popF : D → List D → Option (D × D)
  | .list l, [] => (l[l.length - 1]?).map fun x => (x, .list l.dropLast)
  | _, _ => none
theorem pm_pop {K : Frag} : PM K rPop popF := by
  intro G H a d xs ds c d' Q gh oa rx h k
  unfold popF at h
  split at h
  · rename_i l
    obtain ⟨gn, vs, ea, r⟩ := oa
    simp only [Rps] at rx
    subst rx
    cases e : l[l.length - 1]? with
    | none => rw [e] at h; cases h
    | some x =>
      rw [e] at h
      cases h
      obtain ⟨v, ev, rv⟩ := r.get e
      rw [r.length] at ev
      exact ⟨a, vs, v, rfl, rfl, ea, ev, k v _ rv (own_lst gn r.dropLast)⟩
  · cases h
def popAtF : D → List D → Option (D × D)
  | .list l, [.int i] => if l.length ≤ LIM then (ixN l.length i).bind fun j => (l[j]?).map fun x => (x, .list (l.eraseIdx j)) else none
  | _, _ => none
theorem pm_popAt {K : Frag} : PM K rPopAt popAtF := by
  intro G H a d xs ds c d' Q gh oa rx h k
  unfold popAtF at h
  split at h
  · rename_i l i
    obtain ⟨gn, vs, ea, r⟩ := oa
    simp only [Rps, Rp] at rx
    obtain ⟨v, _, rfl, rfl, rfl⟩ := rx
    split at h
    case isFalse => cases h
    rename_i hz
    cases ej : ixN l.length i with
    | none => rw [ej] at h; cases h
    | some j =>
      rw [ej] at h
      simp only [Option.bind_some] at h
      cases e : l[j]? with
      | none => rw [e] at h; cases h
      | some x =>
        rw [e] at h
        cases h
        obtain ⟨v, ev, rv⟩ := r.get e
        obtain ⟨h1, h2, h3, h4⟩ := ixN_seq ej
        have hz : l.length ≤ 100000 := hz
        exact ⟨a, vs, i, j, v, rfl, rfl, ea, by omega, by omega, by rw [← r.length]; exact h1, ev, k v _ rv (own_lst gn (r.eraseIdx j))⟩
  · cases h

/-! ### a place of one's own list, a key of one's own dict -/
def sSub (f : D → D → D → Option D) (mo mi mv : M IV) : SM := .bind mv fun v => .bind (.keep v) fun x => .bind mo fun o => .bind mi fun i => .bind (.keep i) fun k => .bind (mGet o) fun p => .bind (.opt (f p.2 k x)) fun d' => .bind (mPut p.1 d') fun _ => .pure .nx
/-- the change by values -/
def PSub (K : Frag) (r : V → V → V → Hp → (Hp → Prop) → Prop) (f : D → D → D → Option D) : Prop := ∀ (G H : Hp) (a : Addr) (i x : V) (d k y d' : D) (Q : Hp → Prop), Same G H → OwnAt K G H d a → Rp K G k i → Rp K G y x → f d k y = some d' →
  (∀ o, OwnAt K G (upd H a o) d' a → Q (upd H a o)) → r (.ref a) i x H Q
theorem spost_get {C : Cc} {iv : IV} {v : V} {f : Nat × D → SM} {G0 H0 G H : Hp} {B : Nat → Option Addr} {ρ : Env} {σ : St} {E : Ends} (st : St0 C.K G H ρ σ) (r : IvOk C.K G ρ σ iv v) (h : SPost C G0 H0 B E (M.bind (mGet iv) f ρ)) :
    ∃ i d s a, iv = .sl i ∧ ρ[i]? = some (some s) ∧ s.isM = true ∧ s.d = d ∧ v = .ref a ∧ σ[i]? = some (some (V.ref a)) ∧ OwnAt C.K G H d a ∧ SPost C G0 H0 B E (f (i, d) ρ) := by
  unfold M.bind at h
  cases e : mGet iv ρ with
  | un => rw [e] at h; exact h.elim
  | exc x ρ1 =>
    exfalso
    unfold mGet at e
    cases iv with
    | val d => cases e
    | sl i =>
      simp only at e
      split at e
      · split at e <;> cases e
      · cases e
  | ok p ρ1 =>
    rw [e] at h
    obtain ⟨rfl, h1, s, a, h2, h3, h4, h5, h6, h7⟩ := mGet_inv st r e
    exact ⟨p.1, p.2, s, a, h1, h2, h3, h4, h5, h6, h7, h⟩
theorem ok_sub {C : Cc} {r : V → V → V → Hp → (Hp → Prop) → Prop} {f : D → D → D → Option D} {to ti tv : TE} {mo mi mv : M IV} (p : PSub C.K r f) (ho : MOk C (RIv C.K) to mo) (hi : MOk C (RIv C.K) ti mi) (hv : MOk C (RIv C.K) tv mv) :
    SOk C (fun D σ H => tv σ H fun x H1 => to σ H1 fun o H2 => ti σ H2 fun i H3 => r o i x H3 fun H4 => D.nx σ H4) (sSub f mo mi mv) := by
  intro G0 H0 B G H ρ σ E en q
  refine bindS hv en q fun iv ρ1 x G1 H1 gg1 sh1 en1 r1 q1 => ?_
  obtain ⟨y, ry, q2⟩ := spost_keep r1 q1
  refine bindS ho en1 q2 fun ov ρ2 o G2 H2 gg2 sh2 en2 r2 q3 => ?_
  refine bindS hi en2 q3 fun kv ρ3 i G3 H3 gg3 sh3 en3 r3 q4 => ?_
  obtain ⟨k, rk, q5⟩ := spost_keep r3 q4
  obtain ⟨j, d, sl, a, rfl, e1, m1, d1, rfl, ev, oa, q6⟩ := spost_get en3.st (IvOk.step r2 gg3 sh3) q5
  obtain ⟨d', ed, q7⟩ := spost_opt q6
  refine p G3 H3 a i x d k y d' _ en3.st.gh oa rk (Rp.mono (gg2.trans gg3) y x ry) ed fun ob oa2 => ?_
  obtain ⟨st2, s2, sh2⟩ := en3.st.mut e1 m1 ev oa2
  unfold M.bind mPut at q7
  simp only [e1, m1, if_true] at q7
  exact q7 σ G3 _ (en3.step s2 st2 sh2)

def setL : D → D → D → Option D
  | .list l, .int k, x => (ixN l.length k).map fun j => .list (l.set j x)
  | _, _, _ => none
theorem ps_setL {K : Frag} : PSub K rSetL setL := by
  intro G H a i x d k y d' Q gh oa rk ry h q
  unfold setL at h
  split at h
  · rename_i l kk
    obtain ⟨gn, vs, ea, r⟩ := oa
    simp only [Rp] at rk
    subst rk
    cases ej : ixN l.length kk with
    | none => rw [ej] at h; cases h
    | some j =>
      rw [ej] at h
      cases h
      exact ⟨a, vs, kk, j, rfl, rfl, ea, by rw [← r.length]; exact ej, q _ (own_lst gn (r.set j ry))⟩
  · cases h
theorem sj_setL (hp : PE X o to → PE X b ti → PE X e tv → PS X s (tAsg tv (gSub to ti rSetL))) (ho : EJ C X o to mo) (hi : EJ C X b ti mi) (hv : EJ C X e tv mv) : SJ C X s (tAsg tv (gSub to ti rSetL)) (sSub setL mo mi mv) :=
  ⟨hp ho.1 hi.1 hv.1, ok_sub ps_setL ho.2 hi.2 hv.2⟩

/-! ### dicts -/
def lookD (l : List (D × D)) (k : D) : Option D := (l.find? fun p => PyData.eqv p.1 k).map (·.2)
def putD (l : List (D × D)) (k x : D) : List (D × D) := if (l.any fun p => PyData.eqv p.1 k) = true then l.map (fun p => if PyData.eqv p.1 k = true then (p.1, x) else p) else l ++ [(k, x)]
theorem keyD_eqv {d e : D} {k j : Key} (h1 : KeyD d k) (h2 : KeyD e j) : PyData.eqv d e = decide (k = j) := by
  cases d <;> simp only [KeyD] at h1 <;> cases e <;> simp only [KeyD] at h2 <;> subst h1 h2
  · rw [key_ll]; simp only [PyData.eqv]
  · rw [key_lr]; simp only [PyData.eqv]
  · rw [key_rl]; simp only [PyData.eqv]
  · rw [key_rr]; simp only [PyData.eqv]
    rw [Bool.eq_iff_iff]
    simp
mutual
theorem data_eqv : ∀ k j : NK, PyData.eqv k.data j.data = decide (k = j)
  | .none, .none => by simp [NestedKey.data, PyData.eqv]
  | .none, .num _ => by simp [NestedKey.data, PyData.eqv]
  | .none, .text _ => by simp [NestedKey.data, PyData.eqv]
  | .none, .tup _ => by simp [NestedKey.data, PyData.eqv]
  | .num _, .none => by simp [NestedKey.data, PyData.eqv]
  | .num i, .num j => by simp only [NestedKey.data, PyData.eqv]; rw [Bool.eq_iff_iff]; simp
  | .num _, .text _ => by simp [NestedKey.data, PyData.eqv]
  | .num _, .tup _ => by simp [NestedKey.data, PyData.eqv]
  | .text _, .none => by simp [NestedKey.data, PyData.eqv]
  | .text _, .num _ => by simp [NestedKey.data, PyData.eqv]
  | .text x, .text y => by simp only [NestedKey.data, PyData.eqv]; rw [Bool.eq_iff_iff]; simp
  | .text _, .tup _ => by simp [NestedKey.data, PyData.eqv]
  | .tup _, .none => by simp [NestedKey.data, PyData.eqv]
  | .tup _, .num _ => by simp [NestedKey.data, PyData.eqv]
  | .tup _, .text _ => by simp [NestedKey.data, PyData.eqv]
  | .tup ks, .tup js => by
    simp only [NestedKey.data, PyData.eqv, datas_eqv ks js]
    rw [Bool.eq_iff_iff]
    simp
theorem datas_eqv : ∀ ks js : List NK, PyData.eqvAll (NestedKey.datas ks) (NestedKey.datas js) = decide (ks = js)
  | [], [] => by simp [NestedKey.datas, PyData.eqvAll]
  | [], _ :: _ => by simp [NestedKey.datas, PyData.eqvAll]
  | _ :: _, [] => by simp [NestedKey.datas, PyData.eqvAll]
  | k :: ks, j :: js => by simp only [NestedKey.datas, PyData.eqvAll, data_eqv k j, datas_eqv ks js, List.cons.injEq, Bool.decide_and]
end
theorem tkeyD_eqv {d e : D} {k j : NK} (h1 : KeyN d k) (h2 : KeyN e j) : PyData.eqv d e = decide (k = j) := by
  rw [h1.1, h2.1]
  exact data_eqv k j

theorem RpK.look {K : Frag} {G : Hp} {e : D} {k : Key} (he : KeyD e k) : ∀ {l : List (D × D)} {kvs : List (Key × V)}, RpK K G l kvs → (lookD l e = none → valV kvs k = none) ∧ ∀ d, lookD l e = some d → ∃ v, valV kvs k = some v ∧ Rp K G d v
  | [], kvs, h => by
    simp only [RpK] at h
    subst h
    exact ⟨fun _ => rfl, fun d q => by cases q⟩
  | p :: l, kvs, h => by
    simp only [RpK] at h
    obtain ⟨k1, v, r, rfl, h1, h2, h3⟩ := h
    have ih := RpK.look he h3
    have ek := keyD_eqv h1 he
    by_cases hk : k1 = k
    · have e1 : PyData.eqv p.1 e = true := by rw [ek]; exact decide_eq_true hk
      have e2 : lookD (p :: l) e = some p.2 := by simp [lookD, List.find?_cons, e1]
      have e3 : valV ((k1, v) :: r) k = some v := valV_pos hk
      rw [e2, e3]
      exact ⟨fun q => (by cases q), fun d q => by cases q; exact ⟨v, rfl, h2⟩⟩
    · have e1 : PyData.eqv p.1 e = false := by rw [ek]; exact decide_eq_false hk
      have e2 : lookD (p :: l) e = lookD l e := by simp [lookD, List.find?_cons, e1]
      have e3 : valV ((k1, v) :: r) k = valV r k := by simp [valV, List.find?_cons, hk]
      rw [e2, e3]
      exact ih
theorem RpT.look {K : Frag} {G : Hp} {e : D} {k : NK} (he : KeyN e k) : ∀ {l : List (D × D)} {kvs : List (NK × Addr × V)}, RpT K G l kvs → (lookD l e = none → vAtN kvs k = none) ∧ ∀ d, lookD l e = some d → ∃ v, vAtN kvs k = some v ∧ Rp K G d v
  | [], kvs, h => by
    simp only [RpT] at h
    subst h
    exact ⟨fun _ => rfl, fun d q => by cases q⟩
  | p :: l, kvs, h => by
    simp only [RpT] at h
    obtain ⟨k1, b, v, r, rfl, h1, _, h2, h3⟩ := h
    have ih := RpT.look he h3
    have ek := tkeyD_eqv h1 he
    by_cases hk : k1 = k
    · have e1 : PyData.eqv p.1 e = true := by rw [ek]; exact decide_eq_true hk
      have e2 : lookD (p :: l) e = some p.2 := by simp [lookD, List.find?_cons, e1]
      have e3 : vAtN ((k1, b, v) :: r) k = some v := by simp [vAtN, List.find?_cons, hk]
      rw [e2, e3]
      exact ⟨fun q => (by cases q), fun d q => by cases q; exact ⟨v, rfl, h2⟩⟩
    · have e1 : PyData.eqv p.1 e = false := by rw [ek]; exact decide_eq_false hk
      have e2 : lookD (p :: l) e = lookD l e := by simp [lookD, List.find?_cons, e1]
      have e3 : vAtN ((k1, b, v) :: r) k = vAtN r k := by simp [vAtN, List.find?_cons, hk]
      rw [e2, e3]
      exact ih
theorem RpK.any {K : Frag} {G : Hp} {e : D} {k : Key} (he : KeyD e k) : ∀ {l : List (D × D)} {kvs : List (Key × V)}, RpK K G l kvs → (l.any fun p => PyData.eqv p.1 e) = kvs.any fun kv => decide (kv.1 = k)
  | [], kvs, h => by simp only [RpK] at h; subst h; rfl
  | p :: l, kvs, h => by
    simp only [RpK] at h
    obtain ⟨k1, v, r, rfl, h1, h2, h3⟩ := h
    simp only [List.any_cons, keyD_eqv h1 he, RpK.any he h3]
theorem RpT.any {K : Frag} {G : Hp} {e : D} {k : NK} (he : KeyN e k) : ∀ {l : List (D × D)} {kvs : List (NK × Addr × V)}, RpT K G l kvs → (l.any fun p => PyData.eqv p.1 e) = (vAtN kvs k).isSome
  | [], kvs, h => by simp only [RpT] at h; subst h; rfl
  | p :: l, kvs, h => by
    simp only [RpT] at h
    obtain ⟨k1, b, v, r, rfl, h1, _, h2, h3⟩ := h
    simp only [List.any_cons, tkeyD_eqv h1 he, RpT.any he h3]
    by_cases hk : k1 = k <;> simp [vAtN, List.find?_cons, hk]
theorem RpK.rep {K : Frag} {G : Hp} {e x : D} {k : Key} {y : V} (he : KeyD e k) (rx : Rp K G x y) : ∀ {l : List (D × D)} {kvs : List (Key × V)}, RpK K G l kvs → RpK K G (l.map fun p => if PyData.eqv p.1 e = true then (p.1, x) else p) (kvs.map fun kv => if kv.1 = k then (kv.1, y) else kv)
  | [], kvs, h => by simp only [RpK] at h; subst h; simp only [List.map_nil, RpK]
  | p :: l, kvs, h => by
    simp only [RpK] at h
    obtain ⟨k1, v, r, rfl, h1, h2, h3⟩ := h
    have ih := RpK.rep he rx h3
    simp only [List.map_cons, keyD_eqv h1 he]
    by_cases hk : k1 = k
    · simp only [hk, decide_true, if_true, RpK]
      exact ⟨k, y, _, rfl, by rw [← hk]; exact h1, rx, ih⟩
    · simp only [hk, decide_false, if_false, RpK]
      exact ⟨k1, v, _, rfl, h1, h2, ih⟩
theorem RpT.rep {K : Frag} {G : Hp} {e x : D} {k : NK} {y : V} (he : KeyN e k) (rx : Rp K G x y) : ∀ {l : List (D × D)} {kvs : List (NK × Addr × V)}, RpT K G l kvs → RpT K G (l.map fun p => if PyData.eqv p.1 e = true then (p.1, x) else p) (kvs.map fun kv => if kv.1 = k then (kv.1, kv.2.1, y) else kv)
  | [], kvs, h => by simp only [RpT] at h; subst h; simp only [List.map_nil, RpT]
  | p :: l, kvs, h => by
    simp only [RpT] at h
    obtain ⟨k1, b, v, r, rfl, h1, h4, h2, h3⟩ := h
    have ih := RpT.rep he rx h3
    simp only [List.map_cons, tkeyD_eqv h1 he]
    by_cases hk : k1 = k
    · simp only [hk, decide_true, if_true, RpT]
      exact ⟨k, b, y, _, rfl, by rw [← hk]; exact h1, h4, rx, ih⟩
    · simp only [hk, decide_false, if_false, RpT]
      exact ⟨k1, b, v, _, rfl, h1, h4, h2, ih⟩
theorem RpK.snoc {K : Frag} {G : Hp} {e x : D} {k : Key} {y : V} (he : KeyD e k) (rx : Rp K G x y) : ∀ {l : List (D × D)} {kvs : List (Key × V)}, RpK K G l kvs → RpK K G (l ++ [(e, x)]) (kvs ++ [(k, y)])
  | [], kvs, h => by simp only [RpK] at h; subst h; simp only [List.nil_append, RpK]; exact ⟨k, y, [], rfl, he, rx, rfl⟩
  | p :: l, kvs, h => by
    simp only [RpK] at h
    obtain ⟨k1, v, r, rfl, h1, h2, h3⟩ := h
    simp only [List.cons_append, RpK]
    exact ⟨k1, v, _, rfl, h1, h2, RpK.snoc he rx h3⟩
theorem RpT.snoc {K : Frag} {G : Hp} {e x : D} {k : NK} {b : Addr} {y : V} (he : KeyN e k) (rb : Rp K G e (.ref b)) (rx : Rp K G x y) : ∀ {l : List (D × D)} {kvs : List (NK × Addr × V)}, RpT K G l kvs → RpT K G (l ++ [(e, x)]) (kvs ++ [(k, b, y)])
  | [], kvs, h => by simp only [RpT] at h; subst h; simp only [List.nil_append, RpT]; exact ⟨k, b, y, [], rfl, he, rb, rx, rfl⟩
  | p :: l, kvs, h => by
    simp only [RpT] at h
    obtain ⟨k1, b1, v, r, rfl, h1, h4, h2, h3⟩ := h
    simp only [List.cons_append, RpT]
    exact ⟨k1, b1, v, _, rfl, h1, h4, h2, RpT.snoc he rb rx h3⟩
theorem RpK.put {K : Frag} {G : Hp} {e x : D} {k : Key} {y : V} (he : KeyD e k) (rx : Rp K G x y) {l : List (D × D)} {kvs : List (Key × V)} (h : RpK K G l kvs) : RpK K G (putD l e x) (putK kvs k y) := by
  unfold putD putK
  rw [h.any he]
  split
  · exact h.rep he rx
  · exact h.snoc he rx
theorem RpT.put {K : Frag} {G : Hp} {e x : D} {k : NK} {b : Addr} {y : V} (he : KeyN e k) (rb : Rp K G e (.ref b)) (rx : Rp K G x y) {l : List (D × D)} {kvs : List (NK × Addr × V)} (h : RpT K G l kvs) : RpT K G (putD l e x) (putN kvs k b y) := by
  unfold putD putN
  rw [h.any he]
  split
  · exact h.rep he rx
  · exact h.snoc he rb rx
theorem RpK.length {K : Frag} {G : Hp} : ∀ {l : List (D × D)} {kvs : List (Key × V)}, RpK K G l kvs → l.length = kvs.length
  | [], kvs, h => by simp only [RpK] at h; subst h; rfl
  | p :: l, kvs, h => by
    simp only [RpK] at h
    obtain ⟨k1, v, r, rfl, h1, h2, h3⟩ := h
    simp only [List.length_cons, RpK.length h3]
theorem RpT.length {K : Frag} {G : Hp} : ∀ {l : List (D × D)} {kvs : List (NK × Addr × V)}, RpT K G l kvs → l.length = kvs.length
  | [], kvs, h => by simp only [RpT] at h; subst h; rfl
  | p :: l, kvs, h => by
    simp only [RpT] at h
    obtain ⟨k1, b, v, r, rfl, h1, _, h2, h3⟩ := h
    simp only [List.length_cons, RpT.length h3]
theorem RpT.keys {K : Frag} {G : Hp} : ∀ {l : List (D × D)} {kvs : List (NK × Addr × V)}, RpT K G l kvs → ∀ x ∈ kvs, KeyV G x.1 (.ref x.2.1)
  | [], kvs, h => by simp only [RpT] at h; subst h; intro x hx; cases hx
  | p :: l, kvs, h => by
    simp only [RpT] at h
    obtain ⟨k1, b, v, r, rfl, h1, h4, h2, h3⟩ := h
    intro x hx
    rcases List.mem_cons.mp hx with e | e
    · subst e
      rw [h1.1] at h4
      exact KeyV.of k1 _ h1.2.1 h4
    · exact RpT.keys h3 x e
/-- what may be a key: an int, a text; a tuple of such -/
def leafK : D → Bool
  | .int _ => true
  | .str _ => true
  | _ => false
mutual
def nkOf : D → Option NK
  | .none => some .none
  | .int i => some (.num i)
  | .tuple l => (nksOf l).map .tup
  | _ => none
def nksOf : List D → Option (List NK)
  | [] => some []
  | d :: l => match nkOf d, nksOf l with
    | some k, some ks => some (k :: ks)
    | _, _ => none
end
mutual
theorem nkOf_data : ∀ (d : D) (k : NK), nkOf d = some k → d = k.data ∧ plainN k = true
  | .none, k, h => by simp only [nkOf] at h; cases h; exact ⟨by simp only [NestedKey.data], by simp only [plainN]⟩
  | .int i, k, h => by simp only [nkOf] at h; cases h; exact ⟨by simp only [NestedKey.data], by simp only [plainN]⟩
  | .tuple l, k, h => by
    simp only [nkOf] at h
    obtain ⟨ks, h1, rfl⟩ := Option.map_eq_some_iff.mp h
    obtain ⟨e, p⟩ := nksOf_data l ks h1
    exact ⟨by simp only [NestedKey.data]; rw [← e], by simp only [plainN]; exact p⟩
  | .bool _, k, h => by simp only [nkOf] at h; cases h
  | .str _, k, h => by simp only [nkOf] at h; cases h
  | .list _, k, h => by simp only [nkOf] at h; cases h
  | .dict _, k, h => by simp only [nkOf] at h; cases h
theorem nksOf_data : ∀ (l : List D) (ks : List NK), nksOf l = some ks → l = NestedKey.datas ks ∧ plainNs ks = true
  | [], ks, h => by simp only [nksOf] at h; cases h; exact ⟨by simp only [NestedKey.datas], by simp only [plainNs]⟩
  | d :: l, ks, h => by
    simp only [nksOf] at h
    cases e1 : nkOf d with
    | none => rw [e1] at h; cases h
    | some k =>
      cases e2 : nksOf l with
      | none => rw [e1, e2] at h; cases h
      | some js =>
        rw [e1, e2] at h
        cases h
        obtain ⟨a1, a2⟩ := nkOf_data d k e1
        obtain ⟨b1, b2⟩ := nksOf_data l js e2
        exact ⟨by simp only [NestedKey.datas]; rw [← a1, ← b1], by simp only [plainNs, a2, b2, Bool.and_self]⟩
end
def tupK : D → Bool
  | .tuple l => match nksOf l with
    | some ks => decide ((NestedKey.tup ks).depth ≤ 8)
    | none => false
  | _ => false
theorem tupK_inv {d : D} (h : tupK d = true) : ∃ k, KeyN d k := by
  cases d <;> simp only [tupK] at h <;> try (cases h; done)
  rename_i l
  cases e : nksOf l with
  | none => rw [e] at h; cases h
  | some ks =>
    rw [e] at h
    obtain ⟨h1, h2⟩ := nksOf_data l ks e
    exact ⟨.tup ks, by simp only [NestedKey.data]; rw [← h1], by simp only [plainN]; exact h2, by simpa using h, ks, rfl⟩
theorem leafK_key {K : Frag} {G : Hp} {d : D} {v : V} (h : leafK d = true) (r : Rp K G d v) : ∃ k, KeyD d k ∧ v = kV k := by
  cases d <;> simp only [leafK] at h <;> try (cases h; done)
  · rename_i i; simp only [Rp] at r; exact ⟨Sum.inl i, rfl, r⟩
  · rename_i i; simp only [Rp] at r; exact ⟨Sum.inr i, rfl, r⟩
def isT : List (D × D) → Bool
  | (.none, .none) :: _ => true
  | _ => false
def okK (l : List (D × D)) (k : D) : Bool := if isT l = true then tupK k else leafK k && !scrOnly (.dict l)
/-- d[k], k there; k in d -/
def dgetD : F2
  | .dict l, k => if okK l k = true then lookD l k else none
  | _, _ => none
def dinD (neg : Bool) : F2
  | k, .dict l => if okK l k = true then some (.bool (if neg then !(lookD l k).isSome else (lookD l k).isSome)) else none
  | _, _ => none
theorem isT_inv {l : List (D × D)} (h : isT l = true) : ∃ m, l = (.none, .none) :: m := by
  unfold isT at h
  split at h
  · exact ⟨_, rfl⟩
  · cases h
theorem eqv_none_tup {k : D} (h : tupK k = true) : PyData.eqv .none k = false := by
  obtain ⟨k', h1, _, _, ks, rfl⟩ := tupK_inv h
  rw [h1]
  simp only [NestedKey.data, PyData.eqv]
theorem lookD_mark {m : List (D × D)} {k : D} (h : tupK k = true) : lookD ((.none, .none) :: m) k = lookD m k := by
  simp [lookD, List.find?_cons, eqv_none_tup h]
theorem putD_mark {m : List (D × D)} {k x : D} (h : tupK k = true) : putD ((.none, .none) :: m) k x = (.none, .none) :: putD m k x := by
  unfold putD
  simp only [List.any_cons, eqv_none_tup h, Bool.false_or]
  split
  · simp [eqv_none_tup h]
  · simp
theorem tupK_key {K : Frag} {G : Hp} {d : D} {v : V} (h : tupK d = true) (r : Rp K G d v) : ∃ b k, KeyN d k ∧ v = .ref b ∧ KeyV G k (.ref b) := by
  obtain ⟨k, hk⟩ := tupK_inv h
  have h1 := hk.1
  rw [h1] at r
  have q := KeyV.of k v hk.2.1 r
  obtain ⟨ks, rfl⟩ := hk.2.2.2
  have q' := q
  simp only [KeyV] at q'
  obtain ⟨a, vs, rfl, _⟩ := q'
  exact ⟨a, _, hk, rfl, q⟩
theorem tup_rp {K : Frag} {G H : Hp} {d : D} {v : V} (h : tupK d = true) (r : Rpt K G H d v) : Rp K G d v := by
  cases d <;> simp only [tupK] at h <;> try (cases h; done)
  simp only [Rp]
  exact r
theorem leaf_rp {K : Frag} {G H : Hp} {d : D} {v : V} (h : leafK d = true) (r : Rpt K G H d v) : Rp K G d v := by
  cases d <;> simp only [leafK] at h <;> first | (cases h; done) | simpa only [Rp, Rpt] using r
theorem dict_kind {K : Frag} {G H : Hp} {l : List (D × D)} {x : V} (rx : Rpt K G H (.dict l) x) (hs : isT l = false → scrOnly (.dict l) = false) :
    ∃ a, x = .ref a ∧ if isT l = true then ∃ m kvs, l = (.none, .none) :: m ∧ H a = some (DNo a kvs) ∧ RpT K G m kvs else ∃ kvs, H a = some (.dK kvs) ∧ RpK K G l kvs := by
  obtain ⟨a, rfl, q⟩ := rx
  refine ⟨a, rfl, ?_⟩
  by_cases ht : isT l = true
  · rw [if_pos ht]
    obtain ⟨m, rfl⟩ := isT_inv ht
    rcases q with ⟨kvs, e, r⟩ | ⟨kvs, e, r⟩ | ⟨ns, e, _⟩
    · simp only [RpK, KeyD] at r
      obtain ⟨_, _, _, _, z, _⟩ := r
      exact z.elim
    · simp only [RpTM] at r
      exact ⟨m, kvs, rfl, e, r.2.2⟩
    · cases e
  · rw [if_neg ht]
    have ht' : isT l = false := by simpa using ht
    rcases q with ⟨kvs, e, r⟩ | ⟨kvs, e, r⟩ | ⟨ns, e, _⟩
    · exact ⟨kvs, e, r⟩
    · exfalso
      cases l with
      | nil => simp only [RpTM] at r
      | cons p l =>
        simp only [RpTM] at r
        obtain ⟨p1, p2⟩ := p
        obtain ⟨h1, h2, _⟩ := r
        simp only at h1 h2
        subst h1 h2
        cases ht'
    · subst e
      have := hs ht'
      cases this
/-- what a look-up finds -/
theorem dget_at {K : Frag} {G H : Hp} {l : List (D × D)} {k : D} {x y : V} (gh : Same G H) (rx : Rpt K G H (.dict l) x) (ry : Rpt K G H k y) (hk : okK l k = true) :
    ∃ a o, x = .ref a ∧ GetD H a y o ∧ (lookD l k = none → o = none) ∧ ∀ d, lookD l k = some d → ∃ v, o = some v ∧ Rp K G d v := by
  unfold okK at hk
  by_cases ht : isT l = true
  · rw [if_pos ht] at hk
    obtain ⟨a, rfl, q⟩ := dict_kind rx (fun z => by rw [ht] at z; cases z)
    rw [if_pos ht] at q
    obtain ⟨m, kvs, rfl, e, r⟩ := q
    obtain ⟨b, ks, h1, rfl, eb⟩ := tupK_key hk (tup_rp hk ry)
    rw [lookD_mark hk]
    exact ⟨a, _, rfl, .inr ⟨kvs, ks, b, e, fun x hx => KeyV.mono gh _ _ (r.keys x hx), rfl, ⟨h1.2.1, h1.2.2.1⟩, KeyV.mono gh _ _ eb, rfl⟩, (r.look h1).1, (r.look h1).2⟩
  · rw [if_neg ht, Bool.and_eq_true] at hk
    obtain ⟨a, rfl, q⟩ := dict_kind rx (fun _ => by simpa using hk.2)
    rw [if_neg ht] at q
    obtain ⟨kvs, e, r⟩ := q
    obtain ⟨kk, h1, rfl⟩ := leafK_key hk.1 (leaf_rp hk.1 ry)
    exact ⟨a, _, rfl, .inl (DGet.k e), (r.look h1).1, (r.look h1).2⟩
theorem p_dget {K : Frag} : P2 K (fun x y H Q => ∃ a v, x = .ref a ∧ GetD H a y (some v) ∧ Q v H) dgetD := by
  intro G H x y d e c Q gh rx ry h k
  unfold dgetD at h
  split at h
  · rename_i l kk
    split at h
    · rename_i hk
      obtain ⟨a, o, rfl, dg, _, hs⟩ := dget_at gh rx ry hk
      obtain ⟨v, rfl, rv⟩ := hs c h
      exact ⟨a, v, rfl, dg, k.at gh rv⟩
    · cases h
  · cases h
theorem p_din {K : Frag} {neg : Bool} : P2 K (fun y x H Q => ∃ a o, x = .ref a ∧ GetD H a y o ∧ Q (.bl (if neg then !o.isSome else o.isSome)) H) (dinD neg) := by
  intro G H y x e d c Q gh ry rx h k
  unfold dinD at h
  split at h
  · rename_i kk l
    split at h
    · rename_i hk
      obtain ⟨a, o, rfl, dg, hn, hs⟩ := dget_at gh rx ry hk
      refine ⟨a, o, rfl, dg, ?_⟩
      cases h
      have eo : (lookD l e).isSome = o.isSome := by
        cases q : lookD l e with
        | none => rw [hn q]; rfl
        | some d => obtain ⟨v, rfl, _⟩ := hs d q; rfl
      rw [← eo]
      exact k.bl gh
    · cases h
  · cases h
theorem ej_dget (hp : PE X a ta → PE X b tb → PE X e (tGetD ta tb)) (ha : EJ C X a ta ma) (hb : EJ C X b tb mb) : EJ C X e (tGetD ta tb) (d2 dgetD ma mb) :=
  ⟨hp ha.1 hb.1, ok_op2 (r := fun x y H Q => ∃ a v, x = .ref a ∧ GetD H a y (some v) ∧ Q v H) p_dget ha.2 hb.2⟩
theorem ej_din (hp : PE X a ta → PE X b tb → PE X e (tInD ta tb)) (ha : EJ C X a ta ma) (hb : EJ C X b tb mb) : EJ C X e (tInD ta tb) (d2 (dinD false) ma mb) :=
  ⟨hp ha.1 hb.1, ok_op2 (r := fun y x H Q => ∃ a o, x = .ref a ∧ GetD H a y o ∧ Q (.bl o.isSome) H) (p_din (neg := false)) ha.2 hb.2⟩
theorem ej_dnotin (hp : PE X a ta → PE X b tb → PE X e (tNotInD ta tb)) (ha : EJ C X a ta ma) (hb : EJ C X b tb mb) : EJ C X e (tNotInD ta tb) (d2 (dinD true) ma mb) :=
  ⟨hp ha.1 hb.1, ok_op2 (r := fun y x H Q => ∃ a o, x = .ref a ∧ GetD H a y o ∧ Q (.bl (!o.isSome)) H) (p_din (neg := true)) ha.2 hb.2⟩
theorem tj_din (hp : PE X a ta → PE X b tb → PT X e (tB (tInD ta tb))) (ha : EJ C X a ta ma) (hb : EJ C X b tb mb) : TJ C X e (tB (tInD ta tb)) (dBool (d2 (dinD false) ma mb)) :=
  ⟨hp ha.1 hb.1, ok_bool (ok_op2 (r := fun y x H Q => ∃ a o, x = .ref a ∧ GetD H a y o ∧ Q (.bl o.isSome) H) (p_din (neg := false)) ha.2 hb.2)⟩
theorem tj_dnotin (hp : PE X a ta → PE X b tb → PT X e (tB (tNotInD ta tb))) (ha : EJ C X a ta ma) (hb : EJ C X b tb mb) : TJ C X e (tB (tNotInD ta tb)) (dBool (d2 (dinD true) ma mb)) :=
  ⟨hp ha.1 hb.1, ok_bool (ok_op2 (r := fun y x H Q => ∃ a o, x = .ref a ∧ GetD H a y o ∧ Q (.bl (!o.isSome)) H) (p_din (neg := true)) ha.2 hb.2)⟩
/-- d[k] = v -/
def setDk : D → D → D → Option D
  | .dict l, k, x => if okK l k = true ∧ l.length < LIM then some (.dict (putD l k x)) else none
  | _, _, _ => none
theorem ps_setD {K : Frag} : PSub K (fun o i v H Q => ∃ a H', o = .ref a ∧ PutD H a i v H' ∧ Q H') setDk := by
  intro G H a i x d k y d' Q gh oa rk ry h q
  unfold setDk at h
  split at h
  · rename_i l
    split at h
    · rename_i hk
      cases h
      obtain ⟨hk, hl⟩ := hk
      have gn := oa.1
      have rx := oa.top
      unfold okK at hk
      by_cases ht : isT l = true
      · rw [if_pos ht] at hk
        obtain ⟨_, e0, z⟩ := dict_kind rx (fun z => by rw [ht] at z; cases z)
        cases e0
        rw [if_pos ht] at z
        obtain ⟨m, kvs, rfl, e, r⟩ := z
        obtain ⟨b, ks, h1, rfl, eb⟩ := tupK_key hk rk
        refine ⟨a, _, rfl, .inr ⟨kvs, ks, b, e, fun x hx => KeyV.mono gh _ _ (r.keys x hx), rfl, ⟨h1.2.1, h1.2.2.1⟩, KeyV.mono gh _ _ eb, ?_, rfl⟩, q _ ⟨gn, .inr ⟨_, upd_same, ?_⟩⟩⟩
        · have := r.length
          simp only [List.length_cons] at hl
          have h2 := lim_le
          omega
        · rw [putD_mark hk]
          simp only [RpTM]
          exact ⟨trivial, trivial, r.put h1 rk ry⟩
      · rw [if_neg ht, Bool.and_eq_true] at hk
        obtain ⟨_, e0, z⟩ := dict_kind rx (fun _ => by simpa using hk.2)
        cases e0
        rw [if_neg ht] at z
        obtain ⟨kvs, e, r⟩ := z
        obtain ⟨kk, h1, rfl⟩ := leafK_key hk.1 rk
        refine ⟨a, _, rfl, .inl (DPut.k e ?_), q _ ⟨gn, .inl ⟨_, upd_same, r.put h1 ry⟩⟩⟩
        have := r.length
        have h2 := lim_le
        omega
    · cases h
  · cases h
theorem sj_setDk (hp : PE X o to → PE X b ti → PE X e tv → PS X s (sPutD to ti tv)) (ho : EJ C X o to mo) (hi : EJ C X b ti mi) (hv : EJ C X e tv mv) : SJ C X s (sPutD to ti tv) (sSub setDk mo mi mv) := by
  exact ⟨hp ho.1 hi.1 hv.1, ok_sub ps_setD ho.2 hi.2 hv.2⟩
end
end DL

/-! D7: new things; bodies of defs. -/
namespace DL
open PySem L2

section
variable {C : Cc} {X : Cx} {e a b o : Expr} {es : List Expr} {te ta tb to : TE} {me ma mb : M IV} {mas : M (List IV)} {tas : TA} {pos : Pos}
/-- a new list from a display -/
def nLst (mas : M (List IV)) : M D := .bind mas fun a => .bind (keeps a) fun ds => .bind (.opt (fewD ds)) fun ds => .pure (.list ds)
theorem post_new {C : Cc} {G0 G H : Hp} {H0 : Hp} {ρ : Env} {σ : St} {d : D} {o : HO} {p : Addr} {Q : VK} (st : St0 C.K G H ρ σ) (h : Post C (RF C.K H0) G H ρ σ (M.pure d ρ) Q) (hp : H p = none) (h0 : H0 p = none) (oa : OwnAt C.K G (upd H p o) d p) : Q (.ref p) (upd H p o) := by
  have g := Gro.mine st.gh hp o
  exact h (.ref p) G (upd H p o) g.stp (st.gro g) (Sh.refl ρ) ⟨p, rfl, h0, oa⟩
theorem none_of {G H : Hp} (gh : Same G H) {p : Addr} (hp : H p = none) : G p = none := by
  cases e : G p with
  | none => rfl
  | some u => rw [gh p u e] at hp; cases hp
theorem Stp.none_back {G H G' H' : Hp} {ow : Addr → Prop} (s : Stp G H G' H' ow) {p : Addr} (hp : H' p = none) : H p = none := by
  cases e : H p with
  | none => rfl
  | some u => exact (s.tr p (ne_none_of e) hp).elim
theorem fj_lst (h : AJ C X es tas mas) : FJ C X (.List es pos) (tLst tas) (nLst mas) := by
  refine ⟨pe_lst h.1, ?_⟩
  intro G H ρ σ Q st q
  show tas σ H _
  refine bindT h.2 st q fun l ρ1 xs G1 H1 s1 st1 sh1 r1 h1 => ?_
  obtain ⟨ds, rd, h2⟩ := post_keeps r1 h1
  obtain ⟨ds', e, h3⟩ := post_opt h2
  obtain ⟨z, e2⟩ := fewD_ok e rd
  subst e2
  exact ⟨z, fun p hp => post_new (G0 := G) st1 h3 hp (s1.none_back hp) (own_lst (none_of st1.gh hp) rd)⟩
/-- a new empty dict: keys ints and texts, or tuples -/
def nDicK : M D := .pure (.dict [])
def nDicT : M D := .pure (.dict [(.none, .none)])
theorem fj_dicK : FJ C X (.Dict [] [] pos) tDNewK nDicK := by
  refine ⟨pe_dnewK, ?_⟩
  intro G H ρ σ Q st q p hp
  exact post_new (G0 := G) st q hp hp ⟨none_of st.gh hp, .inl ⟨[], upd_same, by simp only [RpK]⟩⟩
theorem fj_dicT : FJ C X (.Dict [] [] pos) tNewN nDicT := by
  refine ⟨pe_newN, ?_⟩
  intro G H ρ σ Q st q p hp
  exact post_new (G0 := G) st q hp hp ⟨none_of st.gh hp, .inr ⟨[], upd_same, by simp only [RpTM, RpT]; exact ⟨trivial, trivial, trivial⟩⟩⟩
/-- a built-in that makes a new list -/
def PNF (K : Frag) (r : List V → Hp → VK → Prop) (f : List D → Option (List D)) : Prop := ∀ (G H : Hp) (xs : List V) (ds l : List D) (Q : VK), Same G H → Paired (fun d x => Rpt K G H d x) ds xs → f ds = some l →
  (∀ p vs G' H', Gro G H G' H' → H' p = none → Rps K G' l vs → Q (.ref p) (upd H' p (.lst vs))) → r xs H Q
def nN (f : List D → Option (List D)) (mas : M (List IV)) : M D := .bind mas fun a => .bind (nows a) fun xs => .bind (.opt (f xs)) fun l => .pure (.list l)
theorem ok_nN {C : Cc} {r : List V → Hp → VK → Prop} {f : List D → Option (List D)} {tas : TA} {mas : M (List IV)} (p : PNF C.K r f) (ha : MOk C (RIvs C.K) tas mas) : FOk C (fun σ H Q => tas σ H fun xs H1 => r xs H1 Q) (nN f mas) := by
  intro G H ρ σ Q st h
  refine bindT ha st h fun a ρ1 x G1 H1 s1 st1 sh1 r1 h1 => ?_
  obtain ⟨ds, rd, h3⟩ := post_nows st1 r1 h1
  obtain ⟨l, el, h5⟩ := post_opt h3
  exact p G1 H1 x ds l Q st1.gh rd el fun p vs G2 H2 g hp rv => post_new (G0 := G) (st1.gro g) (Post.gro h5 g) hp (s1.none_back ((g.stp (ow := fun _ => False)).none_back hp)) (own_lst (none_of g.gh hp) rv)
/-- .. of one argument -/
def PNF1 (K : Frag) (r : V → Hp → VK → Prop) (f : D → Option (List D)) : Prop := ∀ (G H : Hp) (x : V) (d : D) (l : List D) (Q : VK), Same G H → Rpt K G H d x → f d = some l →
  (∀ p vs G' H', Gro G H G' H' → H' p = none → Rps K G' l vs → Q (.ref p) (upd H' p (.lst vs))) → r x H Q
def nN1 (f : D → Option (List D)) (ma : M IV) : M D := .bind ma fun a => .bind (.now a) fun x => .bind (.opt (f x)) fun l => .pure (.list l)
theorem ok_nN1 {C : Cc} {r : V → Hp → VK → Prop} {f : D → Option (List D)} {ta : TE} {ma : M IV} (p : PNF1 C.K r f) (ha : MOk C (RIv C.K) ta ma) : FOk C (fun σ H Q => ta σ H fun x H1 => r x H1 Q) (nN1 f ma) := by
  intro G H ρ σ Q st h
  refine bindT ha st h fun a ρ1 x G1 H1 s1 st1 sh1 r1 h1 => ?_
  obtain ⟨d, rd, h3⟩ := post_now st1 r1 h1
  obtain ⟨l, el, h5⟩ := post_opt h3
  exact p G1 H1 x d l Q st1.gh rd el fun p vs G2 H2 g hp rv => post_new (G0 := G) (st1.gro g) (Post.gro h5 g) hp (s1.none_back ((g.stp (ow := fun _ => False)).none_back hp)) (own_lst (none_of g.gh hp) rv)
theorem fj_N1 {r : V → Hp → VK → Prop} {f : D → Option (List D)} (hp : PE X a ta → PE X e (fun σ H Q => ta σ H fun x H1 => r x H1 Q)) (p : PNF1 C.K r f) (ha : EJ C X a ta ma) : FJ C X e (fun σ H Q => ta σ H fun x H1 => r x H1 Q) (nN1 f ma) := ⟨hp ha.1, ok_nN1 p ha.2⟩
theorem fj_N {r : List V → Hp → VK → Prop} {f : List D → Option (List D)} (hp : PA X es tas → PE X e (tCB r tas)) (p : PNF C.K r f) (ha : AJ C X es tas mas) : FJ C X e (tCB r tas) (nN f mas) := ⟨hp ha.1, ok_nN p ha.2⟩
def listF : List D → Option (List D)
  | [.list l] => some l
  | [.tuple l] => some l
  | _ => none
theorem pf_list {K : Frag} : PNF K (fun xs H Q => ∃ p ys, xs = [.ref p] ∧ (SqL K H p ys ∨ SqT K H p ys) ∧ ∀ l, H l = none → Q (.ref l) (upd H l (.lst ys))) listF := by
  intro G H xs ds l Q gh rx h k
  unfold listF at h
  split at h
  · cases h
    obtain ⟨x, rfl, r⟩ := Paired.one rx
    obtain ⟨a, vs, rfl, e, r⟩ := r
    exact ⟨_, _, rfl, .inl (.inl (.inl e)), fun l hl => k l vs G H (Gro.refl gh) hl r⟩
  · cases h
    obtain ⟨x, rfl, r⟩ := Paired.one rx
    obtain ⟨a, vs, rfl, e, r⟩ := r
    exact ⟨_, _, rfl, .inr (tq gh e), fun l hl => k l vs G H (Gro.refl gh) hl r⟩
  · cases h
/-- list(range(n)), list(range(a, b)) -/
def rgA : List D → Option (Int × Int)
  | [.int n] => if -100000 ≤ n ∧ n ≤ 100000 then some (0, n) else none
  | [.int a, .int b] => if -100000 ≤ a ∧ a ≤ 100000 ∧ -100000 ≤ b ∧ b ≤ 100000 then some (a, b) else none
  | _ => none
def nRg (mas : M (List IV)) : M D := .bind mas fun l => .bind (nows l) fun ds => .bind (.opt (rgA ds)) fun p => .pure (.list (rgD p.1 p.2))
abbrev RRg : Rel (Int × Int) (Int × Int) := fun _ _ _ _ p q => q = p
def rgOkA (a b : Int) : Prop := -100000 ≤ a ∧ a ≤ 100000 ∧ -100000 ≤ b ∧ b ≤ 100000
theorem fj_rg1 (hp : PE X a ta → PE X e (tLstRg (tRg1 ta))) (ha : EJ C X a ta ma) : FJ C X e (tLstRg (tRg1 ta)) (nRg (dCons ma (.pure []))) := by
  refine ⟨hp ha.1, ?_⟩
  intro G H ρ σ Q st h
  show ta σ H _
  unfold nRg dCons at h
  rw [M_bind_assoc] at h
  refine bindT ha.2 st h fun iv ρ1 x G1 H1 s1 st1 sh1 r1 h1 => ?_
  rw [M_bind_assoc] at h1
  obtain ⟨ds, rd, h2⟩ := post_nows (ivs := [iv]) (vs := [x]) st1 (.cons r1 .nil) h1
  obtain ⟨p, ep, h3⟩ := post_opt h2
  obtain ⟨d, e0, rx⟩ := Paired.one (R := fun x d => Rpt C.K G1 H1 d x) (a := x) (bs := ds) (by
    cases rd with
    | cons r t => cases t; exact .cons r .nil)
  subst e0
  cases d <;> simp only [rgA] at ep <;> try (cases ep; done)
  rename_i n
  split at ep
  · cases ep
    simp only [Rpt] at rx
    subst rx
    refine ⟨n, rfl, ⟨by omega, by omega, by omega, by omega, by omega⟩, fun p hp => ?_⟩
    refine post_new (G0 := G) st1 h3 hp (s1.none_back hp) (own_lst (none_of st1.gh hp) ?_)
    rw [rgD_eq, rgV_eq]
    exact Rps.of_ints _
  · cases ep
theorem fj_rg2 (hp : PE X a ta → PE X b tb → PE X e (tLstRg (tRg2 ta tb))) (ha : EJ C X a ta ma) (hb : EJ C X b tb mb) : FJ C X e (tLstRg (tRg2 ta tb)) (nRg (dCons ma (dCons mb (.pure [])))) := by
  refine ⟨hp ha.1 hb.1, ?_⟩
  intro G H ρ σ Q st h
  show ta σ H _
  unfold nRg dCons at h
  rw [M_bind_assoc] at h
  refine bindT ha.2 st h fun iv ρ1 x G1 H1 s1 st1 sh1 r1 h1 => ?_
  rw [M_bind_assoc, M_bind_assoc] at h1
  refine bindT hb.2 st1 h1 fun jv ρ2 y G2 H2 s2 st2 sh2 r2 h2 => ?_
  obtain ⟨ds, rd, h3⟩ := post_nows (ivs := [iv, jv]) (vs := [x, y]) st2 (.cons (IvOk.step r1 s2.gg sh2) (.cons r2 .nil)) h2
  obtain ⟨p, ep, h4⟩ := post_opt h3
  cases rd with
  | cons rx t => cases t with
    | cons ry t =>
      cases t
      rename_i d d'
      cases d <;> cases d' <;> simp only [rgA] at ep <;> try (cases ep; done)
      rename_i n m
      split at ep
      · cases ep
        simp only [Rpt] at rx ry
        subst rx ry
        refine ⟨n, m, rfl, rfl, ⟨by omega, by omega, by omega, by omega, by omega⟩, fun p hp => ?_⟩
        refine post_new (G0 := G) st2 h4 hp (s1.none_back (s2.none_back hp)) (own_lst (none_of st2.gh hp) ?_)
        rw [rgD_eq, rgV_eq]
        exact Rps.of_ints _
      · cases ep
end

/-! ### a def -/
def outE : Env → Env → Env
  | [], _ => []
  | some (.bor d) :: ρ, s :: ρ' => (match s with
    | some (.bor d') => some (.bor d')
    | _ => some (.bor d)) :: outE ρ ρ'
  | s :: ρ, _ :: ρ' => s :: outE ρ ρ'
  | s :: ρ, [] => s :: outE ρ []
theorem outE_nil : ∀ ρ : Env, outE ρ [] = ρ
  | [] => rfl
  | none :: ρ => by simp only [outE, outE_nil ρ]
  | some (.dat d) :: ρ => by simp only [outE, outE_nil ρ]
  | some (.own d) :: ρ => by simp only [outE, outE_nil ρ]
  | some (.bor d) :: ρ => by simp only [outE, outE_nil ρ]
theorem outE_get : ∀ (ρ ρ' : Env) (i : Nat), (outE ρ ρ')[i]? = match ρ[i]?, ρ'[i]? with
    | some (some (.bor _)), some (some (.bor d')) => some (some (.bor d'))
    | s, _ => s
  | [], ρ', i => by simp [outE]
  | s :: ρ, [], i => by
    rw [outE_nil]
    simp
  | s :: ρ, s' :: ρ', 0 => by
    cases s with
    | none => simp [outE]
    | some s =>
      cases s with
      | dat d => simp [outE]
      | own d => simp [outE]
      | bor d =>
        cases s' with
        | none => simp [outE]
        | some s' => cases s' <;> simp [outE]
  | s :: ρ, s' :: ρ', i + 1 => by
    have ih := outE_get ρ ρ' i
    cases s with
    | none => simpa [outE] using ih
    | some s =>
      cases s with
      | dat d => simpa [outE] using ih
      | own d => simpa [outE] using ih
      | bor d => simpa [outE] using ih
def bodyM (L : Nat) (m : SM) : M D := fun ρ => match m (ρ ++ List.replicate (L - ρ.length) none) with
  | .ok (.rt d) ρ' => .ok d (outE ρ ρ')
  | .ok .nx ρ' => .ok .none (outE ρ ρ')
  | .exc x ρ' => .exc x (outE ρ ρ')
  | _ => .un

/-- from the entry to the end of a body -/
theorem body_end {K : Frag} {G H G' H' : Hp} {B : Nat → Option Addr} {ρ ρ' : Env} {vs : List V} {σ' : St} (st : St0 K G H ρ (vs.map some)) (ha : ArgsOk ρ) (hB : ∀ i a, B i = some a ↔ (∃ d, ρ[i]? = some (some (Sl.bor d))) ∧ vs[i]? = some (V.ref a)) (en : Ent K G H B G' H' ρ' σ') :
    Stp G H G' H' (Ow ρ (vs.map some)) ∧ St0 K G' H' (outE ρ ρ') (vs.map some) ∧ Sh ρ (outE ρ ρ') := by
  have hb : ∀ (i : Nat) (d : D), ρ[i]? = some (some (Sl.bor d)) → ∃ d' a, ρ'[i]? = some (some (Sl.bor d')) ∧ vs[i]? = some (V.ref a) ∧ OwnAt K G' H' d' a := fun i d e => by
    obtain ⟨v, ev, ok⟩ := st.slot i _ e
    obtain ⟨a, rfl, oa⟩ := ok
    have ev2 : vs[i]? = some (V.ref a) := by simpa using ev
    obtain ⟨⟨d', e'⟩, q⟩ := (en.bor i a).mp ((hB i a).mpr ⟨⟨d, e⟩, ev2⟩)
    obtain ⟨w, ew, ok'⟩ := en.st.slot i _ e'
    rw [q] at ew
    cases ew
    obtain ⟨b, eb, ob⟩ := ok'
    cases eb
    exact ⟨d', a, e', ev2, ob⟩
  have out : ∀ (i : Nat) (s : Sl), (outE ρ ρ')[i]? = some (some s) → (∃ d, s = .dat d ∧ ρ[i]? = some (some (.dat d))) ∨ ∃ d d', s = .bor d' ∧ ρ[i]? = some (some (.bor d)) ∧ ρ'[i]? = some (some (.bor d')) := fun i s e => by
    rw [outE_get] at e
    cases e0 : ρ[i]? with
    | none => rw [e0] at e; simp at e
    | some o =>
      have hm : o ∈ ρ := List.mem_of_getElem? e0
      rcases ha o hm with ⟨d, rfl⟩ | ⟨d, rfl⟩
      · rw [e0] at e
        simp at e
        exact .inl ⟨d, e.symm, rfl⟩
      · obtain ⟨d', a, e', _, _⟩ := hb i d e0
        rw [e0, e'] at e
        simp at e
        exact .inr ⟨d, d', e.symm, rfl, e'⟩
  have sh : Sh ρ (outE ρ ρ') := by
    apply List.ext_getElem?
    intro i
    rw [List.getElem?_map, List.getElem?_map, outE_get]
    cases e0 : ρ[i]? with
    | none => rfl
    | some o =>
      rcases ha o (List.mem_of_getElem? e0) with ⟨d, rfl⟩ | ⟨d, rfl⟩
      · rfl
      · obtain ⟨d', a, e', _, _⟩ := hb i d e0
        rw [e']
        rfl
  have hl : (outE ρ ρ').length = ρ.length := by
    have := congrArg List.length sh
    simpa using this.symm
  refine ⟨⟨en.gg, en.nf, fun a o h n => en.fr a o h fun i q => ?_, en.tr⟩, ⟨en.st.gh, by rw [hl]; exact st.len, fun i s e => ?_, fun i j s t a e1 e2 m1 m2 q1 q2 => ?_⟩, sh⟩
  · obtain ⟨⟨d, e⟩, ev⟩ := (hB i a).mp q
    exact n ⟨i, _, e, rfl, by simp [ev]⟩
  · rcases out i s e with ⟨d, rfl, e0⟩ | ⟨d, d', rfl, e0, e1⟩
    · obtain ⟨v, ev, ok⟩ := st.slot i _ e0
      exact ⟨v, ev, Rp.mono en.gg d v ok⟩
    · obtain ⟨d2, a, e2, ev, oa⟩ := hb i d e0
      rw [e1] at e2
      cases e2
      exact ⟨.ref a, by simp [ev], a, rfl, oa⟩
  · obtain ⟨s', f1, n1⟩ := sh.symm.m e1 m1
    obtain ⟨t', f2, n2⟩ := sh.symm.m e2 m2
    exact st.dis i j s' t' a f1 f2 n1 n2 q1 q2
theorem start_ent {K : Frag} {G H : Hp} {ρ : Env} {N : List Str} {vs : List V} (st : St0 K G H ρ (vs.map some)) (ha : ArgsOk ρ) (hN : vs.length ≤ N.length) :
    ∃ B : Nat → Option Addr, (∀ i a, B i = some a ↔ (∃ d, ρ[i]? = some (some (Sl.bor d))) ∧ vs[i]? = some (V.ref a)) ∧ Ent K G H B G H (ρ ++ List.replicate (N.length - ρ.length) none) (L2.start N vs) := by
  have hl : ρ.length = vs.length := by simpa using st.len
  have ext : ∀ (i : Nat) (s : Sl), (ρ ++ List.replicate (N.length - ρ.length) none)[i]? = some (some s) → ρ[i]? = some (some s) ∧ i < ρ.length := fun i s e => by
    by_cases hi : i < ρ.length
    · rw [List.getElem?_append_left hi] at e
      exact ⟨e, hi⟩
    · rw [List.getElem?_append_right (by omega), List.getElem?_replicate] at e
      split at e <;> cases e
  have sv : ∀ i, i < ρ.length → (L2.start N vs)[i]? = (vs.map some)[i]? := fun i hi => by
    unfold L2.start
    rw [List.getElem?_append_left (by simp; omega)]
  refine ⟨fun i => match ρ[i]?, vs[i]? with
    | some (some (.bor _)), some (.ref a) => some a
    | _, _ => none, fun i a => ?_, ?_⟩
  · constructor
    · intro h
      simp only at h
      split at h
      · rename_i d b e1 e2
        cases h
        exact ⟨⟨d, e1⟩, e2⟩
      · cases h
    · rintro ⟨⟨d, e1⟩, e2⟩
      simp only [e1, e2]
  · refine ⟨⟨st.gh, ?_, fun i s e => ?_, fun i j s t a e1 e2 m1 m2 q1 q2 => ?_⟩, Same.refl G, fun _ _ h _ => h, fun _ _ g => g, fun _ h => h, fun i d a e q => ?_, fun i a => ?_⟩
    · unfold L2.start
      simp [hl]
    · obtain ⟨e0, hi⟩ := ext i s e
      rw [sv i hi]
      exact st.slot i s e0
    · obtain ⟨f1, h1⟩ := ext i s e1
      obtain ⟨f2, h2⟩ := ext j t e2
      rw [sv i h1] at q1
      rw [sv j h2] at q2
      exact st.dis i j s t a f1 f2 m1 m2 q1 q2
    · obtain ⟨e0, hi⟩ := ext i _ e
      rcases ha _ (List.mem_of_getElem? e0) with ⟨d', z⟩ | ⟨d', z⟩ <;> cases z
    · constructor
      · intro h
        split at h
        · rename_i d b e1 e2
          cases h
          have hi : i < ρ.length := (List.getElem?_eq_some_iff.mp e1).1
          refine ⟨⟨d, by rw [List.getElem?_append_left hi]; exact e1⟩, ?_⟩
          rw [sv i hi]
          simp [e2]
        · cases h
      · rintro ⟨⟨d, e⟩, q⟩
        obtain ⟨e0, hi⟩ := ext i _ e
        rw [sv i hi] at q
        have q2 : vs[i]? = some (V.ref a) := by simpa using q
        simp only [e0, q2]
/-- a body that lets nothing out, as a promise -/
theorem body_ok {C : Cc} {N : List Str} {n : Nat} {t : TS} {m : SM} {vs : List V} {H : Hp} {Q : VK} (hN : n ≤ N.length) (ok : SOk C t m) (h : spD C.K C.mg n (bodyM N.length m) vs H Q C.E) : t { nx := fun _ H' => Q .non H', rt := Q } (L2.start N vs) H := by
  obtain ⟨hl, G, ρ, st, ha, q⟩ := h
  obtain ⟨B, hB, en⟩ := start_ent (N := N) st ha (by omega)
  refine ok G H B G H _ _ _ en ?_
  unfold bodyM at q
  cases e : m (ρ ++ List.replicate (N.length - ρ.length) none) with
  | un => rw [e] at q; exact q
  | exc x ρ' =>
    rw [e] at q
    intro c dx σ' G' H' en' xr
    obtain ⟨a1, a2, a3⟩ := body_end st ha hB en'
    exact q c dx G' H' a1 a2 a3 xr
  | ok f ρ' =>
    rw [e] at q
    cases f with
    | nx =>
      intro σ' G' H' en'
      obtain ⟨a1, a2, a3⟩ := body_end st ha hB en'
      exact q .non G' H' a1 a2 a3 (by simp only [Rp])
    | bk => exact q.elim
    | ct => exact q.elim
    | rt d =>
      intro v σ' G' H' en' r
      obtain ⟨a1, a2, a3⟩ := body_end st ha hB en'
      exact q v G' H' a1 a2 a3 r
/-- no exception leaves -/
def spZ (K : Frag) (mg : Str → Option Value) (n : Nat) (f : M D) : Sp := fun vs H Q _ => spD K mg n f vs H Q E0
section
variable {P : Program} {w : World} {K : Frag} {mg : Str → Option Value} {base : Heap}
theorem fn_okZ {x qual : Str} {st : Stmt} {f : Addr} {fd : FuncData} {N ps : List Str} {k n : Nat} {m : SM} (F : Fun K x qual st f fd) (S : FnScope N ps (defScope st)) (hn : ps.length = n)
    (body : ∀ (cdv : Value) (A : Around) (outer : List PySem.Env) (s : Shared) (H : Hp) (E : XK), Room k (A.deeper (PyProof.Rows.envOfC qual (defScope st) s.heap.objs.size f cdv)) →
      ∃ t, SsJ ⟨K, mg, E0⟩ (cxOf CX0 P w K mg base N qual (defScope st) f cdv A outer s H E).nox (defBody st) t m) : FnOk P w K mg base CX0 (k + 1) f fd ps (spZ K mg n (bodyM N.length m)) := by
  refine F.ok S (fun vs H Q E h => by rw [hn]; exact h.1) fun cdv A outer s H vs Q E hr h => ?_
  obtain ⟨t, j⟩ := body cdv A outer s H E hr
  have hN : n ≤ N.length := by
    rw [← hn]
    have := congrArg List.length S.pre
    rw [List.length_take] at this
    omega
  exact ⟨t, j.1, body_ok (C := ⟨K, mg, E0⟩) hN j.2 h⟩
end
section
variable {C : Cc} {X : Cx} {e : Expr} {es : List Expr} {mas : M (List IV)} {tas : TA}
theorem ej_callZ {n : Nat} {f : M D} (hp : PA X es tas → PE X e (tCall (spZ C.K C.mg n f) [] E0 tas)) (hE : C.E = E0) (ha : AJ C X es tas mas) : EJ C X e (tCall (spZ C.K C.mg n f) [] E0 tas) (dCall n f mas) := by
  refine ⟨hp ha.1, ?_⟩
  have z := ok_call (n := n) (f := f) ha.2
  rw [hE] at z
  exact z
end
end DL

/-! D8: sets of ints made by comprehensions and of lists; what is sorted. -/
namespace DL
open PySem L2

abbrev set0 (w : World) : Obj := { cls := .type "set", dict := none, data := .set #[] 0 (.fresh 0 0 (!w.params.followText "set-order")) }
abbrev noInt : Int → Bool := fun _ => false
abbrev withI (S : Int → Bool) (k : Int) : Int → Bool := fun j => S j || decide (j = k)
abbrev plusI (S : Int → Bool) (n : Nat) (k : Int) : Nat := if S k = true then n else n + 1
section
variable {X : Cx}
/-- {elt for target in iter if ..} of ints, read as the list comprehension's reading is -/
def tScI (wd : World) (wi : TI) (g : TG) (tt : TT) (te : TE) (own : List Nat) : TE := fun σ H Q =>
  wi σ H fun J H1 => ∀ S, H1 S = none →
    ∃ W : Nat → Nat → Hp → Prop, (∃ m, W 0 m (upd H1 S (SetO wd S noInt 0))) ∧
      ∀ i m H, W i m H → (J.stop i H ∧ Q (.ref S) H) ∨
        (J.go i H ∧ ∃ Nx : Hp → Prop, (∀ H', Nx H' → ∃ m', m' < m ∧ W (i + 1) m' H') ∧
          ∀ x H', J.yld i H x H' → g x (wipe σ own) H' fun σ2 H2 => wipe σ2 own = wipe σ own ∧
            tt σ2 H2 fun b H3 => if b = true then te σ2 H3 fun y H4 => ∃ (k : Int) (M : Int → Bool) (n : Nat), y = .int k ∧ H4 S = some (SetO wd S M n) ∧ n + 1 < scanBound ∧
              Nx (upd H4 S (SetO wd S (withI M k) (plusI M n k))) else Nx H3)
theorem scI_core {pins : List (Addr × Obj)} {s : Shared} {σ : St} {H : Hp} {Q : VK} {elt tg iter : Expr} {ifs : List Expr} {scope : Scope} {own : List (Str × Nat)} {pos pos' : Pos} {wi : TI} {g : TG} {tt : TT} {te : TE} {Qf : Value → Shared → Prop}
    (calm : X.calm = true) (nodup : X.N.Nodup) (I : L2.Inv X pins σ H s) (hi : PI X tg iter wi) (blk : BlkOk X.N X.env.scope scope own)
    (hg : ∀ s H Ca cl fp, PG (Blk X scope s H Ca cl fp) tg g) (ht : ∀ s H Ca cl fp, PTs (Blk X scope s H Ca cl fp) ifs tt) (he : ∀ s H Ca cl fp, PE (Blk X scope s H Ca cl fp) elt te)
    (fold : ∀ x, foldedSetIterable iter X.env x = pure x) (h : tScI X.w wi g tt te (own.map (·.2)) σ H Q)
    (fin : ∀ S Ca s' m H', L2.Inv X pins σ H' s' → Q (.ref S) H' → s'.heap.Ns Ca m → FpOk X pins H' Ca → compPost (model X.prog X.w) X.A X.xe none Qf (.ref S) Ca (.ok .next) s') :
    wpAny (model X.prog X.w) X.A (comprehension (.SetComp elt [⟨tg, iter, ifs, 0⟩] scope pos) scope X.env pos' (newSet (.type "set")) false (eval iter X.env) none) Qf X.xe s := by
  have cells : ∀ y ∈ scope.names, y.2 = .free → ∃ c, X.env.cells.lookup y.1 = some c := by
    intro y hy e
    exact I.ok.has _ (blk.free y hy e)
  refine wpAny_comprehension_free (use := none) rfl fold (closure_ok cells) blk.kind (fun y hy e => by rw [blk.uniq y hy, e]) ?_
  refine thn (hi.run pins s σ H _ I h) fun xv sA hx => thn hx fun itv sB hB => ?_
  obtain ⟨it, fp, tn, J, HB, rfl, IB, T, stB, fB, q⟩ := hB
  refine PpSet.newSet_ok (newEnv_comp ?_)
  generalize hS : sB.heap.objs.size = S
  have fresh : HB S = none := IB.hok.fresh (Nat.le_of_eq hS)
  obtain ⟨W, ⟨m0, w0⟩, turn⟩ := q S fresh
  generalize hsC : ({ sB with heap := sB.heap.push (set0 X.w) } : Shared) = sC
  have hpC : sC.heap = sB.heap.push (set0 X.w) := by rw [← hsC]
  have IC : L2.Inv X pins σ (upd HB S (SetO X.w S noInt 0)) sC := by
    subst hsC
    refine IB.laid (t' := sB.toks) (fun _ _ => Heap.get?_push_of_some _) (Nat.le_of_eq hS) ?_
    subst hS
    exact setO_new (setR_fresh X.w)
  have small : ∀ b ∈ fp, b < sB.heap.objs.size := fun b hb => (T.obj _ _ stB b hb).elim fun o e => Heap.lt_size e.1
  have fC : ∀ b ∈ fp, FpOk X pins (upd HB S (SetO X.w S noInt 0)) b ∧ b < sC.heap.objs.size := by
    intro b hb
    have lt := small b hb
    have ne : b ≠ S := by rw [← hS]; exact Nat.ne_of_lt lt
    refine ⟨⟨(upd_ne ne).trans (fB b hb).1, (fB b hb).2⟩, ?_⟩
    rw [hpC, Heap.size_push]
    exact Nat.lt_succ_of_lt lt
  have stC : tn 0 sC.heap := T.keep _ _ _ stB fun b _ o e => hpC ▸ Heap.get?_push_of_some _ e
  have ID := block_start IC blk nodup fC
  generalize hHC : upd HB S (SetO X.w S noInt 0) = HC at IC ID w0 fC
  have free0 : ∀ b ∈ fp, HC b = none := fun b hb => (fC b hb).1.1
  let cl := cellsFrom (sC.heap.objs.size + 1) scope.names (cloFrom X.env.cells scope.names [])
  have pg : PG (X.blk sC HC scope (compEnvC scope cl sC.heap.objs.size X.env) fp) tg g := hg sC HC sC.heap.objs.size cl fp
  have pt : PTs (X.blk sC HC scope (compEnvC scope cl sC.heap.objs.size X.env) fp) ifs tt := ht sC HC sC.heap.objs.size cl fp
  have pe : PE (X.blk sC HC scope (compEnvC scope cl sC.heap.objs.size X.env) fp) elt te := he sC HC sC.heap.objs.size cl fp
  show codeAny _ _ (.compStart _ 0 (.ref it) (.ref S) (compEnvC scope cl sC.heap.objs.size X.env)) (compPost (model X.prog X.w) X.A X.xe none Qf (.ref S) sC.heap.objs.size) { sC with heap := pushCells (sC.heap.push { cls := .type "dict", data := .dict #[] }) scope.names }
  generalize hce : compEnvC scope cl sC.heap.objs.size X.env = ce at ID pg pt pe ⊢
  have locals : ce.locals = sC.heap.objs.size := by rw [← hce]; rfl
  generalize hsD : ({ sC with heap := pushCells (sC.heap.push { cls := .type "dict", data := .dict #[] }) scope.names } : Shared) = sD at ID ⊢
  have stD : tn 0 sD.heap := T.keep _ _ _ stC fun b _ o e => by
    subst hsD
    exact pushCells_keeps _ _ _ _ (Heap.get?_push_of_some _ e)
  let Y : Cx := X.blk sC HC scope ce fp
  have own_fp : ∀ {τ : St} {H' : Hp} {s' : Shared}, L2.Inv Y [] τ H' s' → (∀ b ∈ fp, H' b = none) → ∀ b ∈ fp, FpOk Y [] H' b := by
    intro τ H' s' J' free b hb
    obtain ⟨z1, z2⟩ := J'.ok.exf b hb
    exact ⟨free b hb, z1, J'.ok.exfs b hb, .inl hb, z2, fun p hp => absurd (show p ∈ ([] : List (Addr × Obj)) from hp) List.not_mem_nil⟩
  have loop : codeAny (model X.prog X.w) X.A (.compLoop (.SetComp elt [⟨tg, iter, ifs, 0⟩] scope pos) 0 (.ref it) (.ref S) ce) (compPost (model X.prog X.w) X.A X.xe none Qf (.ref S) sC.heap.objs.size) sD := by
    let here : Nat → Shared → Prop := fun n s' => ∃ i H', L2.Inv Y [] (wipe σ (own.map (·.2))) H' s' ∧ tn i s'.heap ∧ (∀ b ∈ fp, H' b = none) ∧ W i n H'
    refine PpSet.compLoopS_any here ?_ m0 ⟨0, HC, ID, stD, free0, w0⟩
    rintro n s1 ⟨i, H1, I1, st1, n1, w1⟩
    rcases turn i n H1 w1 with ⟨halt, last⟩ | ⟨go, Nx, toW, step⟩
    · refine thnF (T.done Y rfl rfl rfl calm i [] s1 _ H1 (fun _ _ => False) I1 (own_fp I1 n1) st1 halt) fun r s2 ⟨hr, I2⟩ => ?_
      subst hr
      have back : L2.Inv X pins σ H1 s2 := IC.call' (ch := fp) I2.os I2.base I2.hok I2.bare fun b hb => by
        obtain ⟨⟨_, z1, _, z2, z3, z4⟩, _⟩ := fC b hb
        exact ⟨z2, z1, z3, z4⟩
      have noL : H1 sC.heap.objs.size = none := by
        rw [← locals]
        exact I2.free
      obtain ⟨m, ns, _⟩ := I2.loc
      refine fin S sC.heap.objs.size s2 m H1 back last ?_ (IC.fpOk (Nat.le_refl _) noL)
      rw [← locals]
      exact ns
    · refine thnF (T.item Y rfl rfl rfl calm i [] s1 _ H1 (fun _ _ => False) I1 (own_fp I1 n1) st1 go) fun r s2 ⟨u, hr, h2⟩ => ?_
      subst hr
      refine thnF h2 fun _ s3 ⟨x, H3, I3, r3, y3, st3, n3⟩ => ?_
      have I3p := I3.pinned (own_fp I3 n3) (T.obj _ _ st3)
      refine thnF (pg.run _ s3 _ H3 x u _ I3p r3 (step x H3 y3)) fun _ s4 ⟨σ4, H4, I4, hw, q4⟩ => ?_
      refine thnF (pt.run _ s4 σ4 H4 _ I4 q4) fun b s5 ⟨H5, I5, q5⟩ => ?_
      have close : ∀ {s' : Shared} {H' : Hp}, L2.Inv Y ([] ++ pinsAt fp s3.heap) σ4 H' s' → Nx H' → ∃ m, m < n ∧ here m s' := by
        intro s' H' J' nx
        obtain ⟨m', lt, w'⟩ := toW H' nx
        have pinned : ∀ b ∈ fp, ∀ o, s3.heap.get? b = some o → s'.heap.get? b = some o ∧ H' b = none := by
          intro b hb o e
          have z := J'.pin (b, o) (List.mem_append_right _ (List.mem_append_right _ (mem_pinsAt hb e)))
          exact ⟨z.1, z.2.1⟩
        have len : (wipe σ (own.map (·.2))).length = σ4.length := by rw [← hw, wipe_length]
        refine ⟨m', lt, i + 1, H', (J'.unpinned (pins := [])).weak len fun j v e => ?_, T.keep _ _ _ st3 fun b hb o e => (pinned b hb o e).1, fun b hb => ?_, w'⟩
        · exact (wipe_some (hw ▸ e)).1
        · obtain ⟨o, e, _⟩ := T.obj _ _ st3 b hb
          exact (pinned b hb o e).2
      cases b with
      | false =>
        rw [if_neg Bool.false_ne_true] at q5 ⊢
        exact close I5 q5
      | true =>
        rw [if_pos rfl] at q5 ⊢
        refine thnF (pe.run _ s5 σ4 H5 _ I5 q5) fun z s6 ⟨yv, H6, I6, r6, k, M, c, ey, hM, room, nx⟩ => ?_
        subst ey
        have add := mt_sadd (X := { Y with xe := fun _ _ => False }) ([] ++ pinsAt fp s3.heap) s6 σ4 H6 (.ref S) [.int k] (.ref S) [z] (fun _ H' => Nx H') (I6.wish _) rfl (.cons r6 .nil) ⟨S, k, M, c, rfl, rfl, hM, room, nx⟩
        refine thnF add fun _ s7 ⟨_, H7, I7, _, nx7⟩ => close I7.unwish nx7
  exact PpSet.codeAny_compStart_set loop (T.self X.A 0 _ _ _ stD loop)
theorem pe_scI {elt tg iter : Expr} {ifs : List Expr} {scope : Scope} {own : List (Str × Nat)} {pos : Pos} {wi : TI} {g : TG} {tt : TT} {te : TE} (calm : X.calm = true) (nodup : X.N.Nodup) (hi : PI X tg iter wi) (blk : BlkOk X.N X.env.scope scope own)
    (hg : ∀ s H Ca cl fp, PG (Blk X scope s H Ca cl fp) tg g) (ht : ∀ s H Ca cl fp, PTs (Blk X scope s H Ca cl fp) ifs tt) (he : ∀ s H Ca cl fp, PE (Blk X scope s H Ca cl fp) elt te)
    (fold : ∀ x, foldedSetIterable iter X.env x = pure x) : PE X (.SetComp elt [⟨tg, iter, ifs, 0⟩] scope pos) (tScI X.w wi g tt te (own.map (·.2))) := by
  refine ⟨fun pins s σ H Q I h => ?_⟩
  rw [PpSet.eval_SetComp]
  refine scI_core calm nodup I hi blk hg ht he fold h fun S Ca s' m H' I' q ns fp => ⟨m, ns, fun h'' same => ?_⟩
  obtain ⟨z0, z1, z2, z3, z4, z5⟩ := fp
  exact ⟨.ref S, H', I'.turned (t' := s'.toks) (fun b o hb e => (same.2 b hb).trans e) z0 z1 z3 z4 z5, rfl, q⟩
end

/-! ### .. by data: the members, each once, as they came -/
def insI (acc : List Int) (k : Int) : List Int := if k ∈ acc then acc else acc ++ [k]
theorem insI_nodup {acc : List Int} {k : Int} (h : acc.Nodup) : (insI acc k).Nodup := by
  unfold insI
  split
  · exact h
  · rename_i hk
    rw [List.nodup_append]
    exact ⟨h, by simp, fun a ha b hb => by simp at hb; subst hb; exact fun z => hk (z ▸ ha)⟩
theorem insI_len {acc : List Int} {k : Int} (h : acc.length < 1000) : (insI acc k).length ≤ 1000 := by
  unfold insI
  split
  · omega
  · simp; omega
theorem mem_insI {acc : List Int} {k j : Int} : j ∈ insI acc k ↔ j ∈ acc ∨ j = k := by
  unfold insI
  split
  · rename_i h
    exact ⟨.inl, fun z => z.elim id fun e => e ▸ h⟩
  · simp
abbrev setI (w : World) (a : Addr) (l : List Int) : HO := SetO w a (fun k => decide (k ∈ l)) l.length
theorem setI_ins (w : World) (a : Addr) (acc : List Int) (k : Int) : SetO w a (withI (fun j => decide (j ∈ acc)) k) (plusI (fun j => decide (j ∈ acc)) acc.length k) = setI w a (insI acc k) := by
  have e1 : withI (fun j => decide (j ∈ acc)) k = fun j => decide (j ∈ insI acc k) := by
    funext j
    unfold withI
    rw [← Bool.decide_or]
    exact decide_eq_decide.mpr mem_insI.symm
  have e2 : plusI (fun j => decide (j ∈ acc)) acc.length k = (insI acc k).length := by
    unfold plusI insI
    by_cases h : k ∈ acc
    · simp [h]
    · simp [h]
  unfold setI
  rw [← e1, ← e2]
abbrev RSetI (w : World) : Rel (List Int) V := fun _ H _ _ l v => ∃ a, v = .ref a ∧ H a = some (setI w a l) ∧ l.Nodup
def intOf : D → Option Int
  | .int k => some k
  | _ => none
def scLoop (pat : D → M Unit) (mt : M Bool) (me : M IV) (vs : List Nat) : List D → List Int → M (List Int)
  | [], acc => .pure acc
  | d :: l, acc => .bind (pat d) fun _ => .bind mt fun b => if b = true then .bind me fun iv => .bind (.keep iv) fun e => .bind (.opt (intOf e)) fun k => fun ρ => if acc.length < 1000 then scLoop pat mt me vs l (insI acc k) (wipeE ρ vs) else .un
    else fun ρ => scLoop pat mt me vs l acc (wipeE ρ vs)
def dScI (mi : M (List D)) (pat : D → M Unit) (mt : M Bool) (me : M IV) (vs : List Nat) : M (List Int) := .bind mi fun ds => fun ρ => if cleanV ρ vs = true then match scLoop pat mt me vs ds [] (wipeE ρ vs) with
  | .ok acc ρ' => .ok acc (restE ρ' ρ vs)
  | _ => .un else .un
theorem ok_scI {C : Cc} {w : World} {wi : TI} {g : TG} {tt : TT} {te : TE} {vs ts : List Nat} {mi : M (List D)} {pat : D → M Unit} {mt : M Bool} {me : M IV} (oi : MOk C (RW C.K) wi mi) (og : GOk C.K g ts pat) (hts : ∀ i, i ∈ ts → i ∈ vs)
    (ot : MOk (C0 C) RB tt mt) (oe : MOk (C0 C) (RIv C.K) te me) : MOk C (RSetI w) (tScI w wi g tt te vs) (dScI mi pat mt me vs) := by
  intro G H ρ σ Q st h
  show wi σ H _
  refine bindT oi st h fun ds ρ1 J G1 H1 s1 st1 sh1 wk h1 => ?_
  split at h1
  case isFalse => exact h1.elim
  rename_i hc
  cases eL : scLoop pat mt me vs ds [] (wipeE ρ1 vs) with
  | un => rw [eL] at h1; exact h1.elim
  | exc x ρ2 => rw [eL] at h1; exact h1.elim
  | ok accF ρF =>
  rw [eL] at h1
  intro Dd hD
  have hD0 : H Dd = none := by
    cases q : H Dd with
    | none => rfl
    | some o => exact (s1.tr Dd (ne_none_of q) hD).elim
  have stw := st1.wipe vs
  have noOw : ∀ ρt, Sh (wipeE ρ1 vs) ρt → ¬ Ow ρt (wipe σ vs) Dd := fun ρt sh z => Ow.there st1 (wipe_ow (sh.symm.ow z)) hD
  let W : Nat → Hp → Prop := fun i H' => i ≤ ds.length ∧ ∃ G' ρt acc, St0 C.K G' H' ρt (wipe σ vs) ∧ Stp G1 H1 G' H' (Ow ρ1 σ) ∧ H' Dd = some (setI w Dd acc) ∧ G' Dd = none ∧ acc.Nodup ∧ Sh (wipeE ρ1 vs) ρt ∧ acc.length ≤ 1000 ∧
    scLoop pat mt me vs (ds.drop i) acc ρt = .ok accF ρF
  refine ⟨fun i m H' => m = ds.length - i ∧ W i H', ⟨ds.length, by simp, Nat.zero_le _, G1, wipeE ρ1 vs, [], stw.gro (Gro.mine st1.gh hD _), (Gro.mine st1.gh hD _).stp, upd_same, ?_, List.nodup_nil, Sh.refl _, Nat.zero_le _, eL⟩, ?_⟩
  · cases q : G1 Dd with
    | none => rfl
    | some o => rw [st1.gh _ _ q] at hD; cases hD
  rintro i m H2 ⟨rfl, hi, G2, ρt, acc, st2, s2, hDd, gD, racc, sht, hlim, eLi⟩
  by_cases hlt : i < ds.length
  case neg =>
    have e : i = ds.length := by omega
    subst e
    refine .inl ⟨wk.fin G2 H2 s2.gg st2.gh, ?_⟩
    rw [List.drop_length] at eLi
    cases eLi
    obtain ⟨a1, a2⟩ := rest_ok hc st1 s2.gg st2 sht
    exact h1 (.ref Dd) G2 H2 s2 a1 a2 ⟨Dd, rfl, hDd, racc⟩
  case pos =>
    have ed : ds[i]? = some ds[i] := List.getElem?_eq_getElem hlt
    obtain ⟨jgo, jy⟩ := wk.step G2 H2 i ds[i] ed s2.gg st2.gh
    refine .inr ⟨jgo, W (i + 1), fun H' w => ⟨ds.length - (i + 1), by omega, rfl, w⟩, fun x H3 yx => ?_⟩
    obtain ⟨G3, g3, rx⟩ := jy x H3 yx
    rw [List.drop_eq_getElem_cons hlt] at eLi
    unfold scLoop at eLi
    obtain ⟨⟨⟩, ρ3, ep, eLi⟩ := bind_ok eLi
    obtain ⟨b, ρ4, et, eLi⟩ := bind_ok eLi
    have hD3 : H3 Dd = some (setI w Dd acc) := g3.hh _ _ hDd
    have gD3 : G3 Dd = none := g3.nf Dd (ne_none_of hDd) gD
    refine og G3 H3 ρt (wipe σ vs) ds[i] x ρ3 _ (st2.gro g3) rx ep fun σ3 st3 pr => ?_
    have ew : wipe σ3 vs = wipe σ vs := wipe_eq (ts := ts) (by rw [pr.lens, wipe_length]) hts fun j hj => (pr.out j hj).2
    refine ⟨ew, ?_⟩
    have noOw3 : ¬ Ow ρ3 σ3 Dd := by
      rintro ⟨j, s, z1, z2, z3⟩
      by_cases hj : j ∈ ts
      · obtain ⟨⟨d, z⟩, _⟩ := pr.inn j hj
        rw [z] at z1; cases z1; cases z2
      · rw [(pr.out j hj).1] at z1
        rw [(pr.out j hj).2] at z3
        exact noOw ρt sht ⟨j, s, z1, z2, z3⟩
    have ow3 : ∀ a, Ow ρ3 σ3 a → Ow ρ1 σ a := by
      rintro a ⟨j, s, z1, z2, z3⟩
      by_cases hj : j ∈ ts
      · obtain ⟨⟨d, z⟩, _⟩ := pr.inn j hj
        rw [z] at z1; cases z1; cases z2
      · rw [(pr.out j hj).1] at z1
        rw [(pr.out j hj).2] at z3
        exact wipe_ow (sht.symm.ow ⟨j, s, z1, z2, z3⟩)
    have s23 : Stp G1 H1 G3 H3 (Ow ρ1 σ) := s2.trans (g3.stp (ow := Ow ρ1 σ)) fun _ z => z
    -- the shape behind a turn
    have shw : ∀ ρ5, Sh ρ3 ρ5 → Sh (wipeE ρ1 vs) (wipeE ρ5 vs) := by
      intro ρ5 sh5
      have l5 : ρ5.length = (wipeE ρ1 vs).length := by
        have a := congrArg List.length sh5
        have b := congrArg List.length sht
        simp only [List.length_map] at a b
        rw [← a, pr.len, ← b]
      apply List.ext_getElem?
      intro j
      rw [List.getElem?_map, List.getElem?_map]
      by_cases hj : j ∈ vs
      · have z1 : ∀ ρ0 : Env, j < ρ0.length → ((wipeE ρ0 vs)[j]?).map kd = some 0 := fun ρ0 hb => by
          have hb' : j < (wipeE ρ0 vs).length := by rw [wipeE_len]; exact hb
          have q := (wipeE_get ρ0 vs j).2 hj
          rw [List.getElem?_eq_getElem hb'] at q ⊢
          cases r : (wipeE ρ0 vs)[j] with
          | none => rfl
          | some s => rw [r] at q; exact (q s rfl).elim
        have hb := (clean_get hc hj).1
        rw [z1 ρ1 hb, z1 ρ5 (by rw [l5, wipeE_len]; exact hb)]
      · have hjt : j ∉ ts := fun z => hj (hts j z)
        rw [(wipeE_get ρ5 vs j).1 hj, ← sh5.get j, (pr.out j hjt).1, ← sht.get j]
    refine ot G3 H3 ρ3 σ3 _ st3 ?_
    rw [et]
    intro b' G4 H4 s4 st4 sh4 eb
    cases eb
    have hD4 : H4 Dd = some (setI w Dd acc) := s4.fr _ _ hD3 noOw3
    have gD4 : G4 Dd = none := s4.nf Dd (ne_none_of hD3) gD3
    have s24 : Stp G1 H1 G4 H4 (Ow ρ1 σ) := s23.trans s4 ow3
    cases b with
    | false =>
      refine iteF ?_
      have eLi : scLoop pat mt me vs (ds.drop (i + 1)) acc (wipeE ρ4 vs) = .ok accF ρF := eLi
      refine ⟨hlt, G4, wipeE ρ4 vs, acc, by rw [← ew]; exact st4.wipe vs, s24, hD4, gD4, racc, shw _ sh4, hlim, eLi⟩
    | true =>
      refine iteT ?_
      obtain ⟨iv, ρ5, ee, eLi⟩ := bind_ok (show M.bind me (fun iv => .bind (.keep iv) fun e => .bind (.opt (intOf e)) fun k => fun ρ => if acc.length < 1000 then scLoop pat mt me vs (ds.drop (i + 1)) (insI acc k) (wipeE ρ vs) else .un) ρ4 = .ok accF ρF from eLi)
      obtain ⟨e, ρ6, ek, eLi⟩ := bind_ok eLi
      obtain ⟨k, ρ7, eik, eLi⟩ := bind_ok eLi
      cases iv with
      | sl j => cases ek
      | val e' =>
        cases ek
        have e1 : e = .int k := by
          cases e <;> simp only [intOf, M.opt] at eik <;> first | (cases eik; rfl) | (cases eik; done)
        subst e1
        cases eik
        split at eLi
        case isFalse => cases eLi
        rename_i hacc
        refine oe G4 H4 ρ4 σ3 _ st4 ?_
        rw [ee]
        intro y G5 H5 s5 st5 sh5 ry
        have ry : Rp C.K G5 (.int k) y := ry
        simp only [Rp] at ry
        have noOw4 : ¬ Ow ρ4 σ3 Dd := fun z => noOw3 (sh4.symm.ow z)
        have hD5 : H5 Dd = some (setI w Dd acc) := s5.fr _ _ hD4 noOw4
        have gD5 : G5 Dd = none := s5.nf Dd (ne_none_of hD4) gD4
        have s25 : Stp G1 H1 G5 H5 (Ow ρ1 σ) := s24.trans s5 fun a z => ow3 a (sh4.symm.ow z)
        refine ⟨k, _, _, ry, hD5, Nat.lt_of_lt_of_le (Nat.succ_lt_succ hacc) (by decide), hlt, G5, wipeE ρ5 vs, insI acc k, ?_, ?_, ?_, gD5, insI_nodup racc, shw _ (sh4.trans sh5), insI_len hacc, eLi⟩
        · rw [← ew]
          have stw5 := st5.wipe vs
          refine ⟨fun a o q => ?_, stw5.len, fun j s q => ?_, stw5.dis⟩
          · rw [upd_ne (ne_of_none q gD5)]; exact stw5.gh a o q
          · obtain ⟨v, ev, ok⟩ := stw5.slot j s q
            refine ⟨v, ev, ?_⟩
            cases ms : s.isM with
            | false =>
              cases s with
              | dat d => exact ok
              | own d => cases ms
              | bor d => cases ms
            | true =>
              obtain ⟨a, rfl, oa⟩ := ok.m ms
              have ha : a ≠ Dd := fun z => noOw4 (sh5.symm.ow (wipe_ow ⟨j, s, q, ms, by rw [← z]; exact ev⟩))
              exact SlOk.of_m ms (oa.step (Same.refl _) oa.1 fun o q => by rw [upd_ne ha]; exact q)
        · refine ⟨s25.gg, s25.nf, fun a o q n => ?_, fun a q => ?_⟩
          · rw [upd_ne (ne_of_none q hD)]; exact s25.fr a o q n
          · by_cases ha : a = Dd
            · subst ha; exact (q hD).elim
            · rw [upd_ne ha]; exact s25.tr a q
        · rw [upd_same]
          exact congrArg some (setI_ins w Dd acc k)
end DL

/-! D9: set(xs), ints; sorted. -/
namespace DL
open PySem PySem.Spec PyProof.Rows L2

section
variable {P : Program} {w : World} {A : Around} {E : Value → Shared → Prop} {s : Shared}
/-- what stands when the loop over the list has run -/
abbrev MadeI (w : World) (s : Shared) (ns : List Int) (r : Value) (s2 : Shared) : Prop :=
  r = .none ∧ ∃ hp tk c, s2 = { s with heap := hp, toks := tk } ∧ SetR w hp s.heap.objs.size (fun j => decide (j ∈ ns)) c ∧ c ≤ ns.length ∧ ∀ b o, s.heap.get? b = some o → hp.get? b = some o
set_option maxRecDepth 100000 in
theorem call_set_L {l : Addr} {its : Array Value} (ns : List Int) {Q : Value → Shared → Prop} (hh : A.handled = none) (hl : s.heap.IsList l its) (hi : IntsAre its.toList ns) (few : ns.length + 1 < scanBound)
    (h : ∀ hp tk c, SetR w hp s.heap.objs.size (fun j => decide (j ∈ ns)) c → c ≤ ns.length → (∀ b o, s.heap.get? b = some o → hp.get? b = some o) → Q (.ref s.heap.objs.size) { s with heap := hp, toks := tk }) :
    wpAny (model P w) A (call (.type "set") [.ref l]) Q E s := by
  obtain ⟨mro, tl, hmro⟩ := F.called_set.mro
  have made := F.called_set.made
  have sub := F.called_set.sub
  refine wpAny_call (codeAny_of_tree ?_)
  show wpAny _ _ (callAny (.type "set") _) _ _ _
  refine wpAny_pure (And.intro (Code.quiet_builtin _ (by decide +kernel)) (codeAny_builtin F.entry_type_call ?_))
  rw [Around.under_plain (weight_type_call_type "set" [.ref l] []) rfl]
  have nt := F.called_set.notType
  have cc := F.called_set.canCreate
  have tc := F.typeCall_set_1 (.ref l)
  repeat (any_goals (first | wp_step | assumption))
  let s1 : Shared := { s with heap := s.heap.push (set0 w) }
  refine codeAny_mono (code_set_led1 (.ref l) (E := E) (Q₁ := fun obj t => obj = .ref s.heap.objs.size ∧ t = s1) ⟨rfl, rfl⟩) fun r t hr => ?_
  cases r with
  | error e => exact hr
  | ok fl =>
    cases fl with
    | ret obj =>
      obtain ⟨rfl, rfl⟩ := hr
      have at0 : s1.heap.get? s.heap.objs.size = some (set0 w) := Heap.get?_push_size _ rfl
      have ty : Shared.TypeIs s1 (.ref s.heap.objs.size) "set" := ⟨_, at0, rfl⟩
      have il := F.called_set.init.lookup
      have ib := F.called_set.init.bind (.ref s.heap.objs.size)
      repeat (any_goals (first | wp_step | assumption))
      refine codeAny_mono (codeAny_call_builtin (R := wants (MadeI w s ns) E) F.called_set.init.plain F.entry_set_init (check_set_init_1 ty ?_)) fun r2 s2 hr2 => ?_
      · obtain ⟨ol, hol, hcl, nl, hdl⟩ := hl
        obtain ⟨ocls, odict, odata, oslots⟩ := ol
        simp only at hcl hdl
        subst hcl hdl
        have hol1 : s1.heap.get? l = some { cls := .type "list", dict := odict, data := .seq its nl, slots := oslots } := Heap.get?_push_of_some _ hol
        have n1 := F.sub_list_set
        have n2 := F.sub_list_frozenset
        have n3 : (Value.type "list" == Value.type "dict") = false := by decide
        have isl : s1.heap.IsList l its := ⟨_, hol1, rfl, nl, rfl⟩
        unfold Builtin.«set.__init__» noKeywords Builtin.Frozenset.updateFrom
        generalize hPI : pyIter = PI
        wp_walk
        subst hPI
        refine wpAny_pyIter_list isl ?_
        refine wpAny_bind (wpAny_runValue ?_)
        have lt : l < s.heap.objs.size := Heap.lt_size hol
        have free3 : A.in1.in1.in1.handled = none := by simp [hh]
        have sz1 : s1.heap.objs.size = s.heap.objs.size + 1 := Heap.size_push ..
        have apart : l ≠ s1.heap.objs.size := by
          rw [sz1]
          exact Nat.ne_of_lt (Nat.lt_succ_of_lt lt)
        have own : s.heap.objs.size ∉ [s1.heap.objs.size, l] := by
          rw [sz1]
          intro z
          rcases List.mem_cons.mp z with z | z
          · exact Nat.ne_of_lt (Nat.lt_succ_self _) z
          · exact Nat.ne_of_gt lt (List.mem_singleton.mp z)
        have many : its.size = ns.length := by
          have q := IntsAre.length hi
          rwa [Array.length_toList] at q
        have item : ∀ (i : Nat) (v : Value), its[i]? = some v → ∃ k t, ns[i]? = some k ∧ v = .int k t := by
          intro i v hv
          have lt' : i < ns.length := many ▸ (Array.getElem?_eq_some_iff.mp hv).1
          obtain ⟨t, e⟩ := IntsAre.int_at hi i v (by rw [Array.getElem?_toList]; exact hv)
          refine ⟨ns[i], t, List.getElem?_eq_getElem lt', e.trans ?_⟩
          rw [List.getD_eq_getElem?_getD, List.getElem?_eq_getElem lt', Option.getD_some]
        refine set_update_ints ((Walks.list free3 _ l apart its).toS) s.heap.objs.size own ns many few item (its.size - 0) 0 _ (by omega) (Nat.zero_le _) ⟨⟨_, Heap.get?_push_size _ rfl, rfl, rfl⟩, (isl.push _)⟩ ?first ?last
        case first => exact ⟨0, Nat.le_refl 0, setR_new_at (Heap.get?_push_of_some _ at0)⟩
        case last =>
          rintro ⟨hp, gs, dr, tk, os⟩ c moved few' R
          obtain rfl : gs = s.gens := moved.gens
          obtain rfl : dr = s.drawn := moved.drawn
          obtain rfl : os = s.os := moved.os
          refine wpAny_pure ?_
          show wpAny _ _ (ret Value.none) _ _ _
          refine wpAny_pure ⟨rfl, hp, tk, c, rfl, R, many ▸ few', fun b o e => ?_⟩
          have lb : b < s.heap.objs.size := Heap.lt_size e
          refine moved.heap b o (fun z => ?_) (Heap.get?_push_of_some _ (Heap.get?_push_of_some _ e))
          rcases List.mem_cons.mp z with z | z
          · exact Nat.ne_of_lt lb z
          · have z := List.mem_singleton.mp z
            rw [sz1] at z
            exact Nat.ne_of_lt (Nat.lt_succ_of_lt lb) z
      · cases r2 with
        | error e => exact hr2
        | ok f2 =>
          cases f2 with
          | ret r =>
            obtain ⟨rfl, hp, tk, c, rfl, z1, z2, z3⟩ := hr2
            repeat (any_goals (first | wp_step | assumption))
            exact h _ _ _ z1 z2 z3
          | _ => exact hr2.elim
    | _ => exact hr.elim
end

theorem setR_count {w : World} {h : Heap} {a : Addr} {S : Int → Bool} {n : Nat} {l : List Int} (R : SetR w h a S n) (nd : l.Nodup) (hm : ∀ k, k ∈ l ↔ S k = true) : n = l.length := by
  obtain ⟨o, es, ep, t, ho, hex, hd, g, nd2, m, hb, hf, hn, hr, hl⟩ := R
  have p : (es.toList.map keyOf).Perm l := (List.perm_ext_iff_of_nodup nd2 nd).mpr fun k => ((m k).symm.trans (hm k).symm)
  have e := p.length_eq
  rw [List.length_map, Array.length_toList] at e
  omega
/-- the members, each once -/
def dedI : List Int → List Int → List Int
  | acc, [] => acc
  | acc, k :: l => dedI (insI acc k) l
theorem dedI_spec : ∀ (l acc : List Int), acc.Nodup → (dedI acc l).Nodup ∧ ∀ k, k ∈ dedI acc l ↔ k ∈ acc ∨ k ∈ l
  | [], acc, h => ⟨h, fun k => by simp [dedI]⟩
  | x :: l, acc, h => by
    obtain ⟨h1, h2⟩ := dedI_spec l (insI acc x) (insI_nodup h)
    refine ⟨h1, fun k => ?_⟩
    show k ∈ dedI (insI acc x) l ↔ _
    rw [h2 k, mem_insI, List.mem_cons]
    constructor
    · rintro ((a | a) | a)
      · exact .inl a
      · exact .inr (.inl a)
      · exact .inr (.inr a)
    · rintro (a | a | a)
      · exact .inl (.inl a)
      · exact .inl (.inr a)
      · exact .inr a
/-- set(xs), xs a list or a tuple of ints -/
def rSetOfI (K : PySem.W.Frag) (w : World) : List V → Hp → VK → Prop := fun xs H Q => ∃ (a : Addr) (ns : List Int), xs = [V.ref a] ∧ (SqL K H a (ns.map V.int) ∨ SqT K H a (ns.map V.int)) ∧ ns.length < 4000 ∧
  ∀ p, H p = none → Q (.ref p) (upd H p (setI w p (dedI [] ns)))
section
variable {X : Cx}
theorem cr_setOfI (calm : X.calm = true) : CallR X (.type "set") (rSetOfI X.K X.w) := by
  intro pins s σ H xs us Q I r h
  obtain ⟨a, ns, rfl, hs, few, q⟩ := h
  rw [Vals.ref1 r]
  have free : H s.heap.objs.size = none := I.hok.fresh (Nat.le_refl _)
  have done : ∀ hp tk c, SetR X.w hp s.heap.objs.size (fun j => decide (j ∈ ns)) c → (∀ b o, s.heap.get? b = some o → hp.get? b = some o) → EP X pins σ Q (.ref s.heap.objs.size) { s with heap := hp, toks := tk } := fun hp tk c R k => by
    obtain ⟨d1, d2⟩ := dedI_spec ns [] List.nodup_nil
    have R2 : SetR X.w hp s.heap.objs.size (fun j => decide (j ∈ dedI [] ns)) c := R.congr fun j => decide_eq_decide.mpr (by rw [d2 j]; simp)
    have e := setR_count R2 d1 fun k => by simp
    rw [e] at R2
    exact ⟨.ref _, upd H s.heap.objs.size (setI X.w s.heap.objs.size (dedI [] ns)), I.laid (t' := tk) k (Nat.le_refl _) (setO_new R2), rfl, q _ free⟩
  have few' : ns.length + 1 < scanBound := Nat.lt_of_lt_of_le (Nat.succ_lt_succ few) (by decide)
  rcases hs with hs | hs
  · obtain ⟨its, rv, pl, _⟩ := I.list hs
    exact call_set_L ns (I.ok.hd calm) pl.isList (by simpa using ints_of_vals rv) few' fun hp tk c R _ k => done hp tk c R k
  · obtain ⟨its, rv, pl, _⟩ := I.tuple hs
    exact call_set_tupI ns (I.ok.hd calm) pl (by simpa using ints_of_vals rv) few' fun hp tk c R _ k => done hp tk c R k
end
end DL

/-! D10: sorted(xs) of any alike data; sorted(set(..)). -/
namespace DL
open PySem PySem.W PyProof.Rows L2

abbrev srtD : D → D → Bool := dataLe false (fun d : D => d)
abbrev bsLe : V × D → V × D → Bool := dataLe false (fun b : V × D => b.2)
def rSortD (K : PySem.W.Frag) : List V → Hp → VK → Prop := fun vs H Q => ∃ (a : Addr) (bs : List (V × D)), vs = [V.ref a] ∧ SqL K H a (bs.map (·.1)) ∧ (∀ b ∈ bs, Dp K H b.1 b.2) ∧ AllAlike (bs.map (·.2)) ∧ Sortable (bs.map (·.2)) ∧
  (∀ b ∈ bs, b.2.depth ≤ 60) ∧ ∀ p, H p = none → Q (.ref p) (upd H p (.lst ((bs.mergeSort bsLe).map (·.1))))
theorem each_of_vals {h : Heap} : ∀ {bs : List (V × D)} {us : List Value}, Vals (bs.map (·.1)) us → EachIs (fun u b => RelV b.1 u) us bs
  | [], _, .nil => .nil
  | b :: bs, _, .cons r t => .cons r (each_of_vals (h := h) t)
theorem vals_of_each : ∀ {bs : List (V × D)} {us : List Value}, EachIs (fun u b => RelV b.1 u) us bs → Vals (bs.map (·.1)) us
  | _, _, .nil => .nil
  | _, _, .cons r t => .cons r (vals_of_each t)
section
variable {X : Cx}
theorem cr_sortedD (room : X.A.units + 64 < cLine) : CallR X (.builtin "sorted") (rSortD X.K) := by
  intro pins s σ H vs us Q I r h
  obtain ⟨a, bs, rfl, hs, hd, al, so, dp, q⟩ := h
  obtain ⟨its, rv, pl, z⟩ := I.list hs
  rw [Vals.ref1 r]
  have e := each_of_vals (h := s.heap) rv
  have er : EachIs (fun u (b : V × D) => ∃ as, Reads s.heap u b.2 as) its bs := by
    have go : ∀ {us : List Value} {cs : List (V × D)}, EachIs (fun u b => RelV b.1 u) us cs → (∀ b ∈ cs, Dp X.K H b.1 b.2) → EachIs (fun u (b : V × D) => ∃ as, Reads s.heap u b.2 as) us cs := by
      intro us cs h
      induction h with
      | nil => intro _; exact .nil
      | cons r _ ih => intro hc; exact .cons (Dp.reads I _ _ _ (hc _ List.mem_cons_self) r) (ih fun b hb => hc b (List.mem_cons_of_mem _ hb))
    exact go e hd
  have len : bs.length ≤ sizeLine := by rw [List.length_map] at z; exact z
  refine sorted_data (enc := fun b : V × D => b.2) pl.isList e er al so len (fun b hb => ?_) fun out ho eo => ?_
  · have := dp b hb
    omega
  · obtain ⟨ep, he'⟩ := PyProof.Rows.sortedAll_at s.heap its out.toArray
    have vv := vals_of_each eo
    refine ⟨.ref _, upd H (s.heap.objs.size + 1) (.lst ((bs.mergeSort bsLe).map (·.1))), I.laid (t' := s.toks) (fun _ _ => PyProof.Rows.sortedAll_old) (Nat.le_succ _) ⟨?_, out, ep, vv, he'⟩, rfl, q _ (I.hok.fresh (Nat.le_succ _))⟩
    rw [List.length_map, List.length_mergeSort]
    exact len
end
theorem Rps.zip {K : Frag} {G : Hp} : ∀ {l : List D} {vs : List V}, Rps K G l vs → (vs.zip l).map (·.1) = vs ∧ (vs.zip l).map (·.2) = l ∧ ∀ b ∈ vs.zip l, Rp K G b.2 b.1
  | [], vs, h => by simp only [Rps] at h; subst h; exact ⟨rfl, rfl, fun b hb => by cases hb⟩
  | d :: l, vs, h => by
    simp only [Rps] at h
    obtain ⟨v, r, rfl, q, h⟩ := h
    obtain ⟨h1, h2, h3⟩ := Rps.zip h
    refine ⟨by simp [h1], by simp [h2], fun b hb => ?_⟩
    rcases List.mem_cons.mp hb with e | e
    · subst e; exact q
    · exact h3 b e
theorem Rps.of_zip {K : Frag} {G : Hp} : ∀ {bs : List (V × D)}, (∀ b ∈ bs, Rp K G b.2 b.1) → Rps K G (bs.map (·.2)) (bs.map (·.1))
  | [], _ => by simp only [List.map_nil, Rps]
  | b :: bs, h => by
    simp only [List.map_cons, Rps]
    exact ⟨_, _, rfl, h b List.mem_cons_self, Rps.of_zip fun c hc => h c (List.mem_cons_of_mem _ hc)⟩
def isTupNE : D → Bool
  | .tuple (_ :: _) => true
  | _ => false
def isAtom : D → Bool
  | .none => false
  | .tuple _ => false
  | _ => true
/-- may be sorted: all alike, tuples with an item at least or no tuples -/
def okSort (l : List D) : Bool := (l.all fun d => l.all fun e => alike d e) && ((l.all isTupNE) || (l.all isAtom)) && (l.all fun d => d.canLay0 && decide (d.depth ≤ 60)) && decide (l.length ≤ LIM)
def sortedF : List D → Option (List D)
  | [.list l] => if okSort l = true then some (l.mergeSort srtD) else none
  | _ => none
theorem okSort_inv {l : List D} (h : okSort l = true) : AllAlike l ∧ Sortable l ∧ (∀ d ∈ l, d.canLay0 = true ∧ d.depth ≤ 60) ∧ l.length ≤ LIM := by
  unfold okSort at h
  simp only [Bool.and_eq_true, Bool.or_eq_true, List.all_eq_true, decide_eq_true_eq] at h
  obtain ⟨⟨⟨h1, h2⟩, h3⟩, h4⟩ := h
  refine ⟨fun d hd d' hd' => h1 d hd d' hd', ?_, h3, h4⟩
  rcases h2 with h2 | h2
  · refine .inl fun d hd => ?_
    have := h2 d hd
    unfold isTupNE at this
    split at this
    · exact ⟨_, _, rfl⟩
    · cases this
  · refine .inr fun d hd => ?_
    have := h2 d hd
    refine ⟨fun e => ?_, fun xs e => ?_⟩ <;> (subst e; cases this)
theorem pf_sorted {K : Frag} : PNF K (rSortD K) sortedF := by
  intro G H xs ds l Q gh rx h k
  unfold sortedF at h
  split at h
  · rename_i l0
    split at h
    · rename_i ok
      cases h
      obtain ⟨al, so, pl, len⟩ := okSort_inv ok
      obtain ⟨x, rfl, r⟩ := Paired.one rx
      obtain ⟨a, vs, rfl, e, r⟩ := r
      obtain ⟨z1, z2, z3⟩ := r.zip
      refine ⟨a, vs.zip l0, rfl, .inl (.inl (by rw [z1]; exact e)), fun b hb => ?_, by rw [z2]; exact al, by rw [z2]; exact so, fun b hb => ?_, fun p hp => k p _ G H (Gro.refl gh) hp ?_⟩
      · have hm : b.2 ∈ l0 := by rw [← z2]; exact List.mem_map.mpr ⟨b, hb, rfl⟩
        exact Rp.dp _ _ (Rp.mono gh _ _ (z3 b hb)) (pl b.2 hm).1
      · have hm : b.2 ∈ l0 := by rw [← z2]; exact List.mem_map.mpr ⟨b, hb, rfl⟩
        exact (pl b.2 hm).2
      · have e2 : ((vs.zip l0).mergeSort bsLe).map (·.2) = l0.mergeSort srtD := by
          have q := sort_maps (r := bsLe) (s := srtD) (l := vs.zip l0) Prod.snd (fun _ _ _ _ => rfl)
          rw [show (vs.zip l0).map Prod.snd = l0 from z2] at q
          exact q
        rw [← e2]
        exact Rps.of_zip fun b hb => z3 b ((List.mergeSort_perm _ _).mem_iff.mp hb)
    · cases h
  · cases h

/-! ### sorted sets of ints -/
def sortI (l : List Int) : List Int := l.mergeSort fun a b => decide (a ≤ b)
theorem sortI_perm (l : List Int) : (sortI l).Perm l := List.mergeSort_perm _ _
theorem sortI_le (l : List Int) : (sortI l).Pairwise (· ≤ ·) := by
  have h := List.pairwise_mergeSort (le := fun a b : Int => decide (a ≤ b)) (fun a b c h1 h2 => by simp at *; omega) (fun a b => by simp; omega) l
  exact h.imp fun h => by simpa using h
theorem lt_ext : ∀ {a b : List Int}, a.Pairwise (· < ·) → b.Pairwise (· < ·) → (∀ k, k ∈ a ↔ k ∈ b) → a = b
  | [], [], _, _, _ => rfl
  | [], y :: b, _, _, h => by have := (h y).mpr List.mem_cons_self; cases this
  | x :: a, [], _, _, h => by have := (h x).mp List.mem_cons_self; cases this
  | x :: a, y :: b, ha, hb, h => by
    rw [List.pairwise_cons] at ha hb
    have e : x = y := by
      have h1 := (h x).mp List.mem_cons_self
      have h2 := (h y).mpr List.mem_cons_self
      rcases List.mem_cons.mp h1 with e | e
      · exact e
      · rcases List.mem_cons.mp h2 with e2 | e2
        · exact e2.symm
        · have := hb.1 x e
          have := ha.1 y e2
          omega
    subst e
    rw [lt_ext ha.2 hb.2 fun k => ?_]
    constructor
    · intro hk
      rcases List.mem_cons.mp ((h k).mp (List.mem_cons_of_mem _ hk)) with e | e
      · subst e; have := ha.1 k hk; omega
      · exact e
    · intro hk
      rcases List.mem_cons.mp ((h k).mpr (List.mem_cons_of_mem _ hk)) with e | e
      · subst e; have := hb.1 k hk; omega
      · exact e
theorem lt_of_le_nd : ∀ {l : List Int}, l.Pairwise (· ≤ ·) → l.Nodup → l.Pairwise (· < ·)
  | [], _, _ => .nil
  | x :: l, h, n => by
    rw [List.pairwise_cons] at h ⊢
    rw [List.nodup_cons] at n
    exact ⟨fun y hy => by have := h.1 y hy; have : x ≠ y := fun e => n.1 (e ▸ hy); omega, lt_of_le_nd h.2 n.2⟩
theorem sortI_uniq {l a : List Int} (nd : l.Nodup) (ha : a.Pairwise (· < ·)) (h : ∀ k, k ∈ a ↔ k ∈ l) : a = sortI l := by
  refine lt_ext ha (lt_of_le_nd (sortI_le l) ((sortI_perm l).nodup_iff.mpr nd)) fun k => ?_
  rw [h k, (sortI_perm l).mem_iff]
def intsOf : List D → Option (List Int)
  | [] => some []
  | .int i :: l => (intsOf l).map (i :: ·)
  | _ => none
theorem intsOf_eq : ∀ {l : List D} {ns : List Int}, intsOf l = some ns → l = ns.map .int
  | [], ns, h => by simp only [intsOf] at h; cases h; rfl
  | d :: l, ns, h => by
    cases d <;> simp only [intsOf] at h <;> try (cases h; done)
    cases q : intsOf l with
    | none => rw [q] at h; cases h
    | some ms =>
      rw [q] at h
      cases h
      rw [intsOf_eq q, List.map_cons]
theorem intsOf_map : ∀ (ns : List Int), intsOf (ns.map .int) = some ns
  | [] => rfl
  | n :: ns => by simp only [List.map_cons, intsOf, intsOf_map ns, Option.map_some]
/-- sorted(set(xs)), ints -/
def sortSetI : D → Option (List D)
  | .list l => (intsOf l).bind fun ns => if ns.length < 4000 ∧ (dedI [] ns).length < 64 then some ((sortI (dedI [] ns)).map .int) else none
  | .tuple l => (intsOf l).bind fun ns => if ns.length < 4000 ∧ (dedI [] ns).length < 64 then some ((sortI (dedI [] ns)).map .int) else none
  | _ => none
theorem sorted_set_at {w : World} {G H : Hp} {p : Addr} {l : List Int} {Q : VK} (nd : l.Nodup) (few : l.length < 64) (h : H p = some (setI w p l)) (k : ∀ q, H q = none → Q (.ref q) (upd H q (.lst ((sortI l).map V.int)))) : rSortedSet w [.ref p] H Q := by
  refine ⟨p, _, _, rfl, h, few, fun ns q h1 h2 h3 hq => ?_⟩
  rw [sortI_uniq nd h1 fun k => by rw [h2 k]; simp]
  exact k q hq
theorem pf_sortSetI {K : Frag} {w : World} : PNF1 K (fun x H Q => rSetOfI K w [x] H fun v H2 => rSortedSet w [v] H2 Q) sortSetI := by
  intro G H x d l Q gh rx h k
  have key : ∀ (a : Addr) (ns : List Int), x = .ref a → (SqL K H a (ns.map V.int) ∨ SqT K H a (ns.map V.int)) → (if ns.length < 4000 ∧ (dedI [] ns).length < 64 then some ((sortI (dedI [] ns)).map PyData.int) else none) = some l →
      rSetOfI K w [x] H fun v H2 => rSortedSet w [v] H2 Q := by
    intro a ns ex hs hl
    split at hl
    · rename_i few
      cases hl
      refine ⟨a, ns, by rw [ex], hs, few.1, fun p hp => ?_⟩
      have g := Gro.mine gh hp (setI w p (dedI [] ns))
      exact sorted_set_at (G := G) (dedI_spec ns [] List.nodup_nil).1 few.2 upd_same fun q hq => k q _ G _ g hq (Rps.of_ints _)
    · cases hl
  cases d <;> simp only [sortSetI] at h <;> try (cases h; done)
  · rename_i l0
    cases e : intsOf l0 with
    | none => rw [e] at h; cases h
    | some ns =>
      rw [e] at h
      have e2 := intsOf_eq e
      subst e2
      obtain ⟨a, vs, rfl, ea, r⟩ := rx
      rw [r.ints] at ea
      exact key a ns rfl (.inl (.inl (.inl ea))) h
  · rename_i l0
    cases e : intsOf l0 with
    | none => rw [e] at h; cases h
    | some ns =>
      rw [e] at h
      have e2 := intsOf_eq e
      subst e2
      obtain ⟨a, vs, rfl, ea, r⟩ := rx
      rw [r.ints] at ea
      exact key a ns rfl (.inr (tq gh ea)) h
/-- an expression that is a new set of ints -/
def ZJ (C : Cc) (X : Cx) (e : Expr) (t : TE) (m : M (List Int)) : Prop := PE X e t ∧ MOk C (RSetI X.w) t m
section
variable {C : Cc} {X : Cx} {tg iter elt a e : Expr} {ifs : List Expr} {scope : Scope} {own : List (Str × Nat)} {pos : Pos} {wi : TI} {g : TG} {tt : TT} {te tz : TE} {ts : List Nat} {mi : M (List D)} {pat : D → M Unit} {mt : M Bool} {me : M IV} {mz : M (List Int)}
theorem zj_sc (hc : X.calm = true) (hN : X.N.Nodup) (hi : IJ C X tg iter wi mi) (ok : BlkOk X.N X.env.scope scope own)
    (hg : ∀ s H Ca cl fp, GJ C (Blk X scope s H Ca cl fp) tg g ts pat) (hts : ∀ i, i ∈ ts → i ∈ own.map (·.2)) (ht : ∀ s H Ca cl fp, TsJ (C0 C) (Blk X scope s H Ca cl fp) ifs tt mt)
    (he : ∀ s H Ca cl fp, EJ (C0 C) (Blk X scope s H Ca cl fp) elt te me) (hs : ∀ x, foldedSetIterable iter X.env x = pure x) (s0 : Shared) :
    ZJ C X (.SetComp elt [⟨tg, iter, ifs, 0⟩] scope pos) (tScI X.w wi g tt te (own.map (·.2))) (dScI mi pat mt me (own.map (·.2))) :=
  ⟨pe_scI hc hN hi.1 ok (fun s H Ca cl fp => (hg s H Ca cl fp).1) (fun s H Ca cl fp => (ht s H Ca cl fp).1) (fun s H Ca cl fp => (he s H Ca cl fp).1) hs,
   ok_scI hi.2 (hg s0 (fun _ => none) 0 [] []).2 hts (ht s0 (fun _ => none) 0 [] []).2 (he s0 (fun _ => none) 0 [] []).2⟩
/-- sorted of a new set -/
def nSrtZ (mz : M (List Int)) : M D := .bind mz fun l => if l.length < 64 then .pure (.list ((sortI l).map .int)) else .un
theorem fj_srtZ (hp : PE X a tz → PE X e (fun σ H Q => tz σ H fun v H1 => rSortedSet X.w [v] H1 Q)) (h : ZJ C X a tz mz) : FJ C X e (fun σ H Q => tz σ H fun v H1 => rSortedSet X.w [v] H1 Q) (nSrtZ mz) := by
  refine ⟨hp h.1, ?_⟩
  intro G H ρ σ Q st q
  refine bindT h.2 st q fun l ρ1 v G1 H1 s1 st1 sh1 r1 h1 => ?_
  obtain ⟨p, rfl, ep, nd⟩ := r1
  split at h1
  · rename_i few
    exact sorted_set_at (G := G1) nd few ep fun q hq => post_new (G0 := G) st1 h1 hq (s1.none_back hq) (own_lst (none_of st1.gh hq) (Rps.of_ints _))
  · exact h1.elim
end
end DL

/-! D11: sorted(set(xs)), xs tuples of ints. -/
namespace DL
open PySem L2

theorem code_inj {B : Int} : ∀ {a b : List Int}, a.length = b.length → TS.Bd B a → TS.Bd B b → TS.code B a = TS.code B b → a = b
  | [], [], _, _, _, _ => rfl
  | d :: r, e :: q, hl, ha, hb, h => by
    have hl' : r.length = q.length := by simpa using hl
    by_cases h1 : d < e
    · have := TS.code_lt hl' ha.tail hb.tail h1
      omega
    · by_cases h2 : e < d
      · have := TS.code_lt hl'.symm hb.tail ha.tail h2
        omega
      · have e0 : d = e := by omega
        subst e0
        have n1 : ¬ TS.code B r < TS.code B q := fun z => by have := (TS.code_same (d := d) hl').mpr z; omega
        have n2 : ¬ TS.code B q < TS.code B r := fun z => by have := (TS.code_same (d := d) hl'.symm).mpr z; omega
        rw [code_inj hl' ha.tail hb.tail (by omega)]
def sortT (l : List (List Int)) : List (List Int) := l.mergeSort fun a b => decide (TS.code 64 a ≤ TS.code 64 b)
def dedT : List (List Int) → List (List Int) → List (List Int)
  | acc, [] => acc
  | acc, k :: l => dedT (if k ∈ acc then acc else acc ++ [k]) l
theorem dedT_spec : ∀ (l acc : List (List Int)), acc.Nodup → (dedT acc l).Nodup ∧ ∀ k, k ∈ dedT acc l ↔ k ∈ acc ∨ k ∈ l
  | [], acc, h => ⟨h, fun k => by simp [dedT]⟩
  | x :: l, acc, h => by
    have hn : (if x ∈ acc then acc else acc ++ [x]).Nodup := by
      split
      · exact h
      · rename_i hk
        rw [List.nodup_append]
        exact ⟨h, by simp, fun a ha b hb => by simp at hb; subst hb; exact fun z => hk (z ▸ ha)⟩
    obtain ⟨h1, h2⟩ := dedT_spec l _ hn
    refine ⟨h1, fun k => ?_⟩
    show k ∈ dedT (if x ∈ acc then acc else acc ++ [x]) l ↔ _
    rw [h2 k, List.mem_cons]
    split
    · rename_i hx
      constructor
      · rintro (a | a)
        · exact .inl a
        · exact .inr (.inr a)
      · rintro (a | a | a)
        · exact .inl a
        · exact .inl (a ▸ hx)
        · exact .inr a
    · rw [List.mem_append, List.mem_singleton]
      constructor
      · rintro ((a | a) | a)
        · exact .inl a
        · exact .inr (.inl a)
        · exact .inr (.inr a)
      · rintro (a | a | a)
        · exact .inl (.inl a)
        · exact .inl (.inr a)
        · exact .inr a
theorem sort_ext {α : Type} (key : α → Int) : ∀ {a b : List α}, a.Pairwise (fun x y => key x < key y) → b.Pairwise (fun x y => key x < key y) → (∀ x, x ∈ a ↔ x ∈ b) → a = b
  | [], [], _, _, _ => rfl
  | [], y :: b, _, _, h => by have := (h y).mpr List.mem_cons_self; cases this
  | x :: a, [], _, _, h => by have := (h x).mp List.mem_cons_self; cases this
  | x :: a, y :: b, ha, hb, h => by
    rw [List.pairwise_cons] at ha hb
    have e : x = y := by
      rcases List.mem_cons.mp ((h x).mp List.mem_cons_self) with e | e
      · exact e
      · rcases List.mem_cons.mp ((h y).mpr List.mem_cons_self) with e2 | e2
        · exact e2.symm
        · have := hb.1 x e
          have := ha.1 y e2
          omega
    subst e
    rw [sort_ext key ha.2 hb.2 fun k => ?_]
    constructor
    · intro hk
      rcases List.mem_cons.mp ((h k).mp (List.mem_cons_of_mem _ hk)) with e | e
      · subst e; have := ha.1 k hk; omega
      · exact e
    · intro hk
      rcases List.mem_cons.mp ((h k).mpr (List.mem_cons_of_mem _ hk)) with e | e
      · subst e; have := hb.1 k hk; omega
      · exact e
theorem strict_of {α : Type} (key : α → Int) : ∀ {l : List α}, (∀ x ∈ l, ∀ y ∈ l, key x = key y → x = y) → l.Pairwise (fun x y => key x ≤ key y) → l.Nodup → l.Pairwise fun x y => key x < key y
  | [], _, _, _ => .nil
  | x :: l, inj, h, n => by
    rw [List.pairwise_cons] at h ⊢
    rw [List.nodup_cons] at n
    refine ⟨fun y hy => ?_, strict_of key (fun a ha b hb => inj a (List.mem_cons_of_mem _ ha) b (List.mem_cons_of_mem _ hb)) h.2 n.2⟩
    have h1 := h.1 y hy
    have h2 : key x ≠ key y := fun e => n.1 (inj x List.mem_cons_self y (List.mem_cons_of_mem _ hy) e ▸ hy)
    omega
theorem sortT_perm (l : List (List Int)) : (sortT l).Perm l := List.mergeSort_perm _ _
theorem sortT_le (l : List (List Int)) : (sortT l).Pairwise fun a b => TS.code 64 a ≤ TS.code 64 b := by
  have h := List.pairwise_mergeSort (le := fun a b : List Int => decide (TS.code 64 a ≤ TS.code 64 b)) (fun a b c h1 h2 => by simp at *; omega) (fun a b => by simp; omega) l
  exact h.imp fun h => by simpa using h
/-- rows of the same length, their ints in 0 .. 63 -/
def okRows (d : Nat) (l : List (List Int)) : Bool := l.all fun r => decide (r.length = d) && r.all fun k => decide (0 ≤ k ∧ k < 64)
theorem okRows_inv {d : Nat} {l : List (List Int)} (h : okRows d l = true) : ∀ r ∈ l, r.length = d ∧ TS.Bd 64 r := by
  intro r hr
  unfold okRows at h
  rw [List.all_eq_true] at h
  have q := h r hr
  rw [Bool.and_eq_true, decide_eq_true_eq, List.all_eq_true] at q
  exact ⟨q.1, fun m hm => by simpa using q.2 m hm⟩
theorem sortT_uniq {d : Nat} {l a : List (List Int)} (ok : okRows d l = true) (nd : l.Nodup) (na : a.Nodup) (ha : a.Pairwise fun x y => TS.code 64 x ≤ TS.code 64 y) (h : ∀ k, k ∈ a ↔ k ∈ l) : a = sortT l := by
  have inj : ∀ x ∈ l, ∀ y ∈ l, TS.code 64 x = TS.code 64 y → x = y := fun x hx y hy e => by
    obtain ⟨h1, h2⟩ := okRows_inv ok x hx
    obtain ⟨h3, h4⟩ := okRows_inv ok y hy
    exact code_inj (by omega) h2 h4 e
  have mem : ∀ k, k ∈ sortT l ↔ k ∈ l := fun k => (sortT_perm l).mem_iff
  refine sort_ext (TS.code 64) (strict_of _ (fun x hx y hy => inj x ((h x).mp hx) y ((h y).mp hy)) ha na) (strict_of _ (fun x hx y hy => inj x ((mem x).mp hx) y ((mem y).mp hy)) (sortT_le l) ((sortT_perm l).nodup_iff.mpr nd)) fun k => ?_
  rw [h k, mem k]
def rowOf : D → Option (List Int)
  | .tuple l => intsOf l
  | _ => none
def rowsOf : List D → Option (List (List Int))
  | [] => some []
  | d :: l => (rowOf d).bind fun r => (rowsOf l).map (r :: ·)
abbrev rowD (r : List Int) : D := .tuple (r.map .int)
theorem rowsOf_eq : ∀ {l : List D} {rs : List (List Int)}, rowsOf l = some rs → l = rs.map rowD
  | [], rs, h => by simp only [rowsOf] at h; cases h; rfl
  | d :: l, rs, h => by
    simp only [rowsOf] at h
    cases d <;> simp only [rowOf, Option.bind_none] at h <;> try (cases h; done)
    rename_i ds
    cases e1 : intsOf ds with
    | none => rw [e1] at h; cases h
    | some r =>
      rw [e1] at h
      simp only [Option.bind_some] at h
      cases e2 : rowsOf l with
      | none => rw [e2] at h; cases h
      | some q =>
        rw [e2] at h
        cases h
        rw [rowsOf_eq e2, intsOf_eq e1, List.map_cons]
theorem rowsOf_map : ∀ (rs : List (List Int)), rowsOf (rs.map rowD) = some rs
  | [] => rfl
  | r :: rs => by simp only [List.map_cons, rowsOf, rowOf, intsOf_map, Option.bind_some, rowsOf_map rs, Option.map_some]
def sortSetT (d : Nat) : D → Option (List D)
  | .list l => (rowsOf l).bind fun rs => if 1 ≤ d ∧ okRows d rs = true ∧ rs.length < 64 then some ((sortT (dedT [] rs)).map rowD) else none
  | _ => none
/-- the rows with their addresses -/
theorem rows_at {K : Frag} {G : Hp} : ∀ {rs : List (List Int)} {vs : List V}, Rps K G (rs.map rowD) vs → ∃ ks : List (Addr × List Int), ks.map (·.2) = rs ∧ vs = ks.map (fun p => V.ref p.1) ∧ ∀ p ∈ ks, TupF G p.1 (p.2.map V.int)
  | [], vs, h => by simp only [List.map_nil, Rps] at h; subst h; exact ⟨[], rfl, rfl, fun p hp => by cases hp⟩
  | r :: rs, vs, h => by
    simp only [List.map_cons, Rps, Rp] at h
    obtain ⟨v, w, rfl, ⟨a, us, rfl, e, q⟩, h⟩ := h
    obtain ⟨ks, h1, h2, h3⟩ := rows_at h
    refine ⟨(a, r) :: ks, by simp [h1], by simp [h2], fun p hp => ?_⟩
    rcases List.mem_cons.mp hp with z | z
    · subst z; rw [q.ints] at e; exact e
    · exact h3 p z
theorem rps_rows {K : Frag} {G : Hp} : ∀ {ks : List (Addr × List Int)}, (∀ p ∈ ks, TupF G p.1 (p.2.map V.int)) → Rps K G ((ks.map (·.2)).map rowD) (ks.map fun p => V.ref p.1)
  | [], _ => by simp only [List.map_nil, Rps]
  | p :: ks, h => by
    simp only [List.map_cons, Rps, Rp]
    exact ⟨_, _, rfl, ⟨p.1, _, rfl, h p List.mem_cons_self, Rps.of_ints _⟩, rps_rows fun q hq => h q (List.mem_cons_of_mem _ hq)⟩
theorem pf_sortSetT {K : Frag} {P : Program} {w : World} (d : Nat) : PNF1 K (fun x H Q => rSetOfT K P w [x] H fun v H2 => rSortedT K P w [v] H2 Q) (sortSetT d) := by
  intro G H x dd l Q gh rx h k
  cases dd <;> simp only [sortSetT] at h <;> try (cases h; done)
  rename_i l0
  cases e : rowsOf l0 with
  | none => rw [e] at h; cases h
  | some rs =>
    rw [e] at h
    simp only [Option.bind_some] at h
    split at h
    · rename_i hc
      obtain ⟨h1, ok, few⟩ := hc
      cases h
      have e2 := rowsOf_eq e
      subst e2
      obtain ⟨a, vs, rfl, ea, r⟩ := rx
      obtain ⟨ks, k1, rfl, k3⟩ := rows_at r
      have at_ : ∀ {H' : Hp}, Same H H' → ∀ p ∈ ks, SqT K H' p.1 (p.2.map V.int) := fun hh p hp => tq (gh.trans hh) (k3 p hp)
      refine ⟨a, ks, rfl, .inl (.inl ea), at_ (Same.refl H), by rw [← k1, List.length_map] at few; exact few, fun s L hs sub all => ?_⟩
      have g := Gro.mine gh hs (SetTO P w s L)
      obtain ⟨d1, d2⟩ := dedT_spec rs [] List.nodup_nil
      refine ⟨s, L, d, 64, rfl, upd_same, fun p hp => at_ g.hh p (sub p hp), h1, fun p hp => okRows_inv ok p.2 (by rw [← k1]; exact List.mem_map.mpr ⟨p, sub p hp, rfl⟩), fun L' p pm nd _ pw hp => ?_⟩
      have subL : ∀ q ∈ L', q ∈ ks := fun q hq => sub q (pm.mem_iff.mp hq)
      have mem : ∀ r, r ∈ L'.map (·.2) ↔ r ∈ dedT [] rs := fun r => by
        rw [d2 r]
        constructor
        · intro hr
          obtain ⟨q, hq, rfl⟩ := List.mem_map.mp hr
          exact .inr (by rw [← k1]; exact List.mem_map.mpr ⟨q, subL q hq, rfl⟩)
        · rintro (z | z)
          · cases z
          · rw [← k1] at z
            obtain ⟨q, hq, rfl⟩ := List.mem_map.mp z
            have := all q hq
            exact (pm.map (·.2)).mem_iff.mpr this
      have okd : okRows d (dedT [] rs) = true := by
        unfold okRows
        rw [List.all_eq_true]
        intro r hr
        have hr' : r ∈ rs := ((d2 r).mp hr).resolve_left fun z => by cases z
        unfold okRows at ok
        rw [List.all_eq_true] at ok
        exact ok r hr'
      have e3 : L'.map (·.2) = sortT (dedT [] rs) := sortT_uniq okd d1 nd (List.pairwise_map.mpr pw) mem
      refine k p _ G _ g hp ?_
      rw [← e3]
      exact rps_rows fun q hq => k3 q (subL q hq)
    · cases h
end DL

/-! D12: the rules as one writes them. -/
namespace DL
open PySem L2

/-- the built-ins are what they were -/
structure Bi (mg : Str → Option Value) : Prop where
  len_ : mg "len" = none
  isinstance_ : mg "isinstance" = none
  tuple_ : mg "tuple" = none
  list_ : mg "list" = none
  range_ : mg "range" = none
  sorted_ : mg "sorted" = none
  set_ : mg "set" = none
  all_ : mg "all" = none
  any_ : mg "any" = none
  int_ : mg "int" = none
  bool_ : mg "bool" = none
  str_ : mg "str" = none
  min_ : mg "min" = none
  max_ : mg "max" = none
  sum_ : mg "sum" = none
  dict_ : mg "dict" = none
  enumerate_ : mg "enumerate" = none
  zip_ : mg "zip" = none
  reversed_ : mg "reversed" = none
  abs_ : mg "abs" = none
  type_ : mg "type" = none
section
variable {C : Cc} {X : Cx} {a b c e : Expr} {es : List Expr} {pos p p1 p2 p3 q1 q2 : Pos} {ma mb mc me : M IV} {mas : M (List IV)} {ta tb tc te : TE} {tas : TA} {tt : TT} {k : Nat}
theorem room65 (hr : Room k X.A) : X.A.units + 65 < cLine := by have := hr.un; omega
theorem room64 (hr : Room k X.A) : X.A.units + 64 < cLine := by have := hr.un; omega
theorem room0 (hr : Room k X.A) : X.A.units < cLine := by have := hr.un; omega
theorem room1 (hr : Room k X.A) : X.A.units + 1 < cLine := by have := hr.un; omega
theorem x_pos (h : EJ C X e te me) (z : AJ C X es tas mas) (hs : starEach (e :: es) X.env = (false, eval e X.env) :: starEach es X.env := by rfl) : AJ C X (e :: es) (tCons te tas) (dCons me mas) := aj_cons h z hs
theorem x_add (ha : EJ C X a ta ma) (hb : EJ C X b tb mb) (hK : X.K = C.K := by rfl) : EJ C X (.BinOp a .Add b pos) (tOp (rAddD C.K) ta tb) (d2 addD ma mb) := ej_op (r := rAddD C.K) (by first | exact or_addD | (rw [← hK]; exact or_addD)) p_addD ha hb
theorem x_sub (ha : EJ C X a ta ma) (hb : EJ C X b tb mb) (hK : X.K = C.K := by rfl) : EJ C X (.BinOp a .Sub b pos) (tOp (rI0 fun i j => .int (i - j)) ta tb) (d2 subD ma mb) := ej_op (r := rI0 fun i j => .int (i - j)) (by first | exact op_sub | (rw [← hK]; exact op_sub)) p_subD ha hb
theorem x_mul (ha : EJ C X a ta ma) (hb : EJ C X b tb mb) (hK : X.K = C.K := by rfl) : EJ C X (.BinOp a .Mult b pos) (tOp (rMulD) ta tb) (d2 mulD ma mb) := ej_op (r := rMulD) (by first | exact or_mulD | (rw [← hK]; exact or_mulD)) p_mulD ha hb
theorem x_fdiv (ha : EJ C X a ta ma) (hb : EJ C X b tb mb) (hK : X.K = C.K := by rfl) : EJ C X (.BinOp a .FloorDiv b pos) (tOp (rI CDiv fun i j => .int (i / j)) ta tb) (d2 fdivD ma mb) := ej_op (r := rI CDiv fun i j => .int (i / j)) (by first | exact op_fdiv | (rw [← hK]; exact op_fdiv)) p_fdivD ha hb
theorem x_mod (ha : EJ C X a ta ma) (hb : EJ C X b tb mb) (hK : X.K = C.K := by rfl) : EJ C X (.BinOp a .Mod b pos) (tOp (rI (fun _ j => 0 < j) fun i j => .int (i % j)) ta tb) (d2 modD ma mb) := ej_op (r := rI (fun _ j => 0 < j) fun i j => .int (i % j)) (by first | exact op_mod | (rw [← hK]; exact op_mod)) p_modD ha hb
theorem x_pow (ha : EJ C X a ta ma) (hb : EJ C X b tb mb) (hK : X.K = C.K := by rfl) : EJ C X (.BinOp a .Pow b pos) (tOp (rI CPow fun i j => .int (i ^ j.toNat)) ta tb) (d2 powD ma mb) := ej_op (r := rI CPow fun i j => .int (i ^ j.toNat)) (by first | exact op_pow | (rw [← hK]; exact op_pow)) p_powD ha hb
/-- < of ints, of tuples of ints -/
def ltxD : F2
  | .int i, .int j => some (.bool (decide (i < j)))
  | .tuple l, .tuple m => (intsOf l).bind fun ns => (intsOf m).map fun ms => .bool (HT.lexLt ns ms)
  | _, _ => none
def rLtx (K : Frag) : R2 := fun x y H Q => rI0 (fun i j => .bl (decide (i < j))) x y H Q ∨ rLtT K x y H Q
theorem p_ltx {K : Frag} : P2 K (rLtx K) ltxD := by
  intro G H x y d e c Q gh rx ry h k
  cases d <;> cases e <;> simp only [ltxD] at h <;> try (cases h; done)
  · cases h
    simp only [Rpt] at rx ry
    subst rx ry
    exact .inl ⟨_, _, rfl, rfl, k.bl gh⟩
  · rename_i l m
    cases e1 : intsOf l with
    | none => rw [e1] at h; cases h
    | some ns =>
      cases e2 : intsOf m with
      | none => rw [e1, e2] at h; cases h
      | some ms =>
        rw [e1, e2] at h
        cases h
        have h1 := intsOf_eq e1
        have h2 := intsOf_eq e2
        subst h1 h2
        obtain ⟨a, vs, rfl, ea, ra⟩ := rx
        obtain ⟨b, ws, rfl, eb, rb⟩ := ry
        rw [ra.ints] at ea
        rw [rb.ints] at eb
        exact .inr ⟨a, b, ns, ms, rfl, rfl, tq gh ea, tq gh eb, k.bl gh⟩
theorem x_lt (hr : Room k X.A) (ha : EJ C X a ta ma) (hb : EJ C X b tb mb) (hK : X.K = C.K := by rfl) : EJ C X (.Compare a [.Lt] [b] pos) (tOp (rLtx C.K) ta tb) (d2 (ltxD) ma mb) := ej_cmp (r := rLtx C.K) (by first | exact OpR.or op_lt (op_ltT (room0 hr)) | (rw [← hK]; exact OpR.or op_lt (op_ltT (room0 hr)))) p_ltx ha hb (nomark b)
theorem t_lt (hr : Room k X.A) (ha : EJ C X a ta ma) (hb : EJ C X b tb mb) (hK : X.K = C.K := by rfl) : TJ C X (.Compare a [.Lt] [b] pos) (tTest (tOp (rLtx C.K) ta tb)) (dBool (d2 (ltxD) ma mb)) := tj_cmp (r := rLtx C.K) (by first | exact OpR.or op_lt (op_ltT (room0 hr)) | (rw [← hK]; exact OpR.or op_lt (op_ltT (room0 hr)))) p_ltx ha hb (nomark b)
theorem x_le (ha : EJ C X a ta ma) (hb : EJ C X b tb mb) (hK : X.K = C.K := by rfl) : EJ C X (.Compare a [.LtE] [b] pos) (tOp (rI0 fun i j => .bl (decide (i ≤ j))) ta tb) (d2 (leD) ma mb) := ej_cmp (r := rI0 fun i j => .bl (decide (i ≤ j))) (by first | exact op_le | (rw [← hK]; exact op_le)) p_cmpD ha hb (nomark b)
theorem t_le (ha : EJ C X a ta ma) (hb : EJ C X b tb mb) (hK : X.K = C.K := by rfl) : TJ C X (.Compare a [.LtE] [b] pos) (tTest (tOp (rI0 fun i j => .bl (decide (i ≤ j))) ta tb)) (dBool (d2 (leD) ma mb)) := tj_cmp (r := rI0 fun i j => .bl (decide (i ≤ j))) (by first | exact op_le | (rw [← hK]; exact op_le)) p_cmpD ha hb (nomark b)
theorem x_gt (ha : EJ C X a ta ma) (hb : EJ C X b tb mb) (hK : X.K = C.K := by rfl) : EJ C X (.Compare a [.Gt] [b] pos) (tOp (rI0 fun i j => .bl (decide (j < i))) ta tb) (d2 (gtD) ma mb) := ej_cmp (r := rI0 fun i j => .bl (decide (j < i))) (by first | exact op_gt | (rw [← hK]; exact op_gt)) p_cmpD ha hb (nomark b)
theorem t_gt (ha : EJ C X a ta ma) (hb : EJ C X b tb mb) (hK : X.K = C.K := by rfl) : TJ C X (.Compare a [.Gt] [b] pos) (tTest (tOp (rI0 fun i j => .bl (decide (j < i))) ta tb)) (dBool (d2 (gtD) ma mb)) := tj_cmp (r := rI0 fun i j => .bl (decide (j < i))) (by first | exact op_gt | (rw [← hK]; exact op_gt)) p_cmpD ha hb (nomark b)
theorem x_ge (ha : EJ C X a ta ma) (hb : EJ C X b tb mb) (hK : X.K = C.K := by rfl) : EJ C X (.Compare a [.GtE] [b] pos) (tOp (rI0 fun i j => .bl (decide (j ≤ i))) ta tb) (d2 (geD) ma mb) := ej_cmp (r := rI0 fun i j => .bl (decide (j ≤ i))) (by first | exact op_ge | (rw [← hK]; exact op_ge)) p_cmpD ha hb (nomark b)
theorem t_ge (ha : EJ C X a ta ma) (hb : EJ C X b tb mb) (hK : X.K = C.K := by rfl) : TJ C X (.Compare a [.GtE] [b] pos) (tTest (tOp (rI0 fun i j => .bl (decide (j ≤ i))) ta tb)) (dBool (d2 (geD) ma mb)) := tj_cmp (r := rI0 fun i j => .bl (decide (j ≤ i))) (by first | exact op_ge | (rw [← hK]; exact op_ge)) p_cmpD ha hb (nomark b)
theorem x_eq (hr : Room k X.A) (ha : EJ C X a ta ma) (hb : EJ C X b tb mb) (hK : X.K = C.K := by rfl) : EJ C X (.Compare a [.Eq] [b] pos) (tOp (rEqD C.K) ta tb) (d2 (eqD) ma mb) := ej_cmp (r := rEqD C.K) (by first | exact op_eqD (room64 hr) | (rw [← hK]; exact op_eqD (room64 hr))) p_eqD ha hb (nomark b)
theorem t_eq (hr : Room k X.A) (ha : EJ C X a ta ma) (hb : EJ C X b tb mb) (hK : X.K = C.K := by rfl) : TJ C X (.Compare a [.Eq] [b] pos) (tTest (tOp (rEqD C.K) ta tb)) (dBool (d2 (eqD) ma mb)) := tj_cmp (r := rEqD C.K) (by first | exact op_eqD (room64 hr) | (rw [← hK]; exact op_eqD (room64 hr))) p_eqD ha hb (nomark b)
theorem x_ne (hr : Room k X.A) (ha : EJ C X a ta ma) (hb : EJ C X b tb mb) (hK : X.K = C.K := by rfl) : EJ C X (.Compare a [.NotEq] [b] pos) (tOp (rNeD C.K) ta tb) (d2 (neD) ma mb) := ej_cmp (r := rNeD C.K) (by first | exact op_neD (room64 hr) | (rw [← hK]; exact op_neD (room64 hr))) p_neD ha hb (nomark b)
theorem t_ne (hr : Room k X.A) (ha : EJ C X a ta ma) (hb : EJ C X b tb mb) (hK : X.K = C.K := by rfl) : TJ C X (.Compare a [.NotEq] [b] pos) (tTest (tOp (rNeD C.K) ta tb)) (dBool (d2 (neD) ma mb)) := tj_cmp (r := rNeD C.K) (by first | exact op_neD (room64 hr) | (rw [← hK]; exact op_neD (room64 hr))) p_neD ha hb (nomark b)
theorem x_in (hr : Room k X.A) (ha : EJ C X a ta ma) (hb : EJ C X b tb mb) (hK : X.K = C.K := by rfl) (hm : behindInMarks .In b = false := by with_unfolding_all rfl) : EJ C X (.Compare a [.In] [b] pos) (tOp (rInTD C.K false) ta tb) (d2 (inD false) ma mb) := ej_cmp (r := rInTD C.K false) (by first | exact or_inTD (room65 hr) | (rw [← hK]; exact or_inTD (room65 hr))) p_inD ha hb hm
theorem t_in (hr : Room k X.A) (ha : EJ C X a ta ma) (hb : EJ C X b tb mb) (hK : X.K = C.K := by rfl) (hm : behindInMarks .In b = false := by with_unfolding_all rfl) : TJ C X (.Compare a [.In] [b] pos) (tTest (tOp (rInTD C.K false) ta tb)) (dBool (d2 (inD false) ma mb)) := tj_cmp (r := rInTD C.K false) (by first | exact or_inTD (room65 hr) | (rw [← hK]; exact or_inTD (room65 hr))) p_inD ha hb hm
theorem x_notin (hr : Room k X.A) (ha : EJ C X a ta ma) (hb : EJ C X b tb mb) (hK : X.K = C.K := by rfl) (hm : behindInMarks .NotIn b = false := by with_unfolding_all rfl) : EJ C X (.Compare a [.NotIn] [b] pos) (tOp (rInTD C.K true) ta tb) (d2 (inD true) ma mb) := ej_cmp (r := rInTD C.K true) (by first | exact or_notInTD (room65 hr) | (rw [← hK]; exact or_notInTD (room65 hr))) p_inD ha hb hm
theorem t_notin (hr : Room k X.A) (ha : EJ C X a ta ma) (hb : EJ C X b tb mb) (hK : X.K = C.K := by rfl) (hm : behindInMarks .NotIn b = false := by with_unfolding_all rfl) : TJ C X (.Compare a [.NotIn] [b] pos) (tTest (tOp (rInTD C.K true) ta tb)) (dBool (d2 (inD true) ma mb)) := tj_cmp (r := rInTD C.K true) (by first | exact or_notInTD (room65 hr) | (rw [← hK]; exact or_notInTD (room65 hr))) p_inD ha hb hm
theorem x_isN (ha : EJ C X a ta ma) (hb : EJ C X b tb mb) (hK : X.K = C.K := by rfl) : EJ C X (.Compare a [.Is] [b] pos) (tOp (fun x y H Q => y = .non ∧ Q (.bl (decide (x = .non))) H) ta tb) (d2 (isNoneD false) ma mb) := ej_cmp (r := fun x y H Q => y = .non ∧ Q (.bl (decide (x = .non))) H) (by first | exact op_isN | (rw [← hK]; exact op_isN)) p_isN ha hb (nomark b)
theorem t_isN (ha : EJ C X a ta ma) (hb : EJ C X b tb mb) (hK : X.K = C.K := by rfl) : TJ C X (.Compare a [.Is] [b] pos) (tTest (tOp (fun x y H Q => y = .non ∧ Q (.bl (decide (x = .non))) H) ta tb)) (dBool (d2 (isNoneD false) ma mb)) := tj_cmp (r := fun x y H Q => y = .non ∧ Q (.bl (decide (x = .non))) H) (by first | exact op_isN | (rw [← hK]; exact op_isN)) p_isN ha hb (nomark b)
theorem x_notN (ha : EJ C X a ta ma) (hb : EJ C X b tb mb) (hK : X.K = C.K := by rfl) : EJ C X (.Compare a [.IsNot] [b] pos) (tOp (fun x y H Q => y = .non ∧ Q (.bl (!decide (x = .non))) H) ta tb) (d2 (isNoneD true) ma mb) := ej_cmp (r := fun x y H Q => y = .non ∧ Q (.bl (!decide (x = .non))) H) (by first | exact op_notN | (rw [← hK]; exact op_notN)) p_notN ha hb (nomark b)
theorem t_notN (ha : EJ C X a ta ma) (hb : EJ C X b tb mb) (hK : X.K = C.K := by rfl) : TJ C X (.Compare a [.IsNot] [b] pos) (tTest (tOp (fun x y H Q => y = .non ∧ Q (.bl (!decide (x = .non))) H) ta tb)) (dBool (d2 (isNoneD true) ma mb)) := tj_cmp (r := fun x y H Q => y = .non ∧ Q (.bl (!decide (x = .non))) H) (by first | exact op_notN | (rw [← hK]; exact op_notN)) p_notN ha hb (nomark b)
theorem x_isB (ha : EJ C X a ta ma) (hb : EJ C X b tb mb) (hK : X.K = C.K := by rfl) : EJ C X (.Compare a [.Is] [b] pos) (tOp (rIsB) ta tb) (d2 (isBD) ma mb) := ej_cmp (r := rIsB) (by first | exact op_isBl | (rw [← hK]; exact op_isBl)) p_isB ha hb (nomark b)
theorem t_isB (ha : EJ C X a ta ma) (hb : EJ C X b tb mb) (hK : X.K = C.K := by rfl) : TJ C X (.Compare a [.Is] [b] pos) (tTest (tOp (rIsB) ta tb)) (dBool (d2 (isBD) ma mb)) := tj_cmp (r := rIsB) (by first | exact op_isBl | (rw [← hK]; exact op_isBl)) p_isB ha hb (nomark b)
theorem x_lele (ha : EJ C X a ta ma) (hb : EJ C X b tb mb) (hc : EJ C X c tc mc) (hm : lastMarks [.LtE, .LtE] [b, c] = false := by with_unfolding_all rfl) : EJ C X (.Compare a [.LtE, .LtE] [b, c] pos) (tChain (rI0 fun i j => .bl (decide (i ≤ j))) (rI0 fun i j => .bl (decide (i ≤ j))) ta tb tc) (dChain leD leD ma mb mc) :=
  ej_chain op_le p_cmpD op_le p_cmpD ha hb hc hm
theorem x_ix (ha : EJ C X a ta ma) (hb : EJ C X b tb mb) (hK : X.K = C.K := by rfl) (hs : PlainIx b := by exact fun _ _ => rfl) : EJ C X (.Subscript a b pos) (tOp (rIdx C.K) ta tb) (d2 idxD ma mb) := ej_ix ha hb hs hK
theorem x_dget (hr : Room k X.A) (ha : EJ C X a ta ma) (hb : EJ C X b tb mb) (hs : NoSl b := by exact fun _ _ => rfl) : EJ C X (.Subscript a b pos) (tGetD ta tb) (d2 dgetD ma mb) := ej_dget (fun h1 h2 => pe_getD (room64 hr) h1 h2 hs) ha hb
theorem x_din (hr : Room k X.A) (ha : EJ C X a ta ma) (hb : EJ C X b tb mb) (hm : behindInMarks .In b = false := by with_unfolding_all rfl) : EJ C X (.Compare a [.In] [b] pos) (tInD ta tb) (d2 (dinD false) ma mb) := ej_din (fun h1 h2 => pe_cmp (pc_inD (room64 hr) h1 h2) hm) ha hb
theorem x_dnotin (hr : Room k X.A) (ha : EJ C X a ta ma) (hb : EJ C X b tb mb) (hm : behindInMarks .NotIn b = false := by with_unfolding_all rfl) : EJ C X (.Compare a [.NotIn] [b] pos) (tNotInD ta tb) (d2 (dinD true) ma mb) := ej_dnotin (fun h1 h2 => pe_cmp (pc_notInD (room64 hr) h1 h2) hm) ha hb
theorem t_din (hr : Room k X.A) (ha : EJ C X a ta ma) (hb : EJ C X b tb mb) (hm : behindInMarks .In b = false := by with_unfolding_all rfl) : TJ C X (.Compare a [.In] [b] pos) (tB (tInD ta tb)) (dBool (d2 (dinD false) ma mb)) := tj_din (fun h1 h2 => pt_cmp (pc_inD (room64 hr) h1 h2) hm) ha hb
theorem t_dnotin (hr : Room k X.A) (ha : EJ C X a ta ma) (hb : EJ C X b tb mb) (hm : behindInMarks .NotIn b = false := by with_unfolding_all rfl) : TJ C X (.Compare a [.NotIn] [b] pos) (tB (tNotInD ta tb)) (dBool (d2 (dinD true) ma mb)) := tj_dnotin (fun h1 h2 => pt_cmp (pc_notInD (room64 hr) h1 h2) hm) ha hb
theorem t_val (ha : EJ C X a ta ma) (hK : X.K = C.K := by rfl) (he : ∀ whole, isTrue a X.env whole = (do let v ← whole; standAt a.pos; holding [v] (truthy v)) := by intro _; rfl) : TJ C X a (fun σ H Q => ta σ H fun x H' => ∃ k, TruV C.K x H' k ∧ Q k H') (dTru ma) := tj_val he hK ha
theorem x_and {rest : List Expr} (h : EJ C X a ta ma) (z : EJ C X (.BoolOp .And (b :: rest) pos) tb mb) (hK : X.K = C.K := by rfl) : EJ C X (.BoolOp .And (a :: b :: rest) pos) (tAndT C.K ta tb) (dAndV ma mb) := ej_and h z hK
theorem x_or {rest : List Expr} (h : EJ C X a ta ma) (z : EJ C X (.BoolOp .Or (b :: rest) pos) tb mb) (hK : X.K = C.K := by rfl) : EJ C X (.BoolOp .Or (a :: b :: rest) pos) (tOrT C.K ta tb) (dOrV ma mb) := ej_or h z hK
theorem x_not (h : EJ C X a ta ma) (hK : X.K = C.K := by rfl) : EJ C X (.UnaryOp .Not a pos) (tNotT C.K ta) (dNotV ma) := ej_not h hK
theorem x_len (hm : X.mg "len" = none) (ha : AJ C X [a] tas mas) (hK : X.K = C.K := by rfl) (hg : Gl X "len" := by rfl) (h1 : starEach [a] X.env = (false, eval a X.env) :: starEach [] X.env := by rfl) (h2 : (backTo pos (starEach [] X.env)).any (·.1) = false := by rfl) : EJ C X (.Call (.Name "len" p) [a] [] pos) (tCB (fun xs H Q => ∃ x n, xs = [x] ∧ LenV C.K x H n ∧ Q (.int n) H) tas) (dN lenD mas) :=
  ej_callB (r := fun xs H Q => ∃ x n, xs = [x] ∧ LenV C.K x H n ∧ Q (.int n) H) (fun pa => by first | exact pe_callB call_len hg hm (by decide +kernel) pa (he := h1) (hpl := h2) | (rw [← hK]; exact pe_callB call_len hg hm (by decide +kernel) pa (he := h1) (hpl := h2))) p_len ha
theorem x_int (hm : X.mg "int" = none) (ha : AJ C X [a] tas mas) (hK : X.K = C.K := by rfl) (hg : Gl X "int" := by rfl) (h1 : starEach [a] X.env = (false, eval a X.env) :: starEach [] X.env := by rfl) (h2 : (backTo pos (starEach [] X.env)).any (·.1) = false := by rfl) : EJ C X (.Call (.Name "int" p) [a] [] pos) (tCB (fun xs H Q => (∃ i, xs = [.int i] ∧ Q (.int i) H) ∨ ∃ k, xs = [.bl k] ∧ Q (.int (if k then 1 else 0)) H) tas) (dN intD mas) :=
  ej_callB (r := fun xs H Q => (∃ i, xs = [.int i] ∧ Q (.int i) H) ∨ ∃ k, xs = [.bl k] ∧ Q (.int (if k then 1 else 0)) H) (fun pa => by first | exact pe_callTy call_int1 hg hm (by decide +kernel) pa (he := h1) (hpl := h2) | (rw [← hK]; exact pe_callTy call_int1 hg hm (by decide +kernel) pa (he := h1) (hpl := h2))) p_int ha
theorem x_tuple (hm : X.mg "tuple" = none) (ha : AJ C X [a] tas mas) (hK : X.K = C.K := by rfl) (hg : Gl X "tuple" := by rfl) (h1 : starEach [a] X.env = (false, eval a X.env) :: starEach [] X.env := by rfl) (h2 : (backTo pos (starEach [] X.env)).any (·.1) = false := by rfl) : EJ C X (.Call (.Name "tuple" p) [a] [] pos) (tCB (rTupF C.K) tas) (dN tupleD mas) :=
  ej_callB (r := rTupF C.K) (fun pa => by first | exact pe_callTy cr_tupF hg hm (by decide +kernel) pa (he := h1) (hpl := h2) | (rw [← hK]; exact pe_callTy cr_tupF hg hm (by decide +kernel) pa (he := h1) (hpl := h2))) p_tuple ha
theorem x_all (hc : X.calm = true) (hm : X.mg "all" = none) (ha : AJ C X [a] tas mas) (hK : X.K = C.K := by rfl) (hg : Gl X "all" := by rfl) (h1 : starEach [a] X.env = (false, eval a X.env) :: starEach [] X.env := by rfl) (h2 : (backTo pos (starEach [] X.env)).any (·.1) = false := by rfl) : EJ C X (.Call (.Name "all" p) [a] [] pos) (tCB (rAll C.K) tas) (dN allD mas) :=
  ej_callB (r := rAll C.K) (fun pa => by first | exact pe_callB (cr_all hc) hg hm (by decide +kernel) pa (he := h1) (hpl := h2) | (rw [← hK]; exact pe_callB (cr_all hc) hg hm (by decide +kernel) pa (he := h1) (hpl := h2))) p_all ha
theorem x_any (hc : X.calm = true) (hm : X.mg "any" = none) (ha : AJ C X [a] tas mas) (hK : X.K = C.K := by rfl) (hg : Gl X "any" := by rfl) (h1 : starEach [a] X.env = (false, eval a X.env) :: starEach [] X.env := by rfl) (h2 : (backTo pos (starEach [] X.env)).any (·.1) = false := by rfl) : EJ C X (.Call (.Name "any" p) [a] [] pos) (tCB (rAny C.K) tas) (dN anyD mas) :=
  ej_callB (r := rAny C.K) (fun pa => by first | exact pe_callB (cr_any hc) hg hm (by decide +kernel) pa (he := h1) (hpl := h2) | (rw [← hK]; exact pe_callB (cr_any hc) hg hm (by decide +kernel) pa (he := h1) (hpl := h2))) p_any ha
theorem f_list (hm : X.mg "list" = none) (ha : AJ C X [a] tas mas) (hK : X.K = C.K := by rfl) (hg : Gl X "list" := by rfl) (h1 : starEach [a] X.env = (false, eval a X.env) :: starEach [] X.env := by rfl) (h2 : (backTo pos (starEach [] X.env)).any (·.1) = false := by rfl) : FJ C X (.Call (.Name "list" p) [a] [] pos) (tCB (fun xs H Q => ∃ p ys, xs = [.ref p] ∧ (SqL C.K H p ys ∨ SqT C.K H p ys) ∧ ∀ l, H l = none → Q (.ref l) (upd H l (.lst ys))) tas) (nN listF mas) :=
  fj_N (r := fun xs H Q => ∃ p ys, xs = [.ref p] ∧ (SqL C.K H p ys ∨ SqT C.K H p ys) ∧ ∀ l, H l = none → Q (.ref l) (upd H l (.lst ys))) (fun pa => by first | exact pe_callTy call_list_of hg hm (by decide +kernel) pa (he := h1) (hpl := h2) | (rw [← hK]; exact pe_callTy call_list_of hg hm (by decide +kernel) pa (he := h1) (hpl := h2))) pf_list ha
theorem f_sorted (hr : Room k X.A) (hm : X.mg "sorted" = none) (ha : AJ C X [a] tas mas) (hK : X.K = C.K := by rfl) (hg : Gl X "sorted" := by rfl) (h1 : starEach [a] X.env = (false, eval a X.env) :: starEach [] X.env := by rfl) (h2 : (backTo pos (starEach [] X.env)).any (·.1) = false := by rfl) : FJ C X (.Call (.Name "sorted" p) [a] [] pos) (tCB (rSortD C.K) tas) (nN sortedF mas) :=
  fj_N (r := rSortD C.K) (fun pa => by first | exact pe_callB (cr_sortedD (room64 hr)) hg hm (by decide +kernel) pa (he := h1) (hpl := h2) | (rw [← hK]; exact pe_callB (cr_sortedD (room64 hr)) hg hm (by decide +kernel) pa (he := h1) (hpl := h2))) pf_sorted ha
/-- isinstance(e, T) -/
theorem x_isi {T : Str} {n : String} (hm : X.mg "isinstance" = none) (hT : X.mg T = none) (boot : bootBuiltins T = some (.type n)) (ha : EJ C X a ta ma) (hK : X.K = C.K := by rfl) (hg : Gl X "isinstance" := by rfl) (hg2 : Gl X T := by rfl)
    (h1 : starEach [a, .Name T p1] X.env = (false, eval a X.env) :: starEach [.Name T p1] X.env := by rfl) (h2 : (backTo pos (starEach [.Name T p1] X.env)).any (·.1) = false := by rfl) (h3 : starEach [.Name T p1] X.env = (false, eval (.Name T p1) X.env) :: starEach [] X.env := by rfl)
    (hn : T ≠ "__name__" := by decide) (hd : (T == ("__debug__" : Str)) = false := by decide) :
    EJ C X (.Call (.Name "isinstance" p) [a, .Name T p1] [] pos) (fun σ H Q => ta σ H fun x H1 => rIsi C.K [x, .ty n] H1 Q) (d1 (isiD n) ma) :=
  ej_isi (T := "") (r := fun x H Q => rIsi C.K [x, .ty n] H Q) (fun pa => by
    rw [← hK]
    exact pe_callB call_isi hg hm (by decide +kernel) (pa_cons pa (pa_cons (pe_bltn (v := .ty n) hg2 hT boot rfl hn hd) pa_nil h3) h1) (he := h1) (hpl := h2)) p_isi ha
/-- isinstance(e, (T, S)) -/
theorem x_isi2 {T S : Str} {n m : String} {kk : Nat} (hm : X.mg "isinstance" = none) (hT : X.mg T = none) (hS : X.mg S = none) (boot : bootBuiltins T = some (.type n)) (boot2 : bootBuiltins S = some (.type m)) (ha : EJ C X a ta ma) (hK : X.K = C.K := by rfl) (hg : Gl X "isinstance" := by rfl) (hg2 : Gl X T := by rfl) (hg3 : Gl X S := by rfl)
    (h1 : starEach [a, .Tuple [.Name T p1, .Name S p2] kk q1] X.env = (false, eval a X.env) :: starEach [.Tuple [.Name T p1, .Name S p2] kk q1] X.env := by rfl) (h2 : (backTo pos (starEach [.Tuple [.Name T p1, .Name S p2] kk q1] X.env)).any (·.1) = false := by rfl)
    (h3 : starEach [.Tuple [.Name T p1, .Name S p2] kk q1] X.env = (false, eval (.Tuple [.Name T p1, .Name S p2] kk q1) X.env) :: starEach [] X.env := by rfl)
    (h4 : starEach [.Name T p1, .Name S p2] X.env = (false, eval (.Name T p1) X.env) :: starEach [.Name S p2] X.env := by rfl) (h5 : starEach [.Name S p2] X.env = (false, eval (.Name S p2) X.env) :: starEach [] X.env := by rfl)
    (hn : T ≠ "__name__" := by decide) (hd : (T == ("__debug__" : Str)) = false := by decide) (hn2 : S ≠ "__name__" := by decide) (hd2 : (S == ("__debug__" : Str)) = false := by decide) :
    EJ C X (.Call (.Name "isinstance" p) [a, .Tuple [.Name T p1, .Name S p2] kk q1] [] pos) (fun σ H Q => ta σ H fun x H1 => [V.ty n, V.ty m].length ≤ sizeLine ∧ ∀ p, H1 p = none → rIsiT C.K [x, .ref p] (upd H1 p (.tup [.ty n, .ty m])) Q) (d1 (isi2D n m) ma) :=
  ej_isi (T := "") (r := fun x H Q => [V.ty n, V.ty m].length ≤ sizeLine ∧ ∀ p, H p = none → rIsiT C.K [x, .ref p] (upd H p (.tup [.ty n, .ty m])) Q) (fun pa => by
    rw [← hK]
    exact pe_callB call_isiT hg hm (by decide +kernel) (pa_cons pa (pa_cons (pe_tup (pa_cons (pe_bltn (v := .ty n) hg2 hT boot rfl hn hd) (pa_cons (pe_bltn (v := .ty m) hg3 hS boot2 rfl hn2 hd2) pa_nil h5) h4)) pa_nil h3) h1) (he := h1) (hpl := h2)) p_isi2 ha
/-- list(range(a)), list(range(a, b)) -/
theorem f_rg1 (hc : X.calm = true) (hm : X.mg "list" = none) (hm2 : X.mg "range" = none) (ha : EJ C X a ta ma) (hg : Gl X "list" := by rfl) (hg2 : Gl X "range" := by rfl) (h1 : starEach [a] X.env = (false, eval a X.env) :: starEach [] X.env := by rfl)
    (h2 : starEach [.Call (.Name "range" p1) [a] [] p2] X.env = (false, eval (.Call (.Name "range" p1) [a] [] p2) X.env) :: starEach [] X.env := by rfl) : FJ C X (.Call (.Name "list" p) [.Call (.Name "range" p1) [a] [] p2] [] pos) (tLstRg (tRg1 ta)) (nRg (dCons ma (.pure []))) :=
  fj_rg1 (fun pa => pe_listRg hc hg hm (prg_1 hg2 hm2 pa h1) h2) ha
theorem f_rg2 (hc : X.calm = true) (hm : X.mg "list" = none) (hm2 : X.mg "range" = none) (ha : EJ C X a ta ma) (hb : EJ C X b tb mb) (hg : Gl X "list" := by rfl) (hg2 : Gl X "range" := by rfl) (h1 : starEach [a, b] X.env = (false, eval a X.env) :: starEach [b] X.env := by rfl) (h3 : starEach [b] X.env = (false, eval b X.env) :: starEach [] X.env := by rfl) (h4 : (backTo p2 (starEach [b] X.env)).any (·.1) = false := by rfl)
    (h2 : starEach [.Call (.Name "range" p1) [a, b] [] p2] X.env = (false, eval (.Call (.Name "range" p1) [a, b] [] p2) X.env) :: starEach [] X.env := by rfl) : FJ C X (.Call (.Name "list" p) [.Call (.Name "range" p1) [a, b] [] p2] [] pos) (tLstRg (tRg2 ta tb)) (nRg (dCons ma (dCons mb (.pure [])))) :=
  fj_rg2 (fun pa pb => pe_listRg hc hg hm (prg_2 hg2 hm2 pa pb h1 h3 h4) h2) ha hb
/-- sorted(set(a)), ints -/
theorem f_sSetI (hc : X.calm = true) (hm : X.mg "sorted" = none) (hm2 : X.mg "set" = none) (ha : EJ C X a ta ma) (hK : X.K = C.K := by rfl) (hg : Gl X "sorted" := by rfl) (hg2 : Gl X "set" := by rfl) (h1 : starEach [a] X.env = (false, eval a X.env) :: starEach [] X.env := by rfl)
    (h2 : starEach [.Call (.Name "set" p1) [a] [] p2] X.env = (false, eval (.Call (.Name "set" p1) [a] [] p2) X.env) :: starEach [] X.env := by rfl) (h3 : (backTo p2 (starEach [] X.env)).any (·.1) = false := by rfl) (h4 : (backTo pos (starEach [] X.env)).any (·.1) = false := by rfl) :
    FJ C X (.Call (.Name "sorted" p) [.Call (.Name "set" p1) [a] [] p2] [] pos) (fun σ H Q => ta σ H fun x H1 => rSetOfI C.K X.w [x] H1 fun v H2 => rSortedSet X.w [v] H2 Q) (nN1 sortSetI ma) :=
  fj_N1 (r := fun x H Q => rSetOfI C.K X.w [x] H fun v H2 => rSortedSet X.w [v] H2 Q) (fun pa => by
    rw [← hK]
    exact pe_callB (cr_sortedSet hc) hg hm (by decide +kernel) (pa_cons (pe_callTy (cr_setOfI hc) hg2 hm2 (by decide +kernel) (pa_cons pa pa_nil h1) (he := h1) (hpl := h3)) pa_nil h2) (he := h2) (hpl := h4)) pf_sortSetI ha
/-- .. tuples of d ints -/
theorem f_sSetT (d : Nat) (hr : Room k X.A) (hc : X.calm = true) (hm : X.mg "sorted" = none) (hm2 : X.mg "set" = none) (ha : EJ C X a ta ma) (hK : X.K = C.K := by rfl) (hg : Gl X "sorted" := by rfl) (hg2 : Gl X "set" := by rfl) (h1 : starEach [a] X.env = (false, eval a X.env) :: starEach [] X.env := by rfl)
    (h2 : starEach [.Call (.Name "set" p1) [a] [] p2] X.env = (false, eval (.Call (.Name "set" p1) [a] [] p2) X.env) :: starEach [] X.env := by rfl) (h3 : (backTo p2 (starEach [] X.env)).any (·.1) = false := by rfl) (h4 : (backTo pos (starEach [] X.env)).any (·.1) = false := by rfl) :
    FJ C X (.Call (.Name "sorted" p) [.Call (.Name "set" p1) [a] [] p2] [] pos) (fun σ H Q => ta σ H fun x H1 => rSetOfT C.K X.prog X.w [x] H1 fun v H2 => rSortedT C.K X.prog X.w [v] H2 Q) (nN1 (sortSetT d) ma) :=
  fj_N1 (r := fun x H Q => rSetOfT C.K X.prog X.w [x] H fun v H2 => rSortedT C.K X.prog X.w [v] H2 Q) (fun pa => by
    rw [← hK]
    exact pe_callB (cr_sortedT hc) hg hm (by decide +kernel) (pa_cons (pe_callTy (cr_setOfT hc (room64 hr)) hg2 hm2 (by decide +kernel) (pa_cons pa pa_nil h1) (he := h1) (hpl := h3)) pa_nil h2) (he := h2) (hpl := h4)) (pf_sortSetT d) ha
/-- sorted({..}) -/
theorem f_sSC {mz : M (List Int)} (hc : X.calm = true) (hm : X.mg "sorted" = none) (h : ZJ C X a ta mz) (hg : Gl X "sorted" := by rfl) (h1 : starEach [a] X.env = (false, eval a X.env) :: starEach [] X.env := by rfl) (h2 : (backTo pos (starEach [] X.env)).any (·.1) = false := by rfl) :
    FJ C X (.Call (.Name "sorted" p) [a] [] pos) (fun σ H Q => ta σ H fun v H1 => rSortedSet X.w [v] H1 Q) (nSrtZ mz) :=
  fj_srtZ (fun pa => pe_callB (cr_sortedSet hc) hg hm (by decide +kernel) (pa_cons pa pa_nil h1) (he := h1) (hpl := h2)) h
/-- f(..), f a def of the program -/
theorem x_call {P : Program} {w : World} {K : Frag} {mg : Str → Option Value} {base : Heap} {x : Str} {n : Nat} {f : M D} {j : Nat} (c : C8.Cal P w K mg base k x (spZ K mg n f) []) (hr : Room j X.A) (ha : AJ C X (e :: es) tas mas) (hk : k ≤ j := by decide)
    (hX : X.prog = P ∧ X.w = w ∧ X.K = K ∧ X.mg = mg ∧ X.base = base ∧ C.K = K ∧ C.mg = mg ∧ C.E = E0 := by exact ⟨rfl, rfl, rfl, rfl, rfl, rfl, rfl, rfl⟩) (hg : Gl X x := by rfl) (hdb : (x == ("__debug__" : Str)) = false := by decide)
    (he : starEach (e :: es) X.env = (false, eval e X.env) :: starEach es X.env := by rfl) (hpl : (backTo pos (starEach es X.env)).any (·.1) = false := by rfl) : EJ C X (.Call (.Name x p) (e :: es) [] pos) (tCall (spZ C.K C.mg n f) [] E0 tas) (dCall n f mas) := by
  obtain ⟨rfl, rfl, rfl, rfl, rfl, h1, h2, h3⟩ := hX
  refine ej_callZ (fun pa => ?_) h3 ha
  rw [h1, h2]
  exact C8.pe_c c hr hk hg pa hdb he hpl
/-- xs.pop(i), xs.append(e), xs.pop() -/
theorem x_popAt {o : Expr} {to : TE} {mo : M IV} (ho : EJ C X o to mo) (ha : AJ C X [e] tas mas) (hK : X.K = C.K := by rfl) (hbase : attributeBase o "pop" X.env (eval o X.env) = eval o X.env := by rfl)
    (hfew : ((backTo pos (starEach [e] X.env)).all (fun x => !x.1) && (backToKw pos (keywordEach [] X.env)).all (fun x => x.1.isSome) && decide (([e] : List Expr).length + ([] : List Keyword).length + (if ([] : List Keyword).isEmpty then 0 else 1) < 30)) = true := by rfl)
    (hline : (p.endLine == pos.line) = true := by rfl) (hs : starEach [e] X.env = (false, eval e X.env) :: starEach [] X.env := by rfl) (hplain : (backTo pos (starEach [] X.env)).any (·.1) = false := by rfl) :
    EJ C X (.Call (.Attribute o "pop" p) [e] [] pos) (tBM C.K "list" rPopAt to tas) (dMut popAtF mo mas) :=
  ej_mut (fun po pa => by rw [← hK]; exact pe_bm PySem.F.plainAttrs_list PySem.F.slot_list_pop PySem.F.type_list_pop mt_popAt po pa hbase hfew hline hs hplain) pm_popAt ho ha
theorem x_append {o : Expr} {to : TE} {mo : M IV} (ho : EJ C X o to mo) (ha : AJ C X [e] tas mas) (hK : X.K = C.K := by rfl) (hbase : attributeBase o "append" X.env (eval o X.env) = eval o X.env := by rfl)
    (hfew : ((backTo pos (starEach [e] X.env)).all (fun x => !x.1) && (backToKw pos (keywordEach [] X.env)).all (fun x => x.1.isSome) && decide (([e] : List Expr).length + ([] : List Keyword).length + (if ([] : List Keyword).isEmpty then 0 else 1) < 30)) = true := by rfl)
    (hline : (p.endLine == pos.line) = true := by rfl) (hs : starEach [e] X.env = (false, eval e X.env) :: starEach [] X.env := by rfl) (hplain : (backTo pos (starEach [] X.env)).any (·.1) = false := by rfl) :
    EJ C X (.Call (.Attribute o "append" p) [e] [] pos) (tBM C.K "list" rAppend to tas) (dMut appF mo mas) :=
  ej_mut (fun po pa => by rw [← hK]; exact pe_bm PySem.F.plainAttrs_list PySem.F.slot_list_append PySem.F.type_list_append mt_append po pa hbase hfew hline hs hplain) pm_append ho ha
theorem x_pop {o : Expr} {to : TE} {mo : M IV} (ho : EJ C X o to mo) (hK : X.K = C.K := by rfl) (hbase : attributeBase o "pop" X.env (eval o X.env) = eval o X.env := by rfl) (hline : (p.endLine == pos.line) = true := by rfl) :
    EJ C X (.Call (.Attribute o "pop" p) [] [] pos) (tBM0 C.K "list" rPop to) (dMut popF mo (.pure [])) :=
  ej_mut0 (fun po => by rw [← hK]; exact pe_bm0 PySem.F.plainAttrs_list PySem.F.slot_list_pop PySem.F.type_list_pop mt_pop po hbase hline) pm_pop ho
/-! ### statements -/
variable {s : Stmt} {ss : List Stmt} {t u : TS} {m n : SM} {x : Str}
theorem s_set (i : Nat) (nd : X.N.Nodup) (he : EJ C X e te me) (hi : X.N[i]? = some x := by rfl) (hx : Loc X.env.scope x := by first | exact .inl rfl | exact .inr rfl) (hs : swapsWith e (some (.Name x p)) pos.line X.env = pure false := by rfl) (hf : X.fn x = true := by rfl) :
    SJ C X (.Assign [.Name x p] e pos) (tAsg te (gName i)) (sSet i me) := sj_set i (fun h => ps_set nd hi hx h hs (.inl hf)) he
theorem s_setO (i : Nat) {mf : M D} (nd : X.N.Nodup) (he : FJ C X e te mf) (hi : X.N[i]? = some x := by rfl) (hx : Loc X.env.scope x := by first | exact .inl rfl | exact .inr rfl) (hs : swapsWith e (some (.Name x p)) pos.line X.env = pure false := by rfl) (hf : X.fn x = true := by rfl) :
    SJ C X (.Assign [.Name x p] e pos) (tAsg te (gName i)) (sSetO i mf) := sj_setO i (fun h => ps_set nd hi hx h hs (.inl hf)) he
theorem g_nm (i : Nat) (nd : X.N.Nodup) (hi : X.N[i]? = some x := by rfl) (hx : Loc X.env.scope x := by first | exact .inl rfl | exact .inr rfl) (hf : X.fn x = true ∨ X.env.scope.names.lookup x = some .local := by first | exact .inl rfl | exact .inr rfl) : GJ C X (.Name x p) (gName i) [i] (patNm i) := gj_name i (pg_name nd hi hx hf)
theorem g_cons {tg : Expr} {tgs : List Expr} {g : TG} {gs : TGs} {ts us : List Nat} {pp : D → M Unit} {ps : List D → M Unit} {nn : Nat} (h1 : GJ C X tg g ts pp) (h2 : GsJ C X nn tgs gs us ps) (hs : (assignEach (tg :: tgs) X.env).map (·.2) = assign tg X.env :: (assignEach tgs X.env).map (·.2) := by rfl) :
    GsJ C X (nn + 1) (tg :: tgs) (gCons g gs) (ts ++ us) (patCons pp ps) := gsj_cons h1 h2 hs
theorem g_tup {kk nn : Nat} {tgs : List Expr} {gs : TGs} {ts : List Nat} {ps : List D → M Unit} (h : GsJ C X nn tgs gs ts ps) (hK : X.K = C.K := by rfl) (hc : X.calm = true := by rfl) (hn : (assignEach tgs X.env).length = nn := by rfl) (hst : (assignEach tgs X.env).findIdx? (·.1) = none := by rfl) :
    GJ C X (.Tuple tgs kk pos) (gTup C.K nn gs) ts (patTup ps) := gj_tup h hK hc hn hst
theorem s_asg {tg : Expr} {g : TG} {ts : List Nat} {pat : D → M Unit} (he : EJ C X e te me) (hg : GJ C X tg g ts pat) (hs : swapsWithSole [tg] e pos.line X.env = pure false := by rfl) (hw : swappedStores [tg] e X.env = pure none := by rfl) (h1 : (assignEach [tg] X.env).map (·.2) = [assign tg X.env] := by rfl) :
    SJ C X (.Assign [tg] e pos) (tAsg te g) (sAsg me pat) := sj_asg (fun h z => ps_asg h z hs hw h1) he hg
def sPar (i j : Nat) (ma mb : M IV) : SM := .bind ma fun a => .bind mb fun b => .bind (.keep a) fun x => .bind (.keep b) fun y => onPat (patNm i) x (onPat (patNm j) y sNx)
theorem ok_par {C : Cc} {ta tb : TE} {ma mb : M IV} (i j : Nat) (ha : MOk C (RIv C.K) ta ma) (hb : MOk C (RIv C.K) tb mb) : SOk C (tPar i j (tCons ta (tCons tb tNil))) (sPar i j ma mb) := by
  intro G0 H0 B G H ρ σ D en q
  show ta σ H fun x H1 => tb σ H1 fun y H2 => ∃ v w, [x, y] = [v, w] ∧ D.nx ((σ.set i (some v)).set j (some w)) H2
  refine bindS ha en q fun av ρ1 x G1 H1 gg1 sh1 en1 r1 q1 => ?_
  refine bindS hb en1 q1 fun bv ρ2 y G2 H2 gg2 sh2 en2 r2 q2 => ?_
  obtain ⟨d, rd, q3⟩ := spost_keep (IvOk.step r1 gg2 sh2) q2
  obtain ⟨e, re, q4⟩ := spost_keep r2 q3
  refine ⟨x, y, rfl, ?_⟩
  unfold onPat patNm dPut at q4
  by_cases hbi : isBor ρ2[i]? = true
  · rw [if_pos hbi] at q4; exact q4.elim
  · rw [if_neg hbi] at q4
    have en3 := en2.put rd hbi
    simp only at q4
    by_cases hbj : isBor (ρ2.set i (some (.dat d)))[j]? = true
    · rw [if_pos hbj] at q4; exact q4.elim
    · rw [if_neg hbj] at q4
      exact q4 _ G2 H2 (en3.put re hbj)
theorem s_par {kt k2 : Nat} {y : Str} (i j : Nat) (nd : X.N.Nodup) (ha : EJ C X a ta ma) (hb : EJ C X b tb mb) (hc : X.calm = true := by rfl) (hi : X.N[i]? = some x := by rfl) (hj : X.N[j]? = some y := by rfl) (hij : i ≠ j := by decide)
    (hx : X.env.scope.names.lookup x = some .local := by rfl) (hy : X.env.scope.names.lookup y = some .local := by rfl) (h1 : starEach [a, b] X.env = (false, eval a X.env) :: starEach [b] X.env := by rfl) (h2 : starEach [b] X.env = (false, eval b X.env) :: starEach [] X.env := by rfl)
    (hw : swappedStores [.Tuple [.Name x p1, .Name y p2] kt p] (.Tuple [a, b] k2 p3) X.env = pure (some [x, y]) := by rfl) (hs : swapsWithSole [.Tuple [.Name x p1, .Name y p2] kt p] (.Tuple [a, b] k2 p3) pos.line X.env = pure false := by rfl) :
    SJ C X (.Assign [.Tuple [.Name x p1, .Name y p2] kt p] (.Tuple [a, b] k2 p3) pos) (tPar i j (tCons ta (tCons tb tNil))) (sPar i j ma mb) :=
  ⟨ps_par hc nd hi hj hij hx hy (pa_cons ha.1 (pa_cons hb.1 pa_nil h2) h1) hw hs, ok_par i j ha.2 hb.2⟩
/-- .. the second a new thing of one's own -/
def sParF (i j : Nat) (ma : M IV) (mb : M D) : SM := .bind ma fun a => .bind (.keep a) fun x => .bind mb fun d => onPat (patNm i) x (putOwn j d)
theorem ok_parF {C : Cc} {ta tb : TE} {ma : M IV} {mb : M D} (i j : Nat) (ha : MOk C (RIv C.K) ta ma) (hb : FOk C tb mb) : SOk C (tPar i j (tCons ta (tCons tb tNil))) (sParF i j ma mb) := by
  intro G0 H0 B G H ρ σ D en q
  show ta σ H fun x H1 => tb σ H1 fun y H2 => ∃ v w, [x, y] = [v, w] ∧ D.nx ((σ.set i (some v)).set j (some w)) H2
  refine bindS ha en q fun av ρ1 x G1 H1 gg1 sh1 en1 r1 q1 => ?_
  obtain ⟨d, rd, q2⟩ := spost_keep r1 q1
  have en1h := en1.here
  refine bindF hb en1h (SPost.over en1 q2) fun e ρ2 a G2 H2 en2 oa hn no q3 => ?_
  refine ⟨x, .ref a, rfl, ?_⟩
  have rd2 := Rp.mono en2.gg d x rd
  unfold onPat patNm dPut at q3
  by_cases hbi : isBor ρ2[i]? = true
  · rw [if_pos hbi] at q3; exact q3.elim
  · rw [if_neg hbi] at q3
    have en3 := en2.put rd2 hbi
    simp only at q3
    unfold putOwn at q3
    by_cases hbj : isBor (ρ2.set i (some (.dat d)))[j]? = true
    · rw [if_pos hbj] at q3; exact q3.elim
    · rw [if_neg hbj] at q3
      obtain ⟨z1, z2⟩ := isBor_no hbj
      have h0 : H0 a = none := by
        cases z : H0 a with
        | none => rfl
        | some o => exact (en1.tr a (ne_none_of z) hn).elim
      have no3 : ¬ Ow (ρ2.set i (some (.dat d))) (σ.set i (some x)) a := fun z => by
        obtain ⟨l, s, y1, y2, y3⟩ := z
        have hl : l ≠ i := by
          rintro rfl
          obtain ⟨w1, _⟩ := isBor_no hbi
          rw [List.getElem?_set_self w1] at y1
          cases y1; cases y2
        rw [List.getElem?_set_ne (Ne.symm hl)] at y1 y3
        exact no ⟨l, s, y1, y2, y3⟩
      exact q3 _ G2 H2 (en3.putOwn oa h0 no3 z1 z2)
theorem s_parF {kt k2 : Nat} {y : Str} {mf : M D} (i j : Nat) (nd : X.N.Nodup) (ha : EJ C X a ta ma) (hb : FJ C X b tb mf) (hc : X.calm = true := by rfl) (hi : X.N[i]? = some x := by rfl) (hj : X.N[j]? = some y := by rfl) (hij : i ≠ j := by decide)
    (hx : X.env.scope.names.lookup x = some .local := by rfl) (hy : X.env.scope.names.lookup y = some .local := by rfl) (h1 : starEach [a, b] X.env = (false, eval a X.env) :: starEach [b] X.env := by rfl) (h2 : starEach [b] X.env = (false, eval b X.env) :: starEach [] X.env := by rfl)
    (hw : swappedStores [.Tuple [.Name x p1, .Name y p2] kt p] (.Tuple [a, b] k2 p3) X.env = pure (some [x, y]) := by rfl) (hs : swapsWithSole [.Tuple [.Name x p1, .Name y p2] kt p] (.Tuple [a, b] k2 p3) pos.line X.env = pure false := by rfl) :
    SJ C X (.Assign [.Tuple [.Name x p1, .Name y p2] kt p] (.Tuple [a, b] k2 p3) pos) (tPar i j (tCons ta (tCons tb tNil))) (sParF i j ma mf) :=
  ⟨ps_par hc nd hi hj hij hx hy (pa_cons ha.1 (pa_cons hb.1 pa_nil h2) h1) hw hs, ok_parF i j ha.2 hb.2⟩
theorem s_augAdd (i : Nat) (nd : X.N.Nodup) (he : EJ C X e te me) (hi : X.N[i]? = some x := by rfl) (hx : Loc X.env.scope x := by first | exact .inl rfl | exact .inr rfl) (hf : X.fn x = true := by rfl) :
    SJ C X (.AugAssign (.Name x p) .Add e pos) (tAug i te (ipI fun i j => i + j)) (sAug i (fun | .int i, .int j => some (.int (i + j)) | _, _ => none) me) := sj_aug i (fun h => ps_aug nd hi hx h ip_add (.inl hf)) p_ipAdd he
theorem s_subL {o : Expr} {to ti tv : TE} {mo mi mv : M IV} (ho : EJ C X o to mo) (hi : EJ C X b ti mi) (hv : EJ C X e tv mv) (hs : swapsWithSole [.Subscript o b p] e pos.line X.env = pure false := by rfl) (hw : swappedStores [.Subscript o b p] e X.env = pure none := by rfl) (h1 : (assignEach [.Subscript o b p] X.env).map (·.2) = [assign (.Subscript o b p) X.env] := by rfl)
    (ha : ∀ v, assign (.Subscript o b p) X.env v = (do
      let ov ← holding [v] (eval o X.env)
      let iv ← holding [v, ov] (eval b X.env)
      standAt p
      holding [v, ov, iv] (setItem ov iv v)
      release [v, ov, iv] []) := by intro _; rfl) : SJ C X (.Assign [.Subscript o b p] e pos) (tAsg tv (gSub to ti rSetL)) (sSub setL mo mi mv) :=
  sj_setL (fun h1' h2' h3' => ps_asg h3' (pg_sub h1' h2' set_list ha) hs hw h1) ho hi hv
theorem s_subD {o : Expr} {to ti tv : TE} {mo mi mv : M IV} (hr : Room k X.A) (ho : EJ C X o to mo) (hi : EJ C X b ti mi) (hv : EJ C X e tv mv) (hs : swapsWith e (some (.Subscript o b p)) pos.line X.env = pure false := by rfl) : SJ C X (.Assign [.Subscript o b p] e pos) (sPutD to ti tv) (sSub setDk mo mi mv) :=
  sj_setDk (fun h1 h2 h3 => ps_putD (room64 hr) h1 h2 h3 hs) ho hi hv
theorem s_expr (h : EJ C X e te me) (hs : swapsWith e none pos.line X.env = pure false := by rfl) : SJ C X (.Expr e pos) (tDrop te) (sExpr me) := sj_expr h hs
theorem s_while {body : List Stmt} {mt : M Bool} (nn : Nat) (hc : TJ C X c tt mt) (hb : SsJ C X body t m) (hp : PassesOwn (model X.prog X.w) X.A X.env X.xe := by exact PassesOwn.never) : SJ C X (.While c body [] pos) (tWhile tt t) (sWhile mt m nn) := sj_while nn hp hc hb
theorem s_for {tg iter : Expr} {body : List Stmt} {wi : TI} {g : TG} {ts : List Nat} {mi : M (List D)} {pat : D → M Unit} (hi : IJ C X tg iter wi mi) (hg : GJ C X tg g ts pat) (hb : SsJ C X body t m) (hp : PassesOwn (model X.prog X.w) X.A X.env X.xe := by exact PassesOwn.never) (hc : X.calm = true := by rfl)
    (hs : ∀ x, foldedSetIterable iter X.env x = pure x := by intro _; rfl) : SJ C X (.For tg iter body [] pos) (tFor wi g t) (sFor mi pat m) := sj_for hp hc hi hg hb hs
theorem i_seq {tg : Expr} (h : EJ C X e te me) (hK : X.K = C.K := by rfl) : IJ C X tg e (iSeq C.K te) (dSq me) := ij_seq h hK
theorem i_rg1 {tg : Expr} (hm : X.mg "range" = none) (h : AJ C X [a] tas mas) (hg : Gl X "range" := by rfl) (hs : starEach [a] X.env = [(false, eval a X.env)] := by rfl) : IJ C X tg (.Call (.Name "range" p) [a] [] pos) (iRng1 tas) (dRg1 mas) :=
  ij_rg1 (fun pa => pi_range1 hg hm pa hs) h
theorem i_rg2 {tg : Expr} (hm : X.mg "range" = none) (h : AJ C X [a, b] tas mas) (hg : Gl X "range" := by rfl) (hs : starEach [a, b] X.env = [(false, eval a X.env), (false, eval b X.env)] := by rfl) (hs2 : starEach [b] X.env = [(false, eval b X.env)] := by rfl) : IJ C X tg (.Call (.Name "range" p) [a, b] [] pos) (iRng2 tas) (dRg2 mas) :=
  ij_rg2 (fun pa => pi_range2 hg hm pa hs hs2) h
theorem f_lc {tg iter elt : Expr} {ifs : List Expr} {scope : Scope} {own : List (Str × Nat)} {wi : TI} {g : TG} {ts : List Nat} {mi : M (List D)} {pat : D → M Unit} {mt : M Bool} (nd : X.N.Nodup) (hi : IJ C X tg iter wi mi) (ok : BlkOk X.N X.env.scope scope own)
    (hg : ∀ s H Ca cl fp, GJ C (Blk X scope s H Ca cl fp) tg g ts pat) (ht : ∀ s H Ca cl fp, TsJ (C0 C) (Blk X scope s H Ca cl fp) ifs tt mt)
    (he : ∀ s H Ca cl fp, EJ (C0 C) (Blk X scope s H Ca cl fp) elt te me) (hts : ∀ i, i ∈ ts → i ∈ own.map (·.2) := by decide) (hc : X.calm = true := by rfl) (hs : ∀ x, foldedSetIterable iter X.env x = pure x := by intro _; rfl) :
    FJ C X (.ListComp elt [⟨tg, iter, ifs, 0⟩] scope pos) (tLc wi g tt te (own.map (·.2))) (dLc mi pat mt me (own.map (·.2))) := fj_lc hc nd hi ok hg hts ht he hs {}
theorem z_sc {tg iter elt : Expr} {ifs : List Expr} {scope : Scope} {own : List (Str × Nat)} {wi : TI} {g : TG} {ts : List Nat} {mi : M (List D)} {pat : D → M Unit} {mt : M Bool} (nd : X.N.Nodup) (hi : IJ C X tg iter wi mi) (ok : BlkOk X.N X.env.scope scope own)
    (hg : ∀ s H Ca cl fp, GJ C (Blk X scope s H Ca cl fp) tg g ts pat) (ht : ∀ s H Ca cl fp, TsJ (C0 C) (Blk X scope s H Ca cl fp) ifs tt mt)
    (he : ∀ s H Ca cl fp, EJ (C0 C) (Blk X scope s H Ca cl fp) elt te me) (hts : ∀ i, i ∈ ts → i ∈ own.map (·.2) := by decide) (hc : X.calm = true := by rfl) (hs : ∀ x, foldedSetIterable iter X.env x = pure x := by intro _; rfl) :
    ZJ C X (.SetComp elt [⟨tg, iter, ifs, 0⟩] scope pos) (tScI X.w wi g tt te (own.map (·.2))) (dScI mi pat mt me (own.map (·.2))) := zj_sc hc nd hi ok hg hts ht he hs {}
/-- name = [..] on one line -/
theorem s_setLc {tg iter elt : Expr} {ifs : List Expr} {scope : Scope} {own : List (Str × Nat)} {wi : TI} {g : TG} {ts : List Nat} {mi : M (List D)} {pat : D → M Unit} {mt : M Bool} {y : Str} {spos : Pos} (i : Nat) (nd : X.N.Nodup) (hi : IJ C X tg iter wi mi) (ok : BlkOk X.N X.env.scope scope own)
    (hg : ∀ s H Ca cl fp, GJ C (Blk X scope s H Ca cl fp) tg g ts pat) (ht : ∀ s H Ca cl fp, TsJ (C0 C) (Blk X scope s H Ca cl fp) ifs tt mt)
    (he : ∀ s H Ca cl fp, EJ (C0 C) (Blk X scope s H Ca cl fp) elt te me) (hts : ∀ i, i ∈ ts → i ∈ own.map (·.2) := by decide) (hc : X.calm = true := by rfl) (hs : ∀ x, foldedSetIterable iter X.env x = pure x := by intro _; rfl)
    (hy : X.N[i]? = some y := by rfl) (hyl : X.env.scope.names.lookup y = some .local := by rfl) (hsw : swapsWith (.ListComp elt [⟨tg, iter, ifs, 0⟩] scope pos) (some (.Name y p)) spos.line X.env = pure true := by exact sw_true rfl rfl rfl (by decide +kernel)) :
    SJ C X (.Assign [.Name y p] (.ListComp elt [⟨tg, iter, ifs, 0⟩] scope pos) spos) (tAsg (tLc wi g tt te (own.map (·.2))) (gName i)) (sSet i (dF (dLc mi pat mt me (own.map (·.2))))) :=
  sj_set (e := .ListComp elt [⟨tg, iter, ifs, 0⟩] scope pos) i (fun _ => ps_setLc hc nd hy hyl hsw hi.1 ok (fun s H Ca cl fp => (hg s H Ca cl fp).1) (fun s H Ca cl fp => (ht s H Ca cl fp).1) (fun s H Ca cl fp => (he s H Ca cl fp).1) hs) (FJ.ej (f_lc (pos := pos) nd hi ok hg ht he hts hc hs))
end
/-- a def's promise for its callers -/
theorem cal_mk {P : Program} {w : World} {K : Frag} {mg : Str → Option Value} {base : Heap} {k n : Nat} {x qual : Str} {st : Stmt} {f : Addr} {fd : FuncData} {ps : List Str} {g : M D} (F : Fun K x qual st f fd) (ok : FnOk P w K mg base CX0 k f fd ps (spZ K mg n g)) (hm : mg x = some (.ref f)) (b : Binds K fd ps []) : C8.Cal P w K mg base k x (spZ K mg n g) [] :=
  ⟨⟨f, fd, ps, [], ok, hm, F.kp, b, .nil⟩⟩
end DL

/-! D13: {x: 0}; a def that calls itself. -/
namespace DL
open PySem L2
/-- {x: n}, x an int -/
def nDic1 (i : Nat) (n : Int) : M D := fun ρ => match ρ[i]? with
  | some (some (.dat (.int k))) => .ok (.dict [(.int k, .int n)]) ρ
  | _ => .un
theorem updd {H : Hp} {p : Addr} {a b : HO} : upd (upd H p a) p b = upd H p b := by
  funext q
  unfold upd
  split <;> rfl
theorem f_dic1 {C : Cc} {X : Cx} {x : Str} {p q pos : Pos} {n : Int} {j : Nat} (i : Nat) (h : PE X (.Name x p) (tVar i)) : FJ C X (.Dict [some (.Name x p)] [.Constant (.int n) j q] pos) (tDisp [(tVar i, tC (.int n))]) (nDic1 i n) := by
  refine ⟨pe_disp (pps_cons h pe_int pps_nil) rfl rfl (by intro z; cases z) (by show 1 ≤ 15; omega), ?_⟩
  intro G H ρ σ Q st hq p hp
  unfold nDic1 at hq
  split at hq
  · rename_i k e
    obtain ⟨v, ev, r⟩ := st.slot i _ e
    have ek : v = .int k := by
      have r' : Rp C.K G (.int k) v := r
      simpa only [Rp] using r'
    subst ek
    refine ⟨.int k, ev, upd_same, [(.inl k, .int n)], rfl, by show 1 ≤ 15; omega, ?_⟩
    rw [updd]
    refine post_new (G0 := G) st hq hp hp ⟨none_of st.gh hp, .inl ⟨_, upd_same, ?_⟩⟩
    show RpK C.K G [(.int k, .int n)] [(.inl k, .int n)]
    simp only [RpK]
    exact ⟨_, _, [], rfl, by simp only [KeyD], by simp only [Rp], rfl⟩
  · exact hq.elim
/-- len of a dict -/
def lenDD : FN
  | [.dict l] => if isT l = true ∨ scrOnly (.dict l) = true then none else some (.int l.length)
  | _ => none
theorem p_lenD {K : Frag} : PN K (fun xs H Q => ∃ a kvs, xs = [V.ref a] ∧ H a = some (.dK kvs) ∧ Q (.int kvs.length) H) lenDD := by
  intro G H xs ds c Q gh rx h k
  unfold lenDD at h
  split at h
  · rename_i l
    obtain ⟨x, rfl, r⟩ := Paired.one rx
    split at h
    · cases h
    · rename_i hn
      cases h
      obtain ⟨a, rfl, e⟩ := r
      rcases e with ⟨kvs, e, r⟩ | ⟨kvs, e, r⟩ | ⟨ns, e, r⟩
      · refine ⟨a, kvs, rfl, e, ?_⟩
        have hl : (kvs.length : Int) = l.length := by rw [RpK.length r]
        rw [hl]
        exact k.int gh
      · exfalso
        cases l with
        | nil => simp only [RpTM] at r
        | cons p l =>
          obtain ⟨p1, p2⟩ := p
          simp only [RpTM] at r
          obtain ⟨z1, z2, _⟩ := r
          subst z1 z2
          exact hn (.inl rfl)
      · subst e
        exact (hn (.inr rfl)).elim
  · cases h
theorem x_lenD {C : Cc} {X : Cx} {a : Expr} {p pos : Pos} {mas : M (List IV)} {tas : TA} (hm : X.mg "len" = none) (ha : AJ C X [a] tas mas) (hg : Gl X "len" := by rfl) (h1 : starEach [a] X.env = (false, eval a X.env) :: starEach [] X.env := by rfl) (h2 : (backTo pos (starEach [] X.env)).any (·.1) = false := by rfl) :
    EJ C X (.Call (.Name "len" p) [a] [] pos) (tCB (fun xs H Q => ∃ a kvs, xs = [V.ref a] ∧ H a = some (.dK kvs) ∧ Q (.int kvs.length) H) tas) (dN lenDD mas) :=
  ej_callB (r := fun xs H Q => ∃ a kvs, xs = [V.ref a] ∧ H a = some (.dK kvs) ∧ Q (.int kvs.length) H) (fun pa => pe_callB call_lenD hg hm (by decide +kernel) pa (he := h1) (hpl := h2)) p_lenD ha
def augI : F2
  | .int i, .int j => some (.int (i + j))
  | _, _ => none
section
variable {P : Program} {w : World} {K : Frag} {mg : Str → Option Value} {base : Heap}
/-- a promise of nothing -/
theorem fn_un {k n : Nat} {f : Addr} {fd : FuncData} {ps : List Str} (hn : ps.length = n) : FnOk P w K mg base CX0 k f fd ps (spZ K mg n (fun _ => .un)) :=
  ⟨fun vs H Q E h => by rw [hn]; exact h.1, fun A outer s H args us vs Q E hr he hb hv h => by
    obtain ⟨_, G, ρ, _, _, z⟩ := h
    exact z.elim⟩
end
end DL

/-! D14: mirrors worked out. -/
namespace DL
open PySem L2
/-! ### calls -/
inductive Out where
  | un | ok (d : D) | exc (x : Exc)
inductive OutR where
  | un | ok (d d' : D) | exc (x : Exc) (d' : D)
/-- a def handed data alone -/
def run (f : M D) (ds : List D) : Out := match f (ds.map fun d => some (.dat d)) with
  | .un => .un
  | .ok d _ => .ok d
  | .exc x _ => .exc x
def Out.res : Out → Env → Res IV
  | .un, _ => .un
  | .ok d, ρ => .ok (.val d) ρ
  | .exc x, ρ => .exc x ρ
def at0 (ρ : Env) (d0 : D) : D := match ρ[0]? with
  | some (some t) => t.d
  | _ => d0
/-- .. the first a thing that is lent -/
def runR (f : M D) (d0 : D) (ds : List D) : OutR := match f (some (.bor d0) :: ds.map fun d => some (.dat d)) with
  | .un => .un
  | .ok d ρ => .ok d (at0 ρ d0)
  | .exc x ρ => .exc x (at0 ρ d0)
def OutR.res : OutR → Nat → Sl → Env → Res IV
  | .un, _, _, _ => .un
  | .ok d d', i, s, ρ => .ok (.val d) (ρ.set i (some (s.put d')))
  | .exc x d', i, s, ρ => .exc x (ρ.set i (some (s.put d')))
def callI (n : Nat) (f : M D) (ivs : List IV) : M IV := fun ρ => if (slots ivs).Nodup ∧ ivs.length = n then match mkArgs ρ ivs with
  | none => .un
  | some ρc => match f ρc with
    | .un => .un
    | .ok d ρc' => .ok (.val d) (pb ivs ρc' 0 ρ)
    | .exc x ρc' => .exc x (pb ivs ρc' 0 ρ) else .un
theorem dCall_eq (n : Nat) (f : M D) (mas : M (List IV)) : dCall n f mas = M.bind mas (callI n f) := rfl
theorem slots_val : ∀ ds : List D, slots (ds.map .val) = []
  | [] => rfl
  | d :: l => slots_val l
theorem posOf_val : ∀ (ds : List D) (j : Nat), posOf (ds.map .val) j = none
  | [], _ => rfl
  | d :: l, j => by simp [posOf, posOf_val l j]
theorem pb_val (ds : List D) (ρc : Env) : ∀ (ρ : Env) (k : Nat), pb (ds.map .val) ρc k ρ = ρ
  | [], _ => rfl
  | s :: l, k => by
    simp only [pb, pb_val ds ρc l (k + 1), pbAt, posOf_val]
theorem mkArgs_val (ρ : Env) : ∀ ds : List D, mkArgs ρ (ds.map .val) = some (ds.map fun d => some (.dat d))
  | [] => rfl
  | d :: l => by simp [mkArgs, mkArgs_val ρ l]
theorem callI_val (f : M D) (ds : List D) (ρ : Env) : callI ds.length f (ds.map .val) ρ = (run f ds).res ρ := by
  unfold callI
  rw [slots_val, if_pos ⟨List.nodup_nil, by rw [List.length_map]⟩, mkArgs_val]
  unfold run
  simp only
  cases e : f (ds.map fun d => some (Sl.dat d)) with
  | un => rfl
  | ok d ρc => simp only [pb_val, Out.res]
  | exc x ρc => simp only [pb_val, Out.res]
theorem posOf_sl (ds : List D) (i j : Nat) : posOf (.sl i :: ds.map .val) j = if i = j then some 0 else none := by
  simp only [posOf, posOf_val, Option.map_none]
theorem pb_sl (ds : List D) (ρc : Env) (i : Nat) : ∀ (ρ : Env) (k : Nat) , pb (.sl i :: ds.map .val) ρc k ρ = if k ≤ i then (match ρ[i - k]?, ρc[0]? with
    | some (some s), some (some t) => ρ.set (i - k) (some (s.put t.d))
    | _, _ => ρ) else ρ
  | [], k => by simp [pb]
  | s :: l, k => by
    simp only [pb, pbAt, posOf_sl, pb_sl ds ρc i l (k + 1)]
    by_cases h : i = k
    · subst h
      have h2 : ¬ i + 1 ≤ i := by omega
      simp only [h2, if_false, Nat.le_refl, if_true, Nat.sub_self, List.getElem?_cons_zero]
      cases s with
      | none => simp
      | some s =>
        cases e : ρc[0]? with
        | none => simp [e]
        | some t => cases t <;> simp [e]
    · by_cases h3 : k ≤ i
      · have h4 : k + 1 ≤ i := by omega
        simp only [h, h3, h4, if_true, if_false]
        have e : i - k = (i - (k + 1)) + 1 := by omega
        rw [e]
        simp only [List.getElem?_cons_succ, List.set_cons_succ]
        cases s <;> (split <;> simp_all)
      · have h4 : ¬ k + 1 ≤ i := by omega
        simp only [h, h3, h4, if_false]
theorem set_self {ρ : Env} {i : Nat} {s : Sl} (h : ρ[i]? = some (some s)) : ρ.set i (some (s.put s.d)) = ρ := by
  have e : s.put s.d = s := by cases s <;> rfl
  rw [e]
  apply List.ext_getElem?
  intro j
  rw [List.getElem?_set]
  split
  · rename_i e; subst e
    obtain ⟨h1, h2⟩ := List.getElem?_eq_some_iff.mp h
    rw [if_pos h1, h]
  · rfl
theorem callI_sl (f : M D) (ds : List D) (i : Nat) (s : Sl) (ρ : Env) (h : ρ[i]? = some (some s)) (hm : s.isM = true) : callI (ds.length + 1) f (.sl i :: ds.map .val) ρ = (runR f s.d ds).res i s ρ := by
  unfold callI
  have h1 : slots (IV.sl i :: ds.map .val) = [i] := by simp only [slots, slots_val]
  rw [h1, if_pos ⟨by simp, by simp⟩]
  simp only [mkArgs, h, hm, if_true, mkArgs_val, Option.map_some]
  unfold runR
  cases e : f (some (Sl.bor s.d) :: ds.map fun d => some (Sl.dat d)) with
  | un => rfl
  | ok d ρc =>
    simp only [OutR.res, pb_sl, Nat.zero_le, if_true, Nat.sub_zero, h, at0]
    cases e2 : ρc[0]? with
    | none => simp only [set_self h]
    | some t => cases t with
      | none => simp only [set_self h]
      | some t => rfl
  | exc x ρc =>
    simp only [OutR.res, pb_sl, Nat.zero_le, if_true, Nat.sub_zero, h, at0]
    cases e2 : ρc[0]? with
    | none => simp only [set_self h]
    | some t => cases t with
      | none => simp only [set_self h]
      | some t => rfl
/-! ### by hand -/
@[simp] theorem callI_1 (f : M D) (a : D) (ρ : Env) : callI 1 f [.val a] ρ = (run f [a]).res ρ := callI_val f [a] ρ
@[simp] theorem callI_2 (f : M D) (a b : D) (ρ : Env) : callI 2 f [.val a, .val b] ρ = (run f [a, b]).res ρ := callI_val f [a, b] ρ
@[simp] theorem callI_3 (f : M D) (a b c : D) (ρ : Env) : callI 3 f [.val a, .val b, .val c] ρ = (run f [a, b, c]).res ρ := callI_val f [a, b, c] ρ
@[simp] theorem callI_4 (f : M D) (a b c d : D) (ρ : Env) : callI 4 f [.val a, .val b, .val c, .val d] ρ = (run f [a, b, c, d]).res ρ := callI_val f [a, b, c, d] ρ
@[simp] theorem res_ok (d : D) (ρ : Env) : (Out.ok d).res ρ = .ok (.val d) ρ := rfl
@[simp] theorem resR_ok (d d' : D) (i : Nat) (s : Sl) (ρ : Env) : (OutR.ok d d').res i s ρ = .ok (.val d) (ρ.set i (some (s.put d'))) := rfl
def callR (n : Nat) (f : M D) (i : Nat) (ds : List D) : M IV := fun ρ => match ρ[i]? with
  | some (some s) => if s.isM = true then (runR f s.d ds).res i s ρ else .un
  | _ => .un
theorem callI_slR (f : M D) (ds : List D) (i : Nat) (ρ : Env) : callI (ds.length + 1) f (.sl i :: ds.map .val) ρ = callR (ds.length + 1) f i ds ρ := by
  unfold callR
  cases h : ρ[i]? with
  | none => simp [callI, mkArgs, h, slots, slots_val]
  | some s => cases s with
    | none => simp [callI, mkArgs, h, slots, slots_val]
    | some s =>
      cases hm : s.isM with
      | false => simp [callI, mkArgs, h, hm, slots, slots_val]
      | true => simp only [hm, if_true, callI_sl f ds i s ρ h hm]
@[simp] theorem callR_1 (f : M D) (i : Nat) (ρ : Env) : callI 1 f [.sl i] ρ = callR 1 f i [] ρ := callI_slR f [] i ρ
@[simp] theorem callR_2 (f : M D) (i : Nat) (a : D) (ρ : Env) : callI 2 f [.sl i, .val a] ρ = callR 2 f i [a] ρ := callI_slR f [a] i ρ
@[simp] theorem callR_3 (f : M D) (i : Nat) (a b : D) (ρ : Env) : callI 3 f [.sl i, .val a, .val b] ρ = callR 3 f i [a, b] ρ := callI_slR f [a, b] i ρ
/-! ### by simp: every mirror on a written environment -/
def Res.then {α β : Type} (r : Res α) (f : α → M β) : Res β := match r with
  | .un => .un
  | .ok a ρ => f a ρ
  | .exc x ρ => .exc x ρ
@[simp] theorem then_ok {α β : Type} (a : α) (ρ : Env) (f : α → M β) : (Res.ok a ρ).then f = f a ρ := rfl
@[simp] theorem then_un {α β : Type} (f : α → M β) : (Res.un : Res α).then f = .un := rfl
@[simp] theorem then_ite {α β : Type} (c : Prop) [Decidable c] (r s : Res α) (f : α → M β) : (if c then r else s).then f = if c then r.then f else s.then f := by split <;> rfl
@[simp] theorem bind_ap {α β : Type} (m : M α) (f : α → M β) (ρ : Env) : M.bind m f ρ = (m ρ).then f := by unfold M.bind Res.then; cases m ρ <;> rfl
@[simp] theorem pure_ap {α : Type} (a : α) (ρ : Env) : M.pure a ρ = .ok a ρ := rfl
@[simp] theorem un_ap {α : Type} (ρ : Env) : (M.un : M α) ρ = .un := rfl
@[simp] theorem opt_some {α : Type} (a : α) : M.opt (some a) = M.pure a := rfl
@[simp] theorem opt_none {α : Type} : M.opt (none : Option α) = M.un := rfl
@[simp] theorem opt_ite {α : Type} (c : Prop) [Decidable c] (a b : Option α) (ρ : Env) : M.opt (if c then a else b) ρ = if c then M.opt a ρ else M.opt b ρ := by split <;> rfl
@[simp] theorem ite_ap {α : Type} (c : Prop) [Decidable c] (m n : M α) (ρ : Env) : (if c then m else n) ρ = if c then m ρ else n ρ := by split <;> rfl
@[simp] theorem now_val (d : D) (ρ : Env) : M.now (.val d) ρ = .ok d ρ := rfl
def nowS (s : Option (Option Sl)) (ρ : Env) : Res D := match s with
  | some (some s) => .ok s.d ρ
  | _ => .un
@[simp] theorem now_sl (i : Nat) (ρ : Env) : M.now (.sl i) ρ = nowS ρ[i]? ρ := by unfold M.now nowS; rfl
@[simp] theorem nowS_ok (s : Sl) (ρ : Env) : nowS (some (some s)) ρ = .ok s.d ρ := rfl
@[simp] theorem d_dat (d : D) : (Sl.dat d).d = d := rfl
@[simp] theorem d_own (d : D) : (Sl.own d).d = d := rfl
@[simp] theorem d_bor (d : D) : (Sl.bor d).d = d := rfl
@[simp] theorem put_own (d e : D) : (Sl.own d).put e = .own e := rfl
@[simp] theorem put_bor (d e : D) : (Sl.bor d).put e = .bor e := rfl
@[simp] theorem isM_dat (d : D) : (Sl.dat d).isM = false := rfl
@[simp] theorem isM_own (d : D) : (Sl.own d).isM = true := rfl
@[simp] theorem isM_bor (d : D) : (Sl.bor d).isM = true := rfl
@[simp] theorem keep_val (d : D) : M.keep (.val d) = M.pure d := rfl
def varS (i : Nat) (s : Option (Option Sl)) (ρ : Env) : Res IV := match s with
  | some (some (.dat d)) => .ok (.val d) ρ
  | some (some (.own _)) => .ok (.sl i) ρ
  | some (some (.bor _)) => .ok (.sl i) ρ
  | _ => .un
@[simp] theorem var_ap (i : Nat) (ρ : Env) : dVar i ρ = varS i ρ[i]? ρ := rfl
@[simp] theorem varS_dat (i : Nat) (d : D) (ρ : Env) : varS i (some (some (.dat d))) ρ = .ok (.val d) ρ := rfl
@[simp] theorem varS_own (i : Nat) (d : D) (ρ : Env) : varS i (some (some (.own d))) ρ = .ok (.sl i) ρ := rfl
@[simp] theorem varS_bor (i : Nat) (d : D) (ρ : Env) : varS i (some (some (.bor d))) ρ = .ok (.sl i) ρ := rfl
@[simp] theorem dC_ap (d : D) (ρ : Env) : dC d ρ = .ok (.val d) ρ := rfl
@[simp] theorem nows_nil : nows [] = M.pure [] := rfl
@[simp] theorem nows_cons (a : IV) (l : List IV) (ρ : Env) : nows (a :: l) ρ = (M.now a ρ).then fun d => .bind (nows l) fun ds => .pure (d :: ds) := bind_ap _ _ _
@[simp] theorem keeps_nil : keeps [] = M.pure [] := rfl
@[simp] theorem keeps_cons (a : IV) (l : List IV) (ρ : Env) : keeps (a :: l) ρ = (M.keep a ρ).then fun d => .bind (keeps l) fun ds => .pure (d :: ds) := bind_ap _ _ _
@[simp] theorem d2_ap (f : F2) (ma mb : M IV) (ρ : Env) : d2 f ma mb ρ = (.bind ma fun a => .bind mb fun b => .bind (.now a) fun x => .bind (.now b) fun y => .bind (.opt (f x y)) fun c => .pure (.val c) : M IV) ρ := rfl
@[simp] theorem d1_ap (f : F1) (ma : M IV) (ρ : Env) : d1 f ma ρ = (.bind ma fun a => .bind (.now a) fun x => .bind (.opt (f x)) fun c => .pure (.val c) : M IV) ρ := rfl
@[simp] theorem dN_ap (f : FN) (ma : M (List IV)) (ρ : Env) : dN f ma ρ = (.bind ma fun a => .bind (nows a) fun xs => .bind (.opt (f xs)) fun c => .pure (.val c) : M IV) ρ := rfl
@[simp] theorem dTru_ap (ma : M IV) (ρ : Env) : dTru ma ρ = (.bind ma fun a => .bind (.now a) fun x => .opt (trD x) : M Bool) ρ := rfl
@[simp] theorem dBool_ap (ma : M IV) (ρ : Env) : dBool ma ρ = (.bind ma fun a => .bind (.now a) fun x => .opt (boolD x) : M Bool) ρ := rfl
@[simp] theorem dAndB_ap (ma mb : M Bool) (ρ : Env) : dAndB ma mb ρ = (.bind ma fun c => if c = true then mb else .pure false : M Bool) ρ := rfl
@[simp] theorem dOrB_ap (ma mb : M Bool) (ρ : Env) : dOrB ma mb ρ = (.bind ma fun c => if c = true then .pure true else mb : M Bool) ρ := rfl
@[simp] theorem dNotB_ap (ma : M Bool) (ρ : Env) : dNotB ma ρ = (.bind ma fun c => .pure (!c) : M Bool) ρ := rfl
@[simp] theorem dChain_ap (f g : F2) (ma mb mc : M IV) (ρ : Env) : dChain f g ma mb mc ρ = (.bind ma fun a => .bind mb fun b => .bind (.now a) fun x => .bind (.now b) fun y => .bind (.opt ((f x y).bind boolD)) fun k =>
  if k = true then .bind mc fun c => .bind (.now b) fun y => .bind (.now c) fun z => .bind (.opt (g y z)) fun w => .pure (.val w) else .pure (.val (.bool false)) : M IV) ρ := rfl
@[simp] theorem dAndV_ap (ma mb : M IV) (ρ : Env) : dAndV ma mb ρ = (.bind ma fun a => .bind (.now a) fun x => .bind (.opt (trD x)) fun k => if k = true then mb else .pure a : M IV) ρ := rfl
@[simp] theorem dOrV_ap (ma mb : M IV) (ρ : Env) : dOrV ma mb ρ = (.bind ma fun a => .bind (.now a) fun x => .bind (.opt (trD x)) fun k => if k = true then .pure a else mb : M IV) ρ := rfl
@[simp] theorem dNotV_ap (ma : M IV) (ρ : Env) : dNotV ma ρ = (.bind ma fun a => .bind (.now a) fun x => .bind (.opt (trD x)) fun k => .pure (.val (.bool (!k))) : M IV) ρ := rfl
@[simp] theorem dIf_ap (mt : M Bool) (ma mb : M IV) (ρ : Env) : dIf mt ma mb ρ = (.bind mt fun c => if c = true then ma else mb : M IV) ρ := rfl
@[simp] theorem dTup_ap (mas : M (List IV)) (ρ : Env) : dTup mas ρ = (.bind mas fun a => .bind (keeps a) fun ds => .bind (.opt (fewD ds)) fun ds => .pure (.val (.tuple ds)) : M IV) ρ := rfl
@[simp] theorem dLst_ap (mas : M (List IV)) (ρ : Env) : dLst mas ρ = (.bind mas fun a => .bind (keeps a) fun ds => .bind (.opt (fewD ds)) fun ds => .pure (.val (.list ds)) : M IV) ρ := rfl
@[simp] theorem dCons_ap (ma : M IV) (mas : M (List IV)) (ρ : Env) : dCons ma mas ρ = (.bind ma fun a => .bind mas fun l => .pure (a :: l) : M (List IV)) ρ := rfl
@[simp] theorem dF_ap (m : M D) (ρ : Env) : dF m ρ = (.bind m fun d => .pure (.val d) : M IV) ρ := rfl
@[simp] theorem dSq_ap (me : M IV) (ρ : Env) : dSq me ρ = (.bind me fun iv => .bind (.keep iv) fun d => .opt (seqD d) : M (List D)) ρ := rfl
@[simp] theorem dRg1_ap (mas : M (List IV)) (ρ : Env) : dRg1 mas ρ = (.bind mas fun l => .bind (nows l) fun ds => .opt (rgIt1 ds) : M (List D)) ρ := rfl
@[simp] theorem dRg2_ap (mas : M (List IV)) (ρ : Env) : dRg2 mas ρ = (.bind mas fun l => .bind (nows l) fun ds => .opt (rgIt2 ds) : M (List D)) ρ := rfl
@[simp] theorem nLst_ap (mas : M (List IV)) (ρ : Env) : nLst mas ρ = (.bind mas fun a => .bind (keeps a) fun ds => .bind (.opt (fewD ds)) fun ds => .pure (.list ds) : M D) ρ := rfl
@[simp] theorem nN_ap (f : List D → Option (List D)) (mas : M (List IV)) (ρ : Env) : nN f mas ρ = (.bind mas fun a => .bind (nows a) fun xs => .bind (.opt (f xs)) fun l => .pure (.list l) : M D) ρ := rfl
@[simp] theorem nN1_ap (f : D → Option (List D)) (ma : M IV) (ρ : Env) : nN1 f ma ρ = (.bind ma fun a => .bind (.now a) fun x => .bind (.opt (f x)) fun l => .pure (.list l) : M D) ρ := rfl
@[simp] theorem nRg_ap (mas : M (List IV)) (ρ : Env) : nRg mas ρ = (.bind mas fun l => .bind (nows l) fun ds => .bind (.opt (rgA ds)) fun p => .pure (.list (rgD p.1 p.2)) : M D) ρ := rfl
@[simp] theorem nSrtZ_ap (mz : M (List Int)) (ρ : Env) : nSrtZ mz ρ = (.bind mz fun l => if l.length < 64 then .pure (.list ((sortI l).map .int)) else .un : M D) ρ := rfl
@[simp] theorem sExpr_ap (me : M IV) (ρ : Env) : sExpr me ρ = (.bind me fun _ => .pure .nx : SM) ρ := rfl
@[simp] theorem sRet_ap (me : M IV) (ρ : Env) : sRet me ρ = (.bind me retIv : SM) ρ := rfl
@[simp] theorem sAsg_ap (me : M IV) (pat : D → M Unit) (ρ : Env) : sAsg me pat ρ = (.bind me fun iv => .bind (.keep iv) fun d => onPat pat d sNx : SM) ρ := rfl
@[simp] theorem sSetO_ap (i : Nat) (m : M D) (ρ : Env) : sSetO i m ρ = (.bind m fun d => putOwn i d : SM) ρ := rfl
@[simp] theorem sAug_ap (i : Nat) (f : F2) (me : M IV) (ρ : Env) : sAug i f me ρ = (.bind (dVar i) fun a => .bind (.keep a) fun x => .bind me fun b => .bind (.keep b) fun y => .bind (.opt (f x y)) fun c => onPat (patNm i) c sNx : SM) ρ := rfl
@[simp] theorem sIf_ap (mt : M Bool) (m n : SM) (ρ : Env) : sIf mt m n ρ = (.bind mt fun c => if c = true then m else n : SM) ρ := rfl
@[simp] theorem sSub_ap (f : D → D → D → Option D) (mo mi mv : M IV) (ρ : Env) : sSub f mo mi mv ρ = (.bind mv fun v => .bind (.keep v) fun x => .bind mo fun o => .bind mi fun i => .bind (.keep i) fun k => .bind (mGet o) fun p => .bind (.opt (f p.2 k x)) fun d' => .bind (mPut p.1 d') fun _ => .pure .nx : SM) ρ := rfl
@[simp] theorem dMut_ap (f : D → List D → Option (D × D)) (mo : M IV) (mas : M (List IV)) (ρ : Env) : dMut f mo mas ρ = (.bind mo fun o => .bind (mList o) fun _ => .bind mas fun as => .bind (keeps as) fun xs => .bind (mGet o) fun p => .bind (.opt (f p.2 xs)) fun r => .bind (mPut p.1 r.2) fun _ => .pure (.val r.1) : M IV) ρ := rfl
@[simp] theorem sPar_ap (i j : Nat) (ma mb : M IV) (ρ : Env) : sPar i j ma mb ρ = (.bind ma fun a => .bind mb fun b => .bind (.keep a) fun x => .bind (.keep b) fun y => onPat (patNm i) x (onPat (patNm j) y sNx) : SM) ρ := rfl
@[simp] theorem sParF_ap (i j : Nat) (ma : M IV) (mb : M D) (ρ : Env) : sParF i j ma mb ρ = (.bind ma fun a => .bind (.keep a) fun x => .bind mb fun d => onPat (patNm i) x (putOwn j d) : SM) ρ := rfl
@[simp] theorem mList_ap (iv : IV) (ρ : Env) : mList iv ρ = (.bind (mGet iv) fun p => if isL p.2 = true then .pure () else .un : M Unit) ρ := rfl
@[simp] theorem sSet_ap (i : Nat) (me : M IV) (ρ : Env) : sSet i me ρ = sAsg me (patNm i) ρ := rfl
@[simp] theorem dCall_ap (n : Nat) (f : M D) (mas : M (List IV)) (ρ : Env) : dCall n f mas ρ = (mas ρ).then (callI n f) := bind_ap _ _ _
@[simp] theorem sNx_ap (ρ : Env) : sNx ρ = .ok .nx ρ := rfl
def seqK (n : SM) (f : Fl) : SM := match f with
  | .nx => n
  | f => .pure f
@[simp] theorem seqK_nx (n : SM) : seqK n .nx = n := rfl
@[simp] theorem seqK_rt (n : SM) (d : D) : seqK n (.rt d) = .pure (.rt d) := rfl
@[simp] theorem seqK_bk (n : SM) : seqK n .bk = .pure .bk := rfl
@[simp] theorem seqK_ct (n : SM) : seqK n .ct = .pure .ct := rfl
@[simp] theorem sSeq_ap (m n : SM) (ρ : Env) : sSeq m n ρ = (m ρ).then (seqK n) := by unfold sSeq; rw [bind_ap]; congr 1
@[simp] theorem retIv_val (d : D) : retIv (.val d) = .pure (.rt d) := rfl
def retS (i : Nat) (s : Option (Option Sl)) (ρ : Env) : Res Fl := match s with
  | some (some (.own d)) => .ok (.rt d) (ρ.set i none)
  | _ => .un
@[simp] theorem retIv_sl (i : Nat) (ρ : Env) : retIv (.sl i) ρ = retS i ρ[i]? ρ := rfl
@[simp] theorem retS_own (i : Nat) (d : D) (ρ : Env) : retS i (some (some (.own d))) ρ = .ok (.rt d) (ρ.set i none) := rfl
def Res.pat (r : Res Unit) (m : SM) : Res Fl := match r with
  | .ok _ ρ => m ρ
  | _ => .un
@[simp] theorem pat_ok (ρ : Env) (m : SM) : (Res.ok () ρ).pat m = m ρ := rfl
@[simp] theorem onPat_ap (pat : D → M Unit) (d : D) (m : SM) (ρ : Env) : onPat pat d m ρ = (pat d ρ).pat m := rfl
def putS (i : Nat) (s : Sl) (o : Option (Option Sl)) (ρ : Env) : Res Unit := if isBor o = true then .un else .ok () (ρ.set i (some s))
@[simp] theorem patNm_ap (i : Nat) (d : D) (ρ : Env) : patNm i d ρ = putS i (.dat d) ρ[i]? ρ := rfl
@[simp] theorem putS_none (i : Nat) (s : Sl) (ρ : Env) : putS i s (some none) ρ = .ok () (ρ.set i (some s)) := rfl
@[simp] theorem putS_dat (i : Nat) (s : Sl) (d : D) (ρ : Env) : putS i s (some (some (.dat d))) ρ = .ok () (ρ.set i (some s)) := rfl
@[simp] theorem putS_own (i : Nat) (s : Sl) (d : D) (ρ : Env) : putS i s (some (some (.own d))) ρ = .ok () (ρ.set i (some s)) := rfl
@[simp] theorem patNil_nil : patNil [] = M.pure () := rfl
@[simp] theorem patCons_ap (p : D → M Unit) (ps : List D → M Unit) (d : D) (l : List D) (ρ : Env) : patCons p ps (d :: l) ρ = (p d ρ).then fun _ => ps l := bind_ap _ _ _
@[simp] theorem patTup_tup (ps : List D → M Unit) (l : List D) : patTup ps (.tuple l) = ps l := rfl
def ownS (i : Nat) (d : D) (o : Option (Option Sl)) (ρ : Env) : Res Fl := if isBor o = true then .un else .ok .nx (ρ.set i (some (.own d)))
@[simp] theorem putOwn_ap (i : Nat) (d : D) (ρ : Env) : putOwn i d ρ = ownS i d ρ[i]? ρ := rfl
@[simp] theorem ownS_none (i : Nat) (s : D) (ρ : Env) : ownS i s (some none) ρ = .ok .nx (ρ.set i (some (.own s))) := rfl
@[simp] theorem ownS_dat (i : Nat) (s : D) (d : D) (ρ : Env) : ownS i s (some (some (.dat d))) ρ = .ok .nx (ρ.set i (some (.own s))) := rfl
@[simp] theorem ownS_own (i : Nat) (s : D) (d : D) (ρ : Env) : ownS i s (some (some (.own d))) ρ = .ok .nx (ρ.set i (some (.own s))) := rfl
def getS (i : Nat) (o : Option (Option Sl)) (ρ : Env) : Res (Nat × D) := match o with
  | some (some s) => if s.isM = true then .ok (i, s.d) ρ else .un
  | _ => .un
@[simp] theorem mGet_sl (i : Nat) (ρ : Env) : mGet (.sl i) ρ = getS i ρ[i]? ρ := rfl
@[simp] theorem getS_own (i : Nat) (d : D) (ρ : Env) : getS i (some (some (.own d))) ρ = .ok (i, d) ρ := rfl
@[simp] theorem getS_bor (i : Nat) (d : D) (ρ : Env) : getS i (some (some (.bor d))) ρ = .ok (i, d) ρ := rfl
def mPutS (i : Nat) (d : D) (o : Option (Option Sl)) (ρ : Env) : Res Unit := match o with
  | some (some s) => if s.isM = true then .ok () (ρ.set i (some (s.put d))) else .un
  | _ => .un
@[simp] theorem mPut_ap (i : Nat) (d : D) (ρ : Env) : mPut i d ρ = mPutS i d ρ[i]? ρ := rfl
@[simp] theorem mPutS_own (i : Nat) (e d : D) (ρ : Env) : mPutS i d (some (some (.own e))) ρ = .ok () (ρ.set i (some (.own d))) := rfl
@[simp] theorem mPutS_bor (i : Nat) (e d : D) (ρ : Env) : mPutS i d (some (some (.bor e))) ρ = .ok () (ρ.set i (some (.bor d))) := rfl
def nDicS (n : Int) (s : Option (Option Sl)) (ρ : Env) : Res D := match s with
  | some (some (.dat (.int k))) => .ok (.dict [(.int k, .int n)]) ρ
  | _ => .un
@[simp] theorem nDic1_ap (i : Nat) (n : Int) (ρ : Env) : nDic1 i n ρ = nDicS n ρ[i]? ρ := rfl
@[simp] theorem nDicS_ok (k n : Int) (ρ : Env) : nDicS n (some (some (.dat (.int k)))) ρ = .ok (.dict [(.int k, .int n)]) ρ := rfl
def callS (f : M D) (i : Nat) (ds : List D) (o : Option (Option Sl)) (ρ : Env) : Res IV := match o with
  | some (some s) => if s.isM = true then (runR f s.d ds).res i s ρ else .un
  | _ => .un
@[simp] theorem callR_ap (n : Nat) (f : M D) (i : Nat) (ds : List D) (ρ : Env) : callR n f i ds ρ = callS f i ds ρ[i]? ρ := rfl
@[simp] theorem callS_own (f : M D) (i : Nat) (ds : List D) (d : D) (ρ : Env) : callS f i ds (some (some (.own d))) ρ = (runR f d ds).res i (.own d) ρ := rfl
@[simp] theorem callS_bor (f : M D) (i : Nat) (ds : List D) (d : D) (ρ : Env) : callS f i ds (some (some (.bor d))) ρ = (runR f d ds).res i (.bor d) ρ := rfl
/-! ### a body's end -/
def Res.body (r : Res Fl) (ρ : Env) : Res D := match r with
  | .ok (.rt d) ρ' => .ok d (outE ρ ρ')
  | .ok .nx ρ' => .ok .none (outE ρ ρ')
  | .exc x ρ' => .exc x (outE ρ ρ')
  | _ => .un
theorem bodyM_ap (L : Nat) (m : SM) (ρ : Env) : bodyM L m ρ = (m (ρ ++ List.replicate (L - ρ.length) none)).body ρ := rfl
@[simp] theorem body_rt (d : D) (ρ ρ' : Env) : (Res.ok (.rt d) ρ').body ρ = .ok d (outE ρ ρ') := rfl
@[simp] theorem body_nx (ρ ρ' : Env) : (Res.ok .nx ρ').body ρ = .ok .none (outE ρ ρ') := rfl
def Res.out (r : Res D) : Out := match r with
  | .un => .un
  | .ok d _ => .ok d
  | .exc x _ => .exc x
def Res.outR (r : Res D) (d0 : D) : OutR := match r with
  | .un => .un
  | .ok d ρ => .ok d (at0 ρ d0)
  | .exc x ρ => .exc x (at0 ρ d0)
@[simp] theorem out_ok (d : D) (ρ : Env) : (Res.ok d ρ).out = .ok d := rfl
@[simp] theorem outR_ok (d d0 : D) (ρ : Env) : (Res.ok d ρ).outR d0 = .ok d (at0 ρ d0) := rfl
theorem run_ap (f : M D) (ds : List D) : run f ds = (f (ds.map fun d => some (.dat d))).out := rfl
theorem runR_ap (f : M D) (d0 : D) (ds : List D) : runR f d0 ds = (f (some (.bor d0) :: ds.map fun d => some (.dat d))).outR d0 := rfl
@[simp] theorem out_ite (c : Prop) [Decidable c] (r s : Res D) : (if c then r else s).out = if c then r.out else s.out := by split <;> rfl
@[simp] theorem body_ite (c : Prop) [Decidable c] (r s : Res Fl) (ρ : Env) : (if c then r else s).body ρ = if c then r.body ρ else s.body ρ := by split <;> rfl
@[simp] theorem at0_bor (d : D) (ρ : Env) (d0 : D) : at0 (some (.bor d) :: ρ) d0 = d := rfl
@[simp] theorem outE_bor (d e : D) (ρ ρ' : Env) : outE (some (.bor d) :: ρ) (some (.bor e) :: ρ') = some (.bor e) :: outE ρ ρ' := rfl
end DL

/-! D15: operations on data, worked out. -/
namespace DL
open PySem L2
/-! ### shapes -/
def Shp (n : Nat) (d : D) : Prop := d.canLay0 = true ∧ d.depth ≤ n
theorem Shp.mono {n m : Nat} {d : D} (h : Shp n d) (k : n ≤ m) : Shp m d := ⟨h.1, Nat.le_trans h.2 k⟩
theorem shp_int (n : Nat) (i : Int) : Shp n (.int i) := ⟨by simp [PyData.canLay0], by simp [PyData.depth]⟩
theorem shp_bool (n : Nat) (b : Bool) : Shp n (.bool b) := ⟨by simp [PyData.canLay0], by simp [PyData.depth]⟩
theorem shp_none (n : Nat) : Shp n .none := ⟨by simp [PyData.canLay0], by simp [PyData.depth]⟩
theorem shp_all {n : Nat} : ∀ {l : List D}, (∀ d ∈ l, Shp n d) → PyData.canLayAll0 l = true ∧ PyData.depthAll l ≤ n
  | [], _ => by simp [PyData.canLayAll0, PyData.depthAll]
  | d :: l, h => by
    obtain ⟨h1, h2⟩ := shp_all fun e he => h e (List.mem_cons_of_mem _ he)
    obtain ⟨h3, h4⟩ := h d List.mem_cons_self
    simp only [PyData.canLayAll0, PyData.depthAll, h1, h3, Bool.and_self, true_and]
    omega
theorem shp_list {n : Nat} {l : List D} (h : ∀ d ∈ l, Shp n d) : Shp (n + 1) (.list l) := by
  obtain ⟨h1, h2⟩ := shp_all h
  exact ⟨by simpa [PyData.canLay0] using h1, by simp only [PyData.depth]; omega⟩
theorem shp_tup {n : Nat} {l : List D} (h : ∀ d ∈ l, Shp n d) : Shp (n + 1) (.tuple l) := by
  obtain ⟨h1, h2⟩ := shp_all h
  exact ⟨by simpa [PyData.canLay0] using h1, by simp only [PyData.depth]; omega⟩
theorem Shp.shaped {n : Nat} {d : D} (h : Shp n d) (k : n ≤ 64) : SeqAt.shaped d = true := by
  unfold SeqAt.shaped
  rw [h.1, decide_eq_true (Nat.le_trans h.2 k)]
  rfl
theorem eqD_ok {n : Nat} {d e : D} (h : Shp n d) (k : Shp n e) (hn : n ≤ 64) : eqD d e = some (.bool (PyData.eqv d e)) := by
  unfold eqD
  rw [h.shaped hn, k.shaped hn]
  rfl
theorem neD_ok {n : Nat} {d e : D} (h : Shp n d) (k : Shp n e) (hn : n ≤ 64) : neD d e = some (.bool (!PyData.eqv d e)) := by
  unfold neD
  rw [h.shaped hn, k.shaped hn]
  rfl
@[simp] theorem eqD_int (i j : Int) : eqD (.int i) (.int j) = some (.bool (i == j)) := by rw [eqD_ok (shp_int 0 i) (shp_int 0 j) (by omega)]; rfl
@[simp] theorem neD_int (i j : Int) : neD (.int i) (.int j) = some (.bool (!(i == j))) := by rw [neD_ok (shp_int 0 i) (shp_int 0 j) (by omega)]; rfl
/-! ### ints -/
@[simp] theorem addD_int (i j : Int) : addD (.int i) (.int j) = some (.int (i + j)) := rfl
@[simp] theorem subD_int (i j : Int) : subD (.int i) (.int j) = some (.int (i - j)) := rfl
theorem mulD_int (i j : Int) (h : small64 i = true ∨ small64 j = true) : mulD (.int i) (.int j) = some (.int (i * j)) := if_pos (by simpa using h)
theorem fdivD_int (i j : Int) (h : 0 < j) (h2 : j < 1000000000) : fdivD (.int i) (.int j) = some (.int (i / j)) := if_pos ⟨h, h2⟩
theorem modD_int (i j : Int) (h : 0 < j) : modD (.int i) (.int j) = some (.int (i % j)) := if_pos h
@[simp] theorem ltxD_int (i j : Int) : ltxD (.int i) (.int j) = some (.bool (decide (i < j))) := rfl
@[simp] theorem leD_int (i j : Int) : leD (.int i) (.int j) = some (.bool (decide (i ≤ j))) := rfl
@[simp] theorem gtD_int (i j : Int) : gtD (.int i) (.int j) = some (.bool (decide (j < i))) := rfl
@[simp] theorem geD_int (i j : Int) : geD (.int i) (.int j) = some (.bool (decide (j ≤ i))) := rfl
@[simp] theorem tr_bool (b : Bool) : trD (.bool b) = some b := rfl
@[simp] theorem tr_int (i : Int) : trD (.int i) = some (i != 0) := rfl
@[simp] theorem tr_list (l : List D) : trD (.list l) = some (!l.isEmpty) := rfl
@[simp] theorem tr_tup (l : List D) : trD (.tuple l) = some (!l.isEmpty) := rfl
@[simp] theorem tr_none : trD .none = some false := rfl
@[simp] theorem boolD_b (b : Bool) : boolD (.bool b) = some b := rfl
@[simp] theorem lenD_list (l : List D) : lenD [.list l] = some (.int l.length) := rfl
@[simp] theorem lenD_tup (l : List D) : lenD [.tuple l] = some (.int l.length) := rfl
@[simp] theorem lenD_scr (l : List D) : lenD [.dict [(.none, .list l)]] = some (.int l.length) := rfl
@[simp] theorem intD_int (i : Int) : intD [.int i] = some (.int i) := rfl
@[simp] theorem intD_bool (b : Bool) : intD [.bool b] = some (.int (if b then 1 else 0)) := rfl
@[simp] theorem tupleD_list (l : List D) : tupleD [.list l] = some (.tuple l) := rfl
@[simp] theorem tupleD_tup (l : List D) : tupleD [.tuple l] = some (.tuple l) := rfl
@[simp] theorem listF_list (l : List D) : listF [.list l] = some l := rfl
@[simp] theorem listF_tup (l : List D) : listF [.tuple l] = some l := rfl
@[simp] theorem seqD_list (l : List D) : seqD (.list l) = some l := rfl
@[simp] theorem seqD_tup (l : List D) : seqD (.tuple l) = some l := rfl
theorem fewD_ok' (l : List D) (h : l.length ≤ LIM) : fewD l = some l := by unfold fewD; rw [if_pos h]
@[simp] theorem fewD_0 : fewD [] = some [] := rfl
@[simp] theorem fewD_1 (a : D) : fewD [a] = some [a] := fewD_ok' _ (by show 1 ≤ 100000; omega)
@[simp] theorem fewD_2 (a b : D) : fewD [a, b] = some [a, b] := fewD_ok' _ (by show 2 ≤ 100000; omega)
@[simp] theorem fewD_3 (a b c : D) : fewD [a, b, c] = some [a, b, c] := fewD_ok' _ (by show 3 ≤ 100000; omega)
@[simp] theorem fewD_4 (a b c d : D) : fewD [a, b, c, d] = some [a, b, c, d] := fewD_ok' _ (by show 4 ≤ 100000; omega)
@[simp] theorem isB_b (a b : Bool) : isBD (.bool a) (.bool b) = some (.bool (decide (a = b))) := rfl
@[simp] theorem isN_none (neg : Bool) : isNoneD neg .none .none = some (.bool (!neg)) := rfl
@[simp] theorem isN_int (neg : Bool) (i : Int) : isNoneD neg (.int i) .none = some (.bool neg) := rfl
@[simp] theorem isN_str (neg : Bool) (i : Str) : isNoneD neg (.str i) .none = some (.bool neg) := rfl
@[simp] theorem isN_tup (neg : Bool) (i : List D) : isNoneD neg (.tuple i) .none = some (.bool neg) := rfl
@[simp] theorem isN_list (neg : Bool) (i : List D) : isNoneD neg (.list i) .none = some (.bool neg) := rfl
@[simp] theorem isN_bool (neg : Bool) (i : Bool) : isNoneD neg (.bool i) .none = some (.bool neg) := rfl
/-! ### places -/
theorem ixN_nat {n j : Nat} (h : j < n) : ixN n (j : Int) = some j := by
  unfold ixN
  rw [if_pos (by omega), if_pos (by omega)]
  simp
theorem atI_nat {α : Type} (l : List α) (j : Nat) (h : j < l.length) : atI l (j : Int) = some l[j] := by
  unfold atI
  rw [ixN_nat h]
  simp [h]
@[simp] theorem idx_list (l : List D) (i : Int) : idxD (.list l) (.int i) = atI l i := rfl
@[simp] theorem idx_tup (l : List D) (i : Int) : idxD (.tuple l) (.int i) = atI l i := rfl
@[simp] theorem idx_scr (l : List D) (i : Int) : idxD (.dict [(.none, .list l)]) (.int i) = atI l i := rfl
@[simp] theorem atI_0 {α : Type} (a : α) (l : List α) : atI (a :: l) 0 = some a := atI_nat (a :: l) 0 (by simp)
@[simp] theorem atI_1 {α : Type} (a b : α) (l : List α) : atI (a :: b :: l) 1 = some b := atI_nat (a :: b :: l) 1 (by simp)
@[simp] theorem atI_2 {α : Type} (a b c : α) (l : List α) : atI (a :: b :: c :: l) 2 = some c := atI_nat (a :: b :: c :: l) 2 (by simp)
@[simp] theorem atI_3 {α : Type} (a b c d : α) (l : List α) : atI (a :: b :: c :: d :: l) 3 = some d := atI_nat (a :: b :: c :: d :: l) 3 (by simp)
theorem setL_nat (l : List D) (j : Nat) (x : D) (h : j < l.length) : setL (.list l) (.int j) x = some (.list (l.set j x)) := by
  show (ixN l.length (j : Int)).map _ = _
  rw [ixN_nat h]
  rfl
/-! ### kinds -/
@[simp] theorem isi_int (T : String) (i : Int) : isiD T (.int i) = (kitB "int" T).map .bool := rfl
@[simp] theorem isi_bool (T : String) (i : Bool) : isiD T (.bool i) = (kitB "bool" T).map .bool := rfl
@[simp] theorem isi_none (T : String) : isiD T .none = (kitB "NoneType" T).map .bool := rfl
@[simp] theorem isi_str (T : String) (i : Str) : isiD T (.str i) = (kitB "str" T).map .bool := rfl
@[simp] theorem isi_tup (T : String) (i : List D) : isiD T (.tuple i) = (kitB "tuple" T).map .bool := rfl
@[simp] theorem isi_list (T : String) (i : List D) : isiD T (.list i) = (kitB "list" T).map .bool := rfl
@[simp] theorem isi2_int (T S : String) (i : Int) : isi2D T S (.int i) = (kitB "int" T).bind fun b => (kitB "int" S).map fun c => .bool (b || c) := rfl
@[simp] theorem isi2_bool (T S : String) (i : Bool) : isi2D T S (.bool i) = (kitB "bool" T).bind fun b => (kitB "bool" S).map fun c => .bool (b || c) := rfl
@[simp] theorem isi2_none (T S : String) : isi2D T S .none = (kitB "NoneType" T).bind fun b => (kitB "NoneType" S).map fun c => .bool (b || c) := rfl
@[simp] theorem isi2_str (T S : String) (i : Str) : isi2D T S (.str i) = (kitB "str" T).bind fun b => (kitB "str" S).map fun c => .bool (b || c) := rfl
@[simp] theorem isi2_tup (T S : String) (i : List D) : isi2D T S (.tuple i) = (kitB "tuple" T).bind fun b => (kitB "tuple" S).map fun c => .bool (b || c) := rfl
@[simp] theorem isi2_list (T S : String) (i : List D) : isi2D T S (.list i) = (kitB "list" T).bind fun b => (kitB "list" S).map fun c => .bool (b || c) := rfl
@[simp] theorem kit_NoneType_bool : kitB "NoneType" "bool" = some false := by decide +kernel
@[simp] theorem kit_NoneType_int : kitB "NoneType" "int" = some false := by decide +kernel
@[simp] theorem kit_NoneType_str : kitB "NoneType" "str" = some false := by decide +kernel
@[simp] theorem kit_NoneType_list : kitB "NoneType" "list" = some false := by decide +kernel
@[simp] theorem kit_NoneType_tuple : kitB "NoneType" "tuple" = some false := by decide +kernel
@[simp] theorem kit_NoneType_dict : kitB "NoneType" "dict" = some false := by decide +kernel
@[simp] theorem kit_bool_bool : kitB "bool" "bool" = some true := by decide +kernel
@[simp] theorem kit_bool_int : kitB "bool" "int" = some true := by decide +kernel
@[simp] theorem kit_bool_str : kitB "bool" "str" = some false := by decide +kernel
@[simp] theorem kit_bool_list : kitB "bool" "list" = some false := by decide +kernel
@[simp] theorem kit_bool_tuple : kitB "bool" "tuple" = some false := by decide +kernel
@[simp] theorem kit_bool_dict : kitB "bool" "dict" = some false := by decide +kernel
@[simp] theorem kit_int_bool : kitB "int" "bool" = some false := by decide +kernel
@[simp] theorem kit_int_int : kitB "int" "int" = some true := by decide +kernel
@[simp] theorem kit_int_str : kitB "int" "str" = some false := by decide +kernel
@[simp] theorem kit_int_list : kitB "int" "list" = some false := by decide +kernel
@[simp] theorem kit_int_tuple : kitB "int" "tuple" = some false := by decide +kernel
@[simp] theorem kit_int_dict : kitB "int" "dict" = some false := by decide +kernel
@[simp] theorem kit_str_bool : kitB "str" "bool" = some false := by decide +kernel
@[simp] theorem kit_str_int : kitB "str" "int" = some false := by decide +kernel
@[simp] theorem kit_str_str : kitB "str" "str" = some true := by decide +kernel
@[simp] theorem kit_str_list : kitB "str" "list" = some false := by decide +kernel
@[simp] theorem kit_str_tuple : kitB "str" "tuple" = some false := by decide +kernel
@[simp] theorem kit_str_dict : kitB "str" "dict" = some false := by decide +kernel
@[simp] theorem kit_list_bool : kitB "list" "bool" = some false := by decide +kernel
@[simp] theorem kit_list_int : kitB "list" "int" = some false := by decide +kernel
@[simp] theorem kit_list_str : kitB "list" "str" = some false := by decide +kernel
@[simp] theorem kit_list_list : kitB "list" "list" = some true := by decide +kernel
@[simp] theorem kit_list_tuple : kitB "list" "tuple" = some false := by decide +kernel
@[simp] theorem kit_list_dict : kitB "list" "dict" = some false := by decide +kernel
@[simp] theorem kit_tuple_bool : kitB "tuple" "bool" = some false := by decide +kernel
@[simp] theorem kit_tuple_int : kitB "tuple" "int" = some false := by decide +kernel
@[simp] theorem kit_tuple_str : kitB "tuple" "str" = some false := by decide +kernel
@[simp] theorem kit_tuple_list : kitB "tuple" "list" = some false := by decide +kernel
@[simp] theorem kit_tuple_tuple : kitB "tuple" "tuple" = some true := by decide +kernel
@[simp] theorem kit_tuple_dict : kitB "tuple" "dict" = some false := by decide +kernel
end DL

/-! D16: rows of ints: their order, sorted(..), sorted(set(..)). -/
namespace DL
open PySem L2
abbrev Row := List Int
abbrev ltR (a b : Row) : Prop := HT.lexLt a b = true
theorem ltR_cons {x y : Int} {a b : Row} : ltR (x :: a) (y :: b) ↔ x < y ∨ (x = y ∧ ltR a b) := by
  show (if x = y then HT.lexLt a b else decide (x < y)) = true ↔ _
  by_cases h : x = y
  · rw [if_pos h]
    constructor
    · intro z; exact .inr ⟨h, z⟩
    · rintro (z | z)
      · omega
      · exact z.2
  · rw [if_neg h, decide_eq_true_eq]
    constructor
    · intro z; exact .inl z
    · rintro (z | z)
      · exact z
      · exact (h z.1).elim
theorem ltR_irrefl : ∀ a : Row, ¬ ltR a a
  | [], h => by cases h
  | x :: a, h => by
    rcases ltR_cons.mp h with z | z
    · omega
    · exact ltR_irrefl a z.2
theorem ltR_trans : ∀ {a b c : Row}, ltR a b → ltR b c → ltR a c
  | [], [], _, h, _ => by cases h
  | [], _ :: _, [], _, h => by cases h
  | [], _ :: _, _ :: _, _, _ => rfl
  | _ :: _, [], _, h, _ => by cases h
  | _ :: _, _ :: _, [], _, h => by cases h
  | x :: a, y :: b, z :: c, h, k => by
    rw [ltR_cons] at h k ⊢
    rcases h with h | ⟨rfl, h⟩
    · rcases k with k | ⟨rfl, k⟩
      · exact .inl (by omega)
      · exact .inl h
    · rcases k with k | ⟨rfl, k⟩
      · exact .inl k
      · exact .inr ⟨rfl, ltR_trans h k⟩
theorem ltR_tri : ∀ a b : Row, ltR a b ∨ a = b ∨ ltR b a
  | [], [] => .inr (.inl rfl)
  | [], _ :: _ => .inl rfl
  | _ :: _, [] => .inr (.inr rfl)
  | x :: a, y :: b => by
    rw [ltR_cons, ltR_cons]
    rcases Int.lt_trichotomy x y with h | h | h
    · exact .inl (.inl h)
    · subst h
      rcases ltR_tri a b with h | h | h
      · exact .inl (.inr ⟨rfl, h⟩)
      · exact .inr (.inl (by rw [h]))
      · exact .inr (.inr (.inr ⟨rfl, h⟩))
    · exact .inr (.inr (.inl h))
def leR (a b : Row) : Bool := !HT.lexLt b a
theorem leR_iff {a b : Row} : leR a b = true ↔ ltR a b ∨ a = b := by
  unfold leR
  rw [Bool.not_eq_true']
  constructor
  · intro h
    rcases ltR_tri a b with z | z | z
    · exact .inl z
    · exact .inr z
    · rw [z] at h; cases h
  · intro h
    cases e : HT.lexLt b a with
    | false => rfl
    | true =>
      rcases h with h | h
      · exact (ltR_irrefl a (ltR_trans h e)).elim
      · subst h; exact (ltR_irrefl a e).elim
theorem leR_trans (a b c : Row) (h : leR a b = true) (k : leR b c = true) : leR a c = true := by
  rw [leR_iff] at *
  rcases h with h | rfl
  · rcases k with k | rfl
    · exact .inl (ltR_trans h k)
    · exact .inl h
  · exact k
theorem leR_total (a b : Row) : (leR a b || leR b a) = true := by
  rw [Bool.or_eq_true, leR_iff, leR_iff]
  rcases ltR_tri a b with h | h | h
  · exact .inl (.inl h)
  · exact .inl (.inr h)
  · exact .inr (.inl h)
/-- strictly ascending -/
abbrev Asc (l : List Row) : Prop := l.Pairwise ltR
theorem Asc.nodup {l : List Row} (h : Asc l) : l.Nodup := by
  refine List.Pairwise.imp ?_ h
  intro a b h e
  subst e
  exact ltR_irrefl _ h
theorem asc_ext : ∀ {a b : List Row}, Asc a → Asc b → (∀ k, k ∈ a ↔ k ∈ b) → a = b
  | [], [], _, _, _ => rfl
  | [], y :: b, _, _, h => by have := (h y).mpr List.mem_cons_self; cases this
  | x :: a, [], _, _, h => by have := (h x).mp List.mem_cons_self; cases this
  | x :: a, y :: b, ha, hb, h => by
    have ha := List.pairwise_cons.mp ha
    have hb := List.pairwise_cons.mp hb
    have e : x = y := by
      have h1 := (h x).mp List.mem_cons_self
      have h2 := (h y).mpr List.mem_cons_self
      rcases List.mem_cons.mp h1 with z | z
      · exact z
      · rcases List.mem_cons.mp h2 with z2 | z2
        · exact z2.symm
        · exact (ltR_irrefl x (ltR_trans (ha.1 y z2) (hb.1 x z))).elim
    subst e
    congr 1
    refine asc_ext ha.2 hb.2 fun k => ?_
    constructor
    · intro hk
      rcases List.mem_cons.mp ((h k).mp (List.mem_cons_of_mem _ hk)) with z | z
      · subst z; exact (ltR_irrefl k (ha.1 k hk)).elim
      · exact z
    · intro hk
      rcases List.mem_cons.mp ((h k).mpr (List.mem_cons_of_mem _ hk)) with z | z
      · subst z; exact (ltR_irrefl k (hb.1 k hk)).elim
      · exact z
def srtR (l : List Row) : List Row := l.mergeSort leR
theorem srtR_perm (l : List Row) : (srtR l).Perm l := List.mergeSort_perm _ _
theorem mem_srtR {l : List Row} {k : Row} : k ∈ srtR l ↔ k ∈ l := (srtR_perm l).mem_iff
theorem srtR_asc {l : List Row} (h : l.Nodup) : Asc (srtR l) := by
  have p := List.pairwise_mergeSort (le := leR) leR_trans leR_total l
  have n : (srtR l).Nodup := (srtR_perm l).nodup_iff.mpr h
  have q : (srtR l).Pairwise fun a b => leR a b = true ∧ a ≠ b := p.and n
  exact q.imp fun {a b} z => by
    rcases leR_iff.mp z.1 with w | w
    · exact w
    · exact (z.2 w).elim
/-! ### the order of data -/
theorem toks_lex : ∀ a b : Row, PyProof.Rows.lexLt PyProof.Rows.itemOrd (PySem.W.keyToksAll (a.map .int)) (PySem.W.keyToksAll (b.map .int)) = HT.lexLt a b
  | [], [] => by
    show PyProof.Rows.lexLt PyProof.Rows.itemOrd [.inl 0] [.inl 0] = false
    rw [PyProof.Rows.lex_self]; rfl
  | [], _ :: _ => by
    show PyProof.Rows.lexLt PyProof.Rows.itemOrd (.inl 0 :: []) (.inl 1 :: _) = true
    rw [PyProof.Rows.lex_diff (by intro h; cases h)]; rfl
  | _ :: _, [] => by
    show PyProof.Rows.lexLt PyProof.Rows.itemOrd (.inl 1 :: _) (.inl 0 :: []) = false
    rw [PyProof.Rows.lex_diff (by intro h; cases h)]; rfl
  | x :: a, y :: b => by
    show PyProof.Rows.lexLt PyProof.Rows.itemOrd (.inl 1 :: .inl x :: PySem.W.keyToksAll (a.map .int)) (.inl 1 :: .inl y :: PySem.W.keyToksAll (b.map .int)) = if x = y then HT.lexLt a b else decide (x < y)
    rw [PyProof.Rows.lex_self]
    by_cases h : x = y
    · subst h
      rw [PyProof.Rows.lex_self, if_pos rfl, toks_lex a b]
    · rw [PyProof.Rows.lex_diff (by intro z; cases z; exact h rfl), if_neg h]; rfl
theorem srtD_row (a b : Row) : srtD (rowD a) (rowD b) = leR a b := by
  show (!PyProof.Rows.lexLt PyProof.Rows.itemOrd (PySem.W.keyToksAll (b.map .int)) (PySem.W.keyToksAll (a.map .int))) = _
  rw [toks_lex]; rfl
theorem shp_row (r : Row) : Shp 1 (rowD r) := shp_tup fun d hd => by
  obtain ⟨i, _, rfl⟩ := List.mem_map.mp hd
  exact shp_int 0 i
theorem shp_rows (l : List Row) : Shp 2 (.tuple (l.map rowD)) := shp_tup fun d hd => by
  obtain ⟨i, _, rfl⟩ := List.mem_map.mp hd
  exact shp_row i
theorem alike_ints : ∀ a b : Row, PySem.W.alikeAll (a.map .int) (b.map .int) = true
  | [], _ => by simp [PySem.W.alikeAll]
  | _ :: _, [] => by simp [PySem.W.alikeAll]
  | x :: a, y :: b => by simp [PySem.W.alikeAll, PySem.W.alike, alike_ints a b]
theorem okSort_rows {l : List Row} (h : ∀ r ∈ l, r ≠ []) (hl : l.length ≤ LIM) : okSort (l.map rowD) = true := by
  unfold okSort
  simp only [Bool.and_eq_true, Bool.or_eq_true, List.all_eq_true, decide_eq_true_eq, List.length_map]
  refine ⟨⟨⟨fun d hd e he => ?_, .inl fun d hd => ?_⟩, fun d hd => ?_⟩, hl⟩
  · obtain ⟨r, _, rfl⟩ := List.mem_map.mp hd
    obtain ⟨s, _, rfl⟩ := List.mem_map.mp he
    show PySem.W.alike (.tuple _) (.tuple _) = true
    simp only [PySem.W.alike, alike_ints]
  · obtain ⟨r, hr, rfl⟩ := List.mem_map.mp hd
    cases r with
    | nil => exact (h [] hr rfl).elim
    | cons x r => rfl
  · obtain ⟨r, _, rfl⟩ := List.mem_map.mp hd
    exact ⟨(shp_row r).1, Nat.le_trans (shp_row r).2 (by omega)⟩
theorem sorted_rows {l : List Row} (h : ∀ r ∈ l, r ≠ []) (hl : l.length ≤ LIM) : sortedF [.list (l.map rowD)] = some ((srtR l).map rowD) := by
  show (if okSort (l.map rowD) = true then some ((l.map rowD).mergeSort srtD) else none) = _
  rw [if_pos (okSort_rows h hl)]
  congr 1
  exact (PySem.W.sort_maps (r := leR) (s := srtD) rowD fun a _ b _ => (srtD_row a b).symm).symm
/-! ### sorted(set(rows)) -/
theorem code_ltR : ∀ {a b : Row}, a.length = b.length → TS.Bd 64 a → TS.Bd 64 b → TS.code 64 a < TS.code 64 b → ltR a b
  | [], [], _, _, _, h => by cases h
  | d :: r, e :: q, hl, ha, hb, h => by
    have hl' : r.length = q.length := by simpa using hl
    rw [ltR_cons]
    rcases Int.lt_trichotomy d e with z | z | z
    · exact .inl z
    · subst z
      exact .inr ⟨rfl, code_ltR hl' ha.tail hb.tail ((TS.code_same hl').mp h)⟩
    · have := TS.code_lt hl'.symm hb.tail ha.tail z
      omega
def setR (l : List Row) : List Row := sortT (dedT [] l)
theorem mem_setR {l : List Row} {k : Row} : k ∈ setR l ↔ k ∈ l := by
  unfold setR
  rw [(sortT_perm _).mem_iff, (dedT_spec l [] List.nodup_nil).2 k]
  simp
theorem setR_asc {d : Nat} {l : List Row} (h : ∀ r ∈ l, r.length = d ∧ TS.Bd 64 r) : Asc (setR l) := by
  have n : (setR l).Nodup := (sortT_perm _).nodup_iff.mpr (dedT_spec l [] List.nodup_nil).1
  have p : (setR l).Pairwise fun a b => TS.code 64 a ≤ TS.code 64 b := sortT_le _
  have q := p.and n
  refine List.Pairwise.imp_of_mem (fun {a b} ha hb z => ?_) q
  obtain ⟨h1, h2⟩ := h a (mem_setR.mp ha)
  obtain ⟨h3, h4⟩ := h b (mem_setR.mp hb)
  refine code_ltR (by omega) h2 h4 ?_
  rcases Int.lt_or_eq_of_le z.1 with w | w
  · exact w
  · exact (z.2 (code_inj (by omega) h2 h4 w)).elim
theorem sortSet_rows {d : Nat} {l : List Row} (hd : 1 ≤ d) (h : ∀ r ∈ l, r.length = d ∧ TS.Bd 64 r) (hl : l.length < 64) : sortSetT d (.list (l.map rowD)) = some ((setR l).map rowD) := by
  show ((rowsOf (l.map rowD)).bind _) = _
  rw [rowsOf_map]
  simp only [Option.bind_some]
  have ok : okRows d l = true := by
    unfold okRows
    rw [List.all_eq_true]
    intro r hr
    obtain ⟨h1, h2⟩ := h r hr
    rw [Bool.and_eq_true, decide_eq_true_eq, List.all_eq_true]
    exact ⟨h1, fun m hm => by simpa using h2 m hm⟩
  rw [if_pos ⟨hd, ok, hl⟩]
  rfl
/-! ### sorted(set(ints)) -/
def setZ (l : Row) : Row := sortI (dedI [] l)
theorem mem_setZ {l : Row} {k : Int} : k ∈ setZ l ↔ k ∈ l := by
  unfold setZ
  rw [(sortI_perm _).mem_iff, (dedI_spec l [] List.nodup_nil).2 k]
  simp
theorem setZ_asc (l : Row) : (setZ l).Pairwise (· < ·) := lt_of_le_nd (sortI_le _) ((sortI_perm _).nodup_iff.mpr (dedI_spec l [] List.nodup_nil).1)
theorem setZ_len (l : Row) : (setZ l).length = (dedI [] l).length := (sortI_perm _).length_eq
theorem sortSet_ints {l : Row} (h1 : l.length < 4000) (h2 : (setZ l).length < 64) : sortSetI (.list (l.map .int)) = some ((setZ l).map .int) := by
  show ((intsOf (l.map .int)).bind _) = _
  rw [intsOf_map]
  simp only [Option.bind_some]
  rw [if_pos ⟨h1, by rw [← setZ_len]; exact h2⟩]
  rfl
/-! ### equality of rows -/
theorem eqvAll_ints : ∀ a b : Row, PyData.eqvAll (a.map .int) (b.map .int) = decide (a = b)
  | [], [] => by simp [PyData.eqvAll]
  | [], _ :: _ => by simp [PyData.eqvAll]
  | _ :: _, [] => by simp [PyData.eqvAll]
  | x :: a, y :: b => by
    simp only [List.map_cons, PyData.eqvAll, PyData.eqv, eqvAll_ints a b, List.cons.injEq]
    by_cases h : x = y <;> simp [h]
theorem eqv_rows : ∀ a b : List Row, PyData.eqvAll (a.map rowD) (b.map rowD) = decide (a = b)
  | [], [] => by simp [PyData.eqvAll]
  | [], _ :: _ => by simp [PyData.eqvAll]
  | _ :: _, [] => by simp [PyData.eqvAll]
  | x :: a, y :: b => by
    simp only [List.map_cons, PyData.eqvAll, PyData.eqv, eqvAll_ints, eqv_rows a b, List.cons.injEq]
    by_cases h : x = y <;> simp [h]
end DL

/-! D17: loops, worked out. -/
namespace DL
open PySem L2
@[simp] theorem wipe_nil (ρ : Env) : wipeE ρ [] = ρ := rfl
@[simp] theorem wipe_cons (ρ : Env) (v : Nat) (vs : List Nat) : wipeE ρ (v :: vs) = (wipeE ρ vs).set v none := rfl
/-! ### comprehensions that change nothing -/
theorem lcLoop_pure {α : Type} {pat : D → M Unit} {mt : M Bool} {me : M IV} {vs : List Nat} {ρw : Env} (enc : α → D) (q : α → Bool) (g : α → D) :
    ∀ (xs : List α) (acc : List D), (∀ x ∈ xs, ∃ ρd, pat (enc x) ρw = .ok () ρd ∧ mt ρd = .ok (q x) ρd ∧ (q x = true → me ρd = .ok (.val (g x)) ρd) ∧ wipeE ρd vs = ρw) → acc.length + xs.length ≤ LIM →
      lcLoop pat mt me vs (xs.map enc) acc ρw = .ok (acc ++ (xs.filter q).map g) ρw
  | [], acc, _, _ => by simp [lcLoop]
  | x :: xs, acc, h, hl => by
    obtain ⟨ρd, h1, h2, h3, h4⟩ := h x List.mem_cons_self
    have hl' : acc.length + (xs.length + 1) ≤ LIM := hl
    have ih := fun acc' => lcLoop_pure enc q g xs acc' fun y hy => h y (List.mem_cons_of_mem _ hy)
    simp only [List.map_cons, lcLoop, bind_ap, h1, then_ok, h2]
    cases e : q x with
    | false =>
      simp only [Bool.false_eq_true, if_false, h4]
      rw [ih acc (by omega), List.filter_cons_of_neg (by simp [e])]
    | true =>
      simp only [if_true, bind_ap, h3 e, then_ok, keep_val, pure_ap]
      rw [if_pos (show acc.length < LIM by omega), h4, ih _ (by rw [List.length_append]; simp only [List.length_singleton]; omega), List.filter_cons_of_pos e]
      simp
theorem lc_pure {α : Type} {mi : M (List D)} {pat : D → M Unit} {mt : M Bool} {me : M IV} {vs : List Nat} {ρ : Env} (enc : α → D) (q : α → Bool) (g : α → D) (xs : List α) (hi : mi ρ = .ok (xs.map enc) ρ) (hc : cleanV ρ vs = true) (hr : restE (wipeE ρ vs) ρ vs = ρ)
    (hs : ∀ x ∈ xs, ∃ ρd, pat (enc x) (wipeE ρ vs) = .ok () ρd ∧ mt ρd = .ok (q x) ρd ∧ (q x = true → me ρd = .ok (.val (g x)) ρd) ∧ wipeE ρd vs = wipeE ρ vs) (hl : xs.length ≤ LIM) :
    dLc mi pat mt me vs ρ = .ok (.list ((xs.filter q).map g)) ρ := by
  unfold dLc
  rw [bind_ap, hi, then_ok]
  simp only [hc, if_true, lcLoop_pure enc q g xs [] hs (by simpa using hl), List.nil_append, hr]
theorem lc_map {α : Type} {mi : M (List D)} {pat : D → M Unit} {me : M IV} {vs : List Nat} {ρ : Env} (enc : α → D) (g : α → D) (xs : List α) (hi : mi ρ = .ok (xs.map enc) ρ) (hc : cleanV ρ vs = true) (hr : restE (wipeE ρ vs) ρ vs = ρ)
    (hs : ∀ x ∈ xs, ∃ ρd, pat (enc x) (wipeE ρ vs) = .ok () ρd ∧ me ρd = .ok (.val (g x)) ρd ∧ wipeE ρd vs = wipeE ρ vs) (hl : xs.length ≤ LIM) :
    dLc mi pat (.pure true) me vs ρ = .ok (.list (xs.map g)) ρ := by
  rw [lc_pure enc (fun _ => true) g xs hi hc hr (fun x hx => by
    obtain ⟨ρd, h1, h2, h3⟩ := hs x hx
    exact ⟨ρd, h1, rfl, fun _ => h2, h3⟩) hl, List.filter_eq_self.mpr fun _ _ => rfl]
/-! ### .. that draw -/
theorem lcLoop_ex {S β : Type} {pat : D → M Unit} {me : M IV} {vs : List Nat} (ev : S → Env) (I : S → Prop) (R : β → Prop) (enc : β → D) : ∀ (ds acc : List D) (s : S), I s → (∀ d ∈ ds, ∀ s, I s → ∃ b s' ρd ρe, pat d (ev s) = .ok () ρd ∧ me ρd = .ok (.val (enc b)) ρe ∧ wipeE ρe vs = ev s' ∧ I s' ∧ R b) →
    acc.length + ds.length ≤ LIM → ∃ (bs : List β) (s' : S), I s' ∧ bs.length = ds.length ∧ (∀ b ∈ bs, R b) ∧ lcLoop pat (.pure true) me vs ds acc (ev s) = .ok (acc ++ bs.map enc) (ev s')
  | [], acc, s, hI, _, _ => ⟨[], s, hI, rfl, fun b hb => (by cases hb), by simp [lcLoop]⟩
  | d :: ds, acc, s, hI, h, hl => by
    obtain ⟨b, s1, ρd, ρe, h1, h2, h3, h4, h5⟩ := h d List.mem_cons_self s hI
    have hl' : acc.length + (ds.length + 1) ≤ LIM := hl
    obtain ⟨bs, s2, k1, k2, k3, k4⟩ := lcLoop_ex ev I R enc ds (acc ++ [enc b]) s1 h4 (fun e he => h e (List.mem_cons_of_mem _ he)) (by rw [List.length_append]; simp only [List.length_singleton]; omega)
    refine ⟨b :: bs, s2, k1, by simp [k2], fun c hc => ?_, ?_⟩
    · rcases List.mem_cons.mp hc with z | z
      · subst z; exact h5
      · exact k3 c z
    · simp only [lcLoop, bind_ap, h1, then_ok, pure_ap, if_true, h2, keep_val]
      rw [if_pos (show acc.length < LIM by omega), h3, k4]
      simp
theorem lc_ex {S β : Type} {mi : M (List D)} {pat : D → M Unit} {me : M IV} {vs : List Nat} {ρ : Env} {ds : List D} (ev : S → Env) (I : S → Prop) (R : β → Prop) (enc : β → D) (s : S) (hi : mi ρ = .ok ds ρ) (hc : cleanV ρ vs = true) (h0 : wipeE ρ vs = ev s) (hI : I s)
    (hs : ∀ d ∈ ds, ∀ s, I s → ∃ b s' ρd ρe, pat d (ev s) = .ok () ρd ∧ me ρd = .ok (.val (enc b)) ρe ∧ wipeE ρe vs = ev s' ∧ I s' ∧ R b) (hl : ds.length ≤ LIM) :
    ∃ (bs : List β) (s' : S), I s' ∧ bs.length = ds.length ∧ (∀ b ∈ bs, R b) ∧ dLc mi pat (.pure true) me vs ρ = .ok (.list (bs.map enc)) (restE (ev s') ρ vs) := by
  obtain ⟨bs, s', k1, k2, k3, k4⟩ := lcLoop_ex ev I R enc ds [] s hI hs (by simpa using hl)
  refine ⟨bs, s', k1, k2, k3, ?_⟩
  unfold dLc
  rw [bind_ap, hi, then_ok]
  simp only [hc, if_true, h0, k4, List.nil_append]
/-! ### set comprehensions -/
theorem scLoop_pure {α : Type} {pat : D → M Unit} {mt : M Bool} {me : M IV} {vs : List Nat} {ρw : Env} (enc : α → D) (q : α → Bool) (g : α → Int) :
    ∀ (xs : List α) (acc : List Int), (∀ x ∈ xs, ∃ ρd, pat (enc x) ρw = .ok () ρd ∧ mt ρd = .ok (q x) ρd ∧ (q x = true → me ρd = .ok (.val (.int (g x))) ρd) ∧ wipeE ρd vs = ρw) → acc.length + xs.length < 64 →
      ∃ out, scLoop pat mt me vs (xs.map enc) acc ρw = .ok out ρw ∧ (acc.Nodup → out.Nodup) ∧ (∀ k, k ∈ out ↔ k ∈ acc ∨ ∃ x ∈ xs, q x = true ∧ g x = k) ∧ out.length < 64
  | [], acc, _, hl => ⟨acc, by simp [scLoop], fun h => h, fun k => by simp, by simpa using hl⟩
  | x :: xs, acc, h, hl => by
    obtain ⟨ρd, h1, h2, h3, h4⟩ := h x List.mem_cons_self
    have hl' : acc.length + (xs.length + 1) < 64 := hl
    have ih := fun acc' => scLoop_pure enc q g xs acc' fun y hy => h y (List.mem_cons_of_mem _ hy)
    simp only [List.map_cons, scLoop, bind_ap, h1, then_ok, h2]
    cases e : q x with
    | false =>
      obtain ⟨out, z1, z2, z3, z4⟩ := ih acc (by omega)
      refine ⟨out, ?_, z2, fun k => ?_, z4⟩
      · simp only [Bool.false_eq_true, if_false, h4]
        exact z1
      · rw [z3 k]
        simp [e]
    | true =>
      have hins : (insI acc (g x)).length ≤ acc.length + 1 := by
        unfold insI
        split
        · omega
        · simp
      obtain ⟨out, z1, z2, z3, z4⟩ := ih (insI acc (g x)) (by omega)
      refine ⟨out, ?_, fun hn => z2 (insI_nodup hn), fun k => ?_, z4⟩
      · simp only [if_true, bind_ap, h3 e, then_ok, keep_val, pure_ap]
        show (if acc.length < 1000 then scLoop pat mt me vs (xs.map enc) (insI acc (g x)) (wipeE ρd vs) else .un) = _
        rw [if_pos (by omega), h4]
        exact z1
      · rw [z3 k, mem_insI]
        simp only [List.mem_cons]
        constructor
        · rintro ((z | z) | ⟨y, z, w⟩)
          · exact .inl z
          · exact .inr ⟨x, .inl rfl, e, z.symm⟩
          · exact .inr ⟨y, .inr z, w⟩
        · rintro (z | ⟨y, z | z, w1, w2⟩)
          · exact .inl (.inl z)
          · subst z; exact .inl (.inr w2.symm)
          · exact .inr ⟨y, z, w1, w2⟩
theorem sc_pure {α : Type} {mi : M (List D)} {pat : D → M Unit} {mt : M Bool} {me : M IV} {vs : List Nat} {ρ : Env} (enc : α → D) (q : α → Bool) (g : α → Int) (xs : List α) (hi : mi ρ = .ok (xs.map enc) ρ) (hc : cleanV ρ vs = true) (hr : restE (wipeE ρ vs) ρ vs = ρ)
    (hs : ∀ x ∈ xs, ∃ ρd, pat (enc x) (wipeE ρ vs) = .ok () ρd ∧ mt ρd = .ok (q x) ρd ∧ (q x = true → me ρd = .ok (.val (.int (g x))) ρd) ∧ wipeE ρd vs = wipeE ρ vs) (hl : xs.length < 64) :
    ∃ out, dScI mi pat mt me vs ρ = .ok out ρ ∧ out.Nodup ∧ (∀ k, k ∈ out ↔ ∃ x ∈ xs, q x = true ∧ g x = k) ∧ out.length < 64 := by
  obtain ⟨out, h1, h2, h3, h4⟩ := scLoop_pure enc q g xs [] hs (by simpa using hl)
  refine ⟨out, ?_, h2 List.nodup_nil, fun k => by rw [h3 k]; simp, h4⟩
  unfold dScI
  rw [bind_ap, hi, then_ok]
  simp only [hc, if_true, h1, hr]
/-! ### for, while -/
theorem for_ex {S : Type} {pat : D → M Unit} {m : SM} (ev : S → Env) (I : Nat → S → Prop) : ∀ (ds : List D) (k : Nat) (s : S), I k s → (∀ (j : Nat) (d : D) (s : S), ds[j]? = some d → I (k + j) s → ∃ ρd s', pat d (ev s) = .ok () ρd ∧ m ρd = .ok .nx (ev s') ∧ I (k + j + 1) s') →
    ∃ s', I (k + ds.length) s' ∧ sForL pat m ds (ev s) = .ok .nx (ev s')
  | [], k, s, hI, _ => ⟨s, hI, rfl⟩
  | d :: ds, k, s, hI, h => by
    obtain ⟨ρd, s1, h1, h2, h3⟩ := h 0 d s rfl hI
    obtain ⟨s2, k1, k2⟩ := for_ex ev I ds (k + 1) s1 h3 fun j e s he hj => by
      have := h (j + 1) e s (by simpa using he) (by rw [show k + (j + 1) = k + 1 + j by omega]; exact hj)
      rw [show k + (j + 1) + 1 = k + 1 + j + 1 by omega] at this
      exact this
    refine ⟨s2, by rw [List.length_cons, show k + (ds.length + 1) = k + 1 + ds.length by omega]; exact k1, ?_⟩
    simp only [sForL, onPat_ap, h1, pat_ok, bind_ap, h2, then_ok, loopFl, k2]
theorem while_ex {S : Type} {mt : M Bool} {m : SM} (ev : S → Env) (I : S → Prop) (Dn : S → Prop) (μ : S → Nat) : ∀ (n : Nat) (s : S), I s → μ s < n →
    (∀ s, I s → (mt (ev s) = .ok false (ev s) ∧ Dn s) ∨ (mt (ev s) = .ok true (ev s) ∧ ∃ s', m (ev s) = .ok .nx (ev s') ∧ I s' ∧ μ s' < μ s)) →
    ∃ s', I s' ∧ Dn s' ∧ sWhile mt m n (ev s) = .ok .nx (ev s')
  | 0, s, _, hn, _ => by omega
  | n + 1, s, hI, hn, h => by
    rcases h s hI with ⟨h1, h2⟩ | ⟨h1, s1, h2, h3, h4⟩
    · exact ⟨s, hI, h2, by simp [sWhile, h1]⟩
    · obtain ⟨s2, k1, k2, k3⟩ := while_ex ev I Dn μ n s1 h3 (by omega) h
      refine ⟨s2, k1, k2, ?_⟩
      simp only [sWhile, bind_ap, h1, then_ok, if_true, h2, loopFl, k3]
end DL

/-! D18: a law's end. -/
namespace DL
open PySem L2
/-- a list of at most 63 ints is handed in, True comes out -/
def spL (K : PySem.W.Frag) : Sp := fun vs H Q _ => ∃ (a : Addr) (ns : List Int), vs = [.ref a] ∧ SqL K H a (ns.map V.int) ∧ ns.length ≤ 63 ∧ ∀ H', Q (.bl true) H'
section
variable {P : Program} {w : World} {K : Frag} {mg : Str → Option Value} {base : Heap}
theorem law_imp {k : Nat} {f : Addr} {fd : FuncData} {ps : List Str} {m : M D} (F : FnOk P w K mg base CX0 k f fd ps (spZ K mg 1 m)) (h : ∀ ns : List Int, ns.length ≤ 63 → run m [scrD ns] = .ok (.bool true)) : FnOk P w K mg base CX0 k f fd ps (spL K) := by
  refine F.imp fun vs H Q E q => ?_
  obtain ⟨a, ns, rfl, hs, hl, k⟩ := q
  have e := h ns hl
  refine ⟨rfl, H, [some (.dat (scrD ns))], ⟨Same.refl H, rfl, fun i s z => ?_, fun i j s t b z1 z2 m1 m2 _ _ => ?_⟩, fun s z => ?_, ?_⟩
  · cases i with
    | zero =>
      cases z
      refine ⟨.ref a, rfl, ?_⟩
      show Rp K H (scrD ns) (.ref a)
      simp only [Rp]
      exact ⟨a, rfl, .inr (.inr ⟨ns, rfl, hs⟩)⟩
    | succ i => simp at z
  · cases i with
    | zero => cases z1; cases m1
    | succ i => simp at z1
  · rw [List.mem_singleton] at z
    exact .inl ⟨_, z⟩
  · unfold run at e
    have e' : (match m [some (.dat (scrD ns))] with
      | .un => Out.un
      | .ok d _ => Out.ok d
      | .exc x _ => Out.exc x) = .ok (.bool true) := e
    cases q : m [some (.dat (scrD ns))] with
    | un => rw [q] at e'; cases e'
    | exc x ρ => rw [q] at e'; cases e'
    | ok d ρ =>
      rw [q] at e'
      cases e'
      intro v G2 H2 _ _ _ r
      have r' : Rp K G2 (.bool true) v := r
      rw [r'.bool_inv]
      exact k H2
theorem cal_mono {j k : Nat} {x : Str} {sp : Sp} {dvs : List V} (c : C8.Cal P w K mg base j x sp dvs) (h : j ≤ k) : C8.Cal P w K mg base k x sp dvs := by
  obtain ⟨f, fd, ps, ds, F, hm, kp, b, d⟩ := c.ex
  exact ⟨f, fd, ps, ds, F.mono h, hm, kp, b, d⟩
end
end DL

/-! D19: reversed(range(n)), enumerate(list). -/
namespace DL
open PySem L2
/-- n - 1, .., 1, 0 -/
def revD (n : Int) : List D := (List.range n.toNat).map fun i => .int (n - 1 - (i : Nat))
def revIt : D → Option (List D)
  | .int n => if 0 ≤ n ∧ n ≤ 100000 then some (revD n) else none
  | _ => none
def dRev1 (ma : M IV) : M (List D) := .bind ma fun a => .bind (.now a) fun x => .opt (revIt x)
theorem wk_rev {K : Frag} {G : Hp} {n : Int} (h0 : 0 ≤ n) : Wk K G (Itc (0 + (((n - 0).toNat : Nat) : Int) - 1) (-1) (n - 0).toNat) (revD n) := by
  refine ⟨fun G' H' i d ed h1 h2 => ?_, fun G' H' h1 h2 => ?_⟩
  · unfold revD at ed
    rw [List.getElem?_map] at ed
    obtain ⟨j, hj, rfl⟩ := Option.map_eq_some_iff.mp ed
    obtain ⟨hl, he⟩ := List.getElem?_eq_some_iff.mp hj
    rw [List.length_range] at hl
    rw [List.getElem_range] at he
    subst he
    refine ⟨by show i < _; omega, fun x H2 ⟨e2, e3⟩ => ?_⟩
    subst e2 e3
    refine ⟨G', Gro.refl h2, ?_⟩
    simp only [Rp]
    congr 1
    omega
  · show _ ≤ (revD n).length
    unfold revD
    rw [List.length_map, List.length_range]
    omega
theorem ok_rev1 {C : Cc} {ta : TE} {ma : M IV} (oa : MOk C (RIv C.K) ta ma) : MOk C (RW C.K) (iRevR (tRg1 ta)) (dRev1 ma) := by
  intro G H ρ σ R st h
  show ta σ H _
  refine bindT oa st h fun a ρ1 x G1 H1 s1 st1 sh1 r1 h1 => ?_
  obtain ⟨d, rd, h2⟩ := post_now st1 r1 h1
  unfold revIt at h2
  split at h2
  · rename_i n
    split at h2
    · rename_i hn
      simp only [Rpt] at rd
      subst rd
      refine ⟨n, rfl, by decide, by decide, by omega, by omega, ?_⟩
      refine h2 _ _ _ Stp.refl st1 (Sh.refl _) ?_
      exact wk_rev hn.1
    · exact h2.elim
  · exact h2.elim
section
variable {C : Cc} {X : Cx} {tg a e : Expr} {ta te : TE} {ma me : M IV} {p p1 p2 pos : Pos}
/-- for .. in reversed(range(a)) -/
theorem i_rev1 (hm : X.mg "reversed" = none) (hm2 : X.mg "range" = none) (ha : EJ C X a ta ma) (hg : Gl X "reversed" := by rfl) (hg2 : Gl X "range" := by rfl) (h1 : starEach [a] X.env = (false, eval a X.env) :: starEach [] X.env := by rfl)
    (h2 : starEach [.Call (.Name "range" p1) [a] [] p2] X.env = (false, eval (.Call (.Name "range" p1) [a] [] p2) X.env) :: starEach [] X.env := by rfl) : IJ C X tg (.Call (.Name "reversed" p) [.Call (.Name "range" p1) [a] [] p2] [] pos) (iRevR (tRg1 ta)) (dRev1 ma) :=
  ⟨pi_revR hg hm (prg_1 hg2 hm2 ha.1 h1) h2, ok_rev1 ha.2⟩
end
/-! ### enumerate(list) -/
def enumD : Nat → List D → List D
  | _, [] => []
  | i, d :: l => .tuple [.int (i : Int), d] :: enumD (i + 1) l
theorem enumD_get : ∀ (l : List D) (i j : Nat), (enumD i l)[j]? = (l[j]?).map fun d => .tuple [.int ((i + j : Nat) : Int), d]
  | [], i, j => by simp [enumD]
  | d :: l, i, 0 => by simp [enumD]
  | d :: l, i, j + 1 => by
    simp only [enumD, List.getElem?_cons_succ, enumD_get l (i + 1) j]
    rw [show i + 1 + j = i + (j + 1) by omega]
theorem enumD_len : ∀ (l : List D) (i : Nat), (enumD i l).length = l.length
  | [], _ => rfl
  | d :: l, i => by simp [enumD, enumD_len l (i + 1)]
end DL

/-! D20: sorted(x), x a dict, its values, a set: what is drawn, then sorted. -/
namespace DL
open PySem PySem.W PyProof.Rows L2

section
variable {prog : Program} {w : World} {A : Around} {E : Value → Shared → Prop} {s : Shared} {T : String} {r d : Addr} {n : Nat} {P : Nat → Value → Prop} {OK : Heap → Prop}
/-- the list of what a source hands out -/
theorem collect_src {R : List Value → Shared → Prop} (K : KdlSrc prog w T r d n P OK) (hh : A.handled = none) (ok : OK s.heap) (hn : n ≤ sizeLine)
    (h : ∀ h' tk (acc : Array Value), (∀ b o, s.heap.get? b = some o → h'.get? b = some o) → s.heap.objs.size ≤ h'.objs.size → ItemsOf P acc n → R acc.toList { s with heap := h', toks := tk }) :
    wpAny (model prog w) A (collect (.ref r)) R E s := by
  have there := K.there _ ok
  unfold collect
  refine wpAny_bind (wpAny_runValue (codeAny_builtin entry_proto_collect' ?_))
  rw [Around.under_plainId PySem.F.plain_proto_collect _]
  show wpAny _ A.in1 (newList [] >>= fun l => again (.builtin "list.__iadd__" ⟨[l, .ref r], []⟩)) _ _ s
  refine wpAny_bind (wpAny_newObj_type ?_)
  refine wpAny_pure ⟨plainId_quiet PySem.F.plain_list_iadd _, codeAny_builtin entry_list_iadd' ?_⟩
  rw [Around.under_plainId PySem.F.plain_list_iadd _]
  show wpAny _ A.in1 (Builtin.List.listExtendWith (.ref s.heap.objs.size) (.ref r) (.ref s.heap.objs.size)) _ _ _
  have hS : (s.heap.push { cls := .type "list", data := .seq ([] : List Value).toArray }).get? s.heap.objs.size = some { cls := .type "list", data := .seq #[] } := Heap.get?_push_size _ rfl
  have key := kdl_extend (A := A) (s := { s with heap := s.heap.push { cls := .type "list", data := .seq ([] : List Value).toArray } }) K
    (R := fun (q : Result) (s' : Shared) => ∃ (h' : Heap) (tk : Nat) (acc' : Array Value) (c' : Nat), q = .ok (.ret (.ref s.heap.objs.size)) ∧ s' = { s with heap := h', toks := tk } ∧
      (∀ b o, s.heap.get? b = some o → h'.get? b = some o) ∧ h'.get? s.heap.objs.size = some { cls := .type "list", dict := none, data := .seq acc' c', slots := #[] } ∧ ItemsOf P acc' n)
    hh (K.keep _ _ ok fun b _ o e => Heap.get?_push_of_some _ e) s.heap.objs.size (Nat.ne_of_gt there.1) (Nat.ne_of_gt there.2) (.ref s.heap.objs.size) 0 hS
    (fun h' tk acc' c' hk hS' hacc => ⟨h', tk, acc', c', rfl, rfl, fun b o e => hk b o (Nat.ne_of_lt (Heap.lt_size e)) (Heap.get?_push_of_some _ e), hS', hacc⟩) hn
  have out : ∀ (q : Result) (s' : Shared), (∃ (h' : Heap) (tk : Nat) (acc' : Array Value) (c' : Nat), q = .ok (.ret (.ref s.heap.objs.size)) ∧ s' = { s with heap := h', toks := tk } ∧
      (∀ b o, s.heap.get? b = some o → h'.get? b = some o) ∧ h'.get? s.heap.objs.size = some { cls := .type "list", dict := none, data := .seq acc' c', slots := #[] } ∧ ItemsOf P acc' n) →
      ∃ f, q = .ok (.ret f) ∧ ∃ acc' : Array Value, f = .ref s.heap.objs.size ∧ (∃ c', s'.heap.get? s.heap.objs.size = some { cls := .type "list", dict := none, data := .seq acc' c', slots := #[] }) ∧ R acc'.toList s' := by
    rintro q s' ⟨h', tk, acc', c', rfl, rfl, hk, hS', hacc⟩
    exact ⟨_, rfl, acc', rfl, ⟨c', hS'⟩, h h' tk acc' hk (Nat.le_of_lt (Heap.lt_size hS')) hacc⟩
  refine wpAny_mono key (fun fin s' x => ?_) fun e s' x => ?_
  · cases fin with
    | done f =>
      obtain ⟨v, e1, acc', rfl, ⟨c', hS'⟩, hr⟩ := out _ _ x
      cases e1
      show wpAny _ A (load s.heap.objs.size >>= _) _ _ _
      exact wpAny_bind (wpAny_load hS' (wpAny_pure hr))
    | again c₁ =>
      refine ⟨x.1, codeAny_mono x.2 fun q s₂ y => ?_⟩
      obtain ⟨v, rfl, acc', rfl, ⟨c', hS'⟩, hr⟩ := out _ _ y
      show wpAny _ A (load s.heap.objs.size >>= _) _ _ _
      exact wpAny_bind (wpAny_load hS' (wpAny_pure hr))
  · obtain ⟨_, _, _, _, e', _⟩ := x
    cases e'
end

section
variable {X : Cx}
/-- behind the collecting: the new list is sorted -/
theorem sort_new {pins : List (Addr × Obj)} {σ : L2.St} {H : Hp} {s : Shared} {bs : List (V × D)} {vs : List Value} {E : Value → Shared → Prop} {Q : VK} {A : Around} (room : A.units + 64 < cLine) (I : L2.Inv X pins σ H s) (rv : Vals (bs.map (·.1)) vs) (hd : ∀ b ∈ bs, Dp X.K H b.1 b.2) (al : AllAlike (bs.map (·.2)))
    (so : Sortable (bs.map (·.2))) (dp : ∀ b ∈ bs, b.2.depth ≤ 60) (hl : bs.length ≤ sizeLine) (q : ∀ p, H p = none → Q (.ref p) (upd H p (.lst ((bs.mergeSort bsLe).map (·.1))))) :
    wpAny (model X.prog X.w) A (call (.builtin "list.sort") [.ref s.heap.objs.size]) (fun _ s' => ∃ v H', L2.Inv X pins σ H' s' ∧ RelV v (.ref s.heap.objs.size) ∧ Q v H') E { s with heap := s.heap.push (seqObj "list" vs.toArray 0) } := by
  have hoL : (s.heap.push (seqObj "list" vs.toArray 0)).get? s.heap.objs.size = some (seqObj "list" vs.toArray 0) := Heap.get?_push_size _ rfl
  have hn : H s.heap.objs.size = none := I.hok.fresh (Nat.le_refl _)
  have e := each_of_vals (h := s.heap) rv
  have er : EachIs (fun u (b : V × D) => ∃ as, Reads (s.heap.push (seqObj "list" vs.toArray 0)) u b.2 as ∧ s.heap.objs.size ∉ as) vs bs := by
    have go : ∀ {us : List Value} {cs : List (V × D)}, EachIs (fun u b => RelV b.1 u) us cs → (∀ b ∈ cs, Dp X.K H b.1 b.2) → EachIs (fun u (b : V × D) => ∃ as, Reads (s.heap.push (seqObj "list" vs.toArray 0)) u b.2 as ∧ s.heap.objs.size ∉ as) us cs := by
      intro us cs h
      induction h with
      | nil => intro _; exact .nil
      | cons r _ ih =>
        intro hc
        refine .cons ?_ (ih fun b hb => hc b (List.mem_cons_of_mem _ hb))
        obtain ⟨as, ra⟩ := Dp.reads I _ _ _ (hc _ List.mem_cons_self) r
        exact ⟨as, PyProof.Rows.Reads.keeps (fun _ _ q => Heap.get?_push_of_some _ q) ra, fun hm => let ⟨_, z⟩ := PyProof.On.reads_mem_get ra _ hm; Nat.lt_irrefl _ (Heap.lt_size z)⟩
    exact go e hd
  refine list_sort_data (s := { s with heap := s.heap.push (seqObj "list" vs.toArray 0) }) (enc := fun b : V × D => b.2) hoL e er al so hl (fun b hb => ?_) fun out ho eo => ?_
  · have := dp b hb
    omega
  · obtain ⟨c, hc⟩ := sortedHeap_at (vs := vs) (out := out.toArray) hoL
    have vv := vals_of_each eo
    have sz : (s.heap.push (seqObj "list" vs.toArray 0)).objs.size = s.heap.objs.size + 1 := by rw [Heap.size_push]
    refine ⟨.ref s.heap.objs.size, _, I.laid (a := s.heap.objs.size) (o := .lst ((bs.mergeSort bsLe).map (·.1))) (t' := s.toks) (fun b o e => ?_) (Nat.le_refl _) ⟨?_, out, c, vv, hc⟩, rfl, q _ hn⟩
    · have lt := Heap.lt_size e
      rw [sortedHeap_old (Nat.ne_of_lt lt) (by rw [sz]; exact Nat.lt_succ_of_lt lt)]
      exact Heap.get?_push_of_some _ e
    · rw [List.length_map, List.length_mergeSort]
      exact hl
/-- sorted(x), x a source -/
theorem sorted_src {pins : List (Addr × Obj)} {σ : L2.St} {H : Hp} {s : Shared} {T : String} {r d : Addr} {n : Nat} {P : Nat → Value → Prop} {OK : Heap → Prop} {bs : List (V × D)} {E : Value → Shared → Prop} {Q : VK} (hc : X.calm = true) (room : X.A.units + 65 < cLine) (I : L2.Inv X pins σ H s)
    (K : KdlSrc X.prog X.w T r d n P OK) (ok : OK s.heap) (hl : bs.length = n) (hz : n ≤ sizeLine) (hp : ∀ (j : Nat) (u : Value), P j u → ∃ b, bs[j]? = some b ∧ RelV b.1 u) (hd : ∀ b ∈ bs, Dp X.K H b.1 b.2) (al : AllAlike (bs.map (·.2)))
    (so : Sortable (bs.map (·.2))) (dp : ∀ b ∈ bs, b.2.depth ≤ 60) (q : ∀ p, H p = none → Q (.ref p) (upd H p (.lst ((bs.mergeSort bsLe).map (·.1))))) :
    wpAny (model X.prog X.w) X.A (call (.builtin "sorted") [.ref r]) (fun u s' => ∃ v H', L2.Inv X pins σ H' s' ∧ RelV v u ∧ Q v H') E s := by
  refine Calls.call_function_entry kind_sorted plain_sorted entry_sorted (args_sorted1 _) ?_
  unfold Builtin.«sorted»
  refine wpAny_bind (m := checkCount "sorted" 1 1 _) (wpAny_pure ?_)
  refine wpAny_bind (collect_src (A := X.A.in1) K (I.ok.hd hc) ok hz fun h' tk acc hk hle hi => ?_)
  have I1 : L2.Inv X pins σ H { s with heap := h', toks := tk } := I.kept (t' := tk) hk
  have ln : acc.toList.length = n := by rw [Array.length_toList]; exact hi.1
  have rv : Vals (bs.map (·.1)) acc.toList := by
    refine vals_of_at (by rw [List.length_map, ln, hl]) fun j x u h1 h2 => ?_
    obtain ⟨b, e1, rb⟩ := hp j u (hi.2 j u (by rw [← Array.getElem?_toList]; exact h2))
    rw [List.getElem?_map, e1] at h1
    cases h1
    exact rb
  refine wpAny_bind (wpAny_newList ?_ (by rw [ln]; exact hz))
  refine wpAny_bind (wpAny_holding (wpAny_mono (sort_new (A := X.A.in1) (by show X.A.units + 1 + 64 < cLine; omega) I1 rv hd al so dp (by rw [hl]; exact hz) q) (fun _ s' x => ?_) fun _ _ e => e))
  exact wpAny_pure ⟨_, rfl, x⟩
end
end DL

/-! D21: comprehensions that fill a dict or a set, whatever stands in it. Written by mk21.py from D8. -/
namespace DL
open PySem L2

/-- what is put into the new thing at S, and what is wanted behind it -/
abbrev Put := Hp → Addr → List V → (Hp → Prop) → Prop
def rPut (put : Put) : V → List V → Hp → VK → Prop := fun o xs H Q => ∃ S, o = .ref S ∧ put H S xs fun H' => Q .non H'
/-- d[k] = v by a dict comprehension -/
def DsR (Y : Cx) (put : Put) : Prop := ∀ (pins : List (Addr × Obj)) (s : Shared) (σ : St) (H : Hp) (S : Addr) (yk yv : V) (u r : Value) (Nx : Hp → Prop) (Q : Unit → Shared → Prop) (E : Value → Shared → Prop), L2.Inv Y pins σ H s → RelV yk u → RelV yv r → put H S [yk, yv] Nx →
  (∀ s' H', L2.Inv Y pins σ H' s' → Nx H' → Q () s') → wpAny (model Y.prog Y.w) Y.A (dictSet S u r) Q E s
def tCG (o0 : Addr → HO) (put : Put) (wi : TI) (g : TG) (tt : TT) (ta : TA) (own : List Nat) : TE := fun σ H Q =>
  wi σ H fun J H1 => ∀ S, H1 S = none →
    ∃ W : Nat → Nat → Hp → Prop, (∃ m, W 0 m (upd H1 S (o0 S))) ∧
      ∀ i m H, W i m H → (J.stop i H ∧ Q (.ref S) H) ∨
        (J.go i H ∧ ∃ Nx : Hp → Prop, (∀ H', Nx H' → ∃ m', m' < m ∧ W (i + 1) m' H') ∧
          ∀ x H', J.yld i H x H' → g x (wipe σ own) H' fun σ2 H2 => wipe σ2 own = wipe σ own ∧
            tt σ2 H2 fun b H3 => if b = true then ta σ2 H3 fun ys H4 => put H4 S ys Nx else Nx H3)
section
variable {X : Cx}
theorem scG_core {o0 : Addr → HO} {put : Put} {pins : List (Addr × Obj)} {s : Shared} {σ : St} {H : Hp} {Q : VK} {elt tg iter : Expr} {ifs : List Expr} {scope : Scope} {own : List (Str × Nat)} {pos pos' : Pos} {wi : TI} {g : TG} {tt : TT} {te : TE} {Qf : Value → Shared → Prop}
    (calm : X.calm = true) (nodup : X.N.Nodup) (I : L2.Inv X pins σ H s) (hi : PI X tg iter wi) (blk : BlkOk X.N X.env.scope scope own)
    (hg : ∀ s H Ca cl fp, PG (Blk X scope s H Ca cl fp) tg g) (ht : ∀ s H Ca cl fp, PTs (Blk X scope s H Ca cl fp) ifs tt) (he : ∀ s H Ca cl fp, PE (Blk X scope s H Ca cl fp) elt te)
    (fold : ∀ x, foldedSetIterable iter X.env x = pure x) (hnew : ∀ (h : Heap) (H : Hp), ObjOk X.prog X.w H (h.push (set0 X.w)) h.objs.size (o0 h.objs.size)) (hput : ∀ (Y : Cx), Y.prog = X.prog → Y.w = X.w → Y.K = X.K → Y.A = X.A → MtR Y "set.add" (rPut put)) (h : tCG o0 put wi g tt (tCons te tNil) (own.map (·.2)) σ H Q)
    (fin : ∀ S Ca s' m H', L2.Inv X pins σ H' s' → Q (.ref S) H' → s'.heap.Ns Ca m → FpOk X pins H' Ca → compPost (model X.prog X.w) X.A X.xe none Qf (.ref S) Ca (.ok .next) s') :
    wpAny (model X.prog X.w) X.A (comprehension (.SetComp elt [⟨tg, iter, ifs, 0⟩] scope pos) scope X.env pos' (newSet (.type "set")) false (eval iter X.env) none) Qf X.xe s := by
  have cells : ∀ y ∈ scope.names, y.2 = .free → ∃ c, X.env.cells.lookup y.1 = some c := by
    intro y hy e
    exact I.ok.has _ (blk.free y hy e)
  refine wpAny_comprehension_free (use := none) rfl fold (closure_ok cells) blk.kind (fun y hy e => by rw [blk.uniq y hy, e]) ?_
  refine thn (hi.run pins s σ H _ I h) fun xv sA hx => thn hx fun itv sB hB => ?_
  obtain ⟨it, fp, tn, J, HB, rfl, IB, T, stB, fB, q⟩ := hB
  refine PpSet.newSet_ok (newEnv_comp ?_)
  generalize hS : sB.heap.objs.size = S
  have fresh : HB S = none := IB.hok.fresh (Nat.le_of_eq hS)
  obtain ⟨W, ⟨m0, w0⟩, turn⟩ := q S fresh
  generalize hsC : ({ sB with heap := sB.heap.push (set0 X.w) } : Shared) = sC
  have hpC : sC.heap = sB.heap.push (set0 X.w) := by rw [← hsC]
  have IC : L2.Inv X pins σ (upd HB S (o0 S)) sC := by
    subst hsC
    refine IB.laid (t' := sB.toks) (fun _ _ => Heap.get?_push_of_some _) (Nat.le_of_eq hS) ?_
    subst hS
    exact hnew sB.heap _
  have small : ∀ b ∈ fp, b < sB.heap.objs.size := fun b hb => (T.obj _ _ stB b hb).elim fun o e => Heap.lt_size e.1
  have fC : ∀ b ∈ fp, FpOk X pins (upd HB S (o0 S)) b ∧ b < sC.heap.objs.size := by
    intro b hb
    have lt := small b hb
    have ne : b ≠ S := by rw [← hS]; exact Nat.ne_of_lt lt
    refine ⟨⟨(upd_ne ne).trans (fB b hb).1, (fB b hb).2⟩, ?_⟩
    rw [hpC, Heap.size_push]
    exact Nat.lt_succ_of_lt lt
  have stC : tn 0 sC.heap := T.keep _ _ _ stB fun b _ o e => hpC ▸ Heap.get?_push_of_some _ e
  have ID := block_start IC blk nodup fC
  generalize hHC : upd HB S (o0 S) = HC at IC ID w0 fC
  have free0 : ∀ b ∈ fp, HC b = none := fun b hb => (fC b hb).1.1
  let cl := cellsFrom (sC.heap.objs.size + 1) scope.names (cloFrom X.env.cells scope.names [])
  have pg : PG (X.blk sC HC scope (compEnvC scope cl sC.heap.objs.size X.env) fp) tg g := hg sC HC sC.heap.objs.size cl fp
  have pt : PTs (X.blk sC HC scope (compEnvC scope cl sC.heap.objs.size X.env) fp) ifs tt := ht sC HC sC.heap.objs.size cl fp
  have pe : PE (X.blk sC HC scope (compEnvC scope cl sC.heap.objs.size X.env) fp) elt te := he sC HC sC.heap.objs.size cl fp
  show codeAny _ _ (.compStart _ 0 (.ref it) (.ref S) (compEnvC scope cl sC.heap.objs.size X.env)) (compPost (model X.prog X.w) X.A X.xe none Qf (.ref S) sC.heap.objs.size) { sC with heap := pushCells (sC.heap.push { cls := .type "dict", data := .dict #[] }) scope.names }
  generalize hce : compEnvC scope cl sC.heap.objs.size X.env = ce at ID pg pt pe ⊢
  have locals : ce.locals = sC.heap.objs.size := by rw [← hce]; rfl
  generalize hsD : ({ sC with heap := pushCells (sC.heap.push { cls := .type "dict", data := .dict #[] }) scope.names } : Shared) = sD at ID ⊢
  have stD : tn 0 sD.heap := T.keep _ _ _ stC fun b _ o e => by
    subst hsD
    exact pushCells_keeps _ _ _ _ (Heap.get?_push_of_some _ e)
  let Y : Cx := X.blk sC HC scope ce fp
  have own_fp : ∀ {τ : St} {H' : Hp} {s' : Shared}, L2.Inv Y [] τ H' s' → (∀ b ∈ fp, H' b = none) → ∀ b ∈ fp, FpOk Y [] H' b := by
    intro τ H' s' J' free b hb
    obtain ⟨z1, z2⟩ := J'.ok.exf b hb
    exact ⟨free b hb, z1, J'.ok.exfs b hb, .inl hb, z2, fun p hp => absurd (show p ∈ ([] : List (Addr × Obj)) from hp) List.not_mem_nil⟩
  have loop : codeAny (model X.prog X.w) X.A (.compLoop (.SetComp elt [⟨tg, iter, ifs, 0⟩] scope pos) 0 (.ref it) (.ref S) ce) (compPost (model X.prog X.w) X.A X.xe none Qf (.ref S) sC.heap.objs.size) sD := by
    let here : Nat → Shared → Prop := fun n s' => ∃ i H', L2.Inv Y [] (wipe σ (own.map (·.2))) H' s' ∧ tn i s'.heap ∧ (∀ b ∈ fp, H' b = none) ∧ W i n H'
    refine PpSet.compLoopS_any here ?_ m0 ⟨0, HC, ID, stD, free0, w0⟩
    rintro n s1 ⟨i, H1, I1, st1, n1, w1⟩
    rcases turn i n H1 w1 with ⟨halt, last⟩ | ⟨go, Nx, toW, step⟩
    · refine thnF (T.done Y rfl rfl rfl calm i [] s1 _ H1 (fun _ _ => False) I1 (own_fp I1 n1) st1 halt) fun r s2 ⟨hr, I2⟩ => ?_
      subst hr
      have back : L2.Inv X pins σ H1 s2 := IC.call' (ch := fp) I2.os I2.base I2.hok I2.bare fun b hb => by
        obtain ⟨⟨_, z1, _, z2, z3, z4⟩, _⟩ := fC b hb
        exact ⟨z2, z1, z3, z4⟩
      have noL : H1 sC.heap.objs.size = none := by
        rw [← locals]
        exact I2.free
      obtain ⟨m, ns, _⟩ := I2.loc
      refine fin S sC.heap.objs.size s2 m H1 back last ?_ (IC.fpOk (Nat.le_refl _) noL)
      rw [← locals]
      exact ns
    · refine thnF (T.item Y rfl rfl rfl calm i [] s1 _ H1 (fun _ _ => False) I1 (own_fp I1 n1) st1 go) fun r s2 ⟨u, hr, h2⟩ => ?_
      subst hr
      refine thnF h2 fun _ s3 ⟨x, H3, I3, r3, y3, st3, n3⟩ => ?_
      have I3p := I3.pinned (own_fp I3 n3) (T.obj _ _ st3)
      refine thnF (pg.run _ s3 _ H3 x u _ I3p r3 (step x H3 y3)) fun _ s4 ⟨σ4, H4, I4, hw, q4⟩ => ?_
      refine thnF (pt.run _ s4 σ4 H4 _ I4 q4) fun b s5 ⟨H5, I5, q5⟩ => ?_
      have close : ∀ {s' : Shared} {H' : Hp}, L2.Inv Y ([] ++ pinsAt fp s3.heap) σ4 H' s' → Nx H' → ∃ m, m < n ∧ here m s' := by
        intro s' H' J' nx
        obtain ⟨m', lt, w'⟩ := toW H' nx
        have pinned : ∀ b ∈ fp, ∀ o, s3.heap.get? b = some o → s'.heap.get? b = some o ∧ H' b = none := by
          intro b hb o e
          have z := J'.pin (b, o) (List.mem_append_right _ (List.mem_append_right _ (mem_pinsAt hb e)))
          exact ⟨z.1, z.2.1⟩
        have len : (wipe σ (own.map (·.2))).length = σ4.length := by rw [← hw, wipe_length]
        refine ⟨m', lt, i + 1, H', (J'.unpinned (pins := [])).weak len fun j v e => ?_, T.keep _ _ _ st3 fun b hb o e => (pinned b hb o e).1, fun b hb => ?_, w'⟩
        · exact (wipe_some (hw ▸ e)).1
        · obtain ⟨o, e, _⟩ := T.obj _ _ st3 b hb
          exact (pinned b hb o e).2
      cases b with
      | false =>
        rw [if_neg Bool.false_ne_true] at q5 ⊢
        exact close I5 q5
      | true =>
        rw [if_pos rfl] at q5 ⊢
        refine thnF (pe.run _ s5 σ4 H5 _ I5 q5) fun z s6 ⟨yv, H6, I6, r6, nx⟩ => ?_
        have add := hput { Y with xe := fun _ _ => False } rfl rfl rfl rfl ([] ++ pinsAt fp s3.heap) s6 σ4 H6 (.ref S) [yv] (.ref S) [z] (fun _ H' => Nx H') (I6.wish _) rfl (.cons r6 .nil) ⟨S, rfl, nx⟩
        refine thnF add fun _ s7 ⟨_, H7, I7, _, nx7⟩ => close I7.unwish nx7
  exact PpSet.codeAny_compStart_set loop (T.self X.A 0 _ _ _ stD loop)
theorem dcG_core {o0 : Addr → HO} {put : Put} {use : Option (Value → Sem Unit)} {pins : List (Addr × Obj)} {s : Shared} {σ : St} {H : Hp} {Q : VK} {kx vx tg iter : Expr} {ifs : List Expr} {scope : Scope} {own : List (Str × Nat)} {pos pos' : Pos} {wi : TI} {g : TG} {tt : TT} {tk te : TE} {Qf : Value → Shared → Prop}
    (calm : X.calm = true) (nodup : X.N.Nodup) (I : L2.Inv X pins σ H s) (hi : PI X tg iter wi) (blk : BlkOk X.N X.env.scope scope own)
    (hg : ∀ s H Ca cl fp, PG (Blk X scope s H Ca cl fp) tg g) (ht : ∀ s H Ca cl fp, PTs (Blk X scope s H Ca cl fp) ifs tt) (hk : ∀ s H Ca cl fp, PE (Blk X scope s H Ca cl fp) kx tk) (he : ∀ s H Ca cl fp, PE (Blk X scope s H Ca cl fp) vx te)
    (fold : ∀ x, foldedSetIterable iter X.env x = pure x) (hnew : ∀ (h : Heap) (H : Hp), sysModules < h.objs.size → ObjOk X.prog X.w H (h.push { cls := .type "dict", data := .dict #[] }) h.objs.size (o0 h.objs.size)) (hput : ∀ (Y : Cx), Y.prog = X.prog → Y.w = X.w → Y.K = X.K → Y.A = X.A → DsR Y put) (h : tCG o0 put wi g tt (tCons tk (tCons te tNil)) (own.map (·.2)) σ H Q)
    (fin : ∀ S Ca s' m H', L2.Inv X pins σ H' s' → Q (.ref S) H' → s'.heap.Ns Ca m → FpOk X pins H' Ca → compPost (model X.prog X.w) X.A X.xe use Qf (.ref S) Ca (.ok .next) s') :
    wpAny (model X.prog X.w) X.A (comprehension (.DictComp kx vx [⟨tg, iter, ifs, 0⟩] scope pos) scope X.env pos' newDict false (eval iter X.env) use) Qf X.xe s := by
  have cells : ∀ y ∈ scope.names, y.2 = .free → ∃ c, X.env.cells.lookup y.1 = some c := by
    intro y hy e
    exact I.ok.has _ (blk.free y hy e)
  refine wpAny_comprehension_free (use := use) rfl fold (closure_ok cells) blk.kind (fun y hy e => by rw [blk.uniq y hy, e]) ?_
  refine thn (hi.run pins s σ H _ I h) fun xv sA hx => thn hx fun itv sB hB => ?_
  obtain ⟨it, fp, tn, J, HB, rfl, IB, T, stB, fB, q⟩ := hB
  refine wpAny_newObj_type (newEnv_comp ?_)
  generalize hS : sB.heap.objs.size = S
  have fresh : HB S = none := IB.hok.fresh (Nat.le_of_eq hS)
  obtain ⟨W, ⟨m0, w0⟩, turn⟩ := q S fresh
  generalize hsC : ({ sB with heap := sB.heap.push ({ cls := .type "dict", data := .dict #[] } : Obj) } : Shared) = sC
  have hpC : sC.heap = sB.heap.push ({ cls := .type "dict", data := .dict #[] } : Obj) := by rw [← hsC]
  have IC : L2.Inv X pins σ (upd HB S (o0 S)) sC := by
    subst hsC
    refine IB.laid (t' := sB.toks) (fun _ _ => Heap.get?_push_of_some _) (Nat.le_of_eq hS) ?_
    subst hS
    exact hnew sB.heap _ IB.big
  have small : ∀ b ∈ fp, b < sB.heap.objs.size := fun b hb => (T.obj _ _ stB b hb).elim fun o e => Heap.lt_size e.1
  have fC : ∀ b ∈ fp, FpOk X pins (upd HB S (o0 S)) b ∧ b < sC.heap.objs.size := by
    intro b hb
    have lt := small b hb
    have ne : b ≠ S := by rw [← hS]; exact Nat.ne_of_lt lt
    refine ⟨⟨(upd_ne ne).trans (fB b hb).1, (fB b hb).2⟩, ?_⟩
    rw [hpC, Heap.size_push]
    exact Nat.lt_succ_of_lt lt
  have stC : tn 0 sC.heap := T.keep _ _ _ stB fun b _ o e => hpC ▸ Heap.get?_push_of_some _ e
  have ID := block_start IC blk nodup fC
  generalize hHC : upd HB S (o0 S) = HC at IC ID w0 fC
  have free0 : ∀ b ∈ fp, HC b = none := fun b hb => (fC b hb).1.1
  let cl := cellsFrom (sC.heap.objs.size + 1) scope.names (cloFrom X.env.cells scope.names [])
  have pg : PG (X.blk sC HC scope (compEnvC scope cl sC.heap.objs.size X.env) fp) tg g := hg sC HC sC.heap.objs.size cl fp
  have pt : PTs (X.blk sC HC scope (compEnvC scope cl sC.heap.objs.size X.env) fp) ifs tt := ht sC HC sC.heap.objs.size cl fp
  have pk : PE (X.blk sC HC scope (compEnvC scope cl sC.heap.objs.size X.env) fp) kx tk := hk sC HC sC.heap.objs.size cl fp
  have pe : PE (X.blk sC HC scope (compEnvC scope cl sC.heap.objs.size X.env) fp) vx te := he sC HC sC.heap.objs.size cl fp
  show codeAny _ _ (.compStart _ 0 (.ref it) (.ref S) (compEnvC scope cl sC.heap.objs.size X.env)) (compPost (model X.prog X.w) X.A X.xe use Qf (.ref S) sC.heap.objs.size) { sC with heap := pushCells (sC.heap.push { cls := .type "dict", data := .dict #[] }) scope.names }
  generalize hce : compEnvC scope cl sC.heap.objs.size X.env = ce at ID pg pt pk pe ⊢
  have locals : ce.locals = sC.heap.objs.size := by rw [← hce]; rfl
  generalize hsD : ({ sC with heap := pushCells (sC.heap.push { cls := .type "dict", data := .dict #[] }) scope.names } : Shared) = sD at ID ⊢
  have stD : tn 0 sD.heap := T.keep _ _ _ stC fun b _ o e => by
    subst hsD
    exact pushCells_keeps _ _ _ _ (Heap.get?_push_of_some _ e)
  let Y : Cx := X.blk sC HC scope ce fp
  have own_fp : ∀ {τ : St} {H' : Hp} {s' : Shared}, L2.Inv Y [] τ H' s' → (∀ b ∈ fp, H' b = none) → ∀ b ∈ fp, FpOk Y [] H' b := by
    intro τ H' s' J' free b hb
    obtain ⟨z1, z2⟩ := J'.ok.exf b hb
    exact ⟨free b hb, z1, J'.ok.exfs b hb, .inl hb, z2, fun p hp => absurd (show p ∈ ([] : List (Addr × Obj)) from hp) List.not_mem_nil⟩
  have loop : codeAny (model X.prog X.w) X.A (.compLoop (.DictComp kx vx [⟨tg, iter, ifs, 0⟩] scope pos) 0 (.ref it) (.ref S) ce) (compPost (model X.prog X.w) X.A X.xe use Qf (.ref S) sC.heap.objs.size) sD := by
    let here : Nat → Shared → Prop := fun n s' => ∃ i H', L2.Inv Y [] (wipe σ (own.map (·.2))) H' s' ∧ tn i s'.heap ∧ (∀ b ∈ fp, H' b = none) ∧ W i n H'
    refine compLoop_anyD here ?_ m0 ⟨0, HC, ID, stD, free0, w0⟩
    rintro n s1 ⟨i, H1, I1, st1, n1, w1⟩
    rcases turn i n H1 w1 with ⟨halt, last⟩ | ⟨go, Nx, toW, step⟩
    · refine thnF (T.done Y rfl rfl rfl calm i [] s1 _ H1 (fun _ _ => False) I1 (own_fp I1 n1) st1 halt) fun r s2 ⟨hr, I2⟩ => ?_
      subst hr
      have back : L2.Inv X pins σ H1 s2 := IC.call' (ch := fp) I2.os I2.base I2.hok I2.bare fun b hb => by
        obtain ⟨⟨_, z1, _, z2, z3, z4⟩, _⟩ := fC b hb
        exact ⟨z2, z1, z3, z4⟩
      have noL : H1 sC.heap.objs.size = none := by
        rw [← locals]
        exact I2.free
      obtain ⟨m, ns, _⟩ := I2.loc
      refine fin S sC.heap.objs.size s2 m H1 back last ?_ (IC.fpOk (Nat.le_refl _) noL)
      rw [← locals]
      exact ns
    · refine thnF (T.item Y rfl rfl rfl calm i [] s1 _ H1 (fun _ _ => False) I1 (own_fp I1 n1) st1 go) fun r s2 ⟨u, hr, h2⟩ => ?_
      subst hr
      refine thnF h2 fun _ s3 ⟨x, H3, I3, r3, y3, st3, n3⟩ => ?_
      have I3p := I3.pinned (own_fp I3 n3) (T.obj _ _ st3)
      refine thnF (pg.run _ s3 _ H3 x u _ I3p r3 (step x H3 y3)) fun _ s4 ⟨σ4, H4, I4, hw, q4⟩ => ?_
      refine thnF (pt.run _ s4 σ4 H4 _ I4 q4) fun b s5 ⟨H5, I5, q5⟩ => ?_
      have close : ∀ {s' : Shared} {H' : Hp}, L2.Inv Y ([] ++ pinsAt fp s3.heap) σ4 H' s' → Nx H' → ∃ m, m < n ∧ here m s' := by
        intro s' H' J' nx
        obtain ⟨m', lt, w'⟩ := toW H' nx
        have pinned : ∀ b ∈ fp, ∀ o, s3.heap.get? b = some o → s'.heap.get? b = some o ∧ H' b = none := by
          intro b hb o e
          have z := J'.pin (b, o) (List.mem_append_right _ (List.mem_append_right _ (mem_pinsAt hb e)))
          exact ⟨z.1, z.2.1⟩
        have len : (wipe σ (own.map (·.2))).length = σ4.length := by rw [← hw, wipe_length]
        refine ⟨m', lt, i + 1, H', (J'.unpinned (pins := [])).weak len fun j v e => ?_, T.keep _ _ _ st3 fun b hb o e => (pinned b hb o e).1, fun b hb => ?_, w'⟩
        · exact (wipe_some (hw ▸ e)).1
        · obtain ⟨o, e, _⟩ := T.obj _ _ st3 b hb
          exact (pinned b hb o e).2
      cases b with
      | false =>
        rw [if_neg Bool.false_ne_true] at q5 ⊢
        exact close I5 q5
      | true =>
        rw [if_pos rfl] at q5 ⊢
        refine thnF (pk.run _ s5 σ4 H5 _ I5 q5) fun z s6 ⟨yk, H6, I6, r6, q6⟩ => ?_
        refine thnF (pe.run _ s6 σ4 H6 _ I6 q6) fun z2 s7 ⟨yv, H7, I7, r7, nx⟩ => ?_
        exact hput Y rfl rfl rfl rfl ([] ++ pinsAt fp s3.heap) s7 σ4 H7 S yk yv z z2 Nx _ _ I7 r6 r7 nx fun s8 H8 I8 nx8 => close I8 nx8
  exact codeAny_compStart_dict loop (T.self X.A 0 _ _ _ stD loop)
theorem pe_scG {o0 : Addr → HO} {put : Put} {elt tg iter : Expr} {ifs : List Expr} {scope : Scope} {own : List (Str × Nat)} {pos : Pos} {wi : TI} {g : TG} {tt : TT} {te : TE} (calm : X.calm = true) (nodup : X.N.Nodup) (hi : PI X tg iter wi) (blk : BlkOk X.N X.env.scope scope own)
    (hg : ∀ s H Ca cl fp, PG (Blk X scope s H Ca cl fp) tg g) (ht : ∀ s H Ca cl fp, PTs (Blk X scope s H Ca cl fp) ifs tt) (he : ∀ s H Ca cl fp, PE (Blk X scope s H Ca cl fp) elt te)
    (fold : ∀ x, foldedSetIterable iter X.env x = pure x) (hnew : ∀ (h : Heap) (H : Hp), ObjOk X.prog X.w H (h.push (set0 X.w)) h.objs.size (o0 h.objs.size)) (hput : ∀ (Y : Cx), Y.prog = X.prog → Y.w = X.w → Y.K = X.K → Y.A = X.A → MtR Y "set.add" (rPut put)) :
    PE X (.SetComp elt [⟨tg, iter, ifs, 0⟩] scope pos) (tCG o0 put wi g tt (tCons te tNil) (own.map (·.2))) := by
  constructor
  intro pins s σ H Q I h
  rw [PpSet.eval_SetComp]
  refine scG_core calm nodup I hi blk hg ht he fold hnew hput h fun S Ca s' m H' I' q ns fp => ⟨m, ns, fun h'' same => ?_⟩
  obtain ⟨z0, z1, z2, z3, z4, z5⟩ := fp
  exact ⟨.ref S, H', I'.turned (t' := s'.toks) (fun b o hb e => (same.2 b hb).trans e) z0 z1 z3 z4 z5, rfl, q⟩
theorem pe_dcG {o0 : Addr → HO} {put : Put} {kx vx tg iter : Expr} {ifs : List Expr} {scope : Scope} {own : List (Str × Nat)} {pos : Pos} {wi : TI} {g : TG} {tt : TT} {tk te : TE} (calm : X.calm = true) (nodup : X.N.Nodup) (hi : PI X tg iter wi) (blk : BlkOk X.N X.env.scope scope own)
    (hg : ∀ s H Ca cl fp, PG (Blk X scope s H Ca cl fp) tg g) (ht : ∀ s H Ca cl fp, PTs (Blk X scope s H Ca cl fp) ifs tt) (hk : ∀ s H Ca cl fp, PE (Blk X scope s H Ca cl fp) kx tk) (he : ∀ s H Ca cl fp, PE (Blk X scope s H Ca cl fp) vx te)
    (fold : ∀ x, foldedSetIterable iter X.env x = pure x) (hnew : ∀ (h : Heap) (H : Hp), sysModules < h.objs.size → ObjOk X.prog X.w H (h.push { cls := .type "dict", data := .dict #[] }) h.objs.size (o0 h.objs.size)) (hput : ∀ (Y : Cx), Y.prog = X.prog → Y.w = X.w → Y.K = X.K → Y.A = X.A → DsR Y put) :
    PE X (.DictComp kx vx [⟨tg, iter, ifs, 0⟩] scope pos) (tCG o0 put wi g tt (tCons tk (tCons te tNil)) (own.map (·.2))) := by
  constructor
  intro pins s σ H Q I h
  rw [arm_eval_DictComp]
  refine dcG_core calm nodup I hi blk hg ht hk he fold hnew hput h fun S Ca s' m H' I' q ns fp => ⟨m, ns, fun h'' same => ?_⟩
  obtain ⟨z0, z1, z2, z3, z4, z5⟩ := fp
  exact ⟨.ref S, H', I'.turned (t' := s'.toks) (fun b o hb e => (same.2 b hb).trans e) z0 z1 z3 z4 z5, rfl, q⟩
/-- name = {..} on one line -/
theorem ps_setDcG {o0 : Addr → HO} {put : Put} {i : Nat} {y : Str} {py spos : Pos} {kx vx tg iter : Expr} {ifs : List Expr} {scope : Scope} {own : List (Str × Nat)} {pos : Pos} {wi : TI} {g : TG} {tt : TT} {tk te : TE} (calm : X.calm = true) (nodup : X.N.Nodup) (hy : X.N[i]? = some y) (hyl : X.env.scope.names.lookup y = some .local)
    (hsw : swapsWith (.DictComp kx vx [⟨tg, iter, ifs, 0⟩] scope pos) (some (.Name y py)) spos.line X.env = pure true) (hi : PI X tg iter wi) (blk : BlkOk X.N X.env.scope scope own)
    (hg : ∀ s H Ca cl fp, PG (Blk X scope s H Ca cl fp) tg g) (ht : ∀ s H Ca cl fp, PTs (Blk X scope s H Ca cl fp) ifs tt) (hk : ∀ s H Ca cl fp, PE (Blk X scope s H Ca cl fp) kx tk) (he : ∀ s H Ca cl fp, PE (Blk X scope s H Ca cl fp) vx te)
    (fold : ∀ x, foldedSetIterable iter X.env x = pure x) (hnew : ∀ (h : Heap) (H : Hp), sysModules < h.objs.size → ObjOk X.prog X.w H (h.push { cls := .type "dict", data := .dict #[] }) h.objs.size (o0 h.objs.size)) (hput : ∀ (Y : Cx), Y.prog = X.prog → Y.w = X.w → Y.K = X.K → Y.A = X.A → DsR Y put) :
    PS X (.Assign [.Name y py] (.DictComp kx vx [⟨tg, iter, ifs, 0⟩] scope pos) spos) (tAsg (tCG o0 put wi g tt (tCons tk (tCons te tNil)) (own.map (·.2))) (gName i)) := by
  constructor
  intro pins s σ H D I h
  rw [exec_Assign_Name_used _ _ _ _ hsw]
  refine wpAny_bind (wpAny_standAt (wpAny_bind ?_))
  show wpAny _ X.A (do let _ ← comprehension (.DictComp kx vx [⟨tg, iter, ifs, 0⟩] scope pos) scope X.env (firstIterPos [⟨tg, iter, ifs, 0⟩] pos) newDict false (eval iter X.env) (some (assign (.Name y py) X.env))) _ _ s
  have h' : tCG o0 put wi g tt (tCons tk (tCons te tNil)) (own.map (·.2)) σ H (fun x H1 => gName i x σ H1 D.nx) := h
  refine wpAny_bind (thn (dcG_core (Qf := fun _ s' => SP X pins D .next s') calm nodup I hi blk hg ht hk he fold hnew hput h' fun S Ca s' m H' I' q ns fp => ?_) fun _ s' hq => wpAny_pure (wpAny_pure hq))
  show wpAny _ _ (assign (.Name y py) X.env (.ref S)) _ _ _
  refine wpAny_assign_Name (store_ok2 (v := V.ref S) I' nodup hy (.inl hyl) rfl (fun s2 I2 ⟨a, sb, ha⟩ => ?_) (.inr hyl))
  obtain ⟨z0, z1, z2, z3, z4, z5⟩ := fp
  have apart : Ca ≠ a := by
    rcases ha with z | z
    · rw [z]; exact z1
    · exact fun e => z4 y a z e.symm
  refine ⟨m, ns.sameBut sb apart, fun h3 same => ?_⟩
  exact ⟨_, H', I2.turned (t' := s2.toks) (fun b o hb e => (same.2 b hb).trans e) z0 z1 z3 z4 z5, q⟩
end
/-! ### by data -/
def cgLoop {α : Type} (add : α → List D → Option α) (pat : D → M Unit) (mt : M Bool) (ma : M (List IV)) (vs : List Nat) : List D → α → M α
  | [], acc => .pure acc
  | d :: l, acc => .bind (pat d) fun _ => .bind mt fun b => if b = true then .bind ma fun ivs => .bind (keeps ivs) fun es => .bind (.opt (add acc es)) fun acc' => fun ρ => cgLoop add pat mt ma vs l acc' (wipeE ρ vs)
    else fun ρ => cgLoop add pat mt ma vs l acc (wipeE ρ vs)
def dCG {α : Type} (add : α → List D → Option α) (acc0 : α) (mi : M (List D)) (pat : D → M Unit) (mt : M Bool) (ma : M (List IV)) (vs : List Nat) : M α := .bind mi fun ds => fun ρ => if cleanV ρ vs = true then match cgLoop add pat mt ma vs ds acc0 (wipeE ρ vs) with
  | .ok acc ρ' => .ok acc (restE ρ' ρ vs)
  | _ => .un else .un
/-- what stands at the new thing is the state -/
structure Sink {α : Type} (K : Frag) (RS : Hp → Addr → α → HO → Prop) (add : α → List D → Option α) (put : Put) : Prop where
  mono : ∀ (G G' : Hp) (S : Addr) (acc : α) (o : HO), Same G G' → RS G S acc o → RS G' S acc o
  put : ∀ (G H : Hp) (S : Addr) (acc acc' : α) (es : List D) (ys : List V) (o : HO) (Nx : Hp → Prop), Same G H → H S = some o → RS G S acc o → Rps K G es ys → add acc es = some acc' →
    (∀ o', RS G S acc' o' → Nx (upd H S o')) → put H S ys Nx
abbrev RC {α : Type} (RS : Hp → Addr → α → HO → Prop) (H0 : Hp) : Rel α V := fun G H _ _ acc v => ∃ a o, v = .ref a ∧ H0 a = none ∧ G a = none ∧ H a = some o ∧ RS G a acc o
def COk {α : Type} (C : Cc) (RS : Hp → Addr → α → HO → Prop) (t : TE) (m : M α) : Prop := ∀ (G H : Hp) (ρ : Env) (σ : St) (Q : VK), St0 C.K G H ρ σ → Post C (RC RS H) G H ρ σ (m ρ) Q → t σ H Q
theorem opt_same {α : Type} {o : Option α} {a : α} {ρ ρ' : Env} (h : M.opt o ρ = .ok a ρ') : ρ = ρ' ∧ o = some a := by
  cases o with
  | none => cases h
  | some b => cases h; exact ⟨rfl, rfl⟩
theorem keeps_same : ∀ (ivs : List IV) {es : List D} {ρ ρ' : Env}, keeps ivs ρ = .ok es ρ' → ρ = ρ' ∧ ∀ (K : Frag) (G : Hp) (ρ1 : Env) {σ : St} {ys : List V}, Paired (fun iv v => IvOk K G ρ1 σ iv v) ivs ys → Rps K G es ys
  | [], es, ρ, ρ', h => by
    unfold keeps at h
    cases h
    refine ⟨rfl, fun K G ρ1 σ ys r => ?_⟩
    cases r
    simp only [Rps]
  | iv :: ivs, es, ρ, ρ', h => by
    unfold keeps at h
    obtain ⟨d, ρ1, e1, h1⟩ := bind_ok h
    obtain ⟨ds, ρ2, e2, h2⟩ := bind_ok h1
    clear h h1
    cases iv with
    | sl j => cases e1
    | val d' =>
      cases e1
      cases h2
      obtain ⟨q1, q2⟩ := keeps_same ivs e2
      refine ⟨q1, fun K G ρ1 σ ys r => ?_⟩
      cases r with
      | cons a b =>
        simp only [Rps]
        exact ⟨_, _, rfl, a, q2 K G ρ1 b⟩
theorem ok_cG {C : Cc} {α : Type} {o0 : Addr → HO} {put : Put} {RS : Hp → Addr → α → HO → Prop} {add : α → List D → Option α} {acc0 : α} {wi : TI} {g : TG} {tt : TT} {ta : TA} {vs ts : List Nat} {mi : M (List D)} {pat : D → M Unit} {mt : M Bool} {ma : M (List IV)} (oi : MOk C (RW C.K) wi mi) (og : GOk C.K g ts pat) (hts : ∀ i, i ∈ ts → i ∈ vs)
    (ot : MOk (C0 C) RB tt mt) (oe : MOk (C0 C) (RIvs C.K) ta ma) (sk : Sink C.K RS add put) (h0 : ∀ G S, RS G S acc0 (o0 S)) : COk C RS (tCG o0 put wi g tt ta vs) (dCG add acc0 mi pat mt ma vs) := by
  intro G H ρ σ Q st h
  show wi σ H _
  refine bindT oi st h fun ds ρ1 J G1 H1 s1 st1 sh1 wk h1 => ?_
  split at h1
  case isFalse => exact h1.elim
  rename_i hc
  cases eL : cgLoop add pat mt ma vs ds acc0 (wipeE ρ1 vs) with
  | un => rw [eL] at h1; exact h1.elim
  | exc x ρ2 => rw [eL] at h1; exact h1.elim
  | ok accF ρF =>
  rw [eL] at h1
  intro Dd hD
  have hD0 : H Dd = none := by
    cases q : H Dd with
    | none => rfl
    | some o => exact (s1.tr Dd (ne_none_of q) hD).elim
  have stw := st1.wipe vs
  have noOw : ∀ ρt, Sh (wipeE ρ1 vs) ρt → ¬ Ow ρt (wipe σ vs) Dd := fun ρt sh z => Ow.there st1 (wipe_ow (sh.symm.ow z)) hD
  let W : Nat → Hp → Prop := fun i H' => i ≤ ds.length ∧ ∃ G' ρt acc o, St0 C.K G' H' ρt (wipe σ vs) ∧ Stp G1 H1 G' H' (Ow ρ1 σ) ∧ H' Dd = some o ∧ G' Dd = none ∧ RS G' Dd acc o ∧ Sh (wipeE ρ1 vs) ρt ∧
    cgLoop add pat mt ma vs (ds.drop i) acc ρt = .ok accF ρF
  refine ⟨fun i m H' => m = ds.length - i ∧ W i H', ⟨ds.length, by simp, Nat.zero_le _, G1, wipeE ρ1 vs, acc0, _, stw.gro (Gro.mine st1.gh hD _), (Gro.mine st1.gh hD _).stp, upd_same, ?_, h0 _ _, Sh.refl _, eL⟩, ?_⟩
  · cases q : G1 Dd with
    | none => rfl
    | some o => rw [st1.gh _ _ q] at hD; cases hD
  rintro i m H2 ⟨rfl, hi, G2, ρt, acc, o, st2, s2, hDd, gD, racc, sht, eLi⟩
  by_cases hlt : i < ds.length
  case neg =>
    have e : i = ds.length := by omega
    subst e
    refine .inl ⟨wk.fin G2 H2 s2.gg st2.gh, ?_⟩
    rw [List.drop_length] at eLi
    cases eLi
    obtain ⟨a1, a2⟩ := rest_ok hc st1 s2.gg st2 sht
    exact h1 (.ref Dd) G2 H2 s2 a1 a2 ⟨Dd, o, rfl, hD0, gD, hDd, racc⟩
  case pos =>
    have ed : ds[i]? = some ds[i] := List.getElem?_eq_getElem hlt
    obtain ⟨jgo, jy⟩ := wk.step G2 H2 i ds[i] ed s2.gg st2.gh
    refine .inr ⟨jgo, W (i + 1), fun H' w => ⟨ds.length - (i + 1), by omega, rfl, w⟩, fun x H3 yx => ?_⟩
    obtain ⟨G3, g3, rx⟩ := jy x H3 yx
    rw [List.drop_eq_getElem_cons hlt] at eLi
    unfold cgLoop at eLi
    obtain ⟨⟨⟩, ρ3, ep, eLi⟩ := bind_ok eLi
    obtain ⟨b, ρ4, et, eLi⟩ := bind_ok eLi
    have hD3 : H3 Dd = some o := g3.hh _ _ hDd
    have gD3 : G3 Dd = none := g3.nf Dd (ne_none_of hDd) gD
    refine og G3 H3 ρt (wipe σ vs) ds[i] x ρ3 _ (st2.gro g3) rx ep fun σ3 st3 pr => ?_
    have ew : wipe σ3 vs = wipe σ vs := wipe_eq (ts := ts) (by rw [pr.lens, wipe_length]) hts fun j hj => (pr.out j hj).2
    refine ⟨ew, ?_⟩
    have noOw3 : ¬ Ow ρ3 σ3 Dd := by
      rintro ⟨j, s, z1, z2, z3⟩
      by_cases hj : j ∈ ts
      · obtain ⟨⟨d, z⟩, _⟩ := pr.inn j hj
        rw [z] at z1; cases z1; cases z2
      · rw [(pr.out j hj).1] at z1
        rw [(pr.out j hj).2] at z3
        exact noOw ρt sht ⟨j, s, z1, z2, z3⟩
    have ow3 : ∀ a, Ow ρ3 σ3 a → Ow ρ1 σ a := by
      rintro a ⟨j, s, z1, z2, z3⟩
      by_cases hj : j ∈ ts
      · obtain ⟨⟨d, z⟩, _⟩ := pr.inn j hj
        rw [z] at z1; cases z1; cases z2
      · rw [(pr.out j hj).1] at z1
        rw [(pr.out j hj).2] at z3
        exact wipe_ow (sht.symm.ow ⟨j, s, z1, z2, z3⟩)
    have s23 : Stp G1 H1 G3 H3 (Ow ρ1 σ) := s2.trans (g3.stp (ow := Ow ρ1 σ)) fun _ z => z
    -- the shape behind a turn
    have shw : ∀ ρ5, Sh ρ3 ρ5 → Sh (wipeE ρ1 vs) (wipeE ρ5 vs) := by
      intro ρ5 sh5
      have l5 : ρ5.length = (wipeE ρ1 vs).length := by
        have a := congrArg List.length sh5
        have b := congrArg List.length sht
        simp only [List.length_map] at a b
        rw [← a, pr.len, ← b]
      apply List.ext_getElem?
      intro j
      rw [List.getElem?_map, List.getElem?_map]
      by_cases hj : j ∈ vs
      · have z1 : ∀ ρ0 : Env, j < ρ0.length → ((wipeE ρ0 vs)[j]?).map kd = some 0 := fun ρ0 hb => by
          have hb' : j < (wipeE ρ0 vs).length := by rw [wipeE_len]; exact hb
          have q := (wipeE_get ρ0 vs j).2 hj
          rw [List.getElem?_eq_getElem hb'] at q ⊢
          cases r : (wipeE ρ0 vs)[j] with
          | none => rfl
          | some s => rw [r] at q; exact (q s rfl).elim
        have hb := (clean_get hc hj).1
        rw [z1 ρ1 hb, z1 ρ5 (by rw [l5, wipeE_len]; exact hb)]
      · have hjt : j ∉ ts := fun z => hj (hts j z)
        rw [(wipeE_get ρ5 vs j).1 hj, ← sh5.get j, (pr.out j hjt).1, ← sht.get j]
    refine ot G3 H3 ρ3 σ3 _ st3 ?_
    rw [et]
    intro b' G4 H4 s4 st4 sh4 eb
    cases eb
    have hD4 : H4 Dd = some o := s4.fr _ _ hD3 noOw3
    have gD4 : G4 Dd = none := s4.nf Dd (ne_none_of hD3) gD3
    have s24 : Stp G1 H1 G4 H4 (Ow ρ1 σ) := s23.trans s4 ow3
    cases b with
    | false =>
      refine iteF ?_
      have eLi : cgLoop add pat mt ma vs (ds.drop (i + 1)) acc (wipeE ρ4 vs) = .ok accF ρF := eLi
      refine ⟨hlt, G4, wipeE ρ4 vs, acc, o, by rw [← ew]; exact st4.wipe vs, s24, hD4, gD4, sk.mono _ _ _ _ _ (g3.gg.trans s4.gg) racc, shw _ sh4, eLi⟩
    | true =>
      refine iteT ?_
      obtain ⟨ivs, ρ5, ee, eLi⟩ := bind_ok (show M.bind ma (fun ivs => .bind (keeps ivs) fun es => .bind (.opt (add acc es)) fun acc' => fun ρ => cgLoop add pat mt ma vs (ds.drop (i + 1)) acc' (wipeE ρ vs)) ρ4 = .ok accF ρF from eLi)
      obtain ⟨es, ρ6, ek, eLi⟩ := bind_ok eLi
      obtain ⟨acc', ρ7, eik, eLi⟩ := bind_ok eLi
      have e6 := keeps_same ivs ek
      have e7 := opt_same eik
      obtain rfl := e6.1
      obtain rfl := e7.1
      refine oe G4 H4 ρ4 σ3 _ st4 ?_
      rw [ee]
      intro ys G5 H5 s5 st5 sh5 ry
      have noOw4 : ¬ Ow ρ4 σ3 Dd := fun z => noOw3 (sh4.symm.ow z)
      have hD5 : H5 Dd = some o := s5.fr _ _ hD4 noOw4
      have gD5 : G5 Dd = none := s5.nf Dd (ne_none_of hD4) gD4
      have s25 : Stp G1 H1 G5 H5 (Ow ρ1 σ) := s24.trans s5 fun a z => ow3 a (sh4.symm.ow z)
      refine sk.put G5 H5 Dd acc acc' es ys o _ st5.gh hD5 (sk.mono _ _ _ _ _ (g3.gg.trans (s4.gg.trans s5.gg)) racc) (e6.2 _ _ _ ry) e7.2 fun o' ro' => ?_
      refine ⟨hlt, G5, wipeE ρ5 vs, acc', o', ?_, ?_, upd_same, gD5, ro', shw _ (sh4.trans sh5), eLi⟩
      · rw [← ew]
        have stw5 := st5.wipe vs
        refine ⟨fun a o q => ?_, stw5.len, fun j s q => ?_, stw5.dis⟩
        · rw [upd_ne (ne_of_none q gD5)]; exact stw5.gh a o q
        · obtain ⟨v, ev, ok⟩ := stw5.slot j s q
          refine ⟨v, ev, ?_⟩
          cases ms : s.isM with
          | false =>
            cases s with
            | dat d => exact ok
            | own d => cases ms
            | bor d => cases ms
          | true =>
            obtain ⟨a, rfl, oa⟩ := ok.m ms
            have ha : a ≠ Dd := fun z => noOw4 (sh5.symm.ow (wipe_ow ⟨j, s, q, ms, by rw [← z]; exact ev⟩))
            exact SlOk.of_m ms (oa.step (Same.refl _) oa.1 fun o q => by rw [upd_ne ha]; exact q)
      · refine ⟨s25.gg, s25.nf, fun a o q n => ?_, fun a q => ?_⟩
        · rw [upd_ne (ne_of_none q hD)]; exact s25.fr a o q n
        · by_cases ha : a = Dd
          · subst ha; exact (q hD).elim
          · rw [upd_ne ha]; exact s25.tr a q
end DL

/-! D22: dict comprehensions, set comprehensions of rows; sorted sets of rows, sorted dicts. -/
namespace DL
open PySem PySem.W PyProof.Rows L2

/-! ### dicts with int and text keys -/
def putKd : Put := fun H S ys Nx => ∃ kvs k z, ys = [kV k, z] ∧ H S = some (.dK kvs) ∧ kvs.length < sizeLine ∧ Nx (upd H S (.dK (putK kvs k z)))
def RSK (K : PySem.W.Frag) : Hp → Addr → List (D × D) → HO → Prop := fun G _ acc o => ∃ kvs, o = .dK kvs ∧ RpK K G acc kvs
def addK (acc : List (D × D)) : List D → Option (List (D × D))
  | [k, x] => if leafK k = true ∧ isT acc = false ∧ acc.length < LIM then some (putD acc k x) else none
  | _ => none
theorem sinkK {K : PySem.W.Frag} : Sink K (RSK K) addK putKd where
  mono := fun G G' S acc o gg h => let ⟨kvs, e, r⟩ := h; ⟨kvs, e, r.mono gg⟩
  put := by
    rintro G H S acc acc' es ys o Nx gh hS ⟨kvs, rfl, r⟩ re h q
    unfold addK at h
    split at h
    · rename_i k x
      split at h
      · rename_i hk
        cases h
        simp only [Rps] at re
        obtain ⟨y, _, rfl, ry, z, _, rfl, rz, rfl⟩ := re
        obtain ⟨kk, h1, rfl⟩ := leafK_key hk.1 ry
        refine ⟨kvs, kk, z, rfl, hS, ?_, q _ ⟨_, rfl, r.put h1 rz⟩⟩
        rw [← r.length]
        exact Nat.lt_of_lt_of_le hk.2.2 lim_le
      · cases h
    · cases h
theorem dsK {Y : Cx} : DsR Y putKd := by
  rintro pins s σ H S yk yv u r Nx Q E I rk rv ⟨kvs, k, z, e, hS, hl, nx⟩ h
  cases e
  exact d_dictSet I hS hl rk rv fun s' I' => h s' _ I' nx
/-! ### dicts with tuple keys -/
def putNd : Put := fun H S ys Nx => ∃ y z H', ys = [y, z] ∧ NPut H S y z H' ∧ Nx H'
def RSN (K : PySem.W.Frag) : Hp → Addr → List (D × D) → HO → Prop := fun G S acc o => ∃ xs, o = DNo S xs ∧ RpT K G acc xs
def addN (acc : List (D × D)) : List D → Option (List (D × D))
  | [k, x] => if tupK k = true ∧ acc.length < LIM then some (putD acc k x) else none
  | _ => none
theorem sinkN {K : PySem.W.Frag} : Sink K (RSN K) addN putNd where
  mono := fun G G' S acc o gg h => let ⟨kvs, e, r⟩ := h; ⟨kvs, e, r.mono gg⟩
  put := by
    rintro G H S acc acc' es ys o Nx gh hS ⟨kvs, rfl, r⟩ re h q
    unfold addN at h
    split at h
    · rename_i k x
      split at h
      · rename_i hk
        cases h
        simp only [Rps] at re
        obtain ⟨y, _, rfl, ry, z, _, rfl, rz, rfl⟩ := re
        obtain ⟨b, kk, h1, rfl, eb⟩ := tupK_key hk.1 ry
        refine ⟨_, z, _, rfl, ⟨kvs, kk, b, hS, fun x hx => KeyV.mono gh _ _ (r.keys x hx), rfl, ⟨h1.2.1, h1.2.2.1⟩, KeyV.mono gh _ _ eb, ?_, rfl⟩, q _ ⟨_, rfl, r.put h1 ry rz⟩⟩
        rw [← r.length]
        exact Nat.lt_of_lt_of_le hk.2 lim_le
      · cases h
    · cases h
theorem dsN {Y : Cx} (hu : Y.A.units + 64 < cLine) : DsR Y putNd := by
  rintro pins s σ H S yk yv u r Nx Q E I rk rv ⟨y, z, H', e, np, nx⟩ h
  cases e
  exact n_dictSet hu I np rk rv fun s' I' => h s' _ I' nx
theorem dk_new0 {P : Program} {w : World} (h : Heap) (H : Hp) (hb : sysModules < h.objs.size) : ObjOk P w H (h.push { cls := .type "dict", data := .dict #[] }) h.objs.size (.dK []) := dk_empty h hb
/-! ### .. as new things -/
def nDcK (mi : M (List D)) (pat : D → M Unit) (mt : M Bool) (ma : M (List IV)) (vs : List Nat) : M D := .bind (dCG addK [] mi pat mt ma vs) fun l => .pure (.dict l)
def nDcN (mi : M (List D)) (pat : D → M Unit) (mt : M Bool) (ma : M (List IV)) (vs : List Nat) : M D := .bind (dCG addN [] mi pat mt ma vs) fun l => .pure (.dict ((.none, .none) :: l))
theorem cok_F {α : Type} {C : Cc} {RS : Hp → Addr → α → HO → Prop} {t : TE} {m : M α} {f : α → D} (h : COk C RS t m) (hf : ∀ G H a acc o, G a = none → H a = some o → RS G a acc o → OwnAt C.K G H (f acc) a) : FOk C t (.bind m fun l => .pure (f l)) := by
  intro G H ρ σ Q st q
  refine h G H ρ σ Q st ?_
  unfold M.bind at q
  cases e : m ρ with
  | un => rw [e] at q; exact q
  | exc x ρ1 => rw [e] at q; exact q
  | ok acc ρ1 =>
    rw [e] at q
    rintro v G' H' s1 st1 sh1 ⟨a, o, rfl, h0, hg, hh, rs⟩
    exact q (.ref a) G' H' s1 st1 sh1 ⟨a, rfl, h0, hf _ _ _ _ _ hg hh rs⟩
section
variable {C : Cc} {X : Cx} {a b c e : Expr} {es : List Expr} {pos p p1 p2 p3 q1 q2 : Pos} {ma mb mc me : M IV} {mas : M (List IV)} {ta tb tc te : TE} {tas : TA} {tt : TT} {k : Nat} {s : Stmt} {x : Str}
variable {kx vx tg iter elt : Expr} {ifs : List Expr} {scope : Scope} {own : List (Str × Nat)} {wi : TI} {g : TG} {ts : List Nat} {mi : M (List D)} {pat : D → M Unit} {mt : M Bool} {mk mv : M IV} {tk tv : TE}
theorem f_dcK (nd : X.N.Nodup) (hi : IJ C X tg iter wi mi) (ok : BlkOk X.N X.env.scope scope own)
    (hg : ∀ s H Ca cl fp, GJ C (Blk X scope s H Ca cl fp) tg g ts pat) (ht : ∀ s H Ca cl fp, TsJ (C0 C) (Blk X scope s H Ca cl fp) ifs tt mt)
    (hk : ∀ s H Ca cl fp, EJ (C0 C) (Blk X scope s H Ca cl fp) kx tk mk) (he : ∀ s H Ca cl fp, EJ (C0 C) (Blk X scope s H Ca cl fp) vx tv mv) (h2 : ∀ s H Ca cl fp, AJ (C0 C) (Blk X scope s H Ca cl fp) [kx, vx] (tCons tk (tCons tv tNil)) (dCons mk (dCons mv (.pure []))))
    (hts : ∀ i, i ∈ ts → i ∈ own.map (·.2) := by decide) (hc : X.calm = true := by rfl) (hs : ∀ x, foldedSetIterable iter X.env x = pure x := by intro _; rfl) :
    FJ C X (.DictComp kx vx [⟨tg, iter, ifs, 0⟩] scope pos) (tCG (fun _ => .dK []) putKd wi g tt (tCons tk (tCons tv tNil)) (own.map (·.2))) (nDcK mi pat mt (dCons mk (dCons mv (.pure []))) (own.map (·.2))) :=
  ⟨pe_dcG hc nd hi.1 ok (fun s H Ca cl fp => (hg s H Ca cl fp).1) (fun s H Ca cl fp => (ht s H Ca cl fp).1) (fun s H Ca cl fp => (hk s H Ca cl fp).1) (fun s H Ca cl fp => (he s H Ca cl fp).1) hs (fun h H hb => dk_empty h hb) (fun _ _ _ _ _ => dsK),
   cok_F (ok_cG hi.2 (hg {} (fun _ => none) 0 [] []).2 hts (ht {} (fun _ => none) 0 [] []).2 (h2 {} (fun _ => none) 0 [] []).2 sinkK fun G S => ⟨[], rfl, by simp only [RpK]⟩) (by
    rintro G H a acc o hg hh ⟨kvs, rfl, r⟩
    exact ⟨hg, .inl ⟨kvs, hh, r⟩⟩)⟩
theorem own_n {K : PySem.W.Frag} {G H : Hp} {a : Addr} {acc : List (D × D)} {xs : List (NK × Addr × V)} (hg : G a = none) (hh : H a = some (DNo a xs)) (r : RpT K G acc xs) : OwnAt K G H (.dict ((.none, .none) :: acc)) a :=
  ⟨hg, .inr ⟨xs, hh, by simp only [RpTM]; exact ⟨trivial, trivial, r⟩⟩⟩
theorem f_dcN (hr : Room k X.A) (nd : X.N.Nodup) (hi : IJ C X tg iter wi mi) (ok : BlkOk X.N X.env.scope scope own)
    (hg : ∀ s H Ca cl fp, GJ C (Blk X scope s H Ca cl fp) tg g ts pat) (ht : ∀ s H Ca cl fp, TsJ (C0 C) (Blk X scope s H Ca cl fp) ifs tt mt)
    (hk : ∀ s H Ca cl fp, EJ (C0 C) (Blk X scope s H Ca cl fp) kx tk mk) (he : ∀ s H Ca cl fp, EJ (C0 C) (Blk X scope s H Ca cl fp) vx tv mv) (h2 : ∀ s H Ca cl fp, AJ (C0 C) (Blk X scope s H Ca cl fp) [kx, vx] (tCons tk (tCons tv tNil)) (dCons mk (dCons mv (.pure []))))
    (hts : ∀ i, i ∈ ts → i ∈ own.map (·.2) := by decide) (hc : X.calm = true := by rfl) (hs : ∀ x, foldedSetIterable iter X.env x = pure x := by intro _; rfl) :
    FJ C X (.DictComp kx vx [⟨tg, iter, ifs, 0⟩] scope pos) (tCG (fun S => DNo S []) putNd wi g tt (tCons tk (tCons tv tNil)) (own.map (·.2))) (nDcN mi pat mt (dCons mk (dCons mv (.pure []))) (own.map (·.2))) :=
  ⟨pe_dcG hc nd hi.1 ok (fun s H Ca cl fp => (hg s H Ca cl fp).1) (fun s H Ca cl fp => (ht s H Ca cl fp).1) (fun s H Ca cl fp => (hk s H Ca cl fp).1) (fun s H Ca cl fp => (he s H Ca cl fp).1) hs (fun h H hb => dn_empty h hb) (fun Y _ _ _ hA => dsN (by rw [hA]; exact room64 hr)),
   cok_F (ok_cG hi.2 (hg {} (fun _ => none) 0 [] []).2 hts (ht {} (fun _ => none) 0 [] []).2 (h2 {} (fun _ => none) 0 [] []).2 sinkN fun G S => ⟨[], rfl, by simp only [RpT]⟩) (by
    rintro G H a acc o hg hh ⟨kvs, rfl, r⟩
    exact own_n hg hh r)⟩
theorem sw_trueD {elt elt2 : Expr} {gs : List Comprehension} {scope : Scope} {pos py : Pos} {y : Str} {l : Nat} {env : PySem.Env} (hk : env.scope.kind = .function) (hy : env.scope.names.lookup y = some .local) (hl : (py.line == pos.line) = true)
    (ha : (scope.names.any fun (n, k) => n == y && (k == .local || k == .cell)) = false) : swapsWith (.DictComp elt elt2 gs scope pos) (some (.Name y py)) l env = pure true := by
  have ky : env.kindOf y = some .local := hy
  have hb : env.blockKind = .function := by unfold Env.blockKind; rw [hk]; rfl
  unfold swapsWith
  simp only [hb, ky, ha, Expr.pos, hl]
  rfl
/-- name = {..} on one line -/
theorem s_setDcK {y : Str} {spos : Pos} (i : Nat) (nd : X.N.Nodup) (hi : IJ C X tg iter wi mi) (ok : BlkOk X.N X.env.scope scope own)
    (hg : ∀ s H Ca cl fp, GJ C (Blk X scope s H Ca cl fp) tg g ts pat) (ht : ∀ s H Ca cl fp, TsJ (C0 C) (Blk X scope s H Ca cl fp) ifs tt mt)
    (hk : ∀ s H Ca cl fp, EJ (C0 C) (Blk X scope s H Ca cl fp) kx tk mk) (he : ∀ s H Ca cl fp, EJ (C0 C) (Blk X scope s H Ca cl fp) vx tv mv) (h2 : ∀ s H Ca cl fp, AJ (C0 C) (Blk X scope s H Ca cl fp) [kx, vx] (tCons tk (tCons tv tNil)) (dCons mk (dCons mv (.pure []))))
    (hts : ∀ i, i ∈ ts → i ∈ own.map (·.2) := by decide) (hc : X.calm = true := by rfl) (hs : ∀ x, foldedSetIterable iter X.env x = pure x := by intro _; rfl)
    (hy : X.N[i]? = some y := by rfl) (hyl : X.env.scope.names.lookup y = some .local := by rfl) (hsw : swapsWith (.DictComp kx vx [⟨tg, iter, ifs, 0⟩] scope pos) (some (.Name y p)) spos.line X.env = pure true := by exact sw_trueD rfl rfl rfl (by decide +kernel)) :
    SJ C X (.Assign [.Name y p] (.DictComp kx vx [⟨tg, iter, ifs, 0⟩] scope pos) spos) (tAsg (tCG (fun _ => .dK []) putKd wi g tt (tCons tk (tCons tv tNil)) (own.map (·.2))) (gName i)) (sSetO i (nDcK mi pat mt (dCons mk (dCons mv (.pure []))) (own.map (·.2)))) :=
  sj_setO i (fun _ => ps_setDcG hc nd hy hyl hsw hi.1 ok (fun s H Ca cl fp => (hg s H Ca cl fp).1) (fun s H Ca cl fp => (ht s H Ca cl fp).1) (fun s H Ca cl fp => (hk s H Ca cl fp).1) (fun s H Ca cl fp => (he s H Ca cl fp).1) hs (fun h H hb => dk_empty h hb) (fun _ _ _ _ _ => dsK)) (f_dcK (pos := pos) nd hi ok hg ht hk he h2 hts hc hs)
theorem s_setDcN {y : Str} {spos : Pos} (i : Nat) (hr : Room k X.A) (nd : X.N.Nodup) (hi : IJ C X tg iter wi mi) (ok : BlkOk X.N X.env.scope scope own)
    (hg : ∀ s H Ca cl fp, GJ C (Blk X scope s H Ca cl fp) tg g ts pat) (ht : ∀ s H Ca cl fp, TsJ (C0 C) (Blk X scope s H Ca cl fp) ifs tt mt)
    (hk : ∀ s H Ca cl fp, EJ (C0 C) (Blk X scope s H Ca cl fp) kx tk mk) (he : ∀ s H Ca cl fp, EJ (C0 C) (Blk X scope s H Ca cl fp) vx tv mv) (h2 : ∀ s H Ca cl fp, AJ (C0 C) (Blk X scope s H Ca cl fp) [kx, vx] (tCons tk (tCons tv tNil)) (dCons mk (dCons mv (.pure []))))
    (hts : ∀ i, i ∈ ts → i ∈ own.map (·.2) := by decide) (hc : X.calm = true := by rfl) (hs : ∀ x, foldedSetIterable iter X.env x = pure x := by intro _; rfl)
    (hy : X.N[i]? = some y := by rfl) (hyl : X.env.scope.names.lookup y = some .local := by rfl) (hsw : swapsWith (.DictComp kx vx [⟨tg, iter, ifs, 0⟩] scope pos) (some (.Name y p)) spos.line X.env = pure true := by exact sw_trueD rfl rfl rfl (by decide +kernel)) :
    SJ C X (.Assign [.Name y p] (.DictComp kx vx [⟨tg, iter, ifs, 0⟩] scope pos) spos) (tAsg (tCG (fun S => DNo S []) putNd wi g tt (tCons tk (tCons tv tNil)) (own.map (·.2))) (gName i)) (sSetO i (nDcN mi pat mt (dCons mk (dCons mv (.pure []))) (own.map (·.2)))) :=
  sj_setO i (fun _ => ps_setDcG hc nd hy hyl hsw hi.1 ok (fun s H Ca cl fp => (hg s H Ca cl fp).1) (fun s H Ca cl fp => (ht s H Ca cl fp).1) (fun s H Ca cl fp => (hk s H Ca cl fp).1) (fun s H Ca cl fp => (he s H Ca cl fp).1) hs (fun h H hb => dn_empty h hb) (fun Y _ _ _ hA => dsN (by rw [hA]; exact room64 hr))) (f_dcN (pos := pos) hr nd hi ok hg ht hk he h2 hts hc hs)
/-! ### {e: v} -/
def tDisp1 (tk tv : TE) : TE := fun σ H Q => ∀ p, H p = none → tk σ (upd H p (DNo p [])) fun x H1 => tv σ H1 fun y H2 => H2 p = some (DNo p []) ∧ ∃ H3, NPut H2 p x y H3 ∧ Q (.ref p) H3
theorem pe_disp1 (hu : X.A.units + 64 < cLine) (hk : PE X a tk) (hv : PE X b tv) : PE X (.Dict [some a] [b] pos) (tDisp1 tk tv) := by
  constructor
  intro pins s σ H Q I h
  have hn := I.hok.fresh (Nat.le_refl s.heap.objs.size)
  have J := I.laid (a := s.heap.objs.size) (o := DNo s.heap.objs.size []) (t' := s.toks) (fun _ _ q => Heap.get?_push_of_some _ q) (Nat.le_refl _) (dn_empty s.heap I.big)
  rw [arm_eval_Dict]
  have h := h _ hn
  have shape : (evalEachOpt [some a] X.env).zip ((evalEach [b] X.env).map fun (v : Sem Value) => (do let x ← v; standAt pos; pure x : Sem Value)) = [((eval a X.env), (do let x ← eval b X.env; standAt pos; pure x : Sem Value))].map fun p => (some p.1, p.2) := rfl
  rw [shape, dictDisplay_pairs _ (by intro z; cases z) (by show 1 < 17; decide)]
  refine wpAny_bind (wpAny_standAt (wpAny_bind (wpAny_subDictH (knd := nestedKind X.prog X.w) (room_here hu) (by show 1 ≤ 15; decide) ?_)))
  show wpAny _ _ (evalPairs [_]) _ _ _
  unfold evalPairs evalPairs
  refine wpAny_bind (thn (hk.run pins _ σ _ _ J h) fun u s1 ⟨x, H1, I1, rx, q1⟩ => ?_)
  refine wpAny_bind (wpAny_holding (wpAny_bind (thn (hv.run pins s1 σ H1 _ I1 q1) fun r s2 ⟨y, H2, I2, ry, e2, H3, np, q2⟩ => wpAny_bind (wpAny_standAt (wpAny_pure ?_)))))
  obtain ⟨xs, kk, bb, e, hx, rfl, hk2, kb, hl, rfl⟩ := np
  obtain rfl : u = Value.ref bb := rx
  rw [e2] at e
  have ex : xs = [] := by
    injection e with e
    unfold DNo at e
    have z : DN0 s.heap.objs.size xs s2.heap := by
      have q := (show ObjOk X.prog X.w H2 s2.heap s.heap.objs.size (DNo s.heap.objs.size []) from I2.hok _ _ e2).1
      injection e with e
      exact e ▸ q
    have z0 : DN0 s.heap.objs.size [] s2.heap := (show ObjOk X.prog X.w H2 s2.heap s.heap.objs.size (DNo s.heap.objs.size []) from I2.hok _ _ e2).1
    obtain ⟨_, _, _, _, vs, r1, o, es, ep, g1, _, g2, g3⟩ := z
    obtain ⟨_, _, _, _, vs', r1', o', es', ep', g1', _, g2', g3'⟩ := z0
    rw [g1] at g1'
    cases g1'
    rw [g2] at g2'
    cases g2'
    cases r1'
    rw [g3] at g3'
    have : vs = [] := by simpa using g3'
    subst this
    cases r1
    rfl
  subst ex
  refine wpAny_bind (wpAny_pure (wpAny_pure ?_))
  obtain ⟨z1, z2, z3, vs, rel, dd⟩ := dn_of I2 e2 (fun x hx => nomatch hx)
  cases rel
  refine ⟨[(kk, bb, r)], ⟨rfl, rfl, keyIs I2 hk2 kb, trivial⟩, dd, fun h' tk' dd' sb => wpAny_pure ?_⟩
  refine ⟨.ref s.heap.objs.size, _, d_write (t' := tk') I2 (by rw [e2]; exact True.intro) sb (let ⟨q, _, _, hq, _⟩ := dd'; ⟨q, hq⟩) (dn_ok (dn_back z1 (by rw [sizeLine_eq]; show 1 ≤ _; decide) (fun y hy => ?_) (.cons ⟨rfl, rfl, ry⟩ .nil) dd')), rfl, q2⟩
  obtain rfl : y = (kk, bb, _) := by simpa using hy
  exact hk2
end
end DL

/-! D23: sorted(d), sorted(d.values()), sorted sets of rows of any lengths. -/
namespace DL
open PySem PySem.W PyProof.Rows L2

/-! ### sorted(d), the keys tuples -/
def rSortN (K : PySem.W.Frag) : List V → Hp → VK → Prop := fun vs H Q => ∃ (a : Addr) (xs : List (NK × Addr × V)) (bs : List (V × D)), vs = [V.ref a] ∧ H a = some (DNo a xs) ∧ bs.map (·.1) = xs.map (fun y => V.ref y.2.1) ∧ (∀ b ∈ bs, Dp K H b.1 b.2) ∧ AllAlike (bs.map (·.2)) ∧ Sortable (bs.map (·.2)) ∧
  (∀ b ∈ bs, b.2.depth ≤ 60) ∧ ∀ p, H p = none → Q (.ref p) (upd H p (.lst ((bs.mergeSort bsLe).map (·.1))))
section
variable {X : Cx}
theorem cr_sortN (hc : X.calm = true) (room : X.A.units + 65 < cLine) : CallR X (.builtin "sorted") (rSortN X.K) := by
  rintro pins s σ H vs us Q I r ⟨a, xs, bs, rfl, ha, hb, hd, al, so, dp, q⟩
  rw [Vals.ref1 r]
  obtain ⟨⟨z1, z2, z3, z4, ws, z5, o, es, ep, e1, e2, e3, e4⟩, _⟩ := (show ObjOk X.prog X.w H s.heap a (DNo a xs) from I.hok a _ ha)
  have lw : xs.length = ws.length := Paired.length z5
  have lb : bs.length = xs.length := by have := congrArg List.length hb; simpa using this
  have le : es.size = ws.length := by have := congrArg List.length e4; simpa using this
  refine sorted_src (bs := bs) hc room I (kdl_raw z1 e2 e3) e1 (by omega) (by omega) (fun j u hj => ?_) hd al so dp q
  obtain ⟨en, hen, rfl⟩ := hj
  have hj' : j < es.size := (Array.getElem?_eq_some_iff.mp hen).1
  have ejb : bs[j]? = some bs[j] := List.getElem?_eq_getElem (by omega)
  refine ⟨bs[j], ejb, ?_⟩
  have h1 : (bs.map (·.1))[j]? = some bs[j].1 := by rw [List.getElem?_map, ejb]; rfl
  rw [hb, List.getElem?_map] at h1
  obtain ⟨y, hy, ey⟩ := Option.map_eq_some_iff.mp h1
  obtain ⟨w', hw', k1, k2, k3⟩ := L2.paired_get z5 hy
  have h2 : es.toList[j]? = some (entN w') := by rw [e4, List.getElem?_map, hw']; rfl
  rw [Array.getElem?_toList, hen] at h2
  cases h2
  rw [← ey]
  show (Value.ref w'.2.1) = Value.ref y.2.1
  rw [k2]
end
end DL

/-! D24: enumerate(tuple). -/
namespace DL
open PySem L2

set_option maxHeartbeats 4000000 in
theorem meets_enum1 {v : Value} {o : Obj} {H : Heap → Prop} (B : Begins v o H) :
    Meets (Builtin.«enumerate.__new__» ⟨[.type "enumerate", v], []⟩) (fun _ R s => H s.heap ∧
      R (.ok (.ret (.ref (s.heap.push o).objs.size))) { s with heap := (s.heap.push o).push { cls := .type "enumerate", data := .fields #[.none, .bool false, .ref s.heap.objs.size, rawInt 0, .none, .none] } }) :=
  .of_wp fun prog w A R s q => by
    obtain ⟨hp, g, d, tk, os⟩ := s
    obtain ⟨hH, q⟩ := q
    have sub := sub_enumerate
    have it : ∀ {A' : Around} {E : Value → Shared → Prop} {Q : Value → Shared → Prop}, Q (.ref hp.objs.size) ⟨hp.push o, g, d, tk, os⟩ → wpAny (model prog w) A' (pyIter v) Q E ⟨hp, g, d, tk, os⟩ :=
      fun z => B.iter prog w _ _ ⟨hp, g, d, tk, os⟩ _ hH z
    wp_walk using it
    refine wpAny_stack_any fun st => wpAny_pure ?_
    split
    · rename_i c _ _ _ _ _
      cases (c == Value.type "enumerate") <;> (wp_walk using it; exact ⟨_, rfl, q⟩)
    · wp_walk using it
      exact ⟨_, rfl, q⟩
theorem call_enum1 {prog : Program} {w : World} {A : Around} {E : Value → Shared → Prop} {s : Shared} {v : Value} {o : Obj} {H : Heap → Prop} {Q : Value → Shared → Prop} (B : Begins v o H) (h1 : H s.heap)
    (h : ∀ h', IsEnum h' (s.heap.objs.size + 1) s.heap.objs.size 0 .none → h'.get? s.heap.objs.size = some o → h'.objs.size = s.heap.objs.size + 2 → (∀ b o, s.heap.get? b = some o → h'.get? b = some o) → Q (.ref (s.heap.objs.size + 1)) { s with heap := h' }) :
    wpAny (model prog w) A (call (.type "enumerate") [v]) Q E s := by
  refine callType_new F.called_enumerate (by decide) (F.typeCall_enumerate_1 _) (F.newCall_enumerate_1 _) (fun obj => F.args_object_init_2 obj _) F.entry_enumerate_new (meets_enum1 B) ⟨h1, ?_⟩
  have size : (s.heap.push o).objs.size = s.heap.objs.size + 1 := by rw [Heap.size_push]
  have new : IsEnum ((s.heap.push o).push { cls := .type "enumerate", data := .fields #[.none, .bool false, .ref s.heap.objs.size, rawInt 0, .none, .none] }) (s.heap.objs.size + 1) s.heap.objs.size 0 .none := by
    rw [← size]
    exact Heap.get?_push_size (s.heap.push o) rfl
  show _ ∧ _
  rw [size]
  exact ⟨⟨_, new, rfl⟩, h _ new (Heap.get?_push_of_some _ (Heap.get?_push_size _ B.free)) (by rw [Heap.size_push, size]) fun b u e => Heap.get?_push_of_some _ (Heap.get?_push_of_some _ e)⟩

theorem enum_tup_end {prog : Program} {w : World} {A : Around} {E : Value → Shared → Prop} {s : Shared} {e it l : Addr} {i : Nat} {items : Array Value} {old : Value} {Q : Option Value → Shared → Prop} (calm : A.handled = none) (he : IsEnum s.heap e it i old) (hit : s.heap.IsTupleIter it l i)
    (hl : s.heap.IsTuple l items) (over : items[i]? = none) (q : ∀ h', Heap.ExtBut it s.heap h' → Q none { s with heap := h' }) : wpAny (model prog w) A (pyNext (.ref e)) Q E s := by
  have ty : s.TypeIs (.ref e) "enumerate" := ⟨_, he, rfl⟩
  unfold pyNext
  refine wpAny_bind (wpAny_attempt (wpAny_callSpecial?_slot (name := Str.ofString "__next__") ty F.slot_enumerate_next (wpAny_call_entry F.slot_enumerate_next ty F.entry_enumerate_next ?_ (F.args_enumerate_next_1 _))))
  show wpAny _ _ (field (.ref e) 2 >>= _) _ _ s
  refine wpAny_bind (wpAny_field he rfl (x := .ref it) rfl (wpAny_bind (wpAny_nextOf_tuple_end calm hit hl over ?_)))
  rintro h' x grown ⟨o, ho, cls⟩
  exact wpAny_bind (wpAny_isInstance (T := "StopIteration") (b := true) ⟨o, ho, cls⟩ isSubtype_stop (wpAny_pure (q _ grown)))
/-- the tuple at a, each item in a new pair -/
def IteT (K : Frag) (a : Addr) : It :=
  ⟨fun i H => ∃ (xs : List V) (x : V), SqT K H a xs ∧ xs[i]? = some x, fun i H v H' => ∃ (T : Addr) (o : Obj) (x : V), v = .ref T ∧ H T = none ∧ o.dict = none ∧ H' = upd H T (.frz o (.tup [.int (i : Nat), x])) ∧ ∀ xs, SqT K H a xs → xs[i]? = some x,
   fun i H => ∃ xs : List V, SqT K H a xs ∧ xs.length ≤ i⟩
theorem turn_enumT {P : Program} {w : World} {K : Frag} {elts : List Expr} {kk : Nat} {tpos : Pos} (a e it : Addr) :
    Turn P w K (.Tuple elts kk tpos) (IteT K a) [e, it] e (fun i h => (∃ old, IsEnum h e it ((i : Nat) : Int) old) ∧ h.IsTupleIter it a i ∧ e ≠ it) where
  mem := List.mem_cons_self
  obj := by
    rintro i h ⟨⟨old, he⟩, ⟨o, ho, hc, hd⟩, _⟩ b hb
    have cases2 : b = e ∨ b = it := by simpa using hb
    rcases cases2 with rfl | rfl
    · exact ⟨_, he, fun v q => nomatch q⟩
    · exact ⟨o, ho, fun v q => by rw [hd] at q; cases q⟩
  keep := by
    rintro i h h' ⟨⟨old, he⟩, hi, hne⟩ k
    exact ⟨⟨old, k e (by simp) _ he⟩, hi.at fun o q => k it (by simp) o q, hne⟩
  item := by
    rintro X rfl rfl rfl hc i pins s σ H E I hf ⟨⟨old, he⟩, hit, hne⟩ ⟨xs, x, hq, hx⟩
    obtain ⟨its, rv, ht, hz⟩ := I.tuple hq
    obtain ⟨u, hu, ru⟩ := rv.get hx
    have le : e < s.heap.objs.size := Heap.lt_size he
    have li : it < s.heap.objs.size := hit.elim fun o q => Heap.lt_size q.1
    have hT : s.heap.IsTuple a its.toArray := ht
    have small : ∀ b ∈ [e, it], b < s.heap.objs.size := fun b hb => by
      rcases (show b = e ∨ b = it by simpa using hb) with z | z <;> (rw [z]; assumption)
    have hai : a ≠ it := by
      rintro rfl
      obtain ⟨o1, g1, g2, n, g3⟩ := hT
      obtain ⟨o2, g4, g5, g6⟩ := hit
      rw [g1] at g4
      cases g4
      rw [g3] at g6
      cases g6
    have hie : a ≠ e := by
      rintro rfl
      obtain ⟨o1, g1, g2, n, g3⟩ := hT
      rw [show s.heap.get? a = some _ from he] at g1
      cases g1
      cases g3
    refine wpAny_pyNext_enum_itemD (Draws.tuple (A := X.A.in1) (I.ok.hd hc) it a hai its.toArray) he ⟨hit, hT⟩ (i := i) ?_ hne ?_ fun y h' tk hy ho hst' hN hsz hk => ?_
    · rw [List.size_toArray]; exact (List.getElem?_eq_some_iff.mp hu).1
    · simp [hne, Ne.symm hie]
    obtain rfl : y = u := by
      have q : its.toArray[i]? = some y := hy
      rw [List.getElem?_toArray, hu] at q
      exact (Option.some.inj q).symm
    refine ⟨_, rfl, wpAny_letOwnedTupleGo_enum (s := { s with heap := h', toks := tk + 1 }) ho fun h2 he2 sb => ?_⟩
    have atN : h2.get? s.heap.objs.size = some { cls := .type "tuple", data := .seq #[.int i tk, y] } := (sb.2 _ (Nat.ne_of_gt le)).trans hN
    have new : ObjOk X.prog X.w (upd H s.heap.objs.size (.frz (obT [.int i tk, y]) (.tup [.int (i : Nat), x]))) h2 s.heap.objs.size (.frz (obT [.int i tk, y]) (.tup [.int (i : Nat), x])) :=
      ⟨atN, by rw [sizeLine_eq]; show 2 ≤ _; decide, _, .cons ⟨tk, rfl⟩ (.cons ru .nil), ⟨_, atN, rfl, _, rfl⟩⟩
    have J : L2.Inv X pins σ (upd H s.heap.objs.size (.frz (obT [.int i tk, y]) (.tup [.int (i : Nat), x]))) { s with heap := h2, toks := tk + 1 } :=
      I.turnedNew (ch := [e, it]) (fun b ob hb q => by
        have n1 : b ≠ e := fun z => hb (by simp [z])
        have n2 : b ≠ it := fun z => hb (by simp [z])
        exact (sb.2 b n1).trans (hk b ob n1 n2 q)) hf (Nat.le_refl _) new
    refine ⟨.ref s.heap.objs.size, _, J, rfl, ⟨_, _, x, rfl, I.hok.fresh (Nat.le_refl _), rfl, rfl, fun ys hy2 => ?_⟩, ⟨⟨y, ?_⟩, hst'.1.at fun o q => (sb.2 it (Ne.symm hne)).trans q, hne⟩, fun b hb => ?_⟩
    · rw [I.tuple_inj hy2 hq]; exact hx
    · rw [show ((i + 1 : Nat) : Int) = (i : Int) + 1 by omega]; exact he2
    · rw [upd_ne (Nat.ne_of_lt (small b hb))]; exact (hf b hb).1
  done := by
    rintro X rfl rfl rfl hc i pins s σ H E I hf ⟨⟨old, he⟩, hit, hne⟩ ⟨xs, hq, hx⟩
    obtain ⟨its, rv, ht, hz⟩ := I.tuple hq
    obtain ⟨f0, f1, f2, f3, f4, f5⟩ := hf it (by simp)
    have len := rv.length
    have hT : s.heap.IsTuple a its.toArray := ht
    have fin : wpAny (model X.prog X.w) X.A (pyNext (.ref e)) (fun r s1 => r = none ∧ L2.Inv X pins σ H s1) E s := by
      refine enum_tup_end (I.ok.hd hc) he hit hT ?_ fun h' eb => ⟨rfl, I.turned (t' := s.toks) (fun b o hb q => eb b o hb q) f0 f1 f3 f4 f5⟩
      rw [List.getElem?_toArray]
      exact List.getElem?_eq_none (by omega)
    exact fin
  self := fun A i s Q E st h => let ⟨⟨_, he⟩, _⟩ := st; wpAny_pyIter_enum he h
def iEnumT (K : Frag) (ta : TA) : TI := fun σ H R => ta σ H fun vs H1 => ∃ a xs, vs = [.ref a] ∧ SqT K H1 a xs ∧ R (IteT K a) H1
theorem pi_enumT {X : Cx} {e : Expr} {ta : TA} {p pos tpos : Pos} {elts : List Expr} {kk : Nat} (hg : Gl X "enumerate") (hm : X.mg "enumerate" = none) (ha : PA X [e] ta) (hs : starEach [e] X.env = [(false, eval e X.env)] := by rfl) :
    PI X (.Tuple elts kk tpos) (.Call (.Name "enumerate" p) [e] [] pos) (iEnumT X.K ta) := by
  constructor
  intro pins s σ H R I h
  refine PyProof.Rows.Call_ (ld_blt I hg hm PyProof.Rows.boot_enumerate (PyProof.Rows.callWith_type1 (thn (ha.run pos pins s σ H _ I h) ?_) hs rfl))
  rintro us s1 ⟨vs, H1, I1, r1, a, xs, rfl, hq, q⟩
  obtain rfl := Vals.ref1 r1
  obtain ⟨its, rv, ht, hz⟩ := I1.tuple hq
  refine call_enum1 (begins_tuple a its.toArray) (show s1.heap.IsTuple a its.toArray from ht) fun h' he' hit hsz hk => wpAny_pyIter_enum he' ?_
  have I2 : L2.Inv X pins σ H1 { s1 with heap := h' } := I1.kept (t' := s1.toks) hk
  refine ⟨s1.heap.objs.size + 1, [s1.heap.objs.size + 1, s1.heap.objs.size], _, _, H1, rfl, I2, turn_enumT a (s1.heap.objs.size + 1) s1.heap.objs.size, ⟨⟨.none, he'⟩, ⟨_, hit, rfl, rfl⟩, Nat.succ_ne_self _⟩, fun b hb => ?_, q⟩
  have new : s1.heap.objs.size ≤ b := by
    rcases (show b = s1.heap.objs.size + 1 ∨ b = s1.heap.objs.size by simpa using hb) with z | z
    · rw [z]; exact Nat.le_succ _
    · rw [z]; exact Nat.le_refl _
  exact I1.fpOk new (I1.hok.fresh new)
theorem wk_enum {K : Frag} {G : Hp} {l : List D} {vs : List V} {J : It} (r : Rps K G l vs) (hgo : ∀ G' H i x, Same G G' → Same G' H → vs[i]? = some x → J.go i H) (hy : ∀ G' H i v H', Same G G' → Same G' H → J.yld i H v H' → ∃ (T : Addr) (o : Obj) (x : V), v = .ref T ∧ H T = none ∧ o.dict = none ∧ H' = upd H T (.frz o (.tup [.int (i : Nat), x])) ∧ vs[i]? = some x)
    (hs : ∀ G' H, Same G G' → Same G' H → J.stop l.length H) : Wk K G J (enumD 0 l) := by
  refine ⟨fun G' H i d ed h1 h2 => ?_, fun G' H h1 h2 => ?_⟩
  · rw [enumD_get] at ed
    obtain ⟨d', ed', rfl⟩ := Option.map_eq_some_iff.mp ed
    obtain ⟨v, ev, rv⟩ := r.get ed'
    refine ⟨hgo G' H i v h1 h2 ev, fun x H' y => ?_⟩
    obtain ⟨T, o, x', rfl, hT, nd, rfl, ex⟩ := hy G' H i x H' h1 h2 y
    rw [ev] at ex
    cases ex
    have g := Gro.new h2 hT (.frz o (.tup [.int (i : Nat), v]))
    refine ⟨_, g, ?_⟩
    simp only [Rp, Rps]
    exact ⟨T, _, rfl, ⟨o, upd_same, nd⟩, _, _, rfl, by rw [Nat.zero_add], v, [], rfl, (Rp.mono h1 _ _ rv).mono g.gg, rfl⟩
  · rw [enumD_len]
    exact hs G' H h1 h2
def tupOf : D → Option (List D)
  | .tuple l => some l
  | _ => none
def dEnum (me : M IV) : M (List D) := .bind me fun iv => .bind (.keep iv) fun d => .bind (.opt (tupOf d)) fun l => .pure (enumD 0 l)
theorem ok_enum {C : Cc} {te : TE} {me : M IV} (oe : MOk C (RIv C.K) te me) : MOk C (RW C.K) (iEnumT C.K (tCons te tNil)) (dEnum me) := by
  intro G H ρ σ R st h
  show te σ H _
  refine bindT oe st h fun iv ρ1 v G1 H1 s1 st1 sh1 r1 h1 => ?_
  obtain ⟨d, rd, h2⟩ := post_keep r1 h1
  obtain ⟨l, el, h3⟩ := post_opt h2
  cases d <;> simp only [tupOf] at el <;> try (cases el; done)
  cases el
  simp only [Rp] at rd
  obtain ⟨a, vs, rfl, ea, r⟩ := rd
  have at_ : ∀ G' H, Same G1 G' → Same G' H → SqT C.K H a vs := fun G' H g1 g2 => tq g2 (ea.mono g1)
  refine ⟨a, vs, rfl, at_ _ _ (Same.refl _) st1.gh, h3 _ G1 H1 Stp.refl st1 (Sh.refl _) (wk_enum r (fun G' H i x g1 g2 e => ⟨vs, x, at_ _ _ g1 g2, e⟩) (fun G' H i v H' g1 g2 y => ?_) fun G' H g1 g2 => ⟨vs, at_ _ _ g1 g2, by rw [r.length]; exact Nat.le_refl _⟩)⟩
  obtain ⟨T, o, x, e1, e2, nd, e3, e4⟩ := y
  exact ⟨T, o, x, e1, e2, nd, e3, e4 vs (at_ _ _ g1 g2)⟩
/-- for .. in enumerate(t), a tuple -/
theorem i_enum {C : Cc} {X : Cx} {e : Expr} {te : TE} {me : M IV} {p pos tpos : Pos} {elts : List Expr} {kk : Nat} (hm : X.mg "enumerate" = none) (he : EJ C X e te me) (hK : X.K = C.K := by rfl) (hg : Gl X "enumerate" := by rfl) (h1 : starEach [e] X.env = (false, eval e X.env) :: starEach [] X.env := by rfl)
    (hs : starEach [e] X.env = [(false, eval e X.env)] := by rfl) : IJ C X (.Tuple elts kk tpos) (.Call (.Name "enumerate" p) [e] [] pos) (iEnumT C.K (tCons te tNil)) (dEnum me) :=
  ⟨by rw [← hK]; exact pi_enumT hg hm (pa_cons he.1 pa_nil h1) hs, ok_enum he.2⟩
end DL

/-! D24: sorted(d.values()), sorted sets of rows of any lengths. -/
namespace DL
open PySem PySem.W PyProof.Rows L2

/-! ### rows of ints, sorted -/
theorem perm_of_map {α β : Type} (f : α → β) {l m : List β} (p : l.Perm m) : ∀ L : List α, l = L.map f → ∃ L1 : List α, m = L1.map f ∧ L1.Perm L := by
  induction p with
  | nil =>
    intro L e
    have : L = [] := by simpa using e.symm
    subst this
    exact ⟨[], rfl, List.Perm.refl _⟩
  | cons x _ ih =>
    intro L e
    cases L with
    | nil => cases e
    | cons y L =>
      rw [List.map_cons, List.cons.injEq] at e
      obtain ⟨L1, h1, h2⟩ := ih L e.2
      exact ⟨y :: L1, by rw [List.map_cons, ← h1, e.1], h2.cons y⟩
  | swap x y l =>
    intro L e
    cases L with
    | nil => cases e
    | cons a L =>
      cases L with
      | nil => rw [List.map_cons, List.cons.injEq] at e; cases e.2
      | cons b L =>
        simp only [List.map_cons, List.cons.injEq] at e
        exact ⟨b :: a :: L, by simp only [List.map_cons, e.1, e.2.1, e.2.2], List.Perm.swap _ _ _⟩
  | trans _ _ ih1 ih2 =>
    intro L e
    obtain ⟨L1, h1, h2⟩ := ih1 L e
    obtain ⟨L2, h3, h4⟩ := ih2 L1 h1
    exact ⟨L2, h3, h4.trans h2⟩
theorem rp_row {K : PySem.W.Frag} {H : Hp} {b : Addr} {r : Row} (h : TupF H b (r.map V.int)) : Rp K H (rowD r) (.ref b) := by
  simp only [Rp]
  exact ⟨b, _, rfl, h, Rps.of_ints r⟩
theorem srtR_perm_eq {l m : List Row} (h : l.Perm m) (nd : l.Nodup) : srtR l = srtR m :=
  asc_ext (srtR_asc nd) (srtR_asc (h.nodup_iff.mp nd)) fun k => by rw [mem_srtR, mem_srtR]; exact h.mem_iff
/-- what sorting asks of rows -/
theorem rows_ok {l : List Row} (h : ∀ r ∈ l, r ≠ []) (hl : l.length ≤ LIM) : AllAlike (l.map rowD) ∧ Sortable (l.map rowD) ∧ (∀ d ∈ l.map rowD, d.canLay0 = true ∧ d.depth ≤ 60) := by
  obtain ⟨a, b, c, _⟩ := okSort_inv (okSort_rows h hl)
  exact ⟨a, b, c⟩
section
variable {X : Cx}
def rSortR (P : Program) (w : World) : List V → Hp → VK → Prop := fun vs H Q => ∃ (a : Addr) (L : List (Addr × Row)), vs = [V.ref a] ∧ H a = some (SetTO P w a L) ∧ (∀ p ∈ L, TupF H p.1 (p.2.map V.int) ∧ p.2 ≠ []) ∧
  ∀ (L' : List (Addr × Row)) (p : Addr), L'.Perm L → L'.map (·.2) = srtR (L.map (·.2)) → (L.map (·.2)).Nodup → L.length < 64 → H p = none → Q (.ref p) (upd H p (.lst (L'.map fun q => V.ref q.1)))
theorem cr_sortR (hc : X.calm = true) (room : X.A.units + 65 < cLine) : CallR X (.builtin "sorted") (rSortR X.prog X.w) := by
  rintro pins s σ H vs us Q I r ⟨a, L, rfl, ha, hL, q⟩
  rw [Vals.ref1 r]
  have R0 : SetT0 X.prog X.w s.heap a L := (I.hok a _ ha).1
  obtain ⟨es, ep, t, R⟩ := R0.full fun p hp => I.isT (tq (Same.refl H) (hL p hp).1)
  obtain ⟨o, ho, hex, hd⟩ := R.ob
  have few := R.few
  have esz := R.size
  refine Calls.call_function_entry kind_sorted plain_sorted entry_sorted (args_sorted1 _) ?_
  unfold Builtin.«sorted»
  refine wpAny_bind (m := checkCount "sorted" 1 1 _) (wpAny_pure ?_)
  refine wpAny_bind (collect_set (A := X.A.in1) (I.ok.hd hc) ⟨o, ho, hex.1, hd⟩ R.fits (by unfold scanBound; omega) R.tab.ris R.led fun s1 out k1 hz g1 o1 pm => ?_)
  have I1 : L2.Inv X pins σ H s1 := I.call' (ch := []) o1 (Un.kept k1) (I.hok.kept k1) (by rw [g1]; exact I.bare) (fun _ z => nomatch z)
  have hes : es.toList.map (·.2) = L.map fun p => Value.ref p.1 := by
    rw [R.rows]
    unfold L2.rowsOf
    rw [List.map_map] <;> rfl
  rw [hes] at pm
  obtain ⟨L1, e1, p1⟩ := perm_of_map (fun p : Addr × Row => Value.ref p.1) pm.symm L rfl
  have lout : out.length = L1.length := by rw [e1, List.length_map]
  have l1 : L1.length = L.length := p1.length_eq
  have bsm : ((L1.map fun p : Addr × Row => ((V.ref p.1, rowD p.2) : V × D)).map (·.1)) = L1.map fun p => V.ref p.1 := by rw [List.map_map]; rfl
  have bs2 : ((L1.map fun p : Addr × Row => ((V.ref p.1, rowD p.2) : V × D)).map (·.2)) = (L1.map (·.2)).map rowD := by rw [List.map_map, List.map_map]; rfl
  have in1 : ∀ p ∈ L1, TupF H p.1 (p.2.map V.int) ∧ p.2 ≠ [] := fun p hp => hL p (p1.mem_iff.mp hp)
  obtain ⟨al, so, dp⟩ := rows_ok (l := L1.map (·.2)) (fun r hr => by
    obtain ⟨p, hp, rfl⟩ := List.mem_map.mp hr
    exact (in1 p hp).2) (by rw [List.length_map, l1]; exact Nat.le_trans (Nat.le_of_lt few) (by decide))
  refine wpAny_bind (wpAny_newList ?_ (by rw [lout, l1, sizeLine_eq]; omega))
  refine wpAny_bind (wpAny_holding (wpAny_mono (sort_new (A := X.A.in1) (bs := L1.map fun p => (V.ref p.1, rowD p.2)) (by show X.A.units + 1 + 64 < cLine; omega) I1 (by rw [bsm, e1]; exact vals_of_refs L1) (fun b hb => ?_) (by rw [bs2]; exact al) (by rw [bs2]; exact so) (fun b hb => ?_) (by rw [List.length_map, l1, sizeLine_eq]; omega) (Q := Q) fun p hp => ?_) (fun _ s' x => ?_) fun _ _ e => e))
  · obtain ⟨p, hp, rfl⟩ := List.mem_map.mp hb
    exact Rp.dp _ _ (rp_row (in1 p hp).1) (dp _ (List.mem_map.mpr ⟨p.2, List.mem_map.mpr ⟨p, hp, rfl⟩, rfl⟩)).1
  · obtain ⟨p, hp, rfl⟩ := List.mem_map.mp hb
    exact (dp _ (List.mem_map.mpr ⟨p.2, List.mem_map.mpr ⟨p, hp, rfl⟩, rfl⟩)).2
  · have m1 : (L1.map fun p : Addr × Row => ((V.ref p.1, rowD p.2) : V × D)).mergeSort bsLe = (L1.mergeSort fun p q => leR p.2 q.2).map fun p => (V.ref p.1, rowD p.2) :=
      (sort_maps (r := fun p q : Addr × Row => leR p.2 q.2) (s := bsLe) (l := L1) (fun p => ((V.ref p.1, rowD p.2) : V × D)) fun p _ q _ => (srtD_row p.2 q.2).symm).symm
    have m2 : (L1.mergeSort fun p q => leR p.2 q.2).map (·.2) = srtR (L1.map (·.2)) := sort_maps (r := fun p q : Addr × Row => leR p.2 q.2) (s := leR) (l := L1) (·.2) fun _ _ _ _ => rfl
    rw [m1, List.map_map]
    have nd1 : (L1.map (·.2)).Nodup := ((p1.map (·.2)).nodup_iff).mpr R.nd
    refine q (L1.mergeSort fun p q => leR p.2 q.2) p ((List.mergeSort_perm _ _).trans p1) ?_ R.nd few hp
    rw [m2]
    exact srtR_perm_eq (p1.map (·.2)) nd1
  · exact wpAny_pure ⟨_, rfl, x⟩
end
/-! ### set comprehensions of rows -/
def putRd (P : Program) (w : World) (K : PySem.W.Frag) : Put := fun H S ys Nx => ∃ (b : Addr) (k : Row) (L : List (Addr × Row)), ys = [V.ref b] ∧ SqT K H b (k.map V.int) ∧ H S = some (SetTO P w S L) ∧ L.length + 1 < 64 ∧ (∀ p ∈ L, SqT K H p.1 (p.2.map V.int)) ∧
  ∀ L' : List (Addr × Row), (k ∈ L.map (·.2) → L' = L) → (k ∉ L.map (·.2) → L'.Perm ((b, k) :: L)) → Nx (upd H S (SetTO P w S L'))
theorem mt_saddR {Y : Cx} (hu : Y.A.units + 64 < cLine) : MtR Y "set.add" (rPut (putRd Y.prog Y.w Y.K)) := by
  rintro pins s σ H x xs v us Q I rx rxs ⟨S, rfl, b, k, L, rfl, hb, hS, few, hL, nx⟩
  obtain rfl : v = Value.ref S := rx
  obtain rfl := Vals.ref1 rxs
  have R0 : SetT0 Y.prog Y.w s.heap S L := (I.hok S _ hS).1
  obtain ⟨es, ep, t, R⟩ := R0.full fun p hp => I.isT (hL p hp)
  obtain ⟨o, ho, hex, hd⟩ := R.ob
  have hk := I.isT hb
  refine wpAny_call_entry PySem.F.slot_set_add ⟨o, ho, hex.1⟩ PySem.F.entry_set_add ?_ (PySem.F.args_set_add_2 _ _)
  unfold Builtin.«set.add» Builtin.Frozenset.oneOther
  simp only [List.isEmpty_nil, bind_assoc]
  unfold Builtin.Frozenset.addrOf setAdd
  refine wpAny_bind (wpAny_pure ?_)
  try dsimp only
  refine wpAny_bind (wpAny_pure ?_)
  try dsimp only
  refine wpAny_bind (wpAny_holding ?_)
  refine wpAny_bind (wpAny_pyHash_tuple (by show Y.A.units + 1 < cLine; omega) hk ?_)
  refine add_at (s := { s with toks := s.toks + (k.length + 1) }) (R.keep (fun o e => e) fun p hp => I.isT (hL p hp)) hk (by show Y.A.units + 1 < cLine; omega) few fun b' h' L' es' ep' t' sb R' c1 c2 => ?_
  refine wpAny_pure ⟨_, rfl, ⟨.non, _, I.write (x := S) (e := S) (t' := s.toks + (k.length + 1)) (by rw [hS]; exact True.intro) (.inl rfl) (fun b u hb hu => (sb.2 b hb).trans hu) ?_ (setTO_new R'.t0), rfl, nx L' c1 c2⟩⟩
  obtain ⟨o', ho', _⟩ := R'.ob
  exact ⟨o', ho'⟩
def RSR (P : Program) (w : World) : Hp → Addr → List Row → HO → Prop := fun G S acc o => ∃ L : List (Addr × Row), o = SetTO P w S L ∧ (L.map (·.2)).Perm acc ∧ acc.Nodup ∧ acc.length < 64 ∧ ∀ p ∈ L, TupF G p.1 (p.2.map V.int)
def addR (acc : List Row) : List D → Option (List Row)
  | [d] => (rowOf d).bind fun r => if acc.length + 1 < 64 then some (if r ∈ acc then acc else acc ++ [r]) else none
  | _ => none
theorem sinkR {P : Program} {w : World} {K : PySem.W.Frag} : Sink K (RSR P w) addR (putRd P w K) where
  mono := fun G G' S acc o gg h => let ⟨L, e, p, nd, few, hL⟩ := h; ⟨L, e, p, nd, few, fun q hq => (hL q hq).mono gg⟩
  put := by
    rintro G H S acc acc' es ys o Nx gh hS ⟨L, rfl, pm, nd, few, hL⟩ re h q
    unfold addR at h
    split at h
    · rename_i d
      cases er : rowOf d with
      | none => rw [er] at h; cases h
      | some r =>
        rw [er, Option.bind_some] at h
        split at h
        · rename_i hf
          cases h
          cases d <;> simp only [rowOf] at er <;> try (cases er; done)
          have e2 := intsOf_eq er
          subst e2
          simp only [Rps, Rp] at re
          obtain ⟨y, _, rfl, ⟨b, vs, rfl, eb, rv⟩, rfl⟩ := re
          rw [rv.ints] at eb
          have ll : L.length = acc.length := by rw [← pm.length_eq, List.length_map]
          refine ⟨b, r, L, rfl, tq gh eb, hS, by rw [ll]; exact hf, fun p hp => tq gh (hL p hp), fun L' c1 c2 => q _ ?_⟩
          by_cases hr : r ∈ acc
          · rw [if_pos hr]
            have := c1 (pm.mem_iff.mpr hr)
            subst this
            exact ⟨L', rfl, pm, nd, few, hL⟩
          · rw [if_neg hr]
            have p2 := c2 fun z => hr (pm.mem_iff.mp z)
            refine ⟨L', rfl, ?_, ?_, by rw [List.length_append]; exact hf, fun p hp => ?_⟩
            · have z := p2.map (·.2)
              rw [List.map_cons] at z
              exact z.trans ((pm.cons r).trans (List.perm_append_comm (l₁ := [r]) (l₂ := acc)))
            · rw [List.nodup_append]
              exact ⟨nd, by simp, fun a ha b hb => by simp at hb; subst hb; exact fun z => hr (z ▸ ha)⟩
            · rcases List.mem_cons.mp (p2.mem_iff.mp hp) with z | z
              · subst z; exact eb
              · exact hL p z
        · cases h
    · cases h
end DL

/-! D25: the rules as one writes them: sorted sets of rows, sorted dicts, extend, slices, two new things at once. -/
namespace DL
open PySem L2

/-! ### a new set of rows -/
def RJ (C : Cc) (X : Cx) (e : Expr) (t : TE) (m : M (List Row)) : Prop := PE X e t ∧ COk C (RSR X.prog X.w) t m
def neR (l : List Row) : Bool := l.all fun r => !r.isEmpty
theorem neR_inv {l : List Row} (h : neR l = true) : ∀ r ∈ l, r ≠ [] := by
  intro r hr
  unfold neR at h
  rw [List.all_eq_true] at h
  have := h r hr
  intro e
  subst e
  cases this
def nSrtR (mz : M (List Row)) : M D := .bind mz fun l => if neR l = true then .pure (.list ((srtR l).map rowD)) else .un
theorem rps_refs {K : Frag} {G : Hp} {L : List (Addr × Row)} {l : List Row} (e : L.map (·.2) = l) (h : ∀ p ∈ L, TupF G p.1 (p.2.map V.int)) : Rps K G (l.map rowD) (L.map fun p => V.ref p.1) := by
  subst e
  exact rps_rows h
section
variable {C : Cc} {X : Cx} {a b c e : Expr} {es : List Expr} {pos p p1 p2 p3 q1 q2 : Pos} {ma mb mc me : M IV} {mas : M (List IV)} {ta tb tc te tz : TE} {tas : TA} {tt : TT} {k : Nat} {s : Stmt} {x : Str}
theorem fj_srtR {mz : M (List Row)} (hp : PE X a tz → PE X e (fun σ H Q => tz σ H fun v H1 => rSortR X.prog X.w [v] H1 Q)) (h : RJ C X a tz mz) : FJ C X e (fun σ H Q => tz σ H fun v H1 => rSortR X.prog X.w [v] H1 Q) (nSrtR mz) := by
  refine ⟨hp h.1, ?_⟩
  intro G H ρ σ Q st q
  refine h.2 G H ρ σ _ st ?_
  unfold nSrtR M.bind at q
  cases em : mz ρ with
  | un => rw [em] at q; exact q
  | exc x ρ1 => rw [em] at q; exact q
  | ok l ρ1 =>
    rw [em] at q
    rintro v G1 H1 s1 st1 sh1 ⟨S, o, rfl, h0, hg, hS, L, rfl, pm, nd, few, hL⟩
    by_cases ne : neR l = true
    case neg => simp only [if_neg ne] at q; exact q.elim
    simp only [if_pos ne] at q
    have nd2 : (L.map (·.2)).Nodup := pm.nodup_iff.mpr nd
    refine ⟨S, L, rfl, hS, fun p hp => ⟨(hL p hp).mono st1.gh, neR_inv ne _ (pm.mem_iff.mp (List.mem_map.mpr ⟨p, hp, rfl⟩))⟩, fun L' p p1 e2 _ _ hp => ?_⟩
    have e3 : L'.map (·.2) = srtR l := by rw [e2]; exact srtR_perm_eq pm nd2
    have hn : H p = none := s1.none_back hp
    refine q (.ref p) G1 _ (s1.trans (Gro.mine st1.gh hp _).stp fun _ z => z) (st1.gro (Gro.mine st1.gh hp _)) sh1 ⟨p, rfl, hn, own_lst (none_of st1.gh hp) (rps_refs e3 fun q hq => hL q (p1.mem_iff.mp hq))⟩
/-- {elt for ..}, elt a row -/
theorem r_sc {tg iter elt : Expr} {ifs : List Expr} {scope : Scope} {own : List (Str × Nat)} {wi : TI} {g : TG} {ts : List Nat} {mi : M (List D)} {pat : D → M Unit} {mt : M Bool} (hr : Room k X.A) (nd : X.N.Nodup) (hi : IJ C X tg iter wi mi) (ok : BlkOk X.N X.env.scope scope own)
    (hg : ∀ s H Ca cl fp, GJ C (Blk X scope s H Ca cl fp) tg g ts pat) (ht : ∀ s H Ca cl fp, TsJ (C0 C) (Blk X scope s H Ca cl fp) ifs tt mt)
    (he : ∀ s H Ca cl fp, EJ (C0 C) (Blk X scope s H Ca cl fp) elt te me) (h2 : ∀ s H Ca cl fp, AJ (C0 C) (Blk X scope s H Ca cl fp) [elt] (tCons te tNil) (dCons me (.pure []))) (hts : ∀ i, i ∈ ts → i ∈ own.map (·.2) := by decide) (hc : X.calm = true := by rfl) (hK : X.K = C.K := by rfl)
    (hs : ∀ x, foldedSetIterable iter X.env x = pure x := by intro _; rfl) :
    RJ C X (.SetComp elt [⟨tg, iter, ifs, 0⟩] scope pos) (tCG (fun S => SetTO X.prog X.w S []) (putRd X.prog X.w C.K) wi g tt (tCons te tNil) (own.map (·.2))) (dCG addR [] mi pat mt (dCons me (.pure [])) (own.map (·.2))) :=
  ⟨by
    rw [← hK]
    exact pe_scG hc nd hi.1 ok (fun s H Ca cl fp => (hg s H Ca cl fp).1) (fun s H Ca cl fp => (ht s H Ca cl fp).1) (fun s H Ca cl fp => (he s H Ca cl fp).1) hs (fun h H => setTO_new (setTR_fresh (Heap.get?_push_size _ rfl)).t0) (fun Y hp hw hk hA => by rw [← hp, ← hw, ← hk]; exact mt_saddR (by rw [hA]; exact room64 hr)),
   ok_cG hi.2 (hg {} (fun _ => none) 0 [] []).2 hts (ht {} (fun _ => none) 0 [] []).2 (h2 {} (fun _ => none) 0 [] []).2 sinkR fun G S => ⟨[], rfl, List.Perm.refl _, List.nodup_nil, by decide, fun p hp => nomatch hp⟩⟩
theorem f_sSCR {mz : M (List Row)} (hr : Room k X.A) (hc : X.calm = true) (hm : X.mg "sorted" = none) (h : RJ C X a tz mz) (hg : Gl X "sorted" := by rfl) (h1 : starEach [a] X.env = (false, eval a X.env) :: starEach [] X.env := by rfl) (h2 : (backTo pos (starEach [] X.env)).any (·.1) = false := by rfl) :
    FJ C X (.Call (.Name "sorted" p) [a] [] pos) (fun σ H Q => tz σ H fun v H1 => rSortR X.prog X.w [v] H1 Q) (nSrtR mz) :=
  fj_srtR (fun pa => pe_callB (cr_sortR hc (room65 hr)) hg hm (by decide +kernel) (pa_cons pa pa_nil h1) (he := h1) (hpl := h2)) h
/-- sorted(set(xs)), rows of any lengths -/
def sortSetU : D → Option (List D)
  | .list l => (rowsOf l).bind fun rs => if neR rs = true ∧ rs.length < 64 then some ((srtR (dedT [] rs)).map rowD) else none
  | _ => none
theorem pf_sortSetU {K : Frag} {P : Program} {w : World} : PNF1 K (fun x H Q => rSetOfT K P w [x] H fun v H2 => rSortR P w [v] H2 Q) sortSetU := by
  intro G H x dd l Q gh rx h k
  cases dd <;> simp only [sortSetU] at h <;> try (cases h; done)
  rename_i l0
  cases e : rowsOf l0 with
  | none => rw [e] at h; cases h
  | some rs =>
    rw [e, Option.bind_some] at h
    split at h
    case isFalse => cases h
    rename_i hc
    obtain ⟨ne, few⟩ := hc
    cases h
    have e2 := rowsOf_eq e
    subst e2
    obtain ⟨a, vs, rfl, ea, r⟩ := rx
    obtain ⟨ks, k1, rfl, k3⟩ := rows_at r
    refine ⟨a, ks, rfl, .inl (.inl ea), fun p hp => tq gh (k3 p hp), by rw [← k1, List.length_map] at few; exact few, fun s L hs sub all => ?_⟩
    have g := Gro.mine gh hs (SetTO P w s L)
    obtain ⟨d1, d2⟩ := dedT_spec rs [] List.nodup_nil
    have mem : ∀ r, r ∈ L.map (·.2) ↔ r ∈ dedT [] rs := fun r => by
      rw [d2 r]
      constructor
      · intro hr
        obtain ⟨q, hq, rfl⟩ := List.mem_map.mp hr
        exact .inr (by rw [← k1]; exact List.mem_map.mpr ⟨q, sub q hq, rfl⟩)
      · rintro (z | z)
        · cases z
        · rw [← k1] at z
          obtain ⟨q, hq, rfl⟩ := List.mem_map.mp z
          exact all q hq
    refine ⟨s, L, rfl, upd_same, fun p hp => ⟨((k3 p (sub p hp)).mono gh).mono g.hh, neR_inv ne _ (by rw [← k1]; exact List.mem_map.mpr ⟨p, sub p hp, rfl⟩)⟩, fun L' p p1 e2 nd _ hp => ?_⟩
    have e3 : L'.map (·.2) = srtR (dedT [] rs) := by
      rw [e2]
      exact asc_ext (srtR_asc nd) (srtR_asc d1) fun r => by rw [mem_srtR, mem_srtR]; exact mem r
    exact k p _ G _ g hp (rps_refs e3 fun q hq => k3 q (sub q (p1.mem_iff.mp hq)))
theorem f_sSetU (hr : Room k X.A) (hc : X.calm = true) (hm : X.mg "sorted" = none) (hm2 : X.mg "set" = none) (ha : EJ C X a ta ma) (hK : X.K = C.K := by rfl) (hg : Gl X "sorted" := by rfl) (hg2 : Gl X "set" := by rfl) (h1 : starEach [a] X.env = (false, eval a X.env) :: starEach [] X.env := by rfl)
    (h2 : starEach [.Call (.Name "set" p1) [a] [] p2] X.env = (false, eval (.Call (.Name "set" p1) [a] [] p2) X.env) :: starEach [] X.env := by rfl) (h3 : (backTo p2 (starEach [] X.env)).any (·.1) = false := by rfl) (h4 : (backTo pos (starEach [] X.env)).any (·.1) = false := by rfl) :
    FJ C X (.Call (.Name "sorted" p) [.Call (.Name "set" p1) [a] [] p2] [] pos) (fun σ H Q => ta σ H fun x H1 => rSetOfT C.K X.prog X.w [x] H1 fun v H2 => rSortR X.prog X.w [v] H2 Q) (nN1 sortSetU ma) :=
  fj_N1 (r := fun x H Q => rSetOfT C.K X.prog X.w [x] H fun v H2 => rSortR X.prog X.w [v] H2 Q) (fun pa => by
    rw [← hK]
    exact pe_callB (cr_sortR hc (room65 hr)) hg hm (by decide +kernel) (pa_cons (pe_callTy (cr_setOfT hc (room64 hr)) hg2 hm2 (by decide +kernel) (pa_cons pa pa_nil h1) (he := h1) (hpl := h3)) pa_nil h2) (he := h2) (hpl := h4)) pf_sortSetU ha
/-! ### sorted(d), keys tuples -/
def sortKeysN : D → Option (List D)
  | .dict ((.none, .none) :: l) => if okSort (l.map (·.1)) = true then some ((l.map (·.1)).mergeSort srtD) else none
  | _ => none
theorem RpT.refs {K : Frag} {G : Hp} : ∀ {l : List (D × D)} {kvs : List (NK × Addr × V)}, RpT K G l kvs → Rps K G (l.map (·.1)) (kvs.map fun y => V.ref y.2.1)
  | [], kvs, h => by simp only [RpT] at h; subst h; simp only [List.map_nil, Rps]
  | p :: l, kvs, h => by
    simp only [RpT] at h
    obtain ⟨k1, b, v, r, rfl, h1, h4, h2, h3⟩ := h
    simp only [List.map_cons, Rps]
    exact ⟨_, _, rfl, h4, h3.refs⟩
theorem rps_sorted {K : Frag} {G : Hp} {l : List D} {vs : List V} (r : Rps K G l vs) : Rps K G (l.mergeSort srtD) (((vs.zip l).mergeSort bsLe).map (·.1)) := by
  obtain ⟨z1, z2, z3⟩ := r.zip
  have e2 : ((vs.zip l).mergeSort bsLe).map (·.2) = l.mergeSort srtD := by
    have q := PySem.W.sort_maps (r := bsLe) (s := srtD) (l := vs.zip l) Prod.snd (fun _ _ _ _ => rfl)
    rw [show (vs.zip l).map Prod.snd = l from z2] at q
    exact q
  rw [← e2]
  exact Rps.of_zip fun b hb => z3 b ((List.mergeSort_perm _ _).mem_iff.mp hb)
theorem pf_sortN {K : Frag} : PNF1 K (fun x H Q => rSortN K [x] H Q) sortKeysN := by
  intro G H x dd l Q gh rx h k
  unfold sortKeysN at h
  split at h
  case h_2 => cases h
  rename_i l0
  split at h
  case isFalse => cases h
  rename_i ok
  cases h
  obtain ⟨al, so, pl, len⟩ := okSort_inv ok
  obtain ⟨a, rfl, q⟩ := rx
  rcases q with ⟨kvs, e, r⟩ | ⟨kvs, e, r⟩ | ⟨ns, e, _⟩
  · simp only [RpK, KeyD] at r
    obtain ⟨_, _, _, _, z, _⟩ := r
    exact z.elim
  · simp only [RpTM] at r
    have rr := r.2.2.refs
    obtain ⟨z1, z2, z3⟩ := rr.zip
    refine ⟨a, kvs, (kvs.map fun y => V.ref y.2.1).zip (l0.map (·.1)), rfl, e, z1, fun b hb => ?_, by rw [z2]; exact al, by rw [z2]; exact so, fun b hb => ?_, fun p hp => k p _ G H (Gro.refl gh) hp (rps_sorted rr)⟩
    · have hm : b.2 ∈ l0.map (·.1) := by rw [← z2]; exact List.mem_map.mpr ⟨b, hb, rfl⟩
      exact Rp.dp _ _ (Rp.mono gh _ _ (z3 b hb)) (pl b.2 hm).1
    · have hm : b.2 ∈ l0.map (·.1) := by rw [← z2]; exact List.mem_map.mpr ⟨b, hb, rfl⟩
      exact (pl b.2 hm).2
  · cases e
theorem f_srtN (hr : Room k X.A) (hc : X.calm = true) (hm : X.mg "sorted" = none) (ha : EJ C X a ta ma) (hK : X.K = C.K := by rfl) (hg : Gl X "sorted" := by rfl) (h1 : starEach [a] X.env = (false, eval a X.env) :: starEach [] X.env := by rfl) (h2 : (backTo pos (starEach [] X.env)).any (·.1) = false := by rfl) :
    FJ C X (.Call (.Name "sorted" p) [a] [] pos) (fun σ H Q => ta σ H fun x H1 => rSortN C.K [x] H1 Q) (nN1 sortKeysN ma) :=
  fj_N1 (r := fun x H Q => rSortN C.K [x] H Q) (fun pa => by
    rw [← hK]
    exact pe_callB (cr_sortN hc (room65 hr)) hg hm (by decide +kernel) (pa_cons pa pa_nil h1) (he := h1) (hpl := h2)) pf_sortN ha
end
end DL

/-! D26: d.values() sorted, extend, slices, two new things at once, a list comprehension kept as one's own. -/
namespace DL
open PySem L2

/-! ### sorted(d.values()) -/
def valsO (p d : Addr) : HO := .ext fun h => h.IsValuesView p d
theorem valsO_ok {P : Program} {w : World} {H : Hp} {h : Heap} {p d : Addr} (e : h.get? p = some { cls := .type "dict_values", data := .fields #[.ref d] }) : ObjOk P w H h p (valsO p d) :=
  ⟨⟨_, e, rfl, rfl⟩, ⟨_, e⟩, fun h1 h2 x k => let ⟨o, ho, r⟩ := x; ⟨o, k o ho, r⟩⟩
def rVals : V → List V → Hp → VK → Prop := fun x xs H Q => ∃ (a : Addr) (kvs : List (Key × V)), x = .ref a ∧ xs = [] ∧ H a = some (.dK kvs) ∧ ∀ p, H p = none → Q (.ref p) (upd H p (valsO p a))
section
variable {X : Cx}
theorem mt_vals : MtR X "dict.values" rVals := by
  rintro pins s σ H x xs v us Q I rx rxs ⟨a, kvs, rfl, rfl, ha, q⟩
  obtain rfl : v = Value.ref a := rx
  cases rxs
  obtain ⟨z, lo, vs, rk, hd⟩ := dk_of I.hok ha
  have J := I.laid (a := s.heap.objs.size) (o := valsO s.heap.objs.size a) (t' := s.toks) (fun _ _ e => Heap.get?_push_of_some _ e) (Nat.le_refl _) (valsO_ok (Heap.get?_push_size _ rfl))
  exact call_meetsIn PySem.F.slot_dict_values hd.typeIs PySem.F.entry_dict_values (PySem.F.args_dict_values_1 _) (meets_dict_values (mixKind X.prog X.w) a lo) ⟨⟨vs, hd⟩, ⟨.ref s.heap.objs.size, _, J, rfl, q _ (I.hok.fresh (Nat.le_refl _))⟩⟩
def rSortV (K : Frag) : List V → Hp → VK → Prop := fun vs H Q => ∃ (p a : Addr) (kvs : List (Key × V)) (bs : List (V × D)), vs = [V.ref p] ∧ H p = some (valsO p a) ∧ H a = some (.dK kvs) ∧ bs.map (·.1) = kvs.map (·.2) ∧ (∀ b ∈ bs, Dp K H b.1 b.2) ∧ PySem.W.AllAlike (bs.map (·.2)) ∧ PySem.W.Sortable (bs.map (·.2)) ∧
  (∀ b ∈ bs, b.2.depth ≤ 60) ∧ ∀ p, H p = none → Q (.ref p) (upd H p (.lst ((bs.mergeSort bsLe).map (·.1))))
theorem cr_sortV (hc : X.calm = true) (room : X.A.units + 65 < cLine) : CallR X (.builtin "sorted") (rSortV X.K) := by
  rintro pins s σ H vs us Q I r ⟨p, a, kvs, bs, rfl, hp, ha, hb, hd, al, so, dp, q⟩
  rw [Vals.ref1 r]
  obtain ⟨z, lo, ws, rk, hD⟩ := dk_of I.hok ha
  obtain ⟨ep, hat⟩ := hD.dictAt
  have view : s.heap.IsValuesView p a := (show ObjOk X.prog X.w H s.heap p (valsO p a) from I.hok p _ hp).1
  have lw : kvs.length = ws.length := Paired.length rk
  have lb : bs.length = kvs.length := by have := congrArg List.length hb; simpa using this
  refine sorted_src (bs := bs) hc room I (PySem.W.kdl_values (knd := mixKind X.prog X.w) (kvs := ws) (ep := ep) (r := p) (d := a)) ⟨view, hat⟩ (by omega) (by omega) (fun j u hj => ?_) hd al so dp q
  obtain ⟨k, hk⟩ := hj
  have hj' : j < ws.length := (List.getElem?_eq_some_iff.mp hk).1
  have ejb : bs[j]? = some bs[j] := List.getElem?_eq_getElem (by omega)
  refine ⟨bs[j], ejb, ?_⟩
  have h1 : (bs.map (·.1))[j]? = some bs[j].1 := by rw [List.getElem?_map, ejb]; rfl
  rw [hb, List.getElem?_map] at h1
  obtain ⟨y, hy, ey⟩ := Option.map_eq_some_iff.mp h1
  obtain ⟨w', hw', k1, k2⟩ := L2.paired_get rk hy
  rw [hk] at hw'
  cases hw'
  rw [← ey]
  exact k2
end
def sortVals : D → Option (List D)
  | .dict l => if isT l = false ∧ scrOnly (.dict l) = false ∧ okSort (l.map (·.2)) = true then some ((l.map (·.2)).mergeSort srtD) else none
  | _ => none
theorem RpK.vals {K : Frag} {G : Hp} : ∀ {l : List (D × D)} {kvs : List (Key × V)}, RpK K G l kvs → Rps K G (l.map (·.2)) (kvs.map (·.2))
  | [], kvs, h => by simp only [RpK] at h; subst h; simp only [List.map_nil, Rps]
  | p :: l, kvs, h => by
    simp only [RpK] at h
    obtain ⟨k1, v, r, rfl, h1, h2, h3⟩ := h
    simp only [List.map_cons, Rps]
    exact ⟨_, _, rfl, h2, h3.vals⟩
theorem pf_sortV {K : Frag} : PNF1 K (fun x H Q => (∃ a, x = .ref a ∧ ∃ kvs, H a = some (.dK kvs)) ∧ rVals x [] H fun v H1 => rSortV K [v] H1 Q) sortVals := by
  intro G H x dd l Q gh rx h k
  unfold sortVals at h
  split at h
  case h_2 => cases h
  rename_i l0
  split at h
  case isFalse => cases h
  rename_i hc
  obtain ⟨h1, h2, ok⟩ := hc
  cases h
  obtain ⟨al, so, pl, len⟩ := okSort_inv ok
  obtain ⟨a, rfl, q⟩ := dict_kind rx (fun _ => h2)
  rw [if_neg (by rw [h1]; exact Bool.false_ne_true)] at q
  obtain ⟨kvs, e, r⟩ := q
  refine ⟨⟨a, rfl, kvs, e⟩, a, kvs, rfl, rfl, e, fun p hp => ?_⟩
  have g := Gro.mine gh hp (valsO p a)
  have rr := (r.mono g.gg).vals
  obtain ⟨z1, z2, z3⟩ := rr.zip
  refine ⟨p, a, kvs, (kvs.map (·.2)).zip (l0.map (·.2)), rfl, upd_same, g.hh _ _ e, z1, fun b hb => ?_, by rw [z2]; exact al, by rw [z2]; exact so, fun b hb => ?_, fun q hq => k q _ G _ g hq (rps_sorted rr)⟩
  · have hm : b.2 ∈ l0.map (·.2) := by rw [← z2]; exact List.mem_map.mpr ⟨b, hb, rfl⟩
    exact Rp.dp _ _ (Rp.mono g.gh _ _ (z3 b hb)) (pl b.2 hm).1
  · have hm : b.2 ∈ l0.map (·.2) := by rw [← z2]; exact List.mem_map.mpr ⟨b, hb, rfl⟩
    exact (pl b.2 hm).2
/-! ### xs.extend(ys) -/
def extF : D → List D → Option (D × D)
  | .list l, [.list m] => if l.length + m.length ≤ LIM then some (.none, .list (l ++ m)) else none
  | _, _ => none
theorem pm_extend {K : Frag} : PM K rExtend extF := by
  intro G H a d xs ds c d' Q gh oa rs h k
  unfold extF at h
  split at h
  · rename_i l m
    split at h
    · rename_i hl
      cases h
      obtain ⟨gn, vs, e, r⟩ := oa
      simp only [Rps, Rp] at rs
      obtain ⟨y, _, rfl, ⟨b, ws, rfl, eb, rb⟩, rfl⟩ := rs
      exact ⟨a, b, vs, ws, rfl, rfl, e, gh _ _ eb, by rw [← r.length, ← rb.length]; exact Nat.le_trans hl lim_le, k _ _ (by simp only [Rp]) (own_lst gn (r.append rb))⟩
    · cases h
  · cases h
/-! ### slices -/
def cutD (l : List D) (lo hi : Option Int) : List D := (l.drop (HT.sIx l.length 0 lo)).take (HT.sIx l.length l.length hi - HT.sIx l.length 0 lo)
theorem Rps.drop {K : Frag} {G : Hp} : ∀ {l : List D} {vs : List V} (n : Nat), Rps K G l vs → Rps K G (l.drop n) (vs.drop n)
  | _, _, 0, h => h
  | [], _, n + 1, h => by simp only [Rps] at h; subst h; simp only [List.drop_nil, Rps]
  | d :: l, _, n + 1, h => by
    simp only [Rps] at h
    obtain ⟨v, r, rfl, _, h⟩ := h
    exact Rps.drop n h
theorem Rps.take {K : Frag} {G : Hp} : ∀ {l : List D} {vs : List V} (n : Nat), Rps K G l vs → Rps K G (l.take n) (vs.take n)
  | _, _, 0, h => by simp only [List.take_zero, Rps]
  | [], _, n + 1, h => by simp only [Rps] at h; subst h; simp only [List.take_nil, Rps]
  | d :: l, _, n + 1, h => by
    simp only [Rps] at h
    obtain ⟨v, r, rfl, q, h⟩ := h
    simp only [List.take_succ_cons, Rps]
    exact ⟨_, _, rfl, q, Rps.take n h⟩
theorem Rps.cut {K : Frag} {G : Hp} {l : List D} {vs : List V} (h : Rps K G l vs) (lo hi : Option Int) : Rps K G (cutD l lo hi) (cutV vs lo hi) := by
  unfold cutD cutV
  rw [h.length]
  exact (h.drop _).take _
/-- what a part of a slice means -/
def POk (C : Cc) (t : TO) (m : M (Option Int)) : Prop := MOk C (fun _ _ _ _ a b => b = a) t m
def PJ (C : Cc) (X : Cx) (o : Option Expr) (t : TO) (m : M (Option Int)) : Prop := PO X o t ∧ POk C t m
def dPart (me : M IV) : M (Option Int) := .bind me fun a => .bind (.now a) fun x => .bind (.opt (intOf x)) fun i => .pure (some i)
def sliceD : D → Option Int → Option Int → Option D
  | .list l, lo, hi => some (.list (cutD l lo hi))
  | .tuple l, lo, hi => if HT.sIx l.length 0 lo = 0 ∧ HT.sIx l.length l.length hi = l.length then some (.tuple l) else some (.tuple (cutD l lo hi))
  | _, _, _ => none
def dSlice (me : M IV) (ml mh : M (Option Int)) : M IV := .bind me fun a => .bind ml fun lo => .bind mh fun hi => .bind (.now a) fun x => .bind (.opt (sliceD x lo hi)) fun c => .pure (.val c)
section
variable {C : Cc} {X : Cx} {a b c e : Expr} {es : List Expr} {pos p p1 p2 p3 q1 q2 : Pos} {ma mb mc me : M IV} {mas : M (List IV)} {ta tb tc te tz : TE} {tas : TA} {tt : TT} {k : Nat} {s : Stmt} {x : Str}
theorem pj_no : PJ C X none tNoPart (.pure none) := ⟨po_none, fun G H ρ σ Q st h => h none G H Stp.refl st (Sh.refl ρ) rfl⟩
theorem pj_some (h : EJ C X e te me) : PJ C X (some e) (tPart te) (dPart me) := by
  refine ⟨po_some h.1, ?_⟩
  intro G H ρ σ Q st q
  show te σ H _
  refine bindT h.2 st q fun av ρ1 y G1 H1 s1 st1 sh1 r1 h1 => ?_
  obtain ⟨d, rd, h2⟩ := post_now st1 r1 h1
  obtain ⟨i, ei, h3⟩ := post_opt h2
  cases d <;> simp only [intOf] at ei <;> try (cases ei; done)
  cases ei
  simp only [Rpt] at rd
  subst rd
  exact ⟨_, rfl, h3 _ _ _ Stp.refl st1 (Sh.refl _) rfl⟩
def rSlD (K : Frag) : V → Option Int → Option Int → Hp → VK → Prop := fun x lo hi H Q => rSlL K x lo hi H Q ∨ rSlF K x lo hi H Q
theorem sl_D : SlR X (rSlD X.K) := by
  intro pins s σ H x v vl vu lo hi sl Q I rx hs pl pu h
  rcases h with h | h
  · exact sl_list pins s σ H x v vl vu lo hi sl Q I rx hs pl pu h
  · exact sl_tupF pins s σ H x v vl vu lo hi sl Q I rx hs pl pu h
theorem x_slice {lo hi : Option Expr} {tl th : TO} {ml mh : M (Option Int)} (he : EJ C X e te me) (hl : PJ C X lo tl ml) (hh : PJ C X hi th mh) (hK : X.K = C.K := by rfl) : EJ C X (.Subscript e (.Slice lo hi none p2) pos) (tSl (rSlD C.K) te tl th) (dSlice me ml mh) := by
  refine ⟨by rw [← hK]; exact pe_slice sl_D he.1 hl.1 hh.1, ?_⟩
  intro G H ρ σ Q st q
  show te σ H _
  refine bindT he.2 st q fun av ρ1 y G1 H1 s1 st1 sh1 r1 h1 => ?_
  refine bindT hl.2 st1 h1 fun lo' ρ2 l2 G2 H2 s2 st2 sh2 r2 h2 => ?_
  refine bindT hh.2 st2 h2 fun hi' ρ3 u3 G3 H3 s3 st3 sh3 r3 h3 => ?_
  subst r2 r3
  obtain ⟨d, rd, h4⟩ := post_now st3 (IvOk.step (IvOk.step r1 s2.gg sh2) s3.gg sh3) h3
  obtain ⟨c, ec, h5⟩ := post_opt h4
  have kt := kt_of st3 h5
  cases d <;> simp only [sliceD] at ec <;> try (cases ec; done)
  · cases ec
    obtain ⟨a, vs, rfl, e1, r⟩ := rd
    exact .inl ⟨a, vs, rfl, .inl (.inl e1), fun p hp => kt.new_lst st3.gh (r.cut _ _) hp⟩
  · rename_i l
    obtain ⟨a, vs, rfl, e1, r⟩ := id rd
    have ln := r.length
    refine .inr ⟨a, vs, rfl, tq st3.gh e1, fun w => ?_, fun w => ?_⟩
    · rw [← ln] at w
      rw [if_pos w] at ec
      cases ec
      exact kt.at st3.gh (by simp only [Rp]; exact rd)
    · rw [← ln] at w
      rw [if_neg w] at ec
      cases ec
      exact kt.new_tup st3.gh (r.cut _ _)
theorem f_srtV (hr : Room k X.A) (hc : X.calm = true) (hm : X.mg "sorted" = none) (ha : EJ C X a ta ma) (hK : X.K = C.K := by rfl) (hg : Gl X "sorted" := by rfl) (hbase : attributeBase a "values" X.env (eval a X.env) = eval a X.env := by rfl) (hline : (p1.endLine == p2.line) = true := by rfl)
    (h1 : starEach [.Call (.Attribute a "values" p1) [] [] p2] X.env = (false, eval (.Call (.Attribute a "values" p1) [] [] p2) X.env) :: starEach [] X.env := by rfl) (h2 : (backTo pos (starEach [] X.env)).any (·.1) = false := by rfl) :
    FJ C X (.Call (.Name "sorted" p) [.Call (.Attribute a "values" p1) [] [] p2] [] pos) (fun σ H Q => ta σ H fun x H1 => (∃ a, x = .ref a ∧ ∃ kvs, H1 a = some (.dK kvs)) ∧ rVals x [] H1 fun v H2 => rSortV C.K [v] H2 Q) (nN1 sortVals ma) :=
  fj_N1 (r := fun x H Q => (∃ a, x = .ref a ∧ ∃ kvs, H a = some (.dK kvs)) ∧ rVals x [] H fun v H1 => rSortV C.K [v] H1 Q) (fun pa => by
    rw [← hK]
    have pv : PE X (.Call (.Attribute a "values" p1) [] [] p2) (fun σ H Q => ta σ H fun x H1 => (∃ a, x = .ref a ∧ ∃ kvs, H1 a = some (.dK kvs)) ∧ rVals x [] H1 Q) := by
      constructor
      intro pins s σ H Q I h
      refine wpAny_Call_method0_late hbase hline (thn (pa.run pins s σ H _ I h) fun v s1 ⟨y, H1, I1, r1, ⟨a', ey, kvs, e'⟩, q1⟩ => ?_)
      subst ey
      obtain ⟨z1, z2⟩ := tyV_is (T := "dict") I1 r1 (.inr (.inr (.inl ⟨rfl, .inl ⟨kvs, e'⟩⟩)))
      exact ⟨"dict", "dict.values", PySem.F.plainAttrs_dict, PySem.F.slot_dict_values, PySem.F.type_dict_values, z1, z2, Calls.callWith_builtin rfl (PySem.evalArgs_none (mt_vals pins s1 σ H1 _ [] v [] Q I1 r1 .nil q1))⟩
    exact pe_callB (cr_sortV hc (room65 hr)) hg hm (by decide +kernel) (pa_cons pv pa_nil h1) (he := h1) (hpl := h2)) pf_sortV ha
theorem x_extend {o : Expr} {to : TE} {mo : M IV} (ho : EJ C X o to mo) (ha : AJ C X [e] tas mas) (hK : X.K = C.K := by rfl) (hbase : attributeBase o "extend" X.env (eval o X.env) = eval o X.env := by rfl)
    (hfew : ((backTo pos (starEach [e] X.env)).all (fun x => !x.1) && (backToKw pos (keywordEach [] X.env)).all (fun x => x.1.isSome) && decide (([e] : List Expr).length + ([] : List Keyword).length + (if ([] : List Keyword).isEmpty then 0 else 1) < 30)) = true := by rfl)
    (hline : (p.endLine == pos.line) = true := by rfl) (hs : starEach [e] X.env = (false, eval e X.env) :: starEach [] X.env := by rfl) (hplain : (backTo pos (starEach [] X.env)).any (·.1) = false := by rfl) :
    EJ C X (.Call (.Attribute o "extend" p) [e] [] pos) (tBM C.K "list" rExtend to tas) (dMut extF mo mas) :=
  ej_mut (fun po pa => by rw [← hK]; exact pe_bm PySem.F.plainAttrs_list PySem.F.slot_list_extend PySem.F.type_list_extend mt_extend po pa hbase hfew hline hs hplain) pm_extend ho ha
/-! ### x, y = two new things -/
def sParFF (i j : Nat) (ma mb : M D) : SM := .bind ma fun d => .bind mb fun e => sSeq (putOwn i d) (putOwn j e)
theorem ok_parFF {C : Cc} {ta tb : TE} {ma mb : M D} (i j : Nat) (ha : FOk C ta ma) (hb : FOk C tb mb) : SOk C (tPar i j (tCons ta (tCons tb tNil))) (sParFF i j ma mb) := by
  intro G0 H0 B G H ρ σ D en q
  show ta σ H fun x H1 => tb σ H1 fun y H2 => ∃ v w, [x, y] = [v, w] ∧ D.nx ((σ.set i (some v)).set j (some w)) H2
  refine bindF ha en q fun d ρ1 a1 G1 H1 en1 oa1 hn1 no1 q1 => ?_
  refine hb G1 H1 ρ1 σ _ en1.st ?_
  unfold M.bind at q1
  cases e2 : mb ρ1 with
  | un => rw [e2] at q1; exact q1
  | exc x ρ2 =>
    rw [e2] at q1
    exact fun c dx G' H' s st sh xr => q1 c dx σ G' H' (en1.step s st sh) xr
  | ok e ρ2 =>
    rw [e2] at q1
    rintro y G2 H2 s2 st2 sh2 ⟨a2, rfl, hn2, oa2⟩
    have en2 := en1.step s2 st2 sh2
    have ne : a1 ≠ a2 := fun z => oa1.there (z ▸ hn2)
    have oa1' := oa1.step s2.gg (s2.nf a1 oa1.there oa1.1) fun o e => s2.fr a1 o e no1
    have h01 : H0 a1 = none := by
      cases z : H0 a1 with
      | none => rfl
      | some o => exact (en.tr a1 (ne_none_of z) hn1).elim
    have h02 : H0 a2 = none := by
      cases z : H0 a2 with
      | none => rfl
      | some o => exact (en1.tr a2 (ne_none_of z) hn2).elim
    have no1' : ¬ Ow ρ2 σ a1 := fun z => no1 (sh2.symm.ow z)
    have no2' : ¬ Ow ρ2 σ a2 := fun z => Ow.there en1.st (sh2.symm.ow z) hn2
    refine ⟨.ref a1, .ref a2, rfl, ?_⟩
    have q2 : SPost C G0 H0 B D (sSeq (putOwn i d) (putOwn j e) ρ2) := q1
    unfold sSeq M.bind putOwn at q2
    by_cases hbi : isBor ρ2[i]? = true
    · rw [if_pos hbi] at q2; exact q2.elim
    · rw [if_neg hbi] at q2
      simp only at q2
      obtain ⟨w1, w2⟩ := isBor_no hbi
      have en3 := en2.putOwn oa1' h01 no1' w1 w2
      by_cases hbj : isBor (ρ2.set i (some (.own d)))[j]? = true
      · rw [if_pos hbj] at q2; exact q2.elim
      · rw [if_neg hbj] at q2
        obtain ⟨z1, z2⟩ := isBor_no hbj
        refine q2 _ G2 H2 (en3.putOwn oa2 h02 ?_ z1 z2)
        rintro ⟨l, s, y1, y2, y3⟩
        by_cases hl : l = i
        · subst hl
          have len : σ.length = ρ2.length := en2.st.len.symm
          rw [List.getElem?_set_self (by rw [len]; exact w1)] at y3
          cases y3
          exact ne rfl
        · rw [List.getElem?_set_ne (Ne.symm hl)] at y1 y3
          exact no2' ⟨l, s, y1, y2, y3⟩
theorem s_parFF {kt k2 : Nat} {y : Str} {mf mg : M D} (i j : Nat) (nd : X.N.Nodup) (ha : FJ C X a ta mf) (hb : FJ C X b tb mg) (hc : X.calm = true := by rfl) (hi : X.N[i]? = some x := by rfl) (hj : X.N[j]? = some y := by rfl) (hij : i ≠ j := by decide)
    (hx : X.env.scope.names.lookup x = some .local := by rfl) (hy : X.env.scope.names.lookup y = some .local := by rfl) (h1 : starEach [a, b] X.env = (false, eval a X.env) :: starEach [b] X.env := by rfl) (h2 : starEach [b] X.env = (false, eval b X.env) :: starEach [] X.env := by rfl)
    (hw : swappedStores [.Tuple [.Name x p1, .Name y p2] kt p] (.Tuple [a, b] k2 p3) X.env = pure (some [x, y]) := by rfl) (hs : swapsWithSole [.Tuple [.Name x p1, .Name y p2] kt p] (.Tuple [a, b] k2 p3) pos.line X.env = pure false := by rfl) :
    SJ C X (.Assign [.Tuple [.Name x p1, .Name y p2] kt p] (.Tuple [a, b] k2 p3) pos) (tPar i j (tCons ta (tCons tb tNil))) (sParFF i j mf mg) :=
  ⟨ps_par hc nd hi hj hij hx hy (pa_cons ha.1 (pa_cons hb.1 pa_nil h2) h1) hw hs, ok_parFF i j ha.2 hb.2⟩
/-- name = [..] on one line, kept as one's own -/
theorem s_setLcO {tg iter elt : Expr} {ifs : List Expr} {scope : Scope} {own : List (Str × Nat)} {wi : TI} {g : TG} {ts : List Nat} {mi : M (List D)} {pat : D → M Unit} {mt : M Bool} {y : Str} {spos : Pos} (i : Nat) (nd : X.N.Nodup) (hi : IJ C X tg iter wi mi) (ok : BlkOk X.N X.env.scope scope own)
    (hg : ∀ s H Ca cl fp, GJ C (Blk X scope s H Ca cl fp) tg g ts pat) (ht : ∀ s H Ca cl fp, TsJ (C0 C) (Blk X scope s H Ca cl fp) ifs tt mt)
    (he : ∀ s H Ca cl fp, EJ (C0 C) (Blk X scope s H Ca cl fp) elt te me) (hts : ∀ i, i ∈ ts → i ∈ own.map (·.2) := by decide) (hc : X.calm = true := by rfl) (hs : ∀ x, foldedSetIterable iter X.env x = pure x := by intro _; rfl)
    (hy : X.N[i]? = some y := by rfl) (hyl : X.env.scope.names.lookup y = some .local := by rfl) (hsw : swapsWith (.ListComp elt [⟨tg, iter, ifs, 0⟩] scope pos) (some (.Name y p)) spos.line X.env = pure true := by exact sw_true rfl rfl rfl (by decide +kernel)) :
    SJ C X (.Assign [.Name y p] (.ListComp elt [⟨tg, iter, ifs, 0⟩] scope pos) spos) (tAsg (tLc wi g tt te (own.map (·.2))) (gName i)) (sSetO i (dLc mi pat mt me (own.map (·.2)))) :=
  sj_setO i (fun _ => ps_setLc hc nd hy hyl hsw hi.1 ok (fun s H Ca cl fp => (hg s H Ca cl fp).1) (fun s H Ca cl fp => (ht s H Ca cl fp).1) (fun s H Ca cl fp => (he s H Ca cl fp).1) hs) (f_lc (pos := pos) nd hi ok hg ht he hts hc hs)
/-- {e: v} -/
def nDisp1 (mk mv : M IV) : M D := .bind mk fun a => .bind (.keep a) fun k => .bind mv fun b => .bind (.keep b) fun v => if tupK k = true then .pure (.dict [(.none, .none), (k, v)]) else .un
theorem f_disp1 (hr : Room k X.A) (ha : EJ C X a ta ma) (hb : EJ C X b tb mb) : FJ C X (.Dict [some a] [b] pos) (tDisp1 ta tb) (nDisp1 ma mb) := by
  refine ⟨pe_disp1 (room64 hr) ha.1 hb.1, ?_⟩
  intro G H ρ σ Q st q S hS
  have g0 := Gro.mine st.gh hS (DNo S [])
  have st0 := st.gro g0
  have noS : ∀ ρ', Sh ρ ρ' → ¬ Ow ρ' σ S := fun ρ' sh z => Ow.there st (sh.symm.ow z) hS
  have neS : ∀ a o, H a = some o → a ≠ S := fun a o h => ne_of_none h hS
  have gS : G S = none := none_of st.gh hS
  have cS : upd H S (DNo S []) S ≠ none := by rw [upd_same]; exact fun z => nomatch z
  have back : ∀ {G1 H1}, Stp G (upd H S (DNo S [])) G1 H1 (Ow ρ σ) → Stp G H G1 H1 (Ow ρ σ) := fun s => (g0.stp (ow := Ow ρ σ)).trans s fun _ z => z
  unfold nDisp1 M.bind at q
  refine ha.2 G (upd H S (DNo S [])) ρ σ _ st0 ?_
  cases em : ma ρ with
  | un => rw [em] at q; exact q.elim
  | exc x ρ1 => rw [em] at q; exact fun c dx G' H' s1 st1 sh1 xr => q c dx G' H' (back s1) st1 sh1 xr
  | ok av ρ1 =>
  rw [em] at q
  intro x G1 H1 s1 st1 sh1 r1
  cases av with
  | sl i => exact q.elim
  | val kd =>
  refine hb.2 G1 H1 ρ1 σ _ st1 ?_
  have q : Post C (RF C.K H) G H ρ σ (M.bind mb (fun b => .bind (.keep b) fun v => if tupK kd = true then .pure (.dict [(.none, .none), (kd, v)]) else .un) ρ1) Q := q
  unfold M.bind at q
  cases en : mb ρ1 with
  | un => rw [en] at q; exact q.elim
  | exc x ρ2 => rw [en] at q; exact fun c dx G' H' s2 st2 sh2 xr => q c dx G' H' ((back s1).trans s2 fun _ z => sh1.symm.ow z) st2 (sh1.trans sh2) xr
  | ok bv ρ2 =>
  rw [en] at q
  intro y G2 H2 s2 st2 sh2 r2
  cases bv with
  | sl i => exact q.elim
  | val vd =>
  have q : Post C (RF C.K H) G H ρ σ ((if tupK kd = true then M.pure (.dict [(.none, .none), (kd, vd)]) else M.un) ρ2) Q := q
  have e1 : H1 S = some (DNo S []) := s1.fr S _ upd_same (noS ρ (Sh.refl ρ))
  have e2 : H2 S = some (DNo S []) := s2.fr S _ e1 (noS ρ1 sh1)
  have g1 : G1 S = none := s1.nf S cS gS
  have g2 : G2 S = none := s2.nf S (ne_none_of e1) g1
  by_cases hk : tupK kd = true
  case neg => rw [if_neg hk] at q; exact q.elim
  rw [if_pos hk] at q
  have rk : Rp C.K G1 kd x := r1
  have rv : Rp C.K G2 vd y := r2
  obtain ⟨b', kk, hkk, rfl, eb⟩ := tupK_key hk (Rp.mono s2.gg _ _ rk)
  have noS2 := noS ρ2 (sh1.trans sh2)
  have oa : OwnAt C.K G2 (upd H2 S (DNo S (putN [] kk b' y))) (.dict [(.none, .none), (kd, vd)]) S := own_n g2 upd_same (by
    simp only [RpT, putN, vAtN]
    exact ⟨kk, b', y, [], rfl, hkk, Rp.mono s2.gg _ _ rk, rv, rfl⟩)
  have s12 := (back s1).trans s2 fun _ z => sh1.symm.ow z
  refine ⟨e2, _, ⟨[], kk, b', e2, (fun z hz => absurd hz List.not_mem_nil), rfl, ⟨hkk.2.1, hkk.2.2.1⟩, KeyV.mono st2.gh _ _ eb, by rw [PySem.sizeLine_eq]; show 0 < _; decide, rfl⟩, ?_⟩
  refine q (.ref S) G2 _ ⟨s12.gg, s12.nf, fun a o e n => ?_, fun a z => ?_⟩ ⟨fun a o z => ?_, st2.len, fun j s z => ?_, st2.dis⟩ (sh1.trans sh2) ⟨S, rfl, hS, oa⟩
  · rw [upd_ne (neS a o e)]; exact s12.fr a o e n
  · by_cases ha : a = S
    · subst ha; exact (z hS).elim
    · rw [upd_ne ha]; exact s12.tr a z
  · rw [upd_ne (ne_of_none z g2)]; exact st2.gh a o z
  · obtain ⟨v, ev, ok⟩ := st2.slot j s z
    refine ⟨v, ev, ?_⟩
    cases ms : s.isM with
    | false =>
      cases s with
      | dat d => exact ok
      | own d => cases ms
      | bor d => cases ms
    | true =>
      obtain ⟨a, rfl, oa'⟩ := ok.m ms
      have ha : a ≠ S := fun w => noS2 ⟨j, s, z, ms, by rw [← w]; exact ev⟩
      exact SlOk.of_m ms (oa'.step (Same.refl _) oa'.1 fun o w => by rw [upd_ne ha]; exact w)
end
end DL

/-! D27: len(set(xs)) of ints. -/
namespace DL
open PySem L2

def rLenS (w : World) : List V → Hp → VK → Prop := fun vs H Q => ∃ (a : Addr) (S : Int → Bool) (n : Nat), vs = [V.ref a] ∧ H a = some (SetO w a S n) ∧ Q (.int n) H
theorem cr_lenS {X : Cx} : CallR X (.builtin "len") (rLenS X.w) := by
  rintro pins s σ H vs us Q I r ⟨a, S, n, rfl, ha, q⟩
  rw [Vals.ref1 r]
  obtain ⟨o, es, ep, t, ho, hex, hd, _, _, _, hb, hf, hn, _⟩ := setO_get I ha
  refine call_len_set ho hex hd hf (by unfold scanBound at hb; omega) ⟨.int n, H, I.tok _, ⟨_, by rw [hn]⟩, q⟩
def lenSetI : D → Option D
  | .list l => (intsOf l).bind fun ns => if ns.length < 4000 then some (.int (dedI [] ns).length) else none
  | .tuple l => (intsOf l).bind fun ns => if ns.length < 4000 then some (.int (dedI [] ns).length) else none
  | _ => none
theorem p_lenSetI {K : Frag} {w : World} : P1 K (fun x H Q => rSetOfI K w [x] H fun v H2 => rLenS w [v] H2 Q) lenSetI := by
  intro G H x d c Q gh rx h k
  have key : ∀ (a : Addr) (ns : List Int), x = .ref a → (SqL K H a (ns.map V.int) ∨ SqT K H a (ns.map V.int)) → (if ns.length < 4000 then some (PyData.int (dedI [] ns).length) else none) = some c →
      rSetOfI K w [x] H fun v H2 => rLenS w [v] H2 Q := by
    intro a ns ex hs hl
    split at hl
    · rename_i few
      cases hl
      refine ⟨a, ns, by rw [ex], hs, few, fun p hp => ?_⟩
      have g := Gro.mine gh hp (setI w p (dedI [] ns))
      exact ⟨p, _, _, rfl, upd_same, k _ _ _ g (by simp only [Rp])⟩
    · cases hl
  cases d <;> simp only [lenSetI] at h <;> try (cases h; done)
  · rename_i l0
    cases e : intsOf l0 with
    | none => rw [e] at h; cases h
    | some ns =>
      rw [e] at h
      have e2 := intsOf_eq e
      subst e2
      obtain ⟨a, vs, rfl, ea, r⟩ := rx
      rw [r.ints] at ea
      exact key a ns rfl (.inl (.inl (.inl ea))) h
  · rename_i l0
    cases e : intsOf l0 with
    | none => rw [e] at h; cases h
    | some ns =>
      rw [e] at h
      have e2 := intsOf_eq e
      subst e2
      obtain ⟨a, vs, rfl, ea, r⟩ := rx
      rw [r.ints] at ea
      exact key a ns rfl (.inr (tq gh ea)) h
theorem x_lenSet {C : Cc} {X : Cx} {a : Expr} {ta : TE} {ma : M IV} {p p1 p2 pos : Pos} (hc : X.calm = true) (hm : X.mg "len" = none) (hm2 : X.mg "set" = none) (ha : EJ C X a ta ma) (hK : X.K = C.K := by rfl) (hg : Gl X "len" := by rfl) (hg2 : Gl X "set" := by rfl) (h1 : starEach [a] X.env = (false, eval a X.env) :: starEach [] X.env := by rfl)
    (h2 : starEach [.Call (.Name "set" p1) [a] [] p2] X.env = (false, eval (.Call (.Name "set" p1) [a] [] p2) X.env) :: starEach [] X.env := by rfl) (h3 : (backTo p2 (starEach [] X.env)).any (·.1) = false := by rfl) (h4 : (backTo pos (starEach [] X.env)).any (·.1) = false := by rfl) :
    EJ C X (.Call (.Name "len" p) [.Call (.Name "set" p1) [a] [] p2] [] pos) (fun σ H Q => ta σ H fun x H1 => rSetOfI C.K X.w [x] H1 fun v H2 => rLenS X.w [v] H2 Q) (d1 lenSetI ma) :=
  ⟨by
    rw [← hK]
    exact pe_callB cr_lenS hg hm (by decide +kernel) (pa_cons (pe_callTy (cr_setOfI hc) hg2 hm2 (by decide +kernel) (pa_cons ha.1 pa_nil h1) (he := h1) (hpl := h3)) pa_nil h2) (he := h2) (hpl := h4), ok_op1 (p_lenSetI) ha.2⟩
/-- tuple(range(n)) -/
def tupRg : D → Option D
  | .int n => if 0 ≤ n ∧ n ≤ 100000 then some (.tuple (rgD 0 n)) else none
  | _ => none
theorem x_tupRg {C : Cc} {X : Cx} {a : Expr} {ta : TE} {ma : M IV} {p p1 p2 pos : Pos} (hc : X.calm = true) (hm : X.mg "tuple" = none) (hm2 : X.mg "range" = none) (ha : EJ C X a ta ma) (hg : Gl X "tuple" := by rfl) (hg2 : Gl X "range" := by rfl) (h1 : starEach [a] X.env = (false, eval a X.env) :: starEach [] X.env := by rfl)
    (h2 : starEach [.Call (.Name "range" p1) [a] [] p2] X.env = (false, eval (.Call (.Name "range" p1) [a] [] p2) X.env) :: starEach [] X.env := by rfl) : EJ C X (.Call (.Name "tuple" p) [.Call (.Name "range" p1) [a] [] p2] [] pos) (tTupRgF (tRg1 ta)) (d1 tupRg ma) := by
  refine ⟨pe_tupRgF hc hg hm (prg_1 hg2 hm2 ha.1 h1) h2, ?_⟩
  intro G H ρ σ Q st h
  show ta σ H _
  refine bindT ha.2 st h fun iv ρ1 x G1 H1 s1 st1 sh1 r1 q1 => ?_
  obtain ⟨d, rd, q2⟩ := post_now st1 r1 q1
  obtain ⟨c, ec, q3⟩ := post_opt q2
  cases d <;> simp only [tupRg] at ec <;> try (cases ec; done)
  split at ec
  case isFalse => cases ec
  rename_i n hn
  cases ec
  simp only [Rpt] at rd
  subst rd
  refine ⟨n, rfl, ⟨by omega, by omega, by omega, by omega, by omega⟩, (kt_of st1 q3).new_tup st1.gh ?_⟩
  rw [rgD_eq, rgV_eq]
  exact Rps.of_ints _
end DL

/-! D28: the newer mirrors worked out; loops that end early; sets out of long sources. -/
namespace DL
open PySem L2
@[simp] theorem dEnum_ap (me : M IV) (ρ : Env) : dEnum me ρ = (.bind me fun iv => .bind (.keep iv) fun d => .bind (.opt (tupOf d)) fun l => .pure (enumD 0 l) : M (List D)) ρ := rfl
@[simp] theorem tupOf_tup (l : List D) : tupOf (.tuple l) = some l := rfl
@[simp] theorem dRev1_ap (ma : M IV) (ρ : Env) : dRev1 ma ρ = (.bind ma fun a => .bind (.now a) fun x => .opt (revIt x) : M (List D)) ρ := rfl
@[simp] theorem nDcK_ap (mi : M (List D)) (pat : D → M Unit) (mt : M Bool) (ma : M (List IV)) (vs : List Nat) (ρ : Env) : nDcK mi pat mt ma vs ρ = (.bind (dCG addK [] mi pat mt ma vs) fun l => .pure (.dict l) : M D) ρ := rfl
@[simp] theorem nDcN_ap (mi : M (List D)) (pat : D → M Unit) (mt : M Bool) (ma : M (List IV)) (vs : List Nat) (ρ : Env) : nDcN mi pat mt ma vs ρ = (.bind (dCG addN [] mi pat mt ma vs) fun l => .pure (.dict ((.none, .none) :: l)) : M D) ρ := rfl
@[simp] theorem nSrtR_ap (mz : M (List Row)) (ρ : Env) : nSrtR mz ρ = (.bind mz fun l => if neR l = true then .pure (.list ((srtR l).map rowD)) else .un : M D) ρ := rfl
@[simp] theorem nDisp1_ap (mk mv : M IV) (ρ : Env) : nDisp1 mk mv ρ = (.bind mk fun a => .bind (.keep a) fun k => .bind mv fun b => .bind (.keep b) fun v => if tupK k = true then .pure (.dict [(.none, .none), (k, v)]) else .un : M D) ρ := rfl
@[simp] theorem dPart_ap (me : M IV) (ρ : Env) : dPart me ρ = (.bind me fun a => .bind (.now a) fun x => .bind (.opt (intOf x)) fun i => .pure (some i) : M (Option Int)) ρ := rfl
@[simp] theorem dSlice_ap (me : M IV) (ml mh : M (Option Int)) (ρ : Env) : dSlice me ml mh ρ = (.bind me fun a => .bind ml fun lo => .bind mh fun hi => .bind (.now a) fun x => .bind (.opt (sliceD x lo hi)) fun c => .pure (.val c) : M IV) ρ := rfl
@[simp] theorem sParFF_ap (i j : Nat) (ma mb : M D) (ρ : Env) : sParFF i j ma mb ρ = (.bind ma fun d => .bind mb fun e => sSeq (putOwn i d) (putOwn j e) : SM) ρ := rfl
theorem sFor_ap (mi : M (List D)) (pat : D → M Unit) (m : SM) (ρ : Env) : sFor mi pat m ρ = (.bind mi fun ds => sForL pat m ds : SM) ρ := rfl
@[simp] theorem intOf_int (k : Int) : intOf (.int k) = some k := rfl
@[simp] theorem loop_nx (k : SM) : loopFl k .nx = k := rfl
@[simp] theorem loop_ct (k : SM) : loopFl k .ct = k := rfl
@[simp] theorem loop_bk (k : SM) : loopFl k .bk = .pure .nx := rfl
@[simp] theorem loop_rt (k : SM) (d : D) : loopFl k (.rt d) = .pure (.rt d) := rfl
/-! ### loops that may hand back or go on -/
def goesOn (f : Fl) : Prop := f = .nx ∨ f = .ct
theorem loop_go {f : Fl} (h : goesOn f) (k : SM) : loopFl k f = k := by rcases h with rfl | rfl <;> rfl
/-- either it runs through, or it hands back at some item -/
theorem for_exR {S : Type} {pat : D → M Unit} {m : SM} (ev : S → Env) (I : Nat → S → Prop) (R : D → DL.Env → Prop) : ∀ (ds : List D) (k : Nat) (s : S), I k s →
    (∀ (j : Nat) (d : D) (s : S), ds[j]? = some d → I (k + j) s → ∃ ρd, pat d (ev s) = .ok () ρd ∧ ((∃ f s', goesOn f ∧ m ρd = .ok f (ev s') ∧ I (k + j + 1) s') ∨ ∃ c ρe, R c ρe ∧ m ρd = .ok (.rt c) ρe)) →
    (∃ s', I (k + ds.length) s' ∧ sForL pat m ds (ev s) = .ok .nx (ev s')) ∨ ∃ c ρe, R c ρe ∧ sForL pat m ds (ev s) = .ok (.rt c) ρe
  | [], k, s, hI, _ => .inl ⟨s, hI, rfl⟩
  | d :: ds, k, s, hI, h => by
    obtain ⟨ρd, h1, h2⟩ := h 0 d s rfl hI
    rcases h2 with ⟨f, s1, hf, h2, h3⟩ | ⟨c, ρe, hc, h2⟩
    · have ih := for_exR ev I R ds (k + 1) s1 h3 fun j e s he hj => by
        have := h (j + 1) e s (by simpa using he) (by rw [show k + (j + 1) = k + 1 + j by omega]; exact hj)
        rw [show k + (j + 1) + 1 = k + 1 + j + 1 by omega] at this
        exact this
      have step : sForL pat m (d :: ds) (ev s) = sForL pat m ds (ev s1) := by
        simp only [sForL, onPat_ap, h1, pat_ok, bind_ap, h2, then_ok, loop_go hf]
      rcases ih with ⟨s2, k1, k2⟩ | ⟨c, ρe, hc, k2⟩
      · exact .inl ⟨s2, by rw [List.length_cons, show k + (ds.length + 1) = k + 1 + ds.length by omega]; exact k1, by rw [step, k2]⟩
      · exact .inr ⟨c, ρe, hc, by rw [step, k2]⟩
    · exact .inr ⟨c, ρe, hc, by simp only [sForL, onPat_ap, h1, pat_ok, bind_ap, h2, then_ok, loop_rt, pure_ap]⟩
/-- either it runs to its end, or it hands back -/
theorem while_exR {S : Type} {mt : M Bool} {m : SM} (ev : S → Env) (I : S → Prop) (Dn : S → Prop) (R : D → DL.Env → Prop) (μ : S → Nat) : ∀ (n : Nat) (s : S), I s → μ s < n →
    (∀ s, I s → (mt (ev s) = .ok false (ev s) ∧ Dn s) ∨ (mt (ev s) = .ok true (ev s) ∧ ((∃ f s', goesOn f ∧ m (ev s) = .ok f (ev s') ∧ I s' ∧ μ s' < μ s) ∨ ∃ c ρe, R c ρe ∧ m (ev s) = .ok (.rt c) ρe))) →
    (∃ s', I s' ∧ Dn s' ∧ sWhile mt m n (ev s) = .ok .nx (ev s')) ∨ ∃ c ρe, R c ρe ∧ sWhile mt m n (ev s) = .ok (.rt c) ρe
  | 0, s, _, hn, _ => by omega
  | n + 1, s, hI, hn, h => by
    rcases h s hI with ⟨h1, h2⟩ | ⟨h1, ⟨f, s1, hf, h2, h3, h4⟩ | ⟨c, ρe, hc, h2⟩⟩
    · exact .inl ⟨s, hI, h2, by simp [sWhile, h1]⟩
    · have step : sWhile mt m (n + 1) (ev s) = sWhile mt m n (ev s1) := by
        simp only [sWhile, bind_ap, h1, then_ok, if_true, h2, loop_go hf]
      rcases while_exR ev I Dn R μ n s1 h3 (by omega) h with ⟨s2, k1, k2, k3⟩ | ⟨c, ρe, hc, k3⟩
      · exact .inl ⟨s2, k1, k2, by rw [step, k3]⟩
      · exact .inr ⟨c, ρe, hc, by rw [step, k3]⟩
    · exact .inr ⟨c, ρe, hc, by simp only [sWhile, bind_ap, h1, then_ok, if_true, h2, loop_rt, pure_ap]⟩
/-! ### sets of ints out of long sources, the ints few -/
theorem insI_sub {acc U : List Int} {k : Int} (h : ∀ x ∈ acc, x ∈ U) (hk : k ∈ U) : ∀ x ∈ insI acc k, x ∈ U := fun x hx => by
  rw [mem_insI] at hx
  rcases hx with z | z
  · exact h x z
  · subst z; exact hk
theorem scLoop_few {α : Type} {pat : D → M Unit} {mt : M Bool} {me : M IV} {vs : List Nat} {ρw : Env} (enc : α → D) (q : α → Bool) (g : α → Int) (U : List Int) (hU : U.length < 64) :
    ∀ (xs : List α) (acc : List Int), acc.Nodup → (∀ x ∈ acc, x ∈ U) → (∀ x ∈ xs, ∃ ρd, pat (enc x) ρw = .ok () ρd ∧ mt ρd = .ok (q x) ρd ∧ (q x = true → me ρd = .ok (.val (.int (g x))) ρd ∧ g x ∈ U) ∧ wipeE ρd vs = ρw) →
      ∃ out, scLoop pat mt me vs (xs.map enc) acc ρw = .ok out ρw ∧ out.Nodup ∧ (∀ k, k ∈ out ↔ k ∈ acc ∨ ∃ x ∈ xs, q x = true ∧ g x = k) ∧ out.length < 64
  | [], acc, hn, hs, _ => ⟨acc, by simp [scLoop], hn, fun k => by simp, Nat.lt_of_le_of_lt (hn.length_le_of_subset hs) hU⟩
  | x :: xs, acc, hn, hs, h => by
    obtain ⟨ρd, h1, h2, h3, h4⟩ := h x List.mem_cons_self
    have hla : acc.length < 64 := Nat.lt_of_le_of_lt (hn.length_le_of_subset hs) hU
    simp only [List.map_cons, scLoop, bind_ap, h1, then_ok, h2]
    cases e : q x with
    | false =>
      obtain ⟨out, z1, z2, z3, z4⟩ := scLoop_few enc q g U hU xs acc hn hs fun y hy => h y (List.mem_cons_of_mem _ hy)
      refine ⟨out, ?_, z2, fun k => ?_, z4⟩
      · simp only [Bool.false_eq_true, if_false, h4]
        exact z1
      · rw [z3 k]
        simp [e]
    | true =>
      obtain ⟨h3, hg⟩ := h3 e
      obtain ⟨out, z1, z2, z3, z4⟩ := scLoop_few enc q g U hU xs (insI acc (g x)) (insI_nodup hn) (insI_sub hs hg) fun y hy => h y (List.mem_cons_of_mem _ hy)
      refine ⟨out, ?_, z2, fun k => ?_, z4⟩
      · simp only [if_true, bind_ap, h3, then_ok, keep_val, pure_ap]
        show (if acc.length < 1000 then scLoop pat mt me vs (xs.map enc) (insI acc (g x)) (wipeE ρd vs) else .un) = _
        rw [if_pos (by omega), h4]
        exact z1
      · rw [z3 k, mem_insI]
        simp only [List.mem_cons]
        constructor
        · rintro ((z | z) | ⟨y, z, w⟩)
          · exact .inl z
          · exact .inr ⟨x, .inl rfl, e, z.symm⟩
          · exact .inr ⟨y, .inr z, w⟩
        · rintro (z | ⟨y, z | z, w1, w2⟩)
          · exact .inl (.inl z)
          · subst z; exact .inl (.inr w2.symm)
          · exact .inr ⟨y, z, w1, w2⟩
theorem sc_few {α : Type} {mi : M (List D)} {pat : D → M Unit} {mt : M Bool} {me : M IV} {vs : List Nat} {ρ : Env} (enc : α → D) (q : α → Bool) (g : α → Int) (xs : List α) (U : List Int) (hU : U.length < 64) (hi : mi ρ = .ok (xs.map enc) ρ) (hc : cleanV ρ vs = true) (hr : restE (wipeE ρ vs) ρ vs = ρ)
    (hs : ∀ x ∈ xs, ∃ ρd, pat (enc x) (wipeE ρ vs) = .ok () ρd ∧ mt ρd = .ok (q x) ρd ∧ (q x = true → me ρd = .ok (.val (.int (g x))) ρd ∧ g x ∈ U) ∧ wipeE ρd vs = wipeE ρ vs) :
    ∃ out, dScI mi pat mt me vs ρ = .ok out ρ ∧ out.Nodup ∧ (∀ k, k ∈ out ↔ ∃ x ∈ xs, q x = true ∧ g x = k) ∧ out.length < 64 := by
  obtain ⟨out, h1, h2, h3, h4⟩ := scLoop_few enc q g U hU xs [] List.nodup_nil (fun x hx => nomatch hx) hs
  refine ⟨out, ?_, h2, fun k => by rw [h3 k]; simp, h4⟩
  unfold dScI
  rw [bind_ap, hi, then_ok]
  simp only [hc, if_true, h1, hr]
/-! ### comprehensions into any sink -/
theorem cgLoop_pure {α β : Type} {add : α → List D → Option α} {pat : D → M Unit} {mt : M Bool} {ma : M (List IV)} {vs : List Nat} {ρw : Env} (enc : β → D) (q : β → Bool) (g : β → List D) (I : α → Prop) (st : α → β → α) :
    ∀ (xs : List β) (acc : α), I acc → (∀ x ∈ xs, ∃ ρd, pat (enc x) ρw = .ok () ρd ∧ mt ρd = .ok (q x) ρd ∧ (q x = true → ma ρd = .ok ((g x).map .val) ρd) ∧ wipeE ρd vs = ρw) →
      (∀ x ∈ xs, q x = true → ∀ acc, I acc → add acc (g x) = some (st acc x) ∧ I (st acc x)) →
      I ((xs.filter q).foldl st acc) ∧ cgLoop add pat mt ma vs (xs.map enc) acc ρw = .ok ((xs.filter q).foldl st acc) ρw
  | [], acc, hI, _, _ => ⟨hI, by simp [cgLoop]⟩
  | x :: xs, acc, hI, h, ha => by
    obtain ⟨ρd, h1, h2, h3, h4⟩ := h x List.mem_cons_self
    have ih := fun acc' hI' => cgLoop_pure (add := add) enc q g I st xs acc' hI' (fun y hy => h y (List.mem_cons_of_mem _ hy)) (fun y hy => ha y (List.mem_cons_of_mem _ hy))
    simp only [List.map_cons, cgLoop, bind_ap, h1, then_ok, h2]
    cases e : q x with
    | false =>
      simp only [Bool.false_eq_true, if_false, h4]
      rw [List.filter_cons_of_neg (by simp [e])]
      exact ih acc hI
    | true =>
      obtain ⟨a1, a2⟩ := ha x List.mem_cons_self e acc hI
      have kv : ∀ (l : List D) (ρ : Env), keeps (l.map .val) ρ = .ok l ρ := fun l => by
        induction l with
        | nil => intro ρ; rfl
        | cons d l ih => intro ρ; simp [ih]
      simp only [if_true, bind_ap, h3 e, then_ok, kv, a1, opt_some, pure_ap, h4]
      rw [List.filter_cons_of_pos e]
      exact ih _ a2
theorem cg_pure {α β : Type} {add : α → List D → Option α} {acc0 : α} {mi : M (List D)} {pat : D → M Unit} {mt : M Bool} {ma : M (List IV)} {vs : List Nat} {ρ : Env} (enc : β → D) (q : β → Bool) (g : β → List D) (I : α → Prop) (st : α → β → α) (xs : List β) (h0 : I acc0) (hi : mi ρ = .ok (xs.map enc) ρ)
    (hc : cleanV ρ vs = true) (hr : restE (wipeE ρ vs) ρ vs = ρ) (hs : ∀ x ∈ xs, ∃ ρd, pat (enc x) (wipeE ρ vs) = .ok () ρd ∧ mt ρd = .ok (q x) ρd ∧ (q x = true → ma ρd = .ok ((g x).map .val) ρd) ∧ wipeE ρd vs = wipeE ρ vs)
    (ha : ∀ x ∈ xs, q x = true → ∀ acc, I acc → add acc (g x) = some (st acc x) ∧ I (st acc x)) :
    I ((xs.filter q).foldl st acc0) ∧ dCG add acc0 mi pat mt ma vs ρ = .ok ((xs.filter q).foldl st acc0) ρ := by
  obtain ⟨h1, h2⟩ := cgLoop_pure (add := add) enc q g I st xs acc0 h0 hs ha
  refine ⟨h1, ?_⟩
  unfold dCG
  rw [bind_ap, hi, then_ok]
  simp only [hc, if_true, h2, hr]
theorem keeps_val : ∀ (l : List D) (ρ : Env), keeps (l.map .val) ρ = .ok l ρ
  | [], ρ => rfl
  | d :: l, ρ => by simp [keeps_val l]
theorem cgLoop_ix {α β : Type} {add : α → List D → Option α} {pat : D → M Unit} {mt : M Bool} {ma : M (List IV)} {vs : List Nat} {ρw : Env} (enc : β → D) (g : β → List D) (I : Nat → α → Prop) :
    ∀ (xs : List β) (k : Nat) (acc : α), I k acc → (∀ x ∈ xs, ∃ ρd, pat (enc x) ρw = .ok () ρd ∧ mt ρd = .ok true ρd ∧ ma ρd = .ok ((g x).map .val) ρd ∧ wipeE ρd vs = ρw) →
      (∀ (j : Nat) (x : β) (acc : α), xs[j]? = some x → I (k + j) acc → ∃ acc', add acc (g x) = some acc' ∧ I (k + j + 1) acc') →
      ∃ acc', I (k + xs.length) acc' ∧ cgLoop add pat mt ma vs (xs.map enc) acc ρw = .ok acc' ρw
  | [], k, acc, hI, _, _ => ⟨acc, hI, by simp [cgLoop]⟩
  | x :: xs, k, acc, hI, h, ha => by
    obtain ⟨ρd, h1, h2, h3, h4⟩ := h x List.mem_cons_self
    obtain ⟨acc1, a1, a2⟩ := ha 0 x acc rfl hI
    obtain ⟨acc2, b1, b2⟩ := cgLoop_ix (add := add) enc g I xs (k + 1) acc1 a2 (fun y hy => h y (List.mem_cons_of_mem _ hy)) fun j y acc hj hI => by
      have := ha (j + 1) y acc (by simpa using hj) (by rw [show k + (j + 1) = k + 1 + j by omega]; exact hI)
      rw [show k + (j + 1) + 1 = k + 1 + j + 1 by omega] at this
      exact this
    refine ⟨acc2, by rw [List.length_cons, show k + (xs.length + 1) = k + 1 + xs.length by omega]; exact b1, ?_⟩
    simp only [List.map_cons, cgLoop, bind_ap, h1, then_ok, h2, if_true, h3, keeps_val, a1, opt_some, pure_ap, h4, b2]
theorem cg_ix {α β : Type} {add : α → List D → Option α} {acc0 : α} {mi : M (List D)} {pat : D → M Unit} {mt : M Bool} {ma : M (List IV)} {vs : List Nat} {ρ : Env} (enc : β → D) (g : β → List D) (I : Nat → α → Prop) (xs : List β) (h0 : I 0 acc0) (hi : mi ρ = .ok (xs.map enc) ρ)
    (hc : cleanV ρ vs = true) (hr : restE (wipeE ρ vs) ρ vs = ρ) (hs : ∀ x ∈ xs, ∃ ρd, pat (enc x) (wipeE ρ vs) = .ok () ρd ∧ mt ρd = .ok true ρd ∧ ma ρd = .ok ((g x).map .val) ρd ∧ wipeE ρd vs = wipeE ρ vs)
    (ha : ∀ (j : Nat) (x : β) (acc : α), xs[j]? = some x → I j acc → ∃ acc', add acc (g x) = some acc' ∧ I (j + 1) acc') :
    ∃ acc', I xs.length acc' ∧ dCG add acc0 mi pat mt ma vs ρ = .ok acc' ρ := by
  obtain ⟨acc', h1, h2⟩ := cgLoop_ix (add := add) enc g I xs 0 acc0 h0 hs fun j x acc hj hI => by
    have := ha j x acc hj (by rw [Nat.zero_add] at hI; exact hI)
    rw [Nat.zero_add]
    exact this
  refine ⟨acc', by rw [Nat.zero_add] at h1; exact h1, ?_⟩
  unfold dCG
  rw [bind_ap, hi, then_ok]
  simp only [hc, if_true, h2, hr]
end DL

/-! D29: is not, of truth values. -/
namespace DL
open PySem L2
def rNotB : R2 := fun x y H Q => ∃ a b : Bool, x = .bl a ∧ y = .bl b ∧ Q (.bl (!decide (a = b))) H
def notBD : F2
  | .bool a, .bool b => some (.bool (!decide (a = b)))
  | _, _ => none
theorem p_notB {K : Frag} : P2 K rNotB notBD := by
  intro G H x y d e c Q gh rx ry h k
  cases d <;> cases e <;> simp only [notBD] at h <;> try (cases h; done)
  cases h
  simp only [Rpt] at rx ry
  subst rx ry
  exact ⟨_, _, rfl, rfl, k.bl gh⟩
@[simp] theorem notB_b (a b : Bool) : notBD (.bool a) (.bool b) = some (.bool (!decide (a = b))) := rfl
section
variable {C : Cc} {X : Cx} {a b : Expr} {pos : Pos} {ma mb : M IV} {ta tb : TE}
theorem x_notB (ha : EJ C X a ta ma) (hb : EJ C X b tb mb) (hK : X.K = C.K := by rfl) : EJ C X (.Compare a [.IsNot] [b] pos) (tOp rNotB ta tb) (d2 notBD ma mb) := ej_cmp (r := rNotB) op_isnot_bl p_notB ha hb (nomark b)
theorem t_notB (ha : EJ C X a ta ma) (hb : EJ C X b tb mb) (hK : X.K = C.K := by rfl) : TJ C X (.Compare a [.IsNot] [b] pos) (tTest (tOp rNotB ta tb)) (dBool (d2 notBD ma mb)) := tj_cmp (r := rNotB) op_isnot_bl p_notB ha hb (nomark b)
end
end DL

/-! D30: a tuple taken once, or more often. -/
namespace DL
open PySem L2 PyProof.Rows
theorem once_tup (l : Addr) (items : Array Value) (n : Nat) (dd : Option Addr) (sl : Array (Option Value)) (u : Tok) :
    Meets (Builtin.«tuple.__mul__» ⟨[.ref l, .int 1 u], []⟩) (fun _ R s => s.heap.get? l = some { cls := .type "tuple", dict := dd, data := .seq items n, slots := sl } ∧ R (.ok (.ret (Value.ref l))) s) :=
  .of_wp fun prog w A R s h => by
    obtain ⟨hp, g, d, tk, os⟩ := s
    obtain ⟨hl, h⟩ := h
    have f1 := AutoSeq1.idx_int
    wp_walk using wpAny_loadPart' hl
    exact ⟨_, rfl, h⟩
def rOnce (K : PySem.W.Frag) : R2 := fun x y H Q => ∃ l xs, x = .ref l ∧ y = .int 1 ∧ SqT K H l xs ∧ Q (.ref l) H
theorem op_once {X : Cx} : OpR X (binaryOp .Mult) (rOnce X.K) := by
  rintro pins s σ H x y v u Q I rx ry ⟨l, xs, rfl, rfl, hT, q⟩
  cases rx
  obtain ⟨t, rfl⟩ := ry
  obtain ⟨its, r, ⟨⟨cls, dd, data, sl⟩, ho, hc, n, hd⟩, hs⟩ := I.tuple hT
  simp only at hc hd
  subst hc hd
  exact wpAny_binaryOp_repeat_ref (T := "tuple") (U := "int") (by decide) ⟨_, ho, rfl⟩ (fun s' => typeIs_int s' 1 t) noFill_tuple_mul F.fills_int_mul F.slot_int_rmul repeat_tuple F.slot_int_index.lookup
    (call_meets F.slot_int_rmul (typeIs_int s 1 t) F.entry_int_rmul (F.args_int_rmul_2 _ _) (int_rmul_tuple 1 t l its.toArray n dd sl)
      ⟨ho, rfl, ⟨_, ho, rfl⟩, call_meets F.slot_tuple_mul ⟨_, ho, rfl⟩ F.entry_tuple_mul (F.args_tuple_mul_2 _ _) (once_tup l its.toArray n dd sl t) ⟨ho, ⟨.ref l, H, I, rfl, q⟩⟩⟩)
/-- tuple * int -/
def tmulD : F2
  | .tuple l, .int k => if k = 1 then some (.tuple l) else if l ≠ [] ∧ 2 ≤ k ∧ k ≤ 1000 ∧ l.length ≤ 1000 then some (.tuple (List.replicate k.toNat l).flatten) else none
  | _, _ => none
def rTmul (K : PySem.W.Frag) : R2 := fun x y H Q => rOnce K x y H Q ∨ rRepF K x y H Q
theorem p_tmulD {K : Frag} : P2 K (rTmul K) tmulD := by
  intro G H x y d e c Q gh rx ry h k
  cases d <;> cases e <;> simp only [tmulD] at h <;> try (cases h; done)
  rename_i l n
  obtain ⟨a, vs, rfl, ea, ra⟩ := rx
  simp only [Rpt] at ry
  subst ry
  split at h
  · rename_i hn
    cases h
    subst hn
    exact .inl ⟨a, vs, rfl, rfl, tq gh ea, k.at gh (by simp only [Rp]; exact ⟨a, vs, rfl, ea, ra⟩)⟩
  · split at h
    · rename_i hz
      cases h
      have e1 := ra.length
      refine .inr ⟨a, n, vs, rfl, rfl, tq gh ea, fun z => ?_, hz.2.1, hz.2.2.1, by omega, k.new_tup gh (ra.rep _)⟩
      rw [z] at e1
      exact hz.1 (List.eq_nil_of_length_eq_zero e1)
    · cases h
section
variable {C : Cc} {X : Cx} {a b : Expr} {pos : Pos} {ma mb : M IV} {ta tb : TE}
theorem x_tmul (ha : EJ C X a ta ma) (hb : EJ C X b tb mb) (hK : X.K = C.K := by rfl) : EJ C X (.BinOp a .Mult b pos) (tOp (rTmul C.K) ta tb) (d2 tmulD ma mb) :=
  ej_op (r := rTmul C.K) (by first | exact OpR.or op_once op_repF | (rw [← hK]; exact OpR.or op_once op_repF)) p_tmulD ha hb
end
end DL

/-! D31: two tuples side by side. -/
namespace DL
open PySem L2
def zipD (l m : List D) : List D := (l.zip m).map fun p => .tuple [p.1, p.2]
theorem zipD_get : ∀ (l m : List D) (i : Nat), (zipD l m)[i]? = (l[i]?).bind fun d => (m[i]?).map fun e => .tuple [d, e]
  | [], _, _ => by simp [zipD]
  | d :: l, [], i => by simp [zipD]
  | d :: l, e :: m, 0 => by simp [zipD]
  | d :: l, e :: m, i + 1 => by
    have ih := zipD_get l m i
    unfold zipD at ih ⊢
    simp only [List.zip_cons_cons, List.map_cons, List.getElem?_cons_succ]
    exact ih
theorem zipD_len (l m : List D) : (zipD l m).length = min l.length m.length := by unfold zipD; simp
def zip2 : List D → Option (List D)
  | [.tuple l, .tuple m] => some (zipD l m)
  | _ => none
def dZip (mas : M (List IV)) : M (List D) := .bind mas fun ivs => .bind (keeps ivs) fun ds => .opt (zip2 ds)
@[simp] theorem dZip_ap (mas : M (List IV)) (ρ : Env) : dZip mas ρ = (.bind mas fun ivs => .bind (keeps ivs) fun ds => .opt (zip2 ds) : M (List D)) ρ := rfl
/-- two tuples side by side, each pair of items in a new tuple -/
def ItzF (K : Frag) (a b : Addr) : It :=
  ⟨fun i H => ∃ (xs ys : List V) (x y : V), SqT K H a xs ∧ SqT K H b ys ∧ xs[i]? = some x ∧ ys[i]? = some y,
    fun i H v H' => ∃ (T : Addr) (o : Obj) (x y : V), v = .ref T ∧ H T = none ∧ o.dict = none ∧ H' = upd H T (.frz o (.tup [x, y])) ∧ (∀ xs, SqT K H a xs → xs[i]? = some x) ∧ ∀ ys, SqT K H b ys → ys[i]? = some y,
    fun i H => ∃ xs ys : List V, SqT K H a xs ∧ SqT K H b ys ∧ (xs.length ≤ i ∨ ys.length ≤ i)⟩
open PyProof.Rows in
theorem turn_zipF {P : Program} {w : World} {K : Frag} {elts : List Expr} {kk : Nat} {tpos : Pos} {a b z p q i1 i2 : Addr} (D : ZipApart z p q i1 i2 a b) :
    Turn P w K (.Tuple elts kk tpos) (ItzF K a b) [z, p, q, i1, i2] z (fun i h => IsZip h z p q .none ∧ IsPair h p (.ref i1) (.ref i2) ∧ (∃ x y, IsPair h q x y) ∧ h.IsTupleIter i1 a i ∧ h.IsTupleIter i2 b i) where
  mem := (RZ.turn_zipT (P := P) (w := w) (K := K) (elts := elts) (kk := kk) (tpos := tpos) D).mem
  obj := (RZ.turn_zipT (P := P) (w := w) (K := K) (elts := elts) (kk := kk) (tpos := tpos) D).obj
  keep := (RZ.turn_zipT (P := P) (w := w) (K := K) (elts := elts) (kk := kk) (tpos := tpos) D).keep
  self := (RZ.turn_zipT (P := P) (w := w) (K := K) (elts := elts) (kk := kk) (tpos := tpos) D).self
  done := (RZ.turn_zipT (P := P) (w := w) (K := K) (elts := elts) (kk := kk) (tpos := tpos) D).done
  item := by
    rintro X rfl rfl rfl hc i pins s σ H E I hf ⟨hz, hp, ⟨x0, y0, hq⟩, n1, n2⟩ ⟨xs, ys, x, y, qx, qy, ex, ey⟩
    obtain ⟨its, rv, t1, _⟩ := I.tuple qx
    obtain ⟨its2, rv2, t2, _⟩ := I.tuple qy
    obtain ⟨u, hu, ru⟩ := rv.get ex
    obtain ⟨u2, hu2, ru2⟩ := rv2.get ey
    have lz : z < s.heap.objs.size := Heap.lt_size hz
    have lt : ∀ c ∈ [z, p, q, i1, i2], c < s.heap.objs.size := fun c hcm => by
      rcases (show c = z ∨ c = p ∨ c = q ∨ c = i1 ∨ c = i2 by simpa using hcm) with e | e | e | e | e
      · rw [e]; exact lz
      · rw [e]; exact Heap.lt_size hp
      · rw [e]; exact Heap.lt_size hq
      · rw [e]; obtain ⟨_, k, _⟩ := n1; exact Heap.lt_size k
      · rw [e]; obtain ⟨_, k, _⟩ := n2; exact Heap.lt_size k
    refine RZ.pyNext_zipT_item D hz hp hq n1 n2 t1 t2 (x := u) (y := u2) (by simpa using hu) (by simpa using hu2) fun h' zz qq m1 m2 hT _ hk => ⟨_, rfl, wpAny_letOwnedTupleGo_zip (s := { s with heap := h' }) zz fun h2 z2 sb => ?_⟩
    have here : h2.get? s.heap.objs.size = some (obT [u, u2]) := (sb.2 _ (Nat.ne_of_gt lz)).trans hT
    have new : ObjOk X.prog X.w (upd H s.heap.objs.size (.frz (obT [u, u2]) (.tup [x, y]))) h2 s.heap.objs.size (.frz (obT [u, u2]) (.tup [x, y])) :=
      ⟨here, by show 2 ≤ sizeLine; decide, [u, u2], .cons ru (.cons ru2 .nil), ⟨_, here, rfl, _, rfl⟩⟩
    have J : L2.Inv X pins σ (upd H s.heap.objs.size (.frz (obT [u, u2]) (.tup [x, y]))) { s with heap := h2 } :=
      I.turnedNew (t' := s.toks) (ch := [z, p, q, i1, i2]) (fun c o hb e => (sb.2 c (fun e2 => hb (by simp [e2]))).trans (hk c o (fun e2 => hb (by simp [e2])) (fun e2 => hb (by simp [e2])) (fun e2 => hb (by simp [e2])) (fun e2 => hb (by simp [e2])) e)) hf (Nat.le_refl _) new
    refine ⟨.ref s.heap.objs.size, _, J, rfl, ⟨_, _, x, y, rfl, I.hok.fresh (Nat.le_refl _), rfl, rfl, fun l hl => by rw [I.tuple_inj hl qx]; exact ex, fun l hl => by rw [I.tuple_inj hl qy]; exact ey⟩, ⟨z2, (sb.2 _ D.TIz).trans (hk _ _ D.TIz D.TITO D.TIi1 D.TIi2 hp), ⟨u, u2, (sb.2 _ D.TOz).trans qq⟩, m1.at fun o e => (sb.2 _ D.i1z).trans e, m2.at fun o e => (sb.2 _ D.i2z).trans e⟩, fun c hcm => ?_⟩
    rw [upd_ne (Nat.ne_of_lt (lt c hcm))]
    exact (hf c hcm).1
def iZipF (K : Frag) (ta : TA) : TI := fun σ H R => ta σ H fun vs H1 => ∃ a b xs ys, vs = [.ref a, .ref b] ∧ SqT K H1 a xs ∧ SqT K H1 b ys ∧ R (ItzF K a b) H1
open PyProof.Rows in
theorem pi_zipF {X : Cx} {e e2 : Expr} {ta : TA} {p pos tpos : Pos} {elts : List Expr} {kk : Nat} (hg : Gl X "zip") (hm : X.mg "zip" = none) (ha : PA X [e, e2] ta)
    (hs : starEach [e, e2] X.env = (false, eval e X.env) :: starEach [e2] X.env := by rfl) (hpl : (backTo pos (starEach [e2] X.env)).any (·.1) = false := by rfl) :
    PI X (.Tuple elts kk tpos) (.Call (.Name "zip" p) [e, e2] [] pos) (iZipF X.K ta) := by
  refine ⟨fun pins s σ H R I h => Call_ (ld_blt I hg hm boot_zip (callWith_type1 (thn (ha.run pos pins s σ H _ I h) fun us s1 ⟨vs, H1, I1, r1, a, b, xs, ys, ev, qx, qy, q⟩ => ?_) hs hpl))⟩
  subst ev
  cases r1 with
  | cons r rr =>
    cases rr with
    | cons r' rr =>
      cases rr
      cases r
      cases r'
      obtain ⟨its, rv, p1, _⟩ := I1.tuple qx
      obtain ⟨its2, rv2, p2, _⟩ := I1.tuple qy
      obtain ⟨o1, ho1, _⟩ := id p1
      obtain ⟨o2, ho2, _⟩ := id p2
      refine RZ.call_zipT (show s1.heap.IsTuple a its.toArray from p1) (show s1.heap.IsTuple b its2.toArray from p2) fun h' hz hTI hTO h1 h2 hsz hk => wpAny_pyIter_zip hz ?_
      have I2 : L2.Inv X pins σ H1 { s1 with heap := h' } := I1.kept (t' := s1.toks) hk
      refine ⟨s1.heap.objs.size + 4, [s1.heap.objs.size + 4, s1.heap.objs.size + 2, s1.heap.objs.size + 3, s1.heap.objs.size, s1.heap.objs.size + 1], _, _, H1, rfl, I2, turn_zipF (PySem.W.ktu_apart s1.heap.objs.size a b (Heap.lt_size ho1) (Heap.lt_size ho2)), ⟨hz, hTI, ⟨_, _, hTO⟩, h1, h2⟩, fun c hcm => ?_, q⟩
      have new : s1.heap.objs.size ≤ c := by
        rcases (show c = s1.heap.objs.size + 4 ∨ c = s1.heap.objs.size + 2 ∨ c = s1.heap.objs.size + 3 ∨ c = s1.heap.objs.size ∨ c = s1.heap.objs.size + 1 by simpa using hcm) with e | e | e | e | e
        all_goals (rw [e]; first | exact Nat.le_add_right _ _ | exact Nat.le_refl _)
      exact I1.fpOk new (I1.hok.fresh new)
theorem wk_zip {K : Frag} {G : Hp} {l m : List D} {vs ws : List V} {a b : Addr} (r : Rps K G l vs) (q : Rps K G m ws) (ea : TupF G a vs) (eb : TupF G b ws) : Wk K G (ItzF K a b) (zipD l m) := by
  have sa : ∀ G' H, Same G G' → Same G' H → SqT K H a vs := fun G' H g1 g2 => tq g2 (ea.mono g1)
  have sb : ∀ G' H, Same G G' → Same G' H → SqT K H b ws := fun G' H g1 g2 => tq g2 (eb.mono g1)
  refine ⟨fun G' H i d ed h1 h2 => ?_, fun G' H h1 h2 => ?_⟩
  · rw [zipD_get] at ed
    obtain ⟨d1, e1, ed⟩ := Option.bind_eq_some_iff.mp ed
    obtain ⟨d2, e2, rfl⟩ := Option.map_eq_some_iff.mp ed
    obtain ⟨v, ev, rv⟩ := r.get e1
    obtain ⟨u, eu, ru⟩ := q.get e2
    refine ⟨⟨vs, ws, v, u, sa _ _ h1 h2, sb _ _ h1 h2, ev, eu⟩, fun x H' y => ?_⟩
    obtain ⟨T, o, x', y', rfl, hT, nd, rfl, p1, p2⟩ := y
    have z1 := p1 vs (sa _ _ h1 h2)
    have z2 := p2 ws (sb _ _ h1 h2)
    rw [ev] at z1
    rw [eu] at z2
    cases z1
    cases z2
    have g := Gro.new h2 hT (.frz o (.tup [v, u]))
    refine ⟨_, g, ?_⟩
    simp only [Rp, Rps]
    exact ⟨T, _, rfl, ⟨o, upd_same, nd⟩, v, _, rfl, (Rp.mono h1 _ _ rv).mono g.gg, u, [], rfl, (Rp.mono h1 _ _ ru).mono g.gg, rfl⟩
  · rw [zipD_len]
    refine ⟨vs, ws, sa _ _ h1 h2, sb _ _ h1 h2, ?_⟩
    have e1 := r.length
    have e2 := q.length
    omega
theorem ok_zip {C : Cc} {ta : TA} {mas : M (List IV)} (oa : MOk C (RIvs C.K) ta mas) : MOk C (RW C.K) (iZipF C.K ta) (dZip mas) := by
  intro G H ρ σ R st h
  show ta σ H _
  refine bindT oa st h fun ivs ρ1 vs G1 H1 s1 st1 sh1 r1 h1 => ?_
  obtain ⟨ds, rds, h2⟩ := post_keeps r1 h1
  unfold zip2 at h2
  split at h2
  · rename_i l m
    simp only [Rps, Rp] at rds
    obtain ⟨v, _, rfl, ⟨a, xs, rfl, ea, ra⟩, w, _, rfl, ⟨b, ys, rfl, eb, rb⟩, rfl⟩ := rds
    refine ⟨a, b, xs, ys, rfl, tq st1.gh ea, tq st1.gh eb, ?_⟩
    exact h2 _ _ _ Stp.refl st1 (Sh.refl _) (wk_zip ra rb ea eb)
  · exact h2.elim
/-- for .. in zip(a, b), two tuples -/
theorem i_zip {C : Cc} {X : Cx} {a b : Expr} {tas : TA} {mas : M (List IV)} {p pos tpos : Pos} {elts : List Expr} {kk : Nat} (hm : X.mg "zip" = none) (ha : AJ C X [a, b] tas mas) (hK : X.K = C.K := by rfl) (hg : Gl X "zip" := by rfl)
    (h1 : starEach [a, b] X.env = (false, eval a X.env) :: starEach [b] X.env := by rfl) (h2 : (backTo pos (starEach [b] X.env)).any (·.1) = false := by rfl) : IJ C X (.Tuple elts kk tpos) (.Call (.Name "zip" p) [a, b] [] pos) (iZipF C.K tas) (dZip mas) :=
  ⟨by rw [← hK]; exact pi_zipF hg hm ha.1 h1 h2, ok_zip ha.2⟩
end DL

/-! D32: len of a new set of rows. -/
namespace DL
open PySem L2
def rLenT (K : PySem.W.Frag) (P : Program) (w : World) : List V → Hp → VK → Prop := fun vs H Q => ∃ (a : Addr) (L : List (Addr × Row)), vs = [V.ref a] ∧ H a = some (SetTO P w a L) ∧ (∀ p ∈ L, SqT K H p.1 (p.2.map V.int)) ∧ Q (.int L.length) H
theorem cr_lenT {X : Cx} : CallR X (.builtin "len") (rLenT X.K X.prog X.w) := by
  rintro pins s σ H vs us Q I r ⟨a, L, rfl, ha, hk, q⟩
  rw [Vals.ref1 r]
  have R0 : SetT0 X.prog X.w s.heap a L := (I.hok a _ ha).1
  obtain ⟨es, ep, t, R⟩ := R0.full fun p hp => I.isT (hk p hp)
  obtain ⟨o, ho, hex, hd⟩ := R.ob
  have hn := R.size
  have hb := R.few
  exact call_len_set ho hex hd R.fits (by rw [hn]; omega) ⟨.int L.length, H, I.tok _, ⟨_, by rw [hn]⟩, q⟩
def nLenR (mz : M (List Row)) : M IV := .bind mz fun l => .pure (.val (.int l.length))
@[simp] theorem nLenR_ap (mz : M (List Row)) (ρ : Env) : nLenR mz ρ = (.bind mz fun l => .pure (.val (.int l.length)) : M IV) ρ := rfl
theorem ok_lenR {C : Cc} {P : Program} {w : World} {tz : TE} {mz : M (List Row)} (h : COk C (RSR P w) tz mz) : MOk C (RIv C.K) (fun σ H Q => tz σ H fun v H1 => rLenT C.K P w [v] H1 Q) (nLenR mz) := by
  intro G H ρ σ Q st q
  refine h G H ρ σ _ st ?_
  unfold nLenR M.bind at q
  cases em : mz ρ with
  | un => rw [em] at q; exact q
  | exc x ρ1 => rw [em] at q; exact q
  | ok l ρ1 =>
    rw [em] at q
    rintro v G1 H1 s1 st1 sh1 ⟨S, o, rfl, h0, hg, hS, L, rfl, pm, nd, few, hL⟩
    refine ⟨S, L, rfl, hS, fun p hp => tq st1.gh (hL p hp), ?_⟩
    have e : L.length = l.length := by rw [← pm.length_eq, List.length_map]
    rw [e]
    exact q _ G1 H1 s1 st1 sh1 (by show Rp C.K G1 (.int _) _; simp only [Rp])
/-- len({..}), rows -/
theorem x_lenSCR {C : Cc} {X : Cx} {a : Expr} {tz : TE} {mz : M (List Row)} {p pos : Pos} (hm : X.mg "len" = none) (h : RJ C X a tz mz) (hK : X.K = C.K := by rfl) (hg : Gl X "len" := by rfl) (h1 : starEach [a] X.env = (false, eval a X.env) :: starEach [] X.env := by rfl) (h2 : (backTo pos (starEach [] X.env)).any (·.1) = false := by rfl) :
    EJ C X (.Call (.Name "len" p) [a] [] pos) (fun σ H Q => tz σ H fun v H1 => rLenT C.K X.prog X.w [v] H1 Q) (nLenR mz) :=
  ⟨by rw [← hK]; exact pe_callB cr_lenT hg hm (by decide +kernel) (pa_cons h.1 pa_nil h1) (he := h1) (hpl := h2), ok_lenR h.2⟩
end DL

/-! D33: d.get(k), d.get(k, x), keys ints or texts. -/
namespace DL
open PySem L2
def isKD : D → Bool
  | .dict l => !isT l && !scrOnly (.dict l)
  | _ => false
def get1D : F2
  | .dict l, k => if isT l = false ∧ okK l k = true then some ((lookD l k).getD .none) else none
  | _, _ => none
def get2D : D → D → D → Option D
  | .dict l, k, x => if isT l = false ∧ okK l k = true then some ((lookD l k).getD x) else none
  | _, _, _ => none
def dGet1 (ma mb : M IV) : M IV := .bind ma fun a => .bind (.now a) fun x0 => if isKD x0 = true then .bind mb fun b => .bind (.now a) fun x => .bind (.now b) fun k => .bind (.opt (get1D x k)) fun c => .pure (.val c) else .un
def dGet2 (ma mb mc : M IV) : M IV := .bind ma fun a => .bind (.now a) fun x0 => if isKD x0 = true then .bind mb fun b => .bind mc fun e => .bind (.now a) fun x => .bind (.now b) fun k => .bind (.keep e) fun z => .bind (.opt (get2D x k z)) fun c => .pure (.val c) else .un
@[simp] theorem dGet1_ap (ma mb : M IV) (ρ : Env) : dGet1 ma mb ρ = (.bind ma fun a => .bind (.now a) fun x0 => if isKD x0 = true then .bind mb fun b => .bind (.now a) fun x => .bind (.now b) fun k => .bind (.opt (get1D x k)) fun c => .pure (.val c) else .un : M IV) ρ := rfl
@[simp] theorem dGet2_ap (ma mb mc : M IV) (ρ : Env) : dGet2 ma mb mc ρ = (.bind ma fun a => .bind (.now a) fun x0 => if isKD x0 = true then .bind mb fun b => .bind mc fun e => .bind (.now a) fun x => .bind (.now b) fun k => .bind (.keep e) fun z => .bind (.opt (get2D x k z)) fun c => .pure (.val c) else .un : M IV) ρ := rfl
theorem isKD_at {K : Frag} {G H : Hp} {d : D} {x : V} (h : isKD d = true) (rx : Rpt K G H d x) : ∃ a, x = .ref a ∧ IsD H a := by
  unfold isKD at h
  split at h
  · rename_i l
    rw [Bool.and_eq_true] at h
    have ht : ¬ isT l = true := by simpa using h.1
    obtain ⟨a, rfl, q⟩ := dict_kind rx (fun _ => by simpa using h.2)
    rw [if_neg ht] at q
    obtain ⟨kvs, e, _⟩ := q
    exact ⟨a, rfl, .inl ⟨kvs, .inl e⟩⟩
  · cases h
theorem look_dg {K : Frag} {G H : Hp} {l : List (D × D)} {k : D} {x y : V} (rx : Rpt K G H (.dict l) x) (ry : Rpt K G H k y) (ht : isT l = false) (hk : okK l k = true) :
    ∃ a o, x = .ref a ∧ DGet H a y o ∧ (lookD l k = none → o = none) ∧ ∀ d, lookD l k = some d → ∃ v, o = some v ∧ Rp K G d v := by
  have ht' : ¬ isT l = true := by rw [ht]; decide
  unfold okK at hk
  rw [if_neg ht', Bool.and_eq_true] at hk
  obtain ⟨a, rfl, q⟩ := dict_kind rx (fun _ => by simpa using hk.2)
  rw [if_neg ht'] at q
  obtain ⟨kvs, e, r⟩ := q
  obtain ⟨kk, h1, rfl⟩ := leafK_key hk.1 (leaf_rp hk.1 ry)
  exact ⟨a, _, rfl, DGet.k e, (r.look h1).1, (r.look h1).2⟩
section
variable {C : Cc} {X : Cx} {a b c : Expr} {ta tb tc : TE} {ma mb mc : M IV} {apos pos : Pos} {k : Nat}
theorem ok_get1 (oa : MOk C (RIv C.K) ta ma) (ob : MOk C (RIv C.K) tb mb) : MOk C (RIv C.K) (tDGet1 ta tb) (dGet1 ma mb) := by
  intro G H ρ σ Q st h
  show ta σ H _
  refine bindT oa st h fun iv ρ1 x G1 H1 s1 st1 sh1 r1 h1 => ?_
  obtain ⟨d0, rd, h2⟩ := post_now st1 r1 h1
  by_cases hd : isKD d0 = true
  · simp only [if_pos hd] at h2
    obtain ⟨p, rfl, isd⟩ := isKD_at hd rd
    refine ⟨p, rfl, isd, ?_⟩
    show tb σ H1 _
    refine bindT ob st1 h2 fun iv2 ρ2 y G2 H2 s2 st2 sh2 r2 h3 => ?_
    obtain ⟨d, rx, h4⟩ := post_now st2 (r1.step s2.gg sh2) h3
    obtain ⟨kk, ry, h5⟩ := post_now st2 r2 h4
    obtain ⟨cc, ec, h6⟩ := post_opt h5
    cases d <;> simp only [get1D] at ec <;> try (cases ec; done)
    · rename_i l
      split at ec
      · rename_i hk
        obtain ⟨p', o, e, dg, hn, hs⟩ := look_dg rx ry hk.1 hk.2
        cases e
        refine ⟨o, dg, ?_⟩
        cases ec
        cases el : lookD l kk with
        | none =>
          rw [hn el]
          rw [el] at h6
          exact h6 _ _ _ Stp.refl st2 (Sh.refl _) (by show Rp C.K G2 (.none) _; simp only [Rp]; rfl)
        | some dd =>
          obtain ⟨v, rfl, rv⟩ := hs dd el
          rw [el] at h6
          exact h6 _ _ _ Stp.refl st2 (Sh.refl _) rv
      · cases ec
  · simp only [if_neg hd] at h2
    exact h2.elim
theorem ok_get2 (oa : MOk C (RIv C.K) ta ma) (ob : MOk C (RIv C.K) tb mb) (oc : MOk C (RIv C.K) tc mc) : MOk C (RIv C.K) (tDGet2 ta tb tc) (dGet2 ma mb mc) := by
  intro G H ρ σ Q st h
  show ta σ H _
  refine bindT oa st h fun iv ρ1 x G1 H1 s1 st1 sh1 r1 h1 => ?_
  obtain ⟨d0, rd, h2⟩ := post_now st1 r1 h1
  by_cases hd : isKD d0 = true
  · simp only [if_pos hd] at h2
    obtain ⟨p, rfl, isd⟩ := isKD_at hd rd
    refine ⟨p, rfl, isd, ?_⟩
    show tb σ H1 _
    refine bindT ob st1 h2 fun iv2 ρ2 y G2 H2 s2 st2 sh2 r2 h3 => ?_
    show tc σ H2 _
    refine bindT oc st2 h3 fun iv3 ρ3 z G3 H3 s3 st3 sh3 r3 h4 => ?_
    obtain ⟨d, rx, h5⟩ := post_now st3 ((r1.step s2.gg sh2).step s3.gg sh3) h4
    obtain ⟨kk, ry, h6⟩ := post_now st3 (r2.step s3.gg sh3) h5
    obtain ⟨zd, rz, h7⟩ := post_keep r3 h6
    obtain ⟨cc, ec, h8⟩ := post_opt h7
    cases d <;> simp only [get2D] at ec <;> try (cases ec; done)
    · rename_i l
      split at ec
      · rename_i hk
        obtain ⟨p', o, e, dg, hn, hs⟩ := look_dg rx ry hk.1 hk.2
        cases e
        refine ⟨o, dg, ?_⟩
        cases ec
        cases el : lookD l kk with
        | none =>
          rw [hn el]
          rw [el] at h8
          exact h8 _ _ _ Stp.refl st3 (Sh.refl _) rz
        | some dd =>
          obtain ⟨v, rfl, rv⟩ := hs dd el
          rw [el] at h8
          exact h8 _ _ _ Stp.refl st3 (Sh.refl _) rv
      · cases ec
  · simp only [if_neg hd] at h2
    exact h2.elim
/-- d.get(k) -/
theorem x_get1 (hr : Room k X.A) (ha : EJ C X a ta ma) (hb : EJ C X b tb mb) (m : M1 X a "get" apos b pos := by exact ⟨rfl, rfl, rfl, rfl⟩) : EJ C X (.Call (.Attribute a "get" apos) [b] [] pos) (tDGet1 ta tb) (dGet1 ma mb) :=
  ⟨pe_dget1 (by have := room64 hr; omega) ha.1 hb.1 m, ok_get1 ha.2 hb.2⟩
/-- d.get(k, x) -/
theorem x_get2 (hr : Room k X.A) (ha : EJ C X a ta ma) (hb : EJ C X b tb mb) (hc : EJ C X c tc mc) (m : M2 X a "get" apos b c pos := by exact ⟨rfl, rfl, rfl, rfl⟩) : EJ C X (.Call (.Attribute a "get" apos) [b, c] [] pos) (tDGet2 ta tb tc) (dGet2 ma mb mc) :=
  ⟨pe_dget2 (by have := room64 hr; omega) ha.1 hb.1 hc.1 m, ok_get2 ha.2 hb.2 hc.2⟩
end
end DL

/-! D34: d.setdefault(k, x) of a dict of one's own, keys ints or texts. -/
namespace DL
open PySem L2
/-- may k be set in d -/
def sdOk : D → D → Bool
  | .dict l, k => !isT l && okK l k && decide (l.length < LIM)
  | _, _ => false
def sdL : D → List (D × D)
  | .dict l => l
  | _ => []
def mSetd (o : IV) (k z : D) : M IV := .bind (mGet o) fun p => if sdOk p.2 k = true then (match lookD (sdL p.2) k with
  | some c => .pure (.val c)
  | none => .bind (mPut p.1 (.dict (putD (sdL p.2) k z))) fun _ => .pure (.val z)) else .un
def dSetd (mo mb mc : M IV) : M IV := .bind mo fun o => .bind (.now o) fun x0 => if isKD x0 = true then .bind mb fun b => .bind mc fun c => .bind (.keep b) fun k => .bind (.keep c) fun z => mSetd o k z else .un
@[simp] theorem dSetd_ap (mo mb mc : M IV) (ρ : Env) : dSetd mo mb mc ρ = (.bind mo fun o => .bind (.now o) fun x0 => if isKD x0 = true then .bind mb fun b => .bind mc fun c => .bind (.keep b) fun k => .bind (.keep c) fun z => mSetd o k z else .un : M IV) ρ := rfl
@[simp] theorem mSetd_ap (o : IV) (k z : D) (ρ : Env) : mSetd o k z ρ = (.bind (mGet o) fun p => if sdOk p.2 k = true then (match lookD (sdL p.2) k with
  | some c => .pure (.val c)
  | none => .bind (mPut p.1 (.dict (putD (sdL p.2) k z))) fun _ => .pure (.val z)) else .un : M IV) ρ := rfl
section
variable {C : Cc} {X : Cx} {a b c : Expr} {ta tb tc : TE} {ma mb mc : M IV} {apos pos : Pos}
theorem ok_setd (oa : MOk C (RIv C.K) ta ma) (ob : MOk C (RIv C.K) tb mb) (oc : MOk C (RIv C.K) tc mc) : MOk C (RIv C.K) (tDSetd ta tb tc) (dSetd ma mb mc) := by
  intro G H ρ σ Q st h
  show ta σ H _
  refine bindT oa st h fun iv ρ1 x G1 H1 s1 st1 sh1 r1 h1 => ?_
  obtain ⟨d0, rd, h2⟩ := post_now st1 r1 h1
  by_cases hd : isKD d0 = true
  · simp only [if_pos hd] at h2
    obtain ⟨p, rfl, isd⟩ := isKD_at hd rd
    refine ⟨p, rfl, isd, ?_⟩
    show tb σ H1 _
    refine bindT ob st1 h2 fun iv2 ρ2 y G2 H2 s2 st2 sh2 r2 h3 => ?_
    show tc σ H2 _
    refine bindT oc st2 h3 fun iv3 ρ3 z G3 H3 s3 st3 sh3 r3 h4 => ?_
    obtain ⟨kk, ry, h5⟩ := post_keep (r2.step s3.gg sh3) h4
    obtain ⟨zd, rz, h6⟩ := post_keep r3 h5
    unfold mSetd at h6
    obtain ⟨i, d, sl, ad, ei, e1, m1, d1, e2, ev, own, h7⟩ := post_get st3 ((r1.step s2.gg sh2).step s3.gg sh3) h6
    cases e2
    by_cases hk : sdOk d kk = true
    · simp only [if_pos hk] at h7
      cases d <;> simp only [sdOk] at hk <;> try (cases hk; done)
      rename_i l
      rw [Bool.and_eq_true, Bool.and_eq_true, decide_eq_true_eq] at hk
      have ht : ¬ isT l = true := by simpa using hk.1.1
      have hk2 := hk.1.2
      unfold okK at hk2
      rw [if_neg ht, Bool.and_eq_true] at hk2
      obtain ⟨_, e0, q⟩ := dict_kind own.top (fun _ => by simpa using hk2.2)
      cases e0
      rw [if_neg ht] at q
      obtain ⟨kvs, e, r⟩ := q
      obtain ⟨kn, g1, rfl⟩ := leafK_key hk2.1 ry
      have lk := r.look g1
      refine ⟨kvs, kn, e, rfl, ?_, fun v hv => ?_, fun hv => ?_⟩
      · have := r.length
        have h2 := lim_le
        omega
      · show Q v H3
        cases el : lookD l kk with
        | none =>
          have := lk.1 el
          rw [hv] at this
          cases this
        | some cc =>
          obtain ⟨v', e3, rv⟩ := lk.2 cc el
          rw [hv] at e3
          cases e3
          simp only [sdL, el] at h7
          exact h7 v G3 H3 Stp.refl st3 (Sh.refl _) rv
      · show Q z (upd H3 p (.dK (putK kvs kn z)))
        cases el : lookD l kk with
        | some cc =>
          obtain ⟨v', e3, _⟩ := lk.2 cc el
          rw [hv] at e3
          cases e3
        | none =>
          simp only [sdL, el] at h7
          exact post_put st3 e1 m1 ev h7 rz ⟨own.1, .inl ⟨_, upd_same, r.put g1 rz⟩⟩
    · simp only [if_neg hk] at h7
      exact h7.elim
  · simp only [if_neg hd] at h2
    exact h2.elim
/-- d.setdefault(k, x) -/
theorem x_setd (ha : EJ C X a ta ma) (hb : EJ C X b tb mb) (hc : EJ C X c tc mc) (m : M2 X a "setdefault" apos b c pos := by exact ⟨rfl, rfl, rfl, rfl⟩) : EJ C X (.Call (.Attribute a "setdefault" apos) [b, c] [] pos) (tDSetd ta tb tc) (dSetd ma mb mc) :=
  ⟨pe_dsetd ha.1 hb.1 hc.1 m, ok_setd ha.2 hb.2 hc.2⟩
end
end DL

/-! D35: a thing of one's own that is kept elsewhere from here on: it is frozen. -/
namespace DL
open PySem L2
def sFrz (j : Nat) (m : SM) : SM := fun ρ => match ρ[j]? with
  | some (some (.own d)) => m (ρ.set j (some (.dat d)))
  | _ => .un
def frzS (j : Nat) (m : SM) (o : Option (Option Sl)) (ρ : Env) : Res Fl := match o with
  | some (some (.own d)) => m (ρ.set j (some (.dat d)))
  | _ => .un
@[simp] theorem sFrz_ap (j : Nat) (m : SM) (ρ : Env) : sFrz j m ρ = frzS j m ρ[j]? ρ := rfl
@[simp] theorem frzS_own (j : Nat) (m : SM) (d : D) (ρ : Env) : frzS j m (some (some (.own d))) ρ = m (ρ.set j (some (.dat d))) := rfl
theorem ok_frz {C : Cc} {t : TS} {m : SM} (j : Nat) (h : SOk C t m) : SOk C t (sFrz j m) := by
  intro G0 H0 B G H ρ σ D en q
  unfold sFrz at q
  split at q
  · rename_i d e
    obtain ⟨v, ev, _⟩ := en.st.slot j _ e
    obtain ⟨G', en', _⟩ := en.freeze e ev (.inr rfl)
    exact h G0 H0 B G' H _ σ D en' q
  · exact q.elim
theorem s_frz {C : Cc} {X : Cx} {s : Stmt} {t : TS} {m : SM} (j : Nat) (h : SJ C X s t m) : SJ C X s t (sFrz j m) := ⟨h.1, ok_frz j h.2⟩
end DL

/-! D36: t.index(x). -/
namespace DL
open PySem L2
def tixD (l : List D) : List D → Option D
  | [d] => if SeqAt.shaped d = true ∧ PyData.canLayAll0 l = true ∧ PyData.depthAll l ≤ 60 then (l.findIdx? fun z => PyData.eqv z d).map fun j => .int (j : Nat) else none
  | _ => none
def dTix (ma : M IV) (mas : M (List IV)) : M IV := .bind ma fun a => .bind (.keep a) fun d0 => .bind (.opt (tupOf d0)) fun l => .bind mas fun ivs => .bind (keeps ivs) fun es => .bind (.opt (tixD l es)) fun c => .pure (.val c)
@[simp] theorem dTix_ap (ma : M IV) (mas : M (List IV)) (ρ : Env) : dTix ma mas ρ = (.bind ma fun a => .bind (.keep a) fun d0 => .bind (.opt (tupOf d0)) fun l => .bind mas fun ivs => .bind (keeps ivs) fun es => .bind (.opt (tixD l es)) fun c => .pure (.val c) : M IV) ρ := rfl
section
variable {C : Cc} {X : Cx} {o e : Expr} {to : TE} {tas : TA} {mo : M IV} {mas : M (List IV)} {apos pos : Pos} {k : Nat}
theorem ok_tix (oo : MOk C (RIv C.K) to mo) (oa : MOk C (RIvs C.K) tas mas) : MOk C (RIv C.K) (tIxF C.K to tas) (dTix mo mas) := by
  intro G H ρ σ Q st h
  show to σ H _
  refine bindT oo st h fun iv ρ1 x G1 H1 s1 st1 sh1 r1 h1 => ?_
  obtain ⟨d0, rd, h2⟩ := post_keep r1 h1
  obtain ⟨l, el, h3⟩ := post_opt h2
  cases d0 <;> simp only [tupOf] at el <;> try (cases el; done)
  cases el
  simp only [Rp] at rd
  obtain ⟨a, vs, rfl, ea, r⟩ := rd
  refine ⟨a, vs, rfl, ea.mono st1.gh, ?_⟩
  show tas σ H1 _
  refine bindT oa st1 h3 fun ivs ρ2 ys G2 H2 s2 st2 sh2 r2 h4 => ?_
  obtain ⟨es, re, h5⟩ := post_keeps r2 h4
  obtain ⟨c, ec, h6⟩ := post_opt h5
  unfold tixD at ec
  split at ec
  · rename_i d
    split at ec
    · rename_i hc
      obtain ⟨j, ej, rfl⟩ := Option.map_eq_some_iff.mp ec
      simp only [Rps] at re
      obtain ⟨y, _, rfl, ry, rfl⟩ := re
      obtain ⟨hj, hit, hno⟩ := List.findIdx?_eq_some_iff_getElem.mp ej
      have r' : Rps C.K H2 l vs := (r.mono s2.gg).mono st2.gh
      refine ⟨y, d, l, j, l[j], rfl, (ea.mono s2.gg).mono st2.gh, Rps.dp _ _ r' hc.2.1, Rp.dp _ _ (Rp.mono st2.gh _ _ ry) (SeqAt.canLay_of_shaped hc.1), hc.2.1, hc.2.2, hc.1, List.getElem?_eq_getElem hj, hit, fun m z hm hz => ?_, ?_⟩
      · obtain ⟨hml, rfl⟩ := List.getElem?_eq_some_iff.mp hz
        have := hno m hm
        simpa using this
      · exact h6 _ _ _ Stp.refl st2 (Sh.refl _) (by show Rp C.K G2 (.int _) _; simp only [Rp])
    · cases ec
  · cases ec
/-- t.index(x) -/
theorem x_tix (hr : Room k X.A) (ho : EJ C X o to mo) (ha : AJ C X [e] tas mas) (hK : X.K = C.K := by rfl) (hbase : attributeBase o "index" X.env (eval o X.env) = eval o X.env := by rfl)
    (hfew : ((backTo pos (starEach [e] X.env)).all (fun x => !x.1) && (backToKw pos (keywordEach [] X.env)).all (fun x => x.1.isSome) && decide (([e] : List Expr).length + ([] : List Keyword).length + (if ([] : List Keyword).isEmpty then 0 else 1) < 30)) = true := by rfl)
    (hline : (apos.endLine == pos.line) = true := by rfl) (hs : starEach [e] X.env = (false, eval e X.env) :: starEach [] X.env := by rfl) (hplain : (backTo pos (starEach [] X.env)).any (·.1) = false := by rfl) :
    EJ C X (.Call (.Attribute o "index" apos) [e] [] pos) (tIxF C.K to tas) (dTix mo mas) :=
  ⟨by rw [← hK]; exact pe_ixF (room65 hr) ho.1 ha.1 hbase hfew hline hs hplain, ok_tix ho.2 ha.2⟩
end
end DL

/-! D37: a list of one's own whose items are things of one's own: changed item by item, then frozen item by item. -/
namespace DL
open PySem L2
/-- at a a list of the things ds, which are one's own and stand at as -/
structure NestAt (K : Frag) (G H : Hp) (ds : List D) (a : Addr) (as : List Addr) : Prop where
  gn : G a = none
  top : H a = some (.lst (as.map V.ref))
  na : a ∉ as
  nd : as.Nodup
  own : Paired (fun d b => OwnAt K G H d b) ds as
theorem pget {α β : Type} {R : α → β → Prop} {xs : List α} {ys : List β} (h : Paired R xs ys) : ∀ {i : Nat} {x : α}, xs[i]? = some x → ∃ y, ys[i]? = some y ∧ R x y := by
  induction h with
  | nil => intro i x e; cases e
  | cons r h ih =>
    intro i x e
    cases i with
    | zero => cases e; exact ⟨_, rfl, r⟩
    | succ i => exact ih e
theorem pimp {α β : Type} {R S : α → β → Prop} {xs : List α} {ys : List β} (h : Paired R xs ys) (hi : ∀ x y, y ∈ ys → R x y → S x y) : Paired S xs ys := by
  induction h with
  | nil => exact .nil
  | cons r h ih => exact .cons (hi _ _ (List.mem_cons_self) r) (ih fun x y m => hi x y (List.mem_cons_of_mem _ m))
theorem pset {α β : Type} {R : α → β → Prop} {xs : List α} {ys : List β} (h : Paired R xs ys) : ∀ {i : Nat} {x : α} {y : β}, ys[i]? = some y → R x y → Paired R (xs.set i x) ys := by
  induction h with
  | nil => intro i x y e; cases e
  | cons r h ih =>
    intro i x y e q
    cases i with
    | zero => cases e; exact .cons q h
    | succ i => exact .cons r (ih e q)
theorem NestAt.step {K : Frag} {G H G' H' : Hp} {ow : Addr → Prop} {ds : List D} {a : Addr} {as : List Addr} (h : NestAt K G H ds a as) (s : Stp G H G' H' ow) (n : ∀ x, x = a ∨ x ∈ as → ¬ ow x) : NestAt K G' H' ds a as :=
  ⟨s.nf a (ne_none_of h.top) h.gn, s.fr a _ h.top (n a (.inl rfl)), h.na, h.nd, pimp h.own fun d b m o => o.step s.gg (s.nf b o.there o.1) fun u e => s.fr b u e (n b (.inr m))⟩
/-- one item is changed -/
theorem NestAt.put {K : Frag} {G H : Hp} {ds : List D} {a b : Addr} {as : List Addr} {j : Nat} {d : D} {o : HO} (h : NestAt K G H ds a as) (e : as[j]? = some b) (ob : OwnAt K G (upd H b o) d b) : NestAt K G (upd H b o) (ds.set j d) a as := by
  have mb : b ∈ as := List.mem_of_getElem? e
  have hab : a ≠ b := fun z => h.na (by rw [z]; exact mb)
  refine ⟨h.gn, by rw [upd_ne hab]; exact h.top, h.na, h.nd, ?_⟩
  have key : ∀ (xs : List D) (ys : List Addr), Paired (fun d b => OwnAt K G H d b) xs ys → ∀ j, ys.Nodup → ys[j]? = some b → Paired (fun d x => OwnAt K G (upd H b o) d x) (xs.set j d) ys := by
    intro xs ys p
    induction p with
    | nil => intro j _ e; cases e
    | cons r p ih =>
      rename_i x y xs ys
      intro j nd e
      have keep : ∀ z u, z ≠ b → OwnAt K G H u z → OwnAt K G (upd H b o) u z := fun z u hz q => q.step (Same.refl G) q.1 fun v ev => by rw [upd_ne hz]; exact ev
      obtain ⟨hy, nd'⟩ := List.nodup_cons.mp nd
      cases j with
      | zero =>
        cases e
        exact .cons ob (pimp p fun u z m q => keep z u (fun w => hy (by rw [← w]; exact m)) q)
      | succ j =>
        have mb' : b ∈ ys := List.mem_of_getElem? e
        exact .cons (keep y x (fun w => hy (by rw [w]; exact mb')) r) (ih j nd' e)
  exact key ds as h.own j h.nd e
/-- things of one's own are frozen one by one -/
theorem frozenAll {K : Frag} {H : Hp} : ∀ (ds : List D) (as : List Addr) (G : Hp), Same G H → as.Nodup → Paired (fun d b => OwnAt K G H d b) ds as →
    ∃ G', Same G G' ∧ Same G' H ∧ (∀ x, x ∉ as → G' x = G x) ∧ Rps K G' ds (as.map V.ref)
  | [], as, G, gh, nd, h => by
    cases h
    exact ⟨G, Same.refl G, gh, fun _ _ => rfl, by simp only [List.map_nil, Rps]⟩
  | d :: ds, as, G, gh, nd, h => by
    cases h with
    | cons r p =>
      rename_i b as
      obtain ⟨hb, nd'⟩ := List.nodup_cons.mp nd
      obtain ⟨o, eo, g1, g2, rd⟩ := frozen gh r
      obtain ⟨G', h1, h2, h3, h4⟩ := frozenAll ds as (upd G b o) g2 nd' (pimp p fun z u m q => q.step g1 (by rw [upd_ne (fun w => hb (by rw [← w]; exact m))]; exact q.1) fun _ e => e)
      refine ⟨G', g1.trans h1, h2, fun x hx => ?_, ?_⟩
      · have hx1 : x ≠ b := fun z => hx (by rw [z]; exact List.mem_cons_self)
        rw [h3 x (fun z => hx (List.mem_cons_of_mem _ z)), upd_ne hx1]
      · simp only [List.map_cons, Rps]
        exact ⟨_, _, rfl, rd.mono h1, h4⟩
/-- the items are frozen: a list of one's own is left -/
theorem NestAt.close {K : Frag} {G H : Hp} {ds : List D} {a : Addr} {as : List Addr} (h : NestAt K G H ds a as) (gh : Same G H) : ∃ G', Same G G' ∧ Same G' H ∧ (∀ x, x ∉ as → G' x = G x) ∧ OwnAt K G' H (.list ds) a := by
  obtain ⟨G', h1, h2, h3, h4⟩ := frozenAll ds as G gh h.nd h.own
  exact ⟨G', h1, h2, h3, by rw [h3 a h.na]; exact h.gn, _, h.top, h4⟩

/-- within a def's body: the name i holds a list of one's own of things of one's own -/
structure NEnt (K : Frag) (G0 H0 : Hp) (B : Nat → Option Addr) (G H : Hp) (ρ : Env) (σ : St) (i : Nat) (ds : List D) : Prop where
  en : Ent K G0 H0 B G H ρ σ
  hid : ρ[i]? = some none
  nest : ∃ a as, σ[i]? = some (some (V.ref a)) ∧ NestAt K G H ds a as ∧ (∀ x, x = a ∨ x ∈ as → ¬ Ow ρ σ x) ∧ ∀ x, x = a ∨ x ∈ as → H0 x = none
theorem Sh.none {ρ ρ' : Env} (h : Sh ρ ρ') {i : Nat} (e : ρ[i]? = some none) : ρ'[i]? = some none := by
  have q := h.get i
  rw [e] at q
  cases e' : ρ'[i]? with
  | none => rw [e'] at q; cases q
  | some o =>
    rw [e'] at q
    cases o with
    | none => rfl
    | some s => cases s <;> cases q
theorem NEnt.step {K : Frag} {G0 H0 G H G' H' : Hp} {B : Nat → Option Addr} {ρ ρ' : Env} {σ : St} {i : Nat} {ds : List D} (n : NEnt K G0 H0 B G H ρ σ i ds) (s : Stp G H G' H' (Ow ρ σ)) (st : St0 K G' H' ρ' σ) (sh : Sh ρ ρ') : NEnt K G0 H0 B G' H' ρ' σ i ds := by
  obtain ⟨a, as, ev, h, fr, nw⟩ := n.nest
  exact ⟨n.en.step s st sh, sh.none n.hid, a, as, ev, h.step s fr, fun x m z => fr x m (sh.symm.ow z), nw⟩
/-- something that is no slot's is changed -/
theorem Ent.upd {K : Frag} {G0 H0 G H : Hp} {B : Nat → Option Addr} {ρ : Env} {σ : St} {b : Addr} {o : HO} (en : Ent K G0 H0 B G H ρ σ) (gb : G b = none) (hb : H0 b = none) (no : ¬ Ow ρ σ b) : Ent K G0 H0 B G (upd H b o) ρ σ := by
  have ne : ∀ x u, H0 x = some u → x ≠ b := fun x u e z => by rw [z, hb] at e; cases e
  refine ⟨⟨fun x u e => by rw [upd_ne (ne_of_none e gb)]; exact en.st.gh x u e, en.st.len, fun j s e => ?_, en.st.dis⟩, en.gg, fun x u e n => by rw [upd_ne (ne x u e)]; exact en.fr x u e n, en.nf, fun x e => ?_, en.own, en.bor⟩
  · obtain ⟨v, ev, ok⟩ := en.st.slot j s e
    refine ⟨v, ev, ?_⟩
    cases m : s.isM with
    | false =>
      cases s with
      | dat d => exact ok
      | own d => cases m
      | bor d => cases m
    | true =>
      obtain ⟨c, rfl, oa⟩ := ok.m m
      have hc : c ≠ b := fun z => no ⟨j, s, e, m, by rw [← z]; exact ev⟩
      exact SlOk.of_m m (oa.step (Same.refl G) oa.1 fun u q => by rw [upd_ne hc]; exact q)
  · obtain ⟨u, eu⟩ := some_of_ne e
    rw [upd_ne (ne x u eu)]
    exact en.tr x e
/-- more is frozen, of what is no slot's -/
theorem Ent.more {K : Frag} {G0 H0 G H G' : Hp} {B : Nat → Option Addr} {ρ : Env} {σ : St} {as : List Addr} (en : Ent K G0 H0 B G H ρ σ) (gg : Same G G') (gh : Same G' H) (hx : ∀ x, x ∉ as → G' x = G x) (no : ∀ x, x ∈ as → ¬ Ow ρ σ x) (nw : ∀ x, x ∈ as → H0 x = none) : Ent K G0 H0 B G' H ρ σ := by
  refine ⟨⟨gh, en.st.len, fun j s e => ?_, en.st.dis⟩, en.gg.trans gg, en.fr, fun x h g => ?_, en.tr, en.own, en.bor⟩
  · obtain ⟨v, ev, ok⟩ := en.st.slot j s e
    refine ⟨v, ev, ?_⟩
    cases m : s.isM with
    | false =>
      cases s with
      | dat d => exact Rp.mono gg d v ok
      | own d => cases m
      | bor d => cases m
    | true =>
      obtain ⟨c, rfl, oa⟩ := ok.m m
      have hc : c ∉ as := fun z => no c z ⟨j, s, e, m, ev⟩
      exact SlOk.of_m m (oa.step gg (by rw [hx c hc]; exact oa.1) fun u q => q)
  · rw [hx x fun z => h (nw x z)]
    exact en.nf x h g
/-- from here on a plain list of one's own -/
theorem NEnt.close {K : Frag} {G0 H0 G H : Hp} {B : Nat → Option Addr} {ρ : Env} {σ : St} {i : Nat} {ds : List D} (n : NEnt K G0 H0 B G H ρ σ i ds) : ∃ G', Ent K G0 H0 B G' H (ρ.set i (some (.own (.list ds)))) σ := by
  obtain ⟨a, as, ev, h, fr, nw⟩ := n.nest
  obtain ⟨G', h1, h2, h3, oa⟩ := h.close n.en.st.gh
  have en := n.en.more h1 h2 h3 (fun x m => fr x (.inr m)) fun x m => nw x (.inr m)
  have hi : i < ρ.length := (List.getElem?_eq_some_iff.mp n.hid).1
  have q := en.putOwn (i := i) oa (nw a (.inl rfl)) (fr a (.inl rfl)) hi (by rw [n.hid]; rintro ⟨d, z⟩; cases z)
  have es : σ.set i (some (V.ref a)) = σ := by
    obtain ⟨hl, e⟩ := List.getElem?_eq_some_iff.mp ev
    rw [← e]; exact List.set_getElem_self hl
  rw [es] at q
  exact ⟨G', q⟩
end DL

/-! D38: xs[j][k] = v where xs is a list of one's own of dicts of one's own. -/
namespace DL
open PySem L2
theorem bind_inv {α β : Type} {m : M α} {f : α → M β} {ρ ρ' : Env} {b : β} (h : M.bind m f ρ = .ok b ρ') : ∃ a ρ1, m ρ = .ok a ρ1 ∧ f a ρ1 = .ok b ρ' := by
  unfold M.bind at h
  cases e : m ρ with
  | un => rw [e] at h; cases h
  | exc x ρ1 => rw [e] at h; cases h
  | ok a ρ1 => rw [e] at h; exact ⟨a, ρ1, rfl, h⟩
theorem keep_inv {β : Type} {iv : IV} {f : D → M β} {ρ ρ' : Env} {b : β} (h : M.bind (M.keep iv) f ρ = .ok b ρ') : ∃ d, iv = .val d ∧ f d ρ = .ok b ρ' := by
  cases iv with
  | val d => exact ⟨d, rfl, h⟩
  | sl i => cases h
theorem opt_inv {α β : Type} {o : Option α} {f : α → M β} {ρ ρ' : Env} {b : β} (h : M.bind (M.opt o) f ρ = .ok b ρ') : ∃ a, o = some a ∧ f a ρ = .ok b ρ' := by
  cases o with
  | none => cases h
  | some a => exact ⟨a, rfl, h⟩
def nIx (ds : List D) : D → Option (Nat × D)
  | .int z => (ixN ds.length z).bind fun j => (ds[j]?).map fun d => (j, d)
  | _ => none
def nSub (mj mk mv : M IV) (ds : List D) : M (List D) := .bind mv fun v => .bind (.keep v) fun y => .bind mj fun jv => .bind (.keep jv) fun jd => .bind (.opt (nIx ds jd)) fun p => .bind mk fun kv => .bind (.keep kv) fun k => .bind (.opt (setDk p.2 k y)) fun d' => .pure (ds.set p.1 d')
theorem plen {α β : Type} {R : α → β → Prop} {xs : List α} {ys : List β} (h : Paired R xs ys) : xs.length = ys.length := by
  induction h with
  | nil => rfl
  | cons _ _ ih => simp [ih]
theorem nest_sub {C : Cc} {tj tk tv : TE} {mj mk mv : M IV} (hj : MOk C (RIv C.K) tj mj) (hk : MOk C (RIv C.K) tk mk) (hv : MOk C (RIv C.K) tv mv) {G0 H0 G H : Hp} {B : Nat → Option Addr} {ρ ρ' : Env} {σ : St} {E : Ends} {i : Nat} {ds ds' : List D}
    (n : NEnt C.K G0 H0 B G H ρ σ i ds) (e : nSub mj mk mv ds ρ = .ok ds' ρ') (q : ∀ G' H', Same G G' → NEnt C.K G0 H0 B G' H' ρ' σ i ds' → E.nx σ H') : sPutD (tOp (rIdx C.K) (tVar i) tj) tk tv E σ H := by
  obtain ⟨v, ρ1, e1, u1⟩ := bind_inv e
  obtain ⟨y, w1, u2⟩ := keep_inv u1
  obtain ⟨jv, ρ2, e2, u3⟩ := bind_inv u2
  obtain ⟨jd, w2, u4⟩ := keep_inv u3
  obtain ⟨p, ep, u5⟩ := opt_inv u4
  obtain ⟨kv, ρ3, e3, u6⟩ := bind_inv u5
  obtain ⟨k, w3, u7⟩ := keep_inv u6
  obtain ⟨d', ed, u8⟩ := opt_inv u7
  subst w1 w2 w3
  cases u8
  obtain ⟨a, as, ev, h, fr, nw⟩ := n.nest
  show tv σ H _
  refine hv G H ρ σ _ n.en.st ?_
  rw [e1]
  intro x G1 H1 s1 st1 sh1 r1
  have en1 := n.en.step s1 st1 sh1
  have h1 := h.step s1 fr
  have fr1 : ∀ x, x = a ∨ x ∈ as → ¬ Ow ρ1 σ x := fun x m z => fr x m (sh1.symm.ow z)
  refine ⟨V.ref a, ev, ?_⟩
  refine hj G1 H1 ρ1 σ _ st1 ?_
  rw [e2]
  intro z G2 H2 s2 st2 sh2 r2
  have en2 := en1.step s2 st2 sh2
  have h2 := h1.step s2 fr1
  have fr2 : ∀ x, x = a ∨ x ∈ as → ¬ Ow ρ2 σ x := fun x m z => fr1 x m (sh2.symm.ow z)
  unfold nIx at ep
  split at ep
  case h_2 => cases ep
  rename_i zi
  have hz : z = .int zi := by
    have r2 : Rp C.K G2 (.int zi) z := r2
    simpa only [Rp] using r2
  subst hz
  obtain ⟨j, ej, ep⟩ := Option.bind_eq_some_iff.mp ep
  obtain ⟨d, edj, rfl⟩ := Option.map_eq_some_iff.mp ep
  obtain ⟨b, eb, _⟩ := pget h2.own edj
  refine .inl ⟨a, _, zi, V.ref b, rfl, rfl, .inl (.inl h2.top), ?_, ?_⟩
  · unfold L2.atI
    rw [List.length_map, ← plen h2.own, ej]
    show (as.map V.ref)[j]? = _
    rw [List.getElem?_map, eb]; rfl
  refine hk G2 H2 ρ2 σ _ st2 ?_
  rw [e3]
  intro kx G3 H3 s3 st3 sh3 r3
  have en3 := en2.step s3 st3 sh3
  have h3 := h2.step s3 fr2
  have fr3 : ∀ x, x = a ∨ x ∈ as → ¬ Ow ρ' σ x := fun x m z => fr2 x m (sh3.symm.ow z)
  obtain ⟨b', eb', ob⟩ := pget h3.own edj
  rw [eb] at eb'
  cases eb'
  have mb : b ∈ as := List.mem_of_getElem? eb
  have rk : Rp C.K G3 k kx := r3
  have ry : Rp C.K G1 y x := r1
  have done := ps_setD (K := C.K) G3 H3 b kx x d k y d' (fun H' => E.nx σ H') st3.gh ob rk (Rp.mono (s2.gg.trans s3.gg) y x ry) ed fun o oa => by
    refine q G3 _ (s1.gg.trans (s2.gg.trans s3.gg)) ⟨en3.upd ob.1 (nw b (.inr mb)) (fr3 b (.inr mb)), ?_, a, as, ev, h3.put eb oa, fr3, nw⟩
    exact sh3.none (sh2.none (sh1.none n.hid))
  obtain ⟨a4, H4, z1, z2, z3⟩ := done
  cases z1
  exact ⟨b, H4, rfl, z2, z3⟩
end DL

/-! D39: for .. in ..: xs[j][k] = v, xs a list of one's own of dicts of one's own. -/
namespace DL
open PySem L2
theorem NEnt.gro {K : Frag} {G0 H0 G H G' H' : Hp} {B : Nat → Option Addr} {ρ : Env} {σ : St} {i : Nat} {ds : List D} (n : NEnt K G0 H0 B G H ρ σ i ds) (g : Gro G H G' H') : NEnt K G0 H0 B G' H' ρ σ i ds := n.step g.stp (n.en.st.gro g) (Sh.refl ρ)
theorem NEnt.pat {K : Frag} {G0 H0 G H : Hp} {B : Nat → Option Addr} {ρ ρ' : Env} {σ σ' : St} {ts : List Nat} {i : Nat} {ds : List D} (n : NEnt K G0 H0 B G H ρ σ i ds) (st : St0 K G H ρ' σ') (r : PatRel ts ρ σ ρ' σ') (hi : i ∉ ts) : NEnt K G0 H0 B G H ρ' σ' i ds := by
  obtain ⟨a, as, ev, h, fr, nw⟩ := n.nest
  refine ⟨n.en.pat st r, by rw [(r.out i hi).1]; exact n.hid, a, as, by rw [(r.out i hi).2]; exact ev, h, fun x m z => ?_, nw⟩
  obtain ⟨j, s, e, ms, q⟩ := z
  by_cases hj : j ∈ ts
  · obtain ⟨⟨d', z⟩, _⟩ := r.inn j hj
    rw [z] at e
    cases e
    cases ms
  · rw [(r.out j hj).1] at e
    rw [(r.out j hj).2] at q
    exact fr x m ⟨j, s, e, ms, q⟩
def nForL (pat : D → M Unit) (mj mk mv : M IV) : List D → List D → M (List D)
  | [], ds => .pure ds
  | d :: l, ds => .bind (pat d) fun _ => .bind (nSub mj mk mv ds) fun ds' => nForL pat mj mk mv l ds'
def nFor (mi : M (List D)) (pat : D → M Unit) (mj mk mv : M IV) (ds : List D) : M (List D) := .bind mi fun xs => nForL pat mj mk mv xs ds
theorem nest_for {C : Cc} {wi : TI} {g : TG} {tj tk tv : TE} {mi : M (List D)} {pat : D → M Unit} {ts : List Nat} {mj mk mv : M IV} (oi : MOk C (RW C.K) wi mi) (og : GOk C.K g ts pat) (hj : MOk C (RIv C.K) tj mj) (hk : MOk C (RIv C.K) tk mk) (hv : MOk C (RIv C.K) tv mv)
    {G0 H0 G H : Hp} {B : Nat → Option Addr} {ρ ρ' : Env} {σ : St} {E : Ends} {i : Nat} {ds ds' : List D} (hi : i ∉ ts)
    (n : NEnt C.K G0 H0 B G H ρ σ i ds) (e : nFor mi pat mj mk mv ds ρ = .ok ds' ρ') (q : ∀ σ' G' H', NEnt C.K G0 H0 B G' H' ρ' σ' i ds' → E.nx σ' H') :
    tFor wi g (sPutD (tOp (rIdx C.K) (tVar i) tj) tk tv) E σ H := by
  obtain ⟨xs, ρ1, e1, u1⟩ := bind_inv e
  show wi σ H _
  refine oi G H ρ σ _ n.en.st ?_
  rw [e1]
  intro J G1 H1 s1 st1 sh1 wk
  have n1 := n.step s1 st1 sh1
  let W : Nat → Nat → St → Hp → Prop := fun t k σ' H' => k = xs.length - t ∧ t ≤ xs.length ∧ ∃ G2 ρ2 ds2, Same G1 G2 ∧ NEnt C.K G0 H0 B G2 H' ρ2 σ' i ds2 ∧ nForL pat mj mk mv (xs.drop t) ds2 ρ2 = .ok ds' ρ'
  refine ⟨W, ⟨xs.length, by simp, Nat.zero_le _, G1, ρ1, ds, Same.refl G1, n1, u1⟩, ?_⟩
  rintro t k σ2 H2 ⟨rfl, ht, G2, ρ2, ds2, g12, n2, e2⟩
  by_cases hlt : t < xs.length
  case neg =>
    have et : t = xs.length := by omega
    subst et
    rw [List.drop_length] at e2
    cases e2
    exact .inl ⟨wk.fin G2 H2 g12 n2.en.st.gh, q σ2 G2 H2 n2⟩
  case pos =>
    obtain ⟨jgo, jy⟩ := wk.step G2 H2 t xs[t] (List.getElem?_eq_getElem hlt) g12 n2.en.st.gh
    refine .inr ⟨jgo, fun σ' H' => W (t + 1) (xs.length - (t + 1)) σ' H', fun σ' H' w => ⟨_, by omega, w⟩, fun x H3 yx => ?_⟩
    obtain ⟨G3, g3, rx⟩ := jy x H3 yx
    have n3 := n2.gro g3
    rw [List.drop_eq_getElem_cons hlt] at e2
    obtain ⟨u, ρ3, ep, e3⟩ := bind_inv e2
    obtain ⟨ds3, ρ4, es, e4⟩ := bind_inv e3
    refine og G3 H3 ρ2 σ2 xs[t] x ρ3 _ n3.en.st rx ep fun σ3 st3 pr => ?_
    have n4 := n3.pat st3 pr hi
    exact nest_sub hj hk hv n4 es fun G5 H5 g5 n5 => ⟨rfl, hlt, G5, ρ4, ds3, g12.trans (g3.gg.trans g5), n5, e4⟩
end DL

/-! D40: [new thing for .. in ..]: a list of one's own of things of one's own. -/
namespace DL
open PySem L2
theorem papp {α β : Type} {R : α → β → Prop} {xs : List α} {ys : List β} {x : α} {y : β} (h : Paired R xs ys) (r : R x y) : Paired R (xs ++ [x]) (ys ++ [y]) := by
  induction h with
  | nil => exact .cons r .nil
  | cons q _ ih => exact .cons q ih
def nlLoop (pat : D → M Unit) (me : M D) (vs : List Nat) : List D → List D → M (List D)
  | [], acc => .pure acc
  | d :: l, acc => .bind (pat d) fun _ => .bind me fun e => fun ρ => if acc.length < LIM then nlLoop pat me vs l (acc ++ [e]) (wipeE ρ vs) else .un
def nLc (mi : M (List D)) (pat : D → M Unit) (me : M D) (vs : List Nat) : M (List D) := .bind mi fun ds => fun ρ => if cleanV ρ vs = true then (match nlLoop pat me vs ds [] (wipeE ρ vs) with
  | .ok acc ρt => .ok acc (restE ρt ρ vs)
  | _ => .un) else .un
theorem nest_lc {C : Cc} {wi : TI} {g : TG} {te : TE} {vs ts : List Nat} {mi : M (List D)} {pat : D → M Unit} {me : M D} (oi : MOk C (RW C.K) wi mi) (og : GOk C.K g ts pat) (hts : ∀ i, i ∈ ts → i ∈ vs) (oe : FOk (C0 C) te me)
    {G H : Hp} {ρ ρ' : Env} {σ : St} {Q : VK} {ds' : List D} (st : St0 C.K G H ρ σ) (h : nLc mi pat me vs ρ = .ok ds' ρ')
    (q : ∀ a as G' H', Stp G H G' H' (Ow ρ σ) → St0 C.K G' H' ρ' σ → Sh ρ ρ' → NestAt C.K G' H' ds' a as → (∀ x, x = a ∨ x ∈ as → H x = none) → Q (.ref a) H') : tLc wi g tYes te vs σ H Q := by
  obtain ⟨ds, ρ1, e1, h1⟩ := bind_inv h
  show wi σ H _
  refine oi G H ρ σ _ st ?_
  rw [e1]
  intro J G1 H1 s1 st1 sh1 wk
  split at h1
  case isFalse => cases h1
  rename_i hc
  cases eL : nlLoop pat me vs ds [] (wipeE ρ1 vs) with
  | un => rw [eL] at h1; cases h1
  | exc x ρ2 => rw [eL] at h1; cases h1
  | ok accF ρF =>
  rw [eL] at h1
  cases h1
  intro Dd hD
  have back : ∀ x, H1 x = none → H x = none := fun x hx => by
    cases q : H x with
    | none => rfl
    | some o => exact (s1.tr x (ne_none_of q) hx).elim
  have stw := st1.wipe vs
  have noOw : ∀ ρt x, Sh (wipeE ρ1 vs) ρt → H1 x = none → ¬ Ow ρt (wipe σ vs) x := fun ρt x sh hx z => Ow.there st1 (wipe_ow (sh.symm.ow z)) hx
  let W : Nat → Hp → Prop := fun i H' => i ≤ ds.length ∧ ∃ G' ρt acc as, St0 C.K G' H' ρt (wipe σ vs) ∧ Stp G1 H1 G' H' (Ow ρ1 σ) ∧ NestAt C.K G' H' acc Dd as ∧ (∀ x, x = Dd ∨ x ∈ as → H1 x = none) ∧ Sh (wipeE ρ1 vs) ρt ∧ acc.length ≤ LIM ∧
    nlLoop pat me vs (ds.drop i) acc ρt = .ok ds' ρF
  refine ⟨fun i m H' => m = ds.length - i ∧ W i H', ⟨ds.length, by simp, Nat.zero_le _, G1, wipeE ρ1 vs, [], [], stw.gro (Gro.mine st1.gh hD _), (Gro.mine st1.gh hD _).stp, ⟨?_, upd_same, by simp, List.nodup_nil, .nil⟩, ?_, Sh.refl _, Nat.zero_le _, eL⟩, ?_⟩
  · cases q : G1 Dd with
    | none => rfl
    | some o => rw [st1.gh _ _ q] at hD; cases hD
  · intro x hx
    rcases hx with rfl | hx
    · exact hD
    · cases hx
  rintro i m H2 ⟨rfl, hi, G2, ρt, acc, as, st2, s2, ne2, nw, sht, hlim, eLi⟩
  by_cases hlt : i < ds.length
  case neg =>
    have e : i = ds.length := by omega
    subst e
    refine .inl ⟨wk.fin G2 H2 s2.gg st2.gh, ?_⟩
    rw [List.drop_length] at eLi
    cases eLi
    obtain ⟨a1, a2⟩ := rest_ok hc st1 s2.gg st2 sht
    exact q Dd as G2 H2 (s1.trans s2 fun x z => sh1.symm.ow z) a1 (sh1.trans a2) ne2 fun x m => back x (nw x m)
  case pos =>
    have ed : ds[i]? = some ds[i] := List.getElem?_eq_getElem hlt
    obtain ⟨jgo, jy⟩ := wk.step G2 H2 i ds[i] ed s2.gg st2.gh
    refine .inr ⟨jgo, W (i + 1), fun H' w => ⟨ds.length - (i + 1), by omega, rfl, w⟩, fun x H3 yx => ?_⟩
    obtain ⟨G3, g3, rx⟩ := jy x H3 yx
    rw [List.drop_eq_getElem_cons hlt] at eLi
    obtain ⟨u, ρ3, ep, e3⟩ := bind_inv eLi
    obtain ⟨e, ρ5, ee, e4⟩ := bind_inv e3
    split at e4
    case isFalse => cases e4
    rename_i hacc
    have ne3 : NestAt C.K G3 H3 acc Dd as := ne2.step (g3.stp (ow := Ow ρt (wipe σ vs))) fun x m => noOw ρt x sht (nw x m)
    refine og G3 H3 ρt (wipe σ vs) ds[i] x ρ3 _ (st2.gro g3) rx ep fun σ3 st3 pr => ?_
    have ew : wipe σ3 vs = wipe σ vs := wipe_eq (ts := ts) (by rw [pr.lens, wipe_length]) hts fun j hj => (pr.out j hj).2
    refine ⟨ew, ?_⟩
    have noOw3 : ∀ y, y = Dd ∨ y ∈ as → ¬ Ow ρ3 σ3 y := by
      rintro y hy ⟨j, s, z1, z2, z3⟩
      by_cases hj : j ∈ ts
      · obtain ⟨⟨d, z⟩, _⟩ := pr.inn j hj
        rw [z] at z1; cases z1; cases z2
      · rw [(pr.out j hj).1] at z1
        rw [(pr.out j hj).2] at z3
        exact noOw ρt y sht (nw y hy) ⟨j, s, z1, z2, z3⟩
    have ow3 : ∀ a, Ow ρ3 σ3 a → Ow ρ1 σ a := by
      rintro a ⟨j, s, z1, z2, z3⟩
      by_cases hj : j ∈ ts
      · obtain ⟨⟨d, z⟩, _⟩ := pr.inn j hj
        rw [z] at z1; cases z1; cases z2
      · rw [(pr.out j hj).1] at z1
        rw [(pr.out j hj).2] at z3
        exact wipe_ow (sht.symm.ow ⟨j, s, z1, z2, z3⟩)
    have s23 : Stp G1 H1 G3 H3 (Ow ρ1 σ) := s2.trans (g3.stp (ow := Ow ρ1 σ)) fun _ z => z
    have shw : ∀ ρ5, Sh ρ3 ρ5 → Sh (wipeE ρ1 vs) (wipeE ρ5 vs) := by
      intro ρ5 sh5
      have l5 : ρ5.length = (wipeE ρ1 vs).length := by
        have a := congrArg List.length sh5
        have b := congrArg List.length sht
        simp only [List.length_map] at a b
        rw [← a, pr.len, ← b]
      apply List.ext_getElem?
      intro j
      rw [List.getElem?_map, List.getElem?_map]
      by_cases hj : j ∈ vs
      · have z1 : ∀ ρ0 : Env, j < ρ0.length → ((wipeE ρ0 vs)[j]?).map kd = some 0 := fun ρ0 hb => by
          have hb' : j < (wipeE ρ0 vs).length := by rw [wipeE_len]; exact hb
          have q := (wipeE_get ρ0 vs j).2 hj
          rw [List.getElem?_eq_getElem hb'] at q ⊢
          cases r : (wipeE ρ0 vs)[j] with
          | none => rfl
          | some s => rw [r] at q; exact (q s rfl).elim
        have hb := (clean_get hc hj).1
        rw [z1 ρ1 hb, z1 ρ5 (by rw [l5, wipeE_len]; exact hb)]
      · have hjt : j ∉ ts := fun z => hj (hts j z)
        rw [(wipeE_get ρ5 vs j).1 hj, ← sh5.get j, (pr.out j hjt).1, ← sht.get j]
    show te σ3 H3 _
    refine oe G3 H3 ρ3 σ3 _ st3 ?_
    rw [ee]
    rintro y G5 H5 s5 st5 sh5 ⟨b, rfl, hb, ob⟩
    have ne5 := ne3.step s5 noOw3
    have s25 : Stp G1 H1 G5 H5 (Ow ρ1 σ) := s23.trans s5 ow3
    have hb1 : H1 b = none := by
      cases q : H1 b with
      | none => rfl
      | some o => exact (s23.tr b (ne_none_of q) hb).elim
    have hbD : b ≠ Dd := fun z => ne_none_of ne3.top (by rw [← z]; exact hb)
    have noOw5 : ¬ Ow ρ5 σ3 Dd := fun z => noOw3 Dd (.inl rfl) (sh5.symm.ow z)
    refine ⟨as.map V.ref, ne5.top, by rw [List.length_map, ← plen ne5.own]; exact Nat.lt_of_lt_of_le hacc lim_le, hlt, G5, wipeE ρ5 vs, acc ++ [e], as ++ [b], ?_, ?_, ⟨ne5.gn, by rw [upd_same]; simp, ?_, ?_, papp (pimp ne5.own fun d z m o => ?_) ?_⟩, ?_, shw _ sh5, by rw [List.length_append]; exact hacc, e4⟩
    · rw [← ew]
      have stw5 := st5.wipe vs
      refine ⟨fun a o q => ?_, stw5.len, fun j s q => ?_, stw5.dis⟩
      · rw [upd_ne (ne_of_none q ne5.gn)]; exact stw5.gh a o q
      · obtain ⟨v, ev, ok⟩ := stw5.slot j s q
        refine ⟨v, ev, ?_⟩
        cases ms : s.isM with
        | false =>
          cases s with
          | dat d => exact ok
          | own d => cases ms
          | bor d => cases ms
        | true =>
          obtain ⟨a, rfl, oa⟩ := ok.m ms
          have ha : a ≠ Dd := fun z => noOw5 (wipe_ow ⟨j, s, q, ms, by rw [← z]; exact ev⟩)
          exact SlOk.of_m ms (oa.step (Same.refl _) oa.1 fun o q => by rw [upd_ne ha]; exact q)
    · refine ⟨s25.gg, s25.nf, fun a o q n => ?_, fun a q => ?_⟩
      · rw [upd_ne (ne_of_none q hD)]; exact s25.fr a o q n
      · by_cases ha : a = Dd
        · subst ha; exact (q hD).elim
        · rw [upd_ne ha]; exact s25.tr a q
    · intro z
      rcases List.mem_append.mp z with z | z
      · exact ne5.na z
      · exact hbD (List.mem_singleton.mp z).symm
    · refine List.nodup_append.mpr ⟨ne5.nd, List.nodup_cons.mpr ⟨by simp, List.nodup_nil⟩, fun x hx y hy z => ?_⟩
      rw [List.mem_singleton] at hy
      subst hy; subst z
      obtain ⟨k, hk⟩ := List.getElem?_of_mem hx
      have : ∀ (xs : List D) (ys : List Addr), Paired (fun d b => OwnAt C.K G3 H3 d b) xs ys → x ∈ ys → H3 x ≠ none := by
        intro xs ys p m
        induction p with
        | nil => cases m
        | cons r p ih =>
          rcases List.mem_cons.mp m with rfl | m
          · exact r.there
          · exact ih m
      exact this _ _ ne3.own hx hb
    · have hz : z ≠ Dd := fun w => ne5.na (by rw [← w]; exact m)
      exact o.step (Same.refl _) o.1 fun u e => by rw [upd_ne hz]; exact e
    · exact ob.step (Same.refl _) ob.1 fun u e => by rw [upd_ne hbD]; exact e
    · intro x hx
      rcases hx with rfl | hx
      · exact hD
      · rcases List.mem_append.mp hx with hx | hx
        · exact nw x (.inr hx)
        · rw [List.mem_singleton.mp hx]; exact hb1
end DL

/-! D41: name = [new thing for ..]; for ..: name[j][k] = v. -/
namespace DL
open PySem L2
theorem Ent.hide {K : Frag} {G0 H0 G H : Hp} {B : Nat → Option Addr} {ρ : Env} {σ : St} {i : Nat} {v : V} (en : Ent K G0 H0 B G H ρ σ) (hb : ¬ ∃ d, ρ[i]? = some (some (Sl.bor d))) (hi : i < ρ.length) : Ent K G0 H0 B G H (ρ.set i none) (σ.set i (some v)) := by
  have ge : ∀ j, j ≠ i → (ρ.set i none)[j]? = ρ[j]? ∧ (σ.set i (some v))[j]? = σ[j]? := fun j hj => ⟨List.getElem?_set_ne (Ne.symm hj), List.getElem?_set_ne (Ne.symm hj)⟩
  have gi : (ρ.set i none)[i]? = some none := List.getElem?_set_self hi
  have off : ∀ j s, (ρ.set i none)[j]? = some (some s) → j ≠ i := fun j s e z => by rw [z, gi] at e; cases e
  refine ⟨⟨en.st.gh, by simp [en.st.len], fun j s e => ?_, fun j k s t b e1 e2 m1 m2 q1 q2 => ?_⟩, en.gg, en.fr, en.nf, en.tr, fun j d b e q => ?_, fun j b => ?_⟩
  · have hj := off j s e
    rw [(ge j hj).1] at e
    rw [(ge j hj).2]
    exact en.st.slot j s e
  · have hj := off j s e1
    have hk := off k t e2
    rw [(ge j hj).1] at e1
    rw [(ge j hj).2] at q1
    rw [(ge k hk).1] at e2
    rw [(ge k hk).2] at q2
    exact en.st.dis j k s t b e1 e2 m1 m2 q1 q2
  · have hj := off j _ e
    rw [(ge j hj).1] at e
    rw [(ge j hj).2] at q
    exact en.own j d b e q
  · by_cases hj : j = i
    · subst hj
      rw [en.bor j b, gi]
      constructor
      · rintro ⟨h, _⟩; exact (hb h).elim
      · rintro ⟨⟨d', h⟩, _⟩; cases h
    · rw [en.bor j b, (ge j hj).1, (ge j hj).2]
def sNest (i : Nat) (mi : M (List D)) (pat : D → M Unit) (me : M D) (vs : List Nat) (mi2 : M (List D)) (pat2 : D → M Unit) (mj mk mv : M IV) (rest : SM) : SM := fun ρ => if isBor ρ[i]? = true then .un else match nLc mi pat me vs ρ with
  | .ok ds ρ1 => match nFor mi2 pat2 mj mk mv ds (ρ1.set i none) with
    | .ok ds' ρ2 => rest (ρ2.set i (some (.own (.list ds'))))
    | _ => .un
  | _ => .un
theorem Sh.nobor {ρ ρ' : Env} (h : Sh ρ ρ') {i : Nat} (e : ¬ ∃ d, ρ[i]? = some (some (Sl.bor d))) : ¬ ∃ d, ρ'[i]? = some (some (Sl.bor d)) := by
  rintro ⟨d, z⟩
  exact e (Sh.bor h.symm z)
theorem Sh.len {ρ ρ' : Env} (h : Sh ρ ρ') : ρ.length = ρ'.length := by
  have := congrArg List.length h
  simpa only [List.length_map] using this
theorem ok_nest {C : Cc} {wi wi2 : TI} {g g2 : TG} {te tj tk tv : TE} {vs ts ts2 : List Nat} {mi mi2 : M (List D)} {pat pat2 : D → M Unit} {me : M D} {mj mk mv : M IV} {u : TS} {m : SM} (i : Nat) (oi : MOk C (RW C.K) wi mi) (og : GOk C.K g ts pat) (hts : ∀ j, j ∈ ts → j ∈ vs) (oe : FOk (C0 C) te me)
    (oi2 : MOk C (RW C.K) wi2 mi2) (og2 : GOk C.K g2 ts2 pat2) (hi2 : i ∉ ts2) (hj : MOk C (RIv C.K) tj mj) (hk : MOk C (RIv C.K) tk mk) (hv : MOk C (RIv C.K) tv mv) (ok : SOk C u m) :
    SOk C (tSeq (tAsg (tLc wi g tYes te vs) (gName i)) (tSeq (tFor wi2 g2 (sPutD (tOp (rIdx C.K) (tVar i) tj) tk tv)) u)) (sNest i mi pat me vs mi2 pat2 mj mk mv m) := by
  intro G0 H0 B G H ρ σ E en q
  unfold sNest at q
  split at q
  · exact q.elim
  rename_i hb
  obtain ⟨hl, nb⟩ := isBor_no hb
  split at q
  case h_2 => exact q.elim
  rename_i ds ρ1 e1
  split at q
  case h_2 => exact q.elim
  rename_i ds' ρ2 e2
  show tAsg (tLc wi g tYes te vs) (gName i) { E with nx := fun σ H => tSeq (tFor wi2 g2 (sPutD (tOp (rIdx C.K) (tVar i) tj) tk tv)) u E σ H } σ H
  unfold tAsg
  refine nest_lc oi og hts oe en.st e1 fun a as G1 H1 s1 st1 sh1 ne1 nw => ?_
  have en1 := en.step s1 st1 sh1
  have hl1 : i < ρ1.length := by rw [← sh1.len]; exact hl
  have enh := en1.hide (v := V.ref a) (sh1.nobor nb) hl1
  have hls : i < σ.length := by rw [← en.st.len]; exact hl
  have n : NEnt C.K G0 H0 B G1 H1 (ρ1.set i none) (σ.set i (some (V.ref a))) i ds := by
    refine ⟨enh, List.getElem?_set_self hl1, a, as, List.getElem?_set_self hls, ne1, fun x hx z => ?_, fun x hx => ?_⟩
    · obtain ⟨j, s, z1, z2, z3⟩ := z
      have hj : j ≠ i := fun z => by rw [z, List.getElem?_set_self hl1] at z1; cases z1
      rw [List.getElem?_set_ne (Ne.symm hj)] at z1 z3
      exact Ow.there en.st (sh1.symm.ow ⟨j, s, z1, z2, z3⟩) (nw x hx)
    · cases z : H0 x with
      | none => rfl
      | some o => exact (en.tr x (ne_none_of z) (nw x hx)).elim
  show tFor wi2 g2 (sPutD (tOp (rIdx C.K) (tVar i) tj) tk tv) _ (σ.set i (some (V.ref a))) H1
  refine nest_for oi2 og2 hj hk hv hi2 n e2 fun σ' G' H' n' => ?_
  obtain ⟨G2, en2⟩ := n'.close
  exact ok G0 H0 B G2 H' _ σ' E en2 q
section
variable {C : Cc} {X : Cx} {k : Nat}
/-- name = [new thing for tg in iter]; for tg2 in iter2: name[j][k] = v; .. -/
theorem ssj_nest {tg iter elt tg2 iter2 : Expr} {scope : Scope} {own : List (Str × Nat)} {wi wi2 : TI} {g g2 : TG} {te tj tk tv : TE} {ts ts2 : List Nat} {mi mi2 : M (List D)} {pat pat2 : D → M Unit} {me : M D} {mj mk mv : M IV} {u : TS} {m : SM} {y : Str} {p p1 pos spos pos2 pos3 pos4 pos5 : Pos} {ej ek ev : Expr} {ss : List Stmt}
    (i : Nat) (hr : Room k X.A) (nd : X.N.Nodup) (hi : IJ C X tg iter wi mi) (ok : BlkOk X.N X.env.scope scope own) (hg : ∀ s H Ca cl fp, GJ C (Blk X scope s H Ca cl fp) tg g ts pat) (he : ∀ s H Ca cl fp, FJ (C0 C) (Blk X scope s H Ca cl fp) elt te me)
    (hi2 : IJ C X tg2 iter2 wi2 mi2) (hg2 : GJ C X tg2 g2 ts2 pat2) (hv0 : PE X (.Name y p1) (tVar i)) (hj : EJ C X ej tj mj) (hk : EJ C X ek tk mk) (hv : EJ C X ev tv mv) (hss : SsJ C X ss u m)
    (hts : ∀ j, j ∈ ts → j ∈ own.map (·.2) := by decide) (hn : i ∉ ts2 := by decide) (hc : X.calm = true := by rfl) (hs : ∀ x, foldedSetIterable iter X.env x = pure x := by intro _; rfl) (hs2 : ∀ x, foldedSetIterable iter2 X.env x = pure x := by intro _; rfl)
    (hy : X.N[i]? = some y := by rfl) (hyl : X.env.scope.names.lookup y = some .local := by rfl) (hsw : swapsWith (.ListComp elt [⟨tg, iter, [], 0⟩] scope pos) (some (.Name y p)) spos.line X.env = pure true := by exact sw_true rfl rfl rfl (by decide +kernel))
    (hp : PassesOwn (model X.prog X.w) X.A X.env X.xe := by exact PassesOwn.never) (hK : X.K = C.K := by rfl) (hpi : PlainIx ej := by exact fun _ _ => rfl) (hsw2 : swapsWith ev (some (.Subscript (.Subscript (.Name y p1) ej pos3) ek pos4)) pos5.line X.env = pure false := by rfl) :
    SsJ C X (.Assign [.Name y p] (.ListComp elt [⟨tg, iter, [], 0⟩] scope pos) spos :: .For tg2 iter2 [.Assign [.Subscript (.Subscript (.Name y p1) ej pos3) ek pos4] ev pos5] [] pos2 :: ss)
      (tSeq (tAsg (tLc wi g tYes te (own.map (·.2))) (gName i)) (tSeq (tFor wi2 g2 (sPutD (tOp (rIdx C.K) (tVar i) tj) tk tv)) u)) (sNest i mi pat me (own.map (·.2)) mi2 pat2 mj mk mv m) := by
  refine ⟨pss_cons ?_ (pss_cons ?_ hss.1), ok_nest i hi.2 (hg {} (fun _ => none) 0 [] []).2 hts (he {} (fun _ => none) 0 [] []).2 hi2.2 hg2.2 hn hj.2 hk.2 hv.2 hss.2⟩
  · exact ps_setLc hc nd hy hyl hsw hi.1 ok (fun s H Ca cl fp => (hg s H Ca cl fp).1) (fun s H Ca cl fp => pts_nil) (fun s H Ca cl fp => (he s H Ca cl fp).1) hs
  · exact ps_for hp hc hi2.1 hg2.1 (pss_one (ps_putD (room64 hr) (x_ix (C := C) (ej_var i hv0) hj hK hpi).1 hk.1 hv.1 hsw2)) hs2
end
end DL

/-! D42: sum(xs), min(xs), max(xs) of a list of ints. -/
namespace DL
open PySem L2
def sumD : FN
  | [.list l] => (intsOf l).map fun ns => .int ns.sum
  | _ => none
def minD : FN
  | [.list l] => (intsOf l).bind fun ns => ns.min?.map .int
  | _ => none
def maxD : FN
  | [.list l] => (intsOf l).bind fun ns => ns.max?.map .int
  | _ => none
theorem ints_at {K : Frag} {G H : Hp} {l : List D} {ns : List Int} {x : V} (e : intsOf l = some ns) (r : Rpt K G H (.list l) x) : ∃ a, x = .ref a ∧ SqL K H a (ns.map V.int) := by
  have e2 := intsOf_eq e
  subst e2
  obtain ⟨a, vs, rfl, ea, r⟩ := r
  rw [r.ints] at ea
  exact ⟨a, rfl, .inl (.inl ea)⟩
theorem p_sum {K : Frag} : PN K (rSum K) sumD := by
  intro G H xs ds c Q gh rx h k
  unfold sumD at h
  split at h
  · rename_i l
    obtain ⟨ns, e, rfl⟩ := Option.map_eq_some_iff.mp h
    obtain ⟨x, rfl, r⟩ := Paired.one rx
    obtain ⟨a, rfl, s⟩ := ints_at e r
    exact ⟨a, ns, rfl, s, k.int gh⟩
  · cases h
theorem p_min {K : Frag} : PN K (rMin K) minD := by
  intro G H xs ds c Q gh rx h k
  unfold minD at h
  split at h
  · rename_i l
    obtain ⟨ns, e, h⟩ := Option.bind_eq_some_iff.mp h
    obtain ⟨m, em, rfl⟩ := Option.map_eq_some_iff.mp h
    obtain ⟨x, rfl, r⟩ := Paired.one rx
    obtain ⟨a, rfl, s⟩ := ints_at e r
    obtain ⟨hm, hle⟩ := List.min?_eq_some_iff.mp em
    refine ⟨a, ns, rfl, s, List.length_pos_of_mem hm, fun m' h1 h2 => ?_⟩
    have : m' = m := Int.le_antisymm (h2 m hm) (hle m' h1)
    rw [this]
    exact k.int gh
  · cases h
theorem p_max {K : Frag} : PN K (rMax K) maxD := by
  intro G H xs ds c Q gh rx h k
  unfold maxD at h
  split at h
  · rename_i l
    obtain ⟨ns, e, h⟩ := Option.bind_eq_some_iff.mp h
    obtain ⟨m, em, rfl⟩ := Option.map_eq_some_iff.mp h
    obtain ⟨x, rfl, r⟩ := Paired.one rx
    obtain ⟨a, rfl, s⟩ := ints_at e r
    obtain ⟨hm, hle⟩ := List.max?_eq_some_iff.mp em
    refine ⟨a, ns, rfl, s, List.length_pos_of_mem hm, fun m' h1 h2 => ?_⟩
    have : m' = m := Int.le_antisymm (hle m' h1) (h2 m hm)
    rw [this]
    exact k.int gh
  · cases h
section
variable {C : Cc} {X : Cx} {a : Expr} {p pos : Pos} {mas : M (List IV)} {tas : TA}
theorem x_sum (hm : X.mg "sum" = none) (ha : AJ C X [a] tas mas) (hc : X.calm = true := by rfl) (hK : X.K = C.K := by rfl) (hg : Gl X "sum" := by rfl) (h1 : starEach [a] X.env = (false, eval a X.env) :: starEach [] X.env := by rfl) (h2 : (backTo pos (starEach [] X.env)).any (·.1) = false := by rfl) :
    EJ C X (.Call (.Name "sum" p) [a] [] pos) (tCB (rSum C.K) tas) (dN sumD mas) :=
  ej_callB (r := rSum C.K) (fun pa => by rw [← hK]; exact pe_callB (cr_sum hc) hg hm (by decide +kernel) pa (he := h1) (hpl := h2)) p_sum ha
theorem x_min (hm : X.mg "min" = none) (ha : AJ C X [a] tas mas) (hc : X.calm = true := by rfl) (hK : X.K = C.K := by rfl) (hg : Gl X "min" := by rfl) (h1 : starEach [a] X.env = (false, eval a X.env) :: starEach [] X.env := by rfl) (h2 : (backTo pos (starEach [] X.env)).any (·.1) = false := by rfl) :
    EJ C X (.Call (.Name "min" p) [a] [] pos) (tCB (rMin C.K) tas) (dN minD mas) :=
  ej_callB (r := rMin C.K) (fun pa => by rw [← hK]; exact pe_callB (cr_min hc) hg hm (by decide +kernel) pa (he := h1) (hpl := h2)) p_min ha
theorem x_max (hm : X.mg "max" = none) (ha : AJ C X [a] tas mas) (hc : X.calm = true := by rfl) (hK : X.K = C.K := by rfl) (hg : Gl X "max" := by rfl) (h1 : starEach [a] X.env = (false, eval a X.env) :: starEach [] X.env := by rfl) (h2 : (backTo pos (starEach [] X.env)).any (·.1) = false := by rfl) :
    EJ C X (.Call (.Name "max" p) [a] [] pos) (tCB (rMax C.K) tas) (dN maxD mas) :=
  ej_callB (r := rMax C.K) (fun pa => by rw [← hK]; exact pe_callB (cr_max hc) hg hm (by decide +kernel) pa (he := h1) (hpl := h2)) p_max ha
end
end DL

/-! D43: reversed(xs), xs.count(k). -/
namespace DL
open PySem L2 RT
def dRevL (ma : M IV) : M (List D) := .bind ma fun a => .bind (.keep a) fun d => .bind (.opt (seqD d)) fun l => .pure l.reverse
@[simp] theorem dRevL_ap (ma : M IV) (ρ : Env) : dRevL ma ρ = (.bind ma fun a => .bind (.keep a) fun d => .bind (.opt (seqD d)) fun l => .pure l.reverse : M (List D)) ρ := rfl
theorem rev_at {α : Type} {l : List α} {i : Nat} {d : α} (h : l.reverse[i]? = some d) : i < l.length ∧ l[l.length - 1 - i]? = some d := by
  have hi : i < l.length := by
    have := (List.getElem?_eq_some_iff.mp h).1
    simpa using this
  rw [List.getElem?_reverse hi] at h
  exact ⟨hi, h⟩
theorem wk_revL {K : Frag} {G : Hp} {a : Addr} {l : List D} {vs : List V} (e : G a = some (.lst vs)) (r : Rps K G l vs) : Wk K G (Itv K a vs.length) l.reverse := by
  have sq : ∀ {G' H' : Hp}, Same G G' → Same G' H' → SqL K H' a vs := fun h1 h2 => .inl (.inl (h2 _ _ (h1 _ _ e)))
  refine ⟨fun G' H' i d ed h1 h2 => ?_, fun G' H' h1 h2 => by show vs.length ≤ _; rw [List.length_reverse, r.length]; exact Nat.le_refl _⟩
  obtain ⟨hi, ed⟩ := rev_at ed
  rw [r.length] at hi ed
  obtain ⟨v, ev, rv⟩ := r.get ed
  refine ⟨⟨hi, vs, v, sq h1 h2, ev⟩, fun x H2 ⟨e2, q⟩ => ?_⟩
  subst e2
  have z := q vs (sq h1 h2)
  rw [ev] at z
  cases z
  exact ⟨G', Gro.refl h2, Rp.mono h1 _ _ rv⟩
theorem wk_revT {K : Frag} {G : Hp} {a : Addr} {l : List D} {vs : List V} (e : TupF G a vs) (r : Rps K G l vs) : Wk K G (ItvT K a vs.length) l.reverse := by
  have sq : ∀ {G' H' : Hp}, Same G G' → Same G' H' → SqT K H' a vs := fun h1 h2 => tq h2 (e.mono h1)
  refine ⟨fun G' H' i d ed h1 h2 => ?_, fun G' H' h1 h2 => by show vs.length ≤ _; rw [List.length_reverse, r.length]; exact Nat.le_refl _⟩
  obtain ⟨hi, ed⟩ := rev_at ed
  rw [r.length] at hi ed
  obtain ⟨v, ev, rv⟩ := r.get ed
  refine ⟨⟨hi, vs, v, sq h1 h2, ev⟩, fun x H2 ⟨e2, q⟩ => ?_⟩
  subst e2
  have z := q vs (sq h1 h2)
  rw [ev] at z
  cases z
  exact ⟨G', Gro.refl h2, Rp.mono h1 _ _ rv⟩
theorem ok_revL {C : Cc} {ta : TE} {ma : M IV} (oa : MOk C (RIv C.K) ta ma) : MOk C (RW C.K) (iRevA C.K ta) (dRevL ma) := by
  intro G H ρ σ R st h
  show ta σ H _
  refine bindT oa st h fun a ρ1 x G1 H1 s1 st1 sh1 r1 h1 => ?_
  obtain ⟨d, rd, h2⟩ := post_keep r1 h1
  obtain ⟨l, el, h3⟩ := post_opt h2
  cases d <;> simp only [seqD] at el <;> try (cases el; done)
  · cases el
    simp only [Rp] at rd
    obtain ⟨a, vs, rfl, ea, r⟩ := rd
    exact ⟨a, vs, rfl, .inl ⟨.inl (.inl (st1.gh _ _ ea)), h3 _ _ _ Stp.refl st1 (Sh.refl _) (wk_revL ea r)⟩⟩
  · cases el
    simp only [Rp] at rd
    obtain ⟨a, vs, rfl, ea, r⟩ := rd
    exact ⟨a, vs, rfl, .inr ⟨tq st1.gh ea, h3 _ _ _ Stp.refl st1 (Sh.refl _) (wk_revT ea r)⟩⟩
/-- for .. in reversed(xs) -/
theorem i_revL {C : Cc} {X : Cx} {tg a : Expr} {ta : TE} {ma : M IV} {p pos : Pos} (hm : X.mg "reversed" = none) (ha : EJ C X a ta ma) (hK : X.K = C.K := by rfl) (hg : Gl X "reversed" := by rfl)
    (h1 : starEach [a] X.env = (false, eval a X.env) :: starEach [] X.env := by rfl) : IJ C X tg (.Call (.Name "reversed" p) [a] [] pos) (iRevA C.K ta) (dRevL ma) :=
  ⟨by rw [← hK]; exact pi_revA hg hm ha.1 h1, ok_revL ha.2⟩

def cntD (l : List D) : List D → Option D
  | [.int k] => (intsOf l).map fun ns => .int (ns.count k : Nat)
  | _ => none
def lstOf : D → Option (List D)
  | .list l => some l
  | _ => none
def dCnt (ma : M IV) (mas : M (List IV)) : M IV := .bind ma fun a => .bind (.keep a) fun d0 => .bind (.opt (lstOf d0)) fun l => .bind mas fun ivs => .bind (keeps ivs) fun es => .bind (.opt (cntD l es)) fun c => .pure (.val c)
@[simp] theorem dCnt_ap (ma : M IV) (mas : M (List IV)) (ρ : Env) : dCnt ma mas ρ = (.bind ma fun a => .bind (.keep a) fun d0 => .bind (.opt (lstOf d0)) fun l => .bind mas fun ivs => .bind (keeps ivs) fun es => .bind (.opt (cntD l es)) fun c => .pure (.val c) : M IV) ρ := rfl
@[simp] theorem lstOf_list (l : List D) : lstOf (.list l) = some l := rfl
theorem cntD_ints (ns : List Int) (k : Int) : cntD (ns.map .int) [.int k] = some (.int (ns.count k : Nat)) := by
  unfold cntD
  rw [intsOf_map]
  rfl
section
variable {C : Cc} {X : Cx} {o e : Expr} {to : TE} {tas : TA} {mo : M IV} {mas : M (List IV)} {apos pos : Pos} {k : Nat}
theorem ok_cnt (oo : MOk C (RIv C.K) to mo) (oa : MOk C (RIvs C.K) tas mas) : MOk C (RIv C.K) (tBM C.K "list" (rCntI C.K) to tas) (dCnt mo mas) := by
  intro G H ρ σ Q st h
  show to σ H _
  refine bindT oo st h fun iv ρ1 x G1 H1 s1 st1 sh1 r1 h1 => ?_
  obtain ⟨d0, rd, h2⟩ := post_keep r1 h1
  obtain ⟨l, el, h3⟩ := post_opt h2
  cases d0 <;> simp only [lstOf] at el <;> try (cases el; done)
  cases el
  simp only [Rp] at rd
  obtain ⟨a, vs, rfl, ea, r⟩ := rd
  refine ⟨.inl ⟨rfl, vs, .inl (.inl (st1.gh _ _ ea))⟩, ?_⟩
  show tas σ H1 _
  refine bindT oa st1 h3 fun ivs ρ2 ys G2 H2 s2 st2 sh2 r2 h4 => ?_
  obtain ⟨es, re, h5⟩ := post_keeps r2 h4
  obtain ⟨c, ec, h6⟩ := post_opt h5
  unfold cntD at ec
  split at ec
  · rename_i k
    obtain ⟨ns, en, rfl⟩ := Option.map_eq_some_iff.mp ec
    have el := intsOf_eq en
    subst el
    have ev := Rps.ints r
    subst ev
    simp only [Rps, Rp] at re
    obtain ⟨y, _, rfl, rfl, rfl⟩ := re
    exact ⟨a, ns, k, rfl, rfl, .inl (.inl (st2.gh _ _ (s2.gg _ _ ea))), h6 _ _ _ Stp.refl st2 (Sh.refl _) (by show Rp C.K G2 (.int _) _; simp only [Rp])⟩
  · cases ec
/-- xs.count(k), ints -/
theorem x_cnt (ho : EJ C X o to mo) (ha : AJ C X [e] tas mas) (hK : X.K = C.K := by rfl) (hbase : attributeBase o "count" X.env (eval o X.env) = eval o X.env := by rfl)
    (hfew : ((backTo pos (starEach [e] X.env)).all (fun x => !x.1) && (backToKw pos (keywordEach [] X.env)).all (fun x => x.1.isSome) && decide (([e] : List Expr).length + ([] : List Keyword).length + (if ([] : List Keyword).isEmpty then 0 else 1) < 30)) = true := by rfl)
    (hline : (apos.endLine == pos.line) = true := by rfl) (hs : starEach [e] X.env = (false, eval e X.env) :: starEach [] X.env := by rfl) (hplain : (backTo pos (starEach [] X.env)).any (·.1) = false := by rfl) :
    EJ C X (.Call (.Attribute o "count" apos) [e] [] pos) (tBM C.K "list" (rCntI C.K) to tas) (dCnt mo mas) :=
  ⟨by rw [← hK]; exact pe_bm PySem.F.plainAttrs_list PySem.F.slot_list_count PySem.F.type_list_count mt_lcount ho.1 ha.1 hbase hfew hline hs hplain, ok_cnt ho.2 ha.2⟩
end
end DL

/-! D44: enumerate(list). -/
namespace DL
open PySem L2
def IteL (K : Frag) (a : Addr) : It :=
  ⟨fun i H => ∃ (xs : List V) (x : V), SqL K H a xs ∧ xs[i]? = some x, fun i H v H' => ∃ (T : Addr) (o : Obj) (x : V), v = .ref T ∧ H T = none ∧ o.dict = none ∧ H' = upd H T (.frz o (.tup [.int (i : Nat), x])) ∧ ∀ xs, SqL K H a xs → xs[i]? = some x,
   fun i H => ∃ xs : List V, SqL K H a xs ∧ xs.length ≤ i⟩
theorem turn_enumL {P : Program} {w : World} {K : Frag} {elts : List Expr} {kk : Nat} {tpos : Pos} (a e it : Addr) :
    Turn P w K (.Tuple elts kk tpos) (IteL K a) [e, it] e (fun i h => (∃ old, IsEnum h e it ((i : Nat) : Int) old) ∧ h.IsListIter it a i ∧ e ≠ it) where
  mem := (turn_enum (P := P) (w := w) (K := K) (elts := elts) (kk := kk) (tpos := tpos) a e it).mem
  obj := (turn_enum (P := P) (w := w) (K := K) (elts := elts) (kk := kk) (tpos := tpos) a e it).obj
  keep := (turn_enum (P := P) (w := w) (K := K) (elts := elts) (kk := kk) (tpos := tpos) a e it).keep
  self := (turn_enum (P := P) (w := w) (K := K) (elts := elts) (kk := kk) (tpos := tpos) a e it).self
  done := (turn_enum (P := P) (w := w) (K := K) (elts := elts) (kk := kk) (tpos := tpos) a e it).done
  item := by
    rintro X rfl rfl rfl hc i pins s σ H E I hf ⟨⟨old, he⟩, hit, hne⟩ ⟨xs, x, hq, hx⟩
    obtain ⟨its, rv, p, hz⟩ := I.list hq
    obtain ⟨u, hu, ru⟩ := rv.get hx
    have le : e < s.heap.objs.size := Heap.lt_size he
    have li : it < s.heap.objs.size := hit.elim fun o q => Heap.lt_size q.1
    have small : ∀ b ∈ [e, it], b < s.heap.objs.size := fun b hb => by
      rcases (show b = e ∨ b = it by simpa using hb) with z | z <;> (rw [z]; assumption)
    refine wpAny_pyNext_enum_item he hit p.isList (x := u) (by simpa using hu) hne fun h' ho hit' hN hsz hk => ?_
    refine ⟨_, rfl, wpAny_letOwnedTupleGo_enum (s := { s with heap := h', toks := s.toks + 1 }) ho fun h2 he2 sb => ?_⟩
    have atN : h2.get? s.heap.objs.size = some { cls := .type "tuple", data := .seq #[.int i s.toks, u] } := (sb.2 _ (Nat.ne_of_gt le)).trans hN
    have new : ObjOk X.prog X.w (upd H s.heap.objs.size (.frz (obT [.int i s.toks, u]) (.tup [.int (i : Nat), x]))) h2 s.heap.objs.size (.frz (obT [.int i s.toks, u]) (.tup [.int (i : Nat), x])) :=
      ⟨atN, by rw [sizeLine_eq]; show 2 ≤ _; decide, _, .cons ⟨s.toks, rfl⟩ (.cons ru .nil), ⟨_, atN, rfl, _, rfl⟩⟩
    have J : L2.Inv X pins σ (upd H s.heap.objs.size (.frz (obT [.int i s.toks, u]) (.tup [.int (i : Nat), x]))) { s with heap := h2, toks := s.toks + 1 } :=
      I.turnedNew (ch := [e, it]) (fun b ob hb q => by
        have n1 : b ≠ e := fun z => hb (by simp [z])
        have n2 : b ≠ it := fun z => hb (by simp [z])
        exact (sb.2 b n1).trans (hk b ob n1 n2 q)) hf (Nat.le_refl _) new
    refine ⟨.ref s.heap.objs.size, _, J, rfl, ⟨_, _, x, rfl, I.hok.fresh (Nat.le_refl _), rfl, rfl, fun ys hy2 => ?_⟩, ⟨⟨u, ?_⟩, hit'.at fun o q => (sb.2 it (Ne.symm hne)).trans q, hne⟩, fun b hb => ?_⟩
    · rw [I.list_inj hy2 hq]; exact hx
    · rw [show ((i + 1 : Nat) : Int) = (i : Int) + 1 by omega]; exact he2
    · rw [upd_ne (Nat.ne_of_lt (small b hb))]; exact (hf b hb).1
def iEnumL (K : Frag) (ta : TA) : TI := fun σ H R => ta σ H fun vs H1 => ∃ a xs, vs = [.ref a] ∧ SqL K H1 a xs ∧ R (IteL K a) H1
theorem pi_enumL {X : Cx} {e : Expr} {ta : TA} {p pos tpos : Pos} {elts : List Expr} {kk : Nat} (hg : Gl X "enumerate") (hm : X.mg "enumerate" = none) (ha : PA X [e] ta) (hs : starEach [e] X.env = [(false, eval e X.env)] := by rfl) :
    PI X (.Tuple elts kk tpos) (.Call (.Name "enumerate" p) [e] [] pos) (iEnumL X.K ta) := by
  constructor
  intro pins s σ H R I h
  refine PyProof.Rows.Call_ (ld_blt I hg hm PyProof.Rows.boot_enumerate (PyProof.Rows.callWith_type1 (thn (ha.run pos pins s σ H _ I h) ?_) hs rfl))
  rintro us s1 ⟨vs, H1, I1, r1, a, xs, rfl, hq, q⟩
  obtain rfl := Vals.ref1 r1
  obtain ⟨its, rv, p', hz⟩ := I1.list hq
  refine call_enumerate_list p'.isList fun h' he' hit hsz hk => wpAny_pyIter_enum he' ?_
  have I2 : L2.Inv X pins σ H1 { s1 with heap := h' } := I1.kept (t' := s1.toks) hk
  refine ⟨s1.heap.objs.size + 1, [s1.heap.objs.size + 1, s1.heap.objs.size], _, _, H1, rfl, I2, turn_enumL a (s1.heap.objs.size + 1) s1.heap.objs.size, ⟨⟨.none, he'⟩, hit, Nat.succ_ne_self _⟩, fun b hb => ?_, q⟩
  have new : s1.heap.objs.size ≤ b := by
    rcases (show b = s1.heap.objs.size + 1 ∨ b = s1.heap.objs.size by simpa using hb) with z | z
    · rw [z]; exact Nat.le_succ _
    · rw [z]; exact Nat.le_refl _
  exact I1.fpOk new (I1.hok.fresh new)
def dEnumL (me : M IV) : M (List D) := .bind me fun iv => .bind (.keep iv) fun d => .bind (.opt (lstOf d)) fun l => .pure (enumD 0 l)
@[simp] theorem dEnumL_ap (me : M IV) (ρ : Env) : dEnumL me ρ = (.bind me fun iv => .bind (.keep iv) fun d => .bind (.opt (lstOf d)) fun l => .pure (enumD 0 l) : M (List D)) ρ := rfl
theorem ok_enumL {C : Cc} {te : TE} {me : M IV} (oe : MOk C (RIv C.K) te me) : MOk C (RW C.K) (iEnumL C.K (tCons te tNil)) (dEnumL me) := by
  intro G H ρ σ R st h
  show te σ H _
  refine bindT oe st h fun iv ρ1 v G1 H1 s1 st1 sh1 r1 h1 => ?_
  obtain ⟨d, rd, h2⟩ := post_keep r1 h1
  obtain ⟨l, el, h3⟩ := post_opt h2
  cases d <;> simp only [lstOf] at el <;> try (cases el; done)
  cases el
  simp only [Rp] at rd
  obtain ⟨a, vs, rfl, ea, r⟩ := rd
  have at_ : ∀ G' H, Same G1 G' → Same G' H → SqL C.K H a vs := fun G' H g1 g2 => .inl (.inl (g2 _ _ (g1 _ _ ea)))
  refine ⟨a, vs, rfl, at_ _ _ (Same.refl _) st1.gh, h3 _ G1 H1 Stp.refl st1 (Sh.refl _) (wk_enum r (fun G' H i x g1 g2 e => ⟨vs, x, at_ _ _ g1 g2, e⟩) (fun G' H i v H' g1 g2 y => ?_) fun G' H g1 g2 => ⟨vs, at_ _ _ g1 g2, by rw [r.length]; exact Nat.le_refl _⟩)⟩
  obtain ⟨T, o, x, e1, e2, nd, e3, e4⟩ := y
  exact ⟨T, o, x, e1, e2, nd, e3, e4 vs (at_ _ _ g1 g2)⟩
/-- for .. in enumerate(xs), a list -/
theorem i_enumL {C : Cc} {X : Cx} {e : Expr} {te : TE} {me : M IV} {p pos tpos : Pos} {elts : List Expr} {kk : Nat} (hm : X.mg "enumerate" = none) (he : EJ C X e te me) (hK : X.K = C.K := by rfl) (hg : Gl X "enumerate" := by rfl) (h1 : starEach [e] X.env = (false, eval e X.env) :: starEach [] X.env := by rfl)
    (hs : starEach [e] X.env = [(false, eval e X.env)] := by rfl) : IJ C X (.Tuple elts kk tpos) (.Call (.Name "enumerate" p) [e] [] pos) (iEnumL C.K (tCons te tNil)) (dEnumL me) :=
  ⟨by rw [← hK]; exact pi_enumL hg hm (pa_cons he.1 pa_nil h1) hs, ok_enumL he.2⟩
end DL

/-! the program's defs: mirrors, and that they are kept. Written by gen.py. -/
namespace K09
open PySem L2 DL
def top (i : Nat) : Stmt := PySem.Challenge.pw_letterhalls_k09_whole_likes.main.body.getD i (.Pass ⟨0, 0, 0, 0⟩)
abbrev s_is_number : Stmt := top 4
abbrev s_is_pair : Stmt := top 5
abbrev s_are_numbers : Stmt := top 6
abbrev s_is_shuffle : Stmt := top 7
abbrev s_ascends : Stmt := top 8
abbrev s_is_hall : Stmt := top 12
abbrev s_is_door : Stmt := top 15
abbrev s_are_doors : Stmt := top 14
abbrev s_turned_doors : Stmt := top 17
abbrev s_steps_from : Stmt := top 18
abbrev s_are_joined : Stmt := top 16
abbrev s_house_fault : Stmt := top 13
abbrev s_check_house : Stmt := top 11
abbrev s_is_map : Stmt := top 20
abbrev s_marks_of : Stmt := top 22
abbrev s_choices_of : Stmt := top 23
abbrev s_goes_on : Stmt := top 24
abbrev s_least_maps : Stmt := top 21
abbrev s_like : Stmt := top 27
abbrev s_are_alike : Stmt := top 26
abbrev s_shows_like : Stmt := top 28
abbrev s__law_taken : Stmt := top 30
abbrev s__law_pick : Stmt := top 31
abbrev s__law_alike : Stmt := top 32
abbrev s__law_circle : Stmt := top 33
abbrev s__law_known : Stmt := top 34
abbrev s__law_moved : Stmt := top 35
abbrev s__law_turn : Stmt := top 36
abbrev s__law_house : Stmt := top 37
abbrev s__law_maps : Stmt := top 38
abbrev s_law : Stmt := top 39
section
variable {P : Program} {w : World} {K : PySem.W.Frag} {mg : Str → Option Value} {base : Heap} {f : Addr} {fd : FuncData}
/-! is_number: 0 value, 1 low, 2 high -/
def m_is_number : SM :=
    (sRet (dAndV (d1 (isiD "int") (dVar 0)) (dAndV (dNotV (d1 (isiD "bool") (dVar 0))) (dChain leD leD (dVar 1) (dVar 0) (dVar 2)))))
def f_is_number : M D := bodyM 3 m_is_number
theorem sc_is_number : FnScope ["value", "low", "high"] ["value", "low", "high"] (defScope s_is_number) := ⟨rfl, rfl, rfl, by decide +kernel, rfl, by decide +kernel, by decide +kernel⟩
theorem ok_is_number (B : Bi mg) (F : Fun K "is_number" "is_number" s_is_number f fd) : FnOk P w K mg base CX0 1 f fd ["value", "low", "high"] (spZ K mg 3 f_is_number) :=
  have nd := sc_is_number.nd
  fn_okZ (N := ["value", "low", "high"]) (m := m_is_number) F sc_is_number rfl fun cdv A outer s H E hr => ⟨_,
      (ssj_one (sj_ret (x_and (x_isi B.isinstance_ B.int_ (by decide +kernel) (ej_var 0 (pv 0))) (x_and (x_not (x_isi B.isinstance_ B.bool_ (by decide +kernel) (ej_var 0 (pv 0)))) (ej_one (x_lele (ej_var 1 (pv 1)) (ej_var 0 (pv 0)) (ej_var 2 (pv 2))))))))⟩
/-! is_pair: 0 value -/
def m_is_pair : SM :=
    (sRet (dAndV (d1 (isiD "tuple") (dVar 0)) (d2 eqD (dN lenD (dCons (dVar 0) (.pure []))) (dC (.int 2)))))
def f_is_pair : M D := bodyM 1 m_is_pair
theorem sc_is_pair : FnScope ["value"] ["value"] (defScope s_is_pair) := ⟨rfl, rfl, rfl, by decide +kernel, rfl, by decide +kernel, by decide +kernel⟩
theorem ok_is_pair (B : Bi mg) (F : Fun K "is_pair" "is_pair" s_is_pair f fd) : FnOk P w K mg base CX0 1 f fd ["value"] (spZ K mg 1 f_is_pair) :=
  have nd := sc_is_pair.nd
  fn_okZ (N := ["value"]) (m := m_is_pair) F sc_is_pair rfl fun cdv A outer s H E hr => ⟨_,
      (ssj_one (sj_ret (x_and (x_isi B.isinstance_ B.tuple_ (by decide +kernel) (ej_var 0 (pv 0))) (ej_one (x_eq hr (x_len B.len_ (x_pos (ej_var 0 (pv 0)) aj_nil)) ej_int)))))⟩
/-! are_numbers: 0 value, 1 many, 2 high, 3 item -/
def m_are_numbers : SM :=
    (sRet (dAndV (d1 (isiD "tuple") (dVar 0)) (dAndV (d2 eqD (dN lenD (dCons (dVar 0) (.pure []))) (dVar 1)) (dN allD (dCons (dF (dLc (dSq (dVar 0)) (patNm 3) (.pure true) (dCall 3 f_is_number (dCons (dVar 3) (dCons (dC (.int 0)) (dCons (dVar 2) (.pure []))))) [3])) (.pure []))))))
def f_are_numbers : M D := bodyM 4 m_are_numbers
theorem sc_are_numbers : FnScope ["value", "many", "high", "item"] ["value", "many", "high"] (defScope s_are_numbers) := ⟨rfl, rfl, rfl, by decide +kernel, rfl, by decide +kernel, by decide +kernel⟩
theorem ok_are_numbers (B : Bi mg) (c_is_number : C8.Cal P w K mg base 1 "is_number" (spZ K mg 3 f_is_number) []) (F : Fun K "are_numbers" "are_numbers" s_are_numbers f fd) : FnOk P w K mg base CX0 2 f fd ["value", "many", "high"] (spZ K mg 3 f_are_numbers) :=
  have nd := sc_are_numbers.nd
  fn_okZ (N := ["value", "many", "high", "item"]) (m := m_are_numbers) F sc_are_numbers rfl fun cdv A outer s H E hr => ⟨_,
      (ssj_one (sj_ret (x_and (x_isi B.isinstance_ B.tuple_ (by decide +kernel) (ej_var 0 (pv 0))) (x_and (x_eq hr (x_len B.len_ (x_pos (ej_var 0 (pv 0)) aj_nil)) (ej_var 1 (pv 1))) (ej_one (x_all rfl B.all_ (x_pos (FJ.ej (f_lc (own := [("item", 3)]) nd (i_seq (ej_var 0 (pv 0))) (blkOk_by (N := ["value", "many", "high", "item"]) (sc := defScope s_are_numbers) (by decide +kernel)) (fun _ _ _ _ _ => (g_nm 3 nd)) (fun _ _ _ _ _ => tsj_nil) (fun _ _ _ _ _ => (x_call c_is_number hr (x_pos (ej_var 3 (pv 3)) (x_pos ej_int (x_pos (ej_var 2 (pv 2)) aj_nil))))))) aj_nil)))))))⟩
/-! is_shuffle: 0 value, 1 size -/
def m_is_shuffle : SM :=
    (sRet (dAndV (dCall 3 f_are_numbers (dCons (dVar 0) (dCons (dVar 1) (dCons (d2 subD (dVar 1) (dC (.int 1))) (.pure []))))) (d2 eqD (d1 lenSetI (dVar 0)) (dVar 1))))
def f_is_shuffle : M D := bodyM 2 m_is_shuffle
theorem sc_is_shuffle : FnScope ["value", "size"] ["value", "size"] (defScope s_is_shuffle) := ⟨rfl, rfl, rfl, by decide +kernel, rfl, by decide +kernel, by decide +kernel⟩
theorem ok_is_shuffle (B : Bi mg) (c_are_numbers : C8.Cal P w K mg base 2 "are_numbers" (spZ K mg 3 f_are_numbers) []) (F : Fun K "is_shuffle" "is_shuffle" s_is_shuffle f fd) : FnOk P w K mg base CX0 3 f fd ["value", "size"] (spZ K mg 2 f_is_shuffle) :=
  have nd := sc_is_shuffle.nd
  fn_okZ (N := ["value", "size"]) (m := m_is_shuffle) F sc_is_shuffle rfl fun cdv A outer s H E hr => ⟨_,
      (ssj_one (sj_ret (x_and (x_call c_are_numbers hr (x_pos (ej_var 0 (pv 0)) (x_pos (ej_var 1 (pv 1)) (x_pos (x_sub (ej_var 1 (pv 1)) ej_int) aj_nil)))) (ej_one (x_eq hr (x_lenSet rfl B.len_ B.set_ (ej_var 0 (pv 0))) (ej_var 1 (pv 1)))))))⟩
/-! ascends: 0 items, 1 place -/
def m_ascends : SM :=
    (sRet (dN allD (dCons (dF (dLc (dRg1 (dCons (d2 subD (dN lenD (dCons (dVar 0) (.pure []))) (dC (.int 1))) (.pure []))) (patNm 1) (.pure true) (d2 ltxD (d2 idxD (dVar 0) (dVar 1)) (d2 idxD (dVar 0) (d2 addD (dVar 1) (dC (.int 1))))) [1])) (.pure []))))
def f_ascends : M D := bodyM 2 m_ascends
theorem sc_ascends : FnScope ["items", "place"] ["items"] (defScope s_ascends) := ⟨rfl, rfl, rfl, by decide +kernel, rfl, by decide +kernel, by decide +kernel⟩
theorem ok_ascends (B : Bi mg) (F : Fun K "ascends" "ascends" s_ascends f fd) : FnOk P w K mg base CX0 1 f fd ["items"] (spZ K mg 1 f_ascends) :=
  have nd := sc_ascends.nd
  fn_okZ (N := ["items", "place"]) (m := m_ascends) F sc_ascends rfl fun cdv A outer s H E hr => ⟨_,
      (ssj_one (sj_ret (x_all rfl B.all_ (x_pos (FJ.ej (f_lc (own := [("place", 1)]) nd (i_rg1 B.range_ (x_pos (x_sub (x_len B.len_ (x_pos (ej_var 0 (pv 0)) aj_nil)) ej_int) aj_nil)) (blkOk_by (N := ["items", "place"]) (sc := defScope s_ascends) (by decide +kernel)) (fun _ _ _ _ _ => (g_nm 1 nd)) (fun _ _ _ _ _ => tsj_nil) (fun _ _ _ _ _ => (x_lt hr (x_ix (ej_var 0 (pv 0)) (ej_var 1 (pv 1))) (x_ix (ej_var 0 (pv 0)) (x_add (ej_var 1 (pv 1)) ej_int)))))) aj_nil))))⟩
/-! is_hall: 0 halls, 1 value -/
def m_is_hall : SM :=
    (sRet (dCall 3 f_is_number (dCons (dVar 1) (dCons (dC (.int 0)) (dCons (d2 subD (dVar 0) (dC (.int 1))) (.pure []))))))
def f_is_hall : M D := bodyM 2 m_is_hall
theorem sc_is_hall : FnScope ["halls", "value"] ["halls", "value"] (defScope s_is_hall) := ⟨rfl, rfl, rfl, by decide +kernel, rfl, by decide +kernel, by decide +kernel⟩
theorem ok_is_hall (B : Bi mg) (c_is_number : C8.Cal P w K mg base 1 "is_number" (spZ K mg 3 f_is_number) []) (F : Fun K "is_hall" "is_hall" s_is_hall f fd) : FnOk P w K mg base CX0 2 f fd ["halls", "value"] (spZ K mg 2 f_is_hall) :=
  have nd := sc_is_hall.nd
  fn_okZ (N := ["halls", "value"]) (m := m_is_hall) F sc_is_hall rfl fun cdv A outer s H E hr => ⟨_,
      (ssj_one (sj_ret (x_call c_is_number hr (x_pos (ej_var 1 (pv 1)) (x_pos ej_int (x_pos (x_sub (ej_var 0 (pv 0)) ej_int) aj_nil))))))⟩
/-! is_door: 0 halls, 1 value, 2 item -/
def m_is_door : SM :=
    (sRet (dAndV (dCall 1 f_is_pair (dCons (dVar 1) (.pure []))) (dAndV (dN allD (dCons (dF (dLc (dSq (dVar 1)) (patNm 2) (.pure true) (dCall 2 f_is_hall (dCons (dVar 0) (dCons (dVar 2) (.pure [])))) [2])) (.pure []))) (d2 neD (d2 idxD (dVar 1) (dC (.int 0))) (d2 idxD (dVar 1) (dC (.int 1)))))))
def f_is_door : M D := bodyM 3 m_is_door
theorem sc_is_door : FnScope ["halls", "value", "item"] ["halls", "value"] (defScope s_is_door) := ⟨rfl, rfl, rfl, by decide +kernel, rfl, by decide +kernel, by decide +kernel⟩
theorem ok_is_door (B : Bi mg) (c_is_pair : C8.Cal P w K mg base 1 "is_pair" (spZ K mg 1 f_is_pair) []) (c_is_hall : C8.Cal P w K mg base 2 "is_hall" (spZ K mg 2 f_is_hall) []) (F : Fun K "is_door" "is_door" s_is_door f fd) : FnOk P w K mg base CX0 3 f fd ["halls", "value"] (spZ K mg 2 f_is_door) :=
  have nd := sc_is_door.nd
  fn_okZ (N := ["halls", "value", "item"]) (m := m_is_door) F sc_is_door rfl fun cdv A outer s H E hr => ⟨_,
      (ssj_one (sj_ret (x_and (x_call c_is_pair hr (x_pos (ej_var 1 (pv 1)) aj_nil)) (x_and (x_all rfl B.all_ (x_pos (FJ.ej (f_lc (own := [("item", 2)]) nd (i_seq (ej_var 1 (pv 1))) (blkOk_by (N := ["halls", "value", "item"]) (sc := defScope s_is_door) (by decide +kernel)) (fun _ _ _ _ _ => (g_nm 2 nd)) (fun _ _ _ _ _ => tsj_nil) (fun _ _ _ _ _ => (x_call c_is_hall hr (x_pos (ej_var 0 (pv 0)) (x_pos (ej_var 2 (pv 2)) aj_nil)))))) aj_nil)) (ej_one (x_ne hr (x_ix (ej_var 1 (pv 1)) ej_int) (x_ix (ej_var 1 (pv 1)) ej_int)))))))⟩
/-! are_doors: 0 halls, 1 value, 2 item -/
def m_are_doors : SM :=
    (sSeq (sIf (dNotB (dTru (d1 (isiD "tuple") (dVar 1)))) (sRet (dC (.bool false))) sNx)
    (sRet (dAndV (dN allD (dCons (dF (dLc (dSq (dVar 1)) (patNm 2) (.pure true) (dCall 2 f_is_door (dCons (dVar 0) (dCons (dVar 2) (.pure [])))) [2])) (.pure []))) (dCall 1 f_ascends (dCons (dVar 1) (.pure []))))))
def f_are_doors : M D := bodyM 3 m_are_doors
theorem sc_are_doors : FnScope ["halls", "value", "item"] ["halls", "value"] (defScope s_are_doors) := ⟨rfl, rfl, rfl, by decide +kernel, rfl, by decide +kernel, by decide +kernel⟩
theorem ok_are_doors (B : Bi mg) (c_is_door : C8.Cal P w K mg base 3 "is_door" (spZ K mg 2 f_is_door) []) (c_ascends : C8.Cal P w K mg base 1 "ascends" (spZ K mg 1 f_ascends) []) (F : Fun K "are_doors" "are_doors" s_are_doors f fd) : FnOk P w K mg base CX0 4 f fd ["halls", "value"] (spZ K mg 2 f_are_doors) :=
  have nd := sc_are_doors.nd
  fn_okZ (N := ["halls", "value", "item"]) (m := m_are_doors) F sc_are_doors rfl fun cdv A outer s H E hr => ⟨_,
      (ssj_cons (sj_if (tj_not (t_val (x_isi B.isinstance_ B.tuple_ (by decide +kernel) (ej_var 1 (pv 1))))) (ssj_one (sj_ret ej_bl)) ssj_nil)
      (ssj_one (sj_ret (x_and (x_all rfl B.all_ (x_pos (FJ.ej (f_lc (own := [("item", 2)]) nd (i_seq (ej_var 1 (pv 1))) (blkOk_by (N := ["halls", "value", "item"]) (sc := defScope s_are_doors) (by decide +kernel)) (fun _ _ _ _ _ => (g_nm 2 nd)) (fun _ _ _ _ _ => tsj_nil) (fun _ _ _ _ _ => (x_call c_is_door hr (x_pos (ej_var 0 (pv 0)) (x_pos (ej_var 2 (pv 2)) aj_nil)))))) aj_nil)) (ej_one (x_call c_ascends hr (x_pos (ej_var 1 (pv 1)) aj_nil)))))))⟩
/-! turned_doors: 0 doors, 1 one, 2 other -/
def m_turned_doors : SM :=
    (sRet (dN tupleD (dCons (dF (nN sortedF (dCons (dF (dLc (dSq (dVar 0)) (patTup (patCons (patNm 1) (patCons (patNm 2) patNil))) (.pure true) (dTup (dCons (dVar 2) (dCons (dVar 1) (.pure [])))) [1, 2])) (.pure [])))) (.pure []))))
def f_turned_doors : M D := bodyM 3 m_turned_doors
theorem sc_turned_doors : FnScope ["doors", "one", "other"] ["doors"] (defScope s_turned_doors) := ⟨rfl, rfl, rfl, by decide +kernel, rfl, by decide +kernel, by decide +kernel⟩
theorem ok_turned_doors (B : Bi mg) (F : Fun K "turned_doors" "turned_doors" s_turned_doors f fd) : FnOk P w K mg base CX0 1 f fd ["doors"] (spZ K mg 1 f_turned_doors) :=
  have nd := sc_turned_doors.nd
  fn_okZ (N := ["doors", "one", "other"]) (m := m_turned_doors) F sc_turned_doors rfl fun cdv A outer s H E hr => ⟨_,
      (ssj_one (sj_ret (x_tuple B.tuple_ (x_pos (FJ.ej (f_sorted hr B.sorted_ (x_pos (FJ.ej (f_lc (own := [("one", 1), ("other", 2)]) nd (i_seq (ej_var 0 (pv 0))) (blkOk_by (N := ["doors", "one", "other"]) (sc := defScope s_turned_doors) (by decide +kernel)) (fun _ _ _ _ _ => (g_tup (g_cons (g_nm 1 nd) (g_cons (g_nm 2 nd) gsj_nil)))) (fun _ _ _ _ _ => tsj_nil) (fun _ _ _ _ _ => (ej_tup (x_pos (ej_var 2 (pv 2)) (x_pos (ej_var 1 (pv 1)) aj_nil)))))) aj_nil))) aj_nil))))⟩
/-! steps_from: 0 doors, 1 start, 2 steps, 3 newest, 4 many, 5 hall, 6 one, 7 other -/
def b_steps_from_1 : SM :=
    (sSub setDk (dVar 2) (dVar 5) (dVar 4))
def t_steps_from_2 : M Bool := (dTru (dVar 3))
def b_steps_from_2 : SM :=
    (sSeq (sAug 4 augI (dC (.int 1)))
    (sSeq (sSet 3 (dF (nSrtZ (dScI (dSq (dVar 0)) (patTup (patCons (patNm 6) (patCons (patNm 7) patNil))) (dAndB (dBool (d2 (inD false) (dVar 6) (dVar 3))) (dBool (d2 (dinD true) (dVar 7) (dVar 2)))) (dVar 7) [6, 7]))))
    (sFor (dSq (dVar 3)) (patNm 5) b_steps_from_1)))
def m_steps_from : SM :=
    (sSeq (sSetO 2 (nDic1 1 0))
    (sSeq (sSet 3 (dLst (dCons (dVar 1) (.pure []))))
    (sSeq (sSet 4 (dC (.int 0)))
    (sSeq (sWhile t_steps_from_2 b_steps_from_2 64)
    (sRet (dVar 2))))))
def f_steps_from : M D := bodyM 8 m_steps_from
theorem sc_steps_from : FnScope ["doors", "start", "steps", "newest", "many", "hall", "one", "other"] ["doors", "start"] (defScope s_steps_from) := ⟨rfl, rfl, rfl, by decide +kernel, rfl, by decide +kernel, by decide +kernel⟩
theorem ok_steps_from (B : Bi mg) (F : Fun K "steps_from" "steps_from" s_steps_from f fd) : FnOk P w K mg base CX0 1 f fd ["doors", "start"] (spZ K mg 2 f_steps_from) :=
  have nd := sc_steps_from.nd
  fn_okZ (N := ["doors", "start", "steps", "newest", "many", "hall", "one", "other"]) (m := m_steps_from) F sc_steps_from rfl fun cdv A outer s H E hr => ⟨_,
      (ssj_cons (s_setO 2 nd (f_dic1 1 (pv 1)))
      (ssj_cons (s_set 3 nd (ej_lst (x_pos (ej_var 1 (pv 1)) aj_nil)))
      (ssj_cons (s_set 4 nd ej_int)
      (ssj_cons (s_while 64 (t_val (ej_var 3 (pv 3))) (ssj_cons (s_augAdd 4 nd ej_int)
      (ssj_cons (s_set 3 nd (FJ.ej (f_sSC rfl B.sorted_ (z_sc (own := [("one", 6), ("other", 7)]) nd (i_seq (ej_var 0 (pv 0))) (blkOk_by (N := ["doors", "start", "steps", "newest", "many", "hall", "one", "other"]) (sc := defScope s_steps_from) (by decide +kernel)) (fun _ _ _ _ _ => (g_tup (g_cons (g_nm 6 nd) (g_cons (g_nm 7 nd) gsj_nil)))) (fun _ _ _ _ _ => (tsj_one (WJ.tj (wj_and (t_in hr (ej_var 6 (pv 6)) (ej_var 3 (pv 3))) (wj_and1 (t_dnotin hr (ej_var 7 (pv 7)) (ej_var 2 (pv 2)))))))) (fun _ _ _ _ _ => (ej_var 7 (pv 7)))))))
      (ssj_one (s_for (i_seq (ej_var 3 (pv 3))) (g_nm 5 nd) (ssj_one (s_subD hr (ej_var 2 (pv 2)) (ej_var 5 (pv 5)) (ej_var 4 (pv 4)))))))))
      (ssj_one (sj_ret (ej_var 2 (pv 2))))))))⟩
/-! are_joined: 0 halls, 1 doors -/
def m_are_joined : SM :=
    (sRet (dAndV (d2 eqD (dN lenDD (dCons (dCall 2 f_steps_from (dCons (dVar 1) (dCons (dC (.int 0)) (.pure [])))) (.pure []))) (dVar 0)) (d2 eqD (dN lenDD (dCons (dCall 2 f_steps_from (dCons (dCall 1 f_turned_doors (dCons (dVar 1) (.pure []))) (dCons (dC (.int 0)) (.pure [])))) (.pure []))) (dVar 0))))
def f_are_joined : M D := bodyM 2 m_are_joined
theorem sc_are_joined : FnScope ["halls", "doors"] ["halls", "doors"] (defScope s_are_joined) := ⟨rfl, rfl, rfl, by decide +kernel, rfl, by decide +kernel, by decide +kernel⟩
theorem ok_are_joined (B : Bi mg) (c_steps_from : C8.Cal P w K mg base 1 "steps_from" (spZ K mg 2 f_steps_from) []) (c_turned_doors : C8.Cal P w K mg base 1 "turned_doors" (spZ K mg 1 f_turned_doors) []) (F : Fun K "are_joined" "are_joined" s_are_joined f fd) : FnOk P w K mg base CX0 2 f fd ["halls", "doors"] (spZ K mg 2 f_are_joined) :=
  have nd := sc_are_joined.nd
  fn_okZ (N := ["halls", "doors"]) (m := m_are_joined) F sc_are_joined rfl fun cdv A outer s H E hr => ⟨_,
      (ssj_one (sj_ret (x_and (x_eq hr (x_lenD B.len_ (x_pos (x_call c_steps_from hr (x_pos (ej_var 1 (pv 1)) (x_pos ej_int aj_nil))) aj_nil)) (ej_var 0 (pv 0))) (ej_one (x_eq hr (x_lenD B.len_ (x_pos (x_call c_steps_from hr (x_pos (x_call c_turned_doors hr (x_pos (ej_var 1 (pv 1)) aj_nil)) (x_pos ej_int aj_nil))) aj_nil)) (ej_var 0 (pv 0)))))))⟩
/-! house_fault: 0 value, 1 halls, 2 doors -/
def m_house_fault : SM :=
    (sSeq (sIf (dNotB (dTru (dCall 1 f_is_pair (dCons (dVar 0) (.pure []))))) (sRet (dC (.str "whole"))) sNx)
    (sSeq (sAsg (dVar 0) (patTup (patCons (patNm 1) (patCons (patNm 2) patNil))))
    (sSeq (sIf (dNotB (dTru (dCall 3 f_is_number (dCons (dVar 1) (dCons (dC (.int 1)) (dCons (dC (.int 10)) (.pure []))))))) (sRet (dC (.str "halls"))) sNx)
    (sSeq (sIf (dOrB (dNotB (dTru (dCall 2 f_are_doors (dCons (dVar 1) (dCons (dVar 2) (.pure [])))))) (dNotB (dTru (dCall 2 f_are_joined (dCons (dVar 1) (dCons (dVar 2) (.pure []))))))) (sRet (dC (.str "doors"))) sNx)
    (sRet (dC .none))))))
def f_house_fault : M D := bodyM 3 m_house_fault
theorem sc_house_fault : FnScope ["value", "halls", "doors"] ["value"] (defScope s_house_fault) := ⟨rfl, rfl, rfl, by decide +kernel, rfl, by decide +kernel, by decide +kernel⟩
theorem ok_house_fault (B : Bi mg) {tk : Tok} (g_MOST_HALLS : mg "MOST_HALLS" = some (.int 10 tk)) (c_is_pair : C8.Cal P w K mg base 1 "is_pair" (spZ K mg 1 f_is_pair) []) (c_is_number : C8.Cal P w K mg base 1 "is_number" (spZ K mg 3 f_is_number) []) (c_are_doors : C8.Cal P w K mg base 4 "are_doors" (spZ K mg 2 f_are_doors) []) (c_are_joined : C8.Cal P w K mg base 2 "are_joined" (spZ K mg 2 f_are_joined) []) (F : Fun K "house_fault" "house_fault" s_house_fault f fd) : FnOk P w K mg base CX0 5 f fd ["value"] (spZ K mg 1 f_house_fault) :=
  have nd := sc_house_fault.nd
  fn_okZ (N := ["value", "halls", "doors"]) (m := m_house_fault) F sc_house_fault rfl fun cdv A outer s H E hr => ⟨_,
      (ssj_cons (sj_if (tj_not (t_val (x_call c_is_pair hr (x_pos (ej_var 0 (pv 0)) aj_nil)))) (ssj_one (sj_ret ej_str)) ssj_nil)
      (ssj_cons (s_asg (ej_var 0 (pv 0)) (g_tup (g_cons (g_nm 1 nd) (g_cons (g_nm 2 nd) gsj_nil))))
      (ssj_cons (sj_if (tj_not (t_val (x_call c_is_number hr (x_pos (ej_var 1 (pv 1)) (x_pos ej_int (x_pos (ej_gint (pe_glob (by rfl) g_MOST_HALLS ⟨_, rfl⟩)) aj_nil)))))) (ssj_one (sj_ret ej_str)) ssj_nil)
      (ssj_cons (sj_if (WJ.tj (wj_or (tj_not (t_val (x_call c_are_doors hr (x_pos (ej_var 1 (pv 1)) (x_pos (ej_var 2 (pv 2)) aj_nil))))) (wj_or1 (tj_not (t_val (x_call c_are_joined hr (x_pos (ej_var 1 (pv 1)) (x_pos (ej_var 2 (pv 2)) aj_nil)))))))) (ssj_one (sj_ret ej_str)) ssj_nil)
      (ssj_one (sj_ret ej_non))))))⟩
/-! check_house: 0 value, 1 fault -/
def m_check_house : SM :=
    (sSeq (sSet 1 (dCall 1 f_house_fault (dCons (dVar 0) (.pure []))))
    (sIf (dBool (d2 (isNoneD true) (dVar 1) (dC .none))) (fun _ => .un) sNx))
def f_check_house : M D := bodyM 2 m_check_house
theorem sc_check_house : FnScope ["value", "fault"] ["value"] (defScope s_check_house) := ⟨rfl, rfl, rfl, by decide +kernel, rfl, by decide +kernel, by decide +kernel⟩
theorem ok_check_house (B : Bi mg) (c_house_fault : C8.Cal P w K mg base 5 "house_fault" (spZ K mg 1 f_house_fault) []) (F : Fun K "check_house" "check_house" s_check_house f fd) : FnOk P w K mg base CX0 6 f fd ["value"] (spZ K mg 1 f_check_house) :=
  have nd := sc_check_house.nd
  fn_okZ (N := ["value", "fault"]) (m := m_check_house) F sc_check_house rfl fun cdv A outer s H E hr => ⟨_,
      (ssj_cons (s_set 1 nd (x_call c_house_fault hr (x_pos (ej_var 0 (pv 0)) aj_nil)))
      (ssj_one (sj_if (t_notN (ej_var 1 (pv 1)) ej_non) (ssj_one sj_never) ssj_nil)))⟩
/-! is_map: 0 one, 1 other, 2 value, 3 begin, 4 end -/
def m_is_map : SM :=
    (sSeq (sIf (dOrB (dBool (d2 neD (d2 idxD (dVar 0) (dC (.int 0))) (d2 idxD (dVar 1) (dC (.int 0))))) (dOrB (dBool (d2 neD (dN lenD (dCons (d2 idxD (dVar 0) (dC (.int 1))) (.pure []))) (dN lenD (dCons (d2 idxD (dVar 1) (dC (.int 1))) (.pure []))))) (dNotB (dTru (dCall 2 f_is_shuffle (dCons (dVar 2) (dCons (d2 idxD (dVar 0) (dC (.int 0))) (.pure [])))))))) (sRet (dC (.bool false))) sNx)
    (sRet (dN allD (dCons (dF (dLc (dSq (d2 idxD (dVar 0) (dC (.int 1)))) (patTup (patCons (patNm 3) (patCons (patNm 4) patNil))) (.pure true) (d2 (inD false) (dTup (dCons (d2 idxD (dVar 2) (dVar 3)) (dCons (d2 idxD (dVar 2) (dVar 4)) (.pure [])))) (d2 idxD (dVar 1) (dC (.int 1)))) [3, 4])) (.pure [])))))
def f_is_map : M D := bodyM 5 m_is_map
theorem sc_is_map : FnScope ["one", "other", "value", "begin", "end"] ["one", "other", "value"] (defScope s_is_map) := ⟨rfl, rfl, rfl, by decide +kernel, rfl, by decide +kernel, by decide +kernel⟩
theorem ok_is_map (B : Bi mg) (c_is_shuffle : C8.Cal P w K mg base 3 "is_shuffle" (spZ K mg 2 f_is_shuffle) []) (F : Fun K "is_map" "is_map" s_is_map f fd) : FnOk P w K mg base CX0 4 f fd ["one", "other", "value"] (spZ K mg 3 f_is_map) :=
  have nd := sc_is_map.nd
  fn_okZ (N := ["one", "other", "value", "begin", "end"]) (m := m_is_map) F sc_is_map rfl fun cdv A outer s H E hr => ⟨_,
      (ssj_cons (sj_if (WJ.tj (wj_or (t_ne hr (x_ix (ej_var 0 (pv 0)) ej_int) (x_ix (ej_var 1 (pv 1)) ej_int)) (wj_or (t_ne hr (x_len B.len_ (x_pos (x_ix (ej_var 0 (pv 0)) ej_int) aj_nil)) (x_len B.len_ (x_pos (x_ix (ej_var 1 (pv 1)) ej_int) aj_nil))) (wj_or1 (tj_not (t_val (x_call c_is_shuffle hr (x_pos (ej_var 2 (pv 2)) (x_pos (x_ix (ej_var 0 (pv 0)) ej_int) aj_nil))))))))) (ssj_one (sj_ret ej_bl)) ssj_nil)
      (ssj_one (sj_ret (x_all rfl B.all_ (x_pos (FJ.ej (f_lc (own := [("begin", 3), ("end", 4)]) nd (i_seq (x_ix (ej_var 0 (pv 0)) ej_int)) (blkOk_by (N := ["one", "other", "value", "begin", "end"]) (sc := defScope s_is_map) (by decide +kernel)) (fun _ _ _ _ _ => (g_tup (g_cons (g_nm 3 nd) (g_cons (g_nm 4 nd) gsj_nil)))) (fun _ _ _ _ _ => tsj_nil) (fun _ _ _ _ _ => (x_in hr (ej_tup (x_pos (x_ix (ej_var 2 (pv 2)) (ej_var 3 (pv 3))) (x_pos (x_ix (ej_var 2 (pv 2)) (ej_var 4 (pv 4))) aj_nil))) (x_ix (ej_var 1 (pv 1)) ej_int))))) aj_nil)))))⟩
/-! marks_of: 0 house, 1 begins, 2 ends, 3 begin, 4 end, 5 hall -/
def m_marks_of : SM :=
    (sSeq (sSet 1 (dF (dLc (dSq (d2 idxD (dVar 0) (dC (.int 1)))) (patTup (patCons (patNm 3) (patCons (patNm 4) patNil))) (.pure true) (dVar 3) [3, 4])))
    (sSeq (sSet 2 (dF (dLc (dSq (d2 idxD (dVar 0) (dC (.int 1)))) (patTup (patCons (patNm 3) (patCons (patNm 4) patNil))) (.pure true) (dVar 4) [3, 4])))
    (sRet (dF (dLc (dRg1 (dCons (d2 idxD (dVar 0) (dC (.int 0))) (.pure []))) (patNm 5) (.pure true) (dTup (dCons (dCnt (dVar 1) (dCons (dVar 5) (.pure []))) (dCons (dCnt (dVar 2) (dCons (dVar 5) (.pure []))) (.pure [])))) [5])))))
def f_marks_of : M D := bodyM 6 m_marks_of
theorem sc_marks_of : FnScope ["house", "begins", "ends", "begin", "end", "hall"] ["house"] (defScope s_marks_of) := ⟨rfl, rfl, rfl, by decide +kernel, rfl, by decide +kernel, by decide +kernel⟩
theorem ok_marks_of (B : Bi mg) (F : Fun K "marks_of" "marks_of" s_marks_of f fd) : FnOk P w K mg base CX0 1 f fd ["house"] (spZ K mg 1 f_marks_of) :=
  have nd := sc_marks_of.nd
  fn_okZ (N := ["house", "begins", "ends", "begin", "end", "hall"]) (m := m_marks_of) F sc_marks_of rfl fun cdv A outer s H E hr => ⟨_,
      (ssj_cons (s_set 1 nd (FJ.ej (f_lc (own := [("begin", 3), ("end", 4)]) nd (i_seq (x_ix (ej_var 0 (pv 0)) ej_int)) (blkOk_by (N := ["house", "begins", "ends", "begin", "end", "hall"]) (sc := defScope s_marks_of) (by decide +kernel)) (fun _ _ _ _ _ => (g_tup (g_cons (g_nm 3 nd) (g_cons (g_nm 4 nd) gsj_nil)))) (fun _ _ _ _ _ => tsj_nil) (fun _ _ _ _ _ => (ej_var 3 (pv 3))))))
      (ssj_cons (s_set 2 nd (FJ.ej (f_lc (own := [("begin", 3), ("end", 4)]) nd (i_seq (x_ix (ej_var 0 (pv 0)) ej_int)) (blkOk_by (N := ["house", "begins", "ends", "begin", "end", "hall"]) (sc := defScope s_marks_of) (by decide +kernel)) (fun _ _ _ _ _ => (g_tup (g_cons (g_nm 3 nd) (g_cons (g_nm 4 nd) gsj_nil)))) (fun _ _ _ _ _ => tsj_nil) (fun _ _ _ _ _ => (ej_var 4 (pv 4))))))
      (ssj_one (sj_ret (FJ.ej (f_lc (own := [("hall", 5)]) nd (i_rg1 B.range_ (x_pos (x_ix (ej_var 0 (pv 0)) ej_int) aj_nil)) (blkOk_by (N := ["house", "begins", "ends", "begin", "end", "hall"]) (sc := defScope s_marks_of) (by decide +kernel)) (fun _ _ _ _ _ => (g_nm 5 nd)) (fun _ _ _ _ _ => tsj_nil) (fun _ _ _ _ _ => (ej_tup (x_pos (x_cnt (ej_var 1 (pv 1)) (x_pos (ej_var 5 (pv 5)) aj_nil)) (x_pos (x_cnt (ej_var 2 (pv 2)) (x_pos (ej_var 5 (pv 5)) aj_nil)) aj_nil))))))))))⟩
/-! choices_of: 0 one, 1 other, 2 marks, 3 mark, 4 hall, 5 known -/
def m_choices_of : SM :=
    (sSeq (sSet 2 (dCall 1 f_marks_of (dCons (dVar 1) (.pure []))))
    (sRet (dF (dLc (dSq (dCall 1 f_marks_of (dCons (dVar 0) (.pure [])))) (patNm 3) (.pure true) (dF (dLc (dEnumL (dVar 2)) (patTup (patCons (patNm 4) (patCons (patNm 5) patNil))) (dBool (d2 eqD (dVar 5) (dVar 3))) (dVar 4) [4, 5])) [3]))))
def f_choices_of : M D := bodyM 6 m_choices_of
theorem sc_choices_of : FnScope ["one", "other", "marks", "mark", "hall", "known"] ["one", "other"] (defScope s_choices_of) := ⟨rfl, rfl, rfl, by decide +kernel, rfl, by decide +kernel, by decide +kernel⟩
theorem ok_choices_of (B : Bi mg) (c_marks_of : C8.Cal P w K mg base 1 "marks_of" (spZ K mg 1 f_marks_of) []) (F : Fun K "choices_of" "choices_of" s_choices_of f fd) : FnOk P w K mg base CX0 2 f fd ["one", "other"] (spZ K mg 2 f_choices_of) :=
  have nd := sc_choices_of.nd
  fn_okZ (N := ["one", "other", "marks", "mark", "hall", "known"]) (m := m_choices_of) F sc_choices_of rfl fun cdv A outer s H E hr => ⟨_,
      (ssj_cons (s_set 2 nd (x_call c_marks_of hr (x_pos (ej_var 1 (pv 1)) aj_nil)))
      (ssj_one (sj_ret (FJ.ej (f_lc (own := [("mark", 3)]) nd (i_seq (x_call c_marks_of hr (x_pos (ej_var 0 (pv 0)) aj_nil))) (blkOk_by (N := ["one", "other", "marks", "mark", "hall", "known"]) (sc := defScope s_choices_of) (by decide +kernel)) (fun _ _ _ _ _ => (g_nm 3 nd)) (fun _ _ _ _ _ => tsj_nil) (fun _ _ _ _ _ => (FJ.ej (f_lc (own := [("hall", 4), ("known", 5)]) nd (i_enumL B.enumerate_ (ej_var 2 (pv 2))) (by refine blkOk_by (N := ["one", "other", "marks", "mark", "hall", "known"]) ?_; with_unfolding_all rfl) (fun _ _ _ _ _ => (g_tup (g_cons (g_nm 4 nd) (g_cons (g_nm 5 nd) gsj_nil)))) (fun _ _ _ _ _ => (tsj_one (t_eq hr (ej_var 5 (pv 5)) (ej_var 3 (pv 3))))) (fun _ _ _ _ _ => (ej_var 4 (pv 4)))))))))))⟩
/-! goes_on: 0 doors, 1 others, 2 start, 3 hall, 4 due, 5 ahead, 6 led -/
def b_goes_on_1 : SM :=
    (sSeq (sIf (dBool (d2 neD (d2 (dinD false) (dTup (dCons (dVar 5) (dCons (dVar 4) (.pure [])))) (dVar 0)) (d2 (dinD false) (dTup (dCons (dVar 6) (dCons (dVar 3) (.pure [])))) (dVar 1)))) (sRet (dC (.bool false))) sNx)
    (sIf (dBool (d2 neD (d2 (dinD false) (dTup (dCons (dVar 4) (dCons (dVar 5) (.pure [])))) (dVar 0)) (d2 (dinD false) (dTup (dCons (dVar 3) (dCons (dVar 6) (.pure [])))) (dVar 1)))) (sRet (dC (.bool false))) sNx))
def m_goes_on : SM :=
    (sSeq (sIf (dBool (d2 (inD false) (dVar 3) (dVar 2))) (sRet (dC (.bool false))) sNx)
    (sSeq (sSet 4 (dN lenD (dCons (dVar 2) (.pure []))))
    (sSeq (sFor (dEnum (dVar 2)) (patTup (patCons (patNm 5) (patCons (patNm 6) patNil))) b_goes_on_1)
    (sRet (dC (.bool true))))))
def f_goes_on : M D := bodyM 7 m_goes_on
theorem sc_goes_on : FnScope ["doors", "others", "start", "hall", "due", "ahead", "led"] ["doors", "others", "start", "hall"] (defScope s_goes_on) := ⟨rfl, rfl, rfl, by decide +kernel, rfl, by decide +kernel, by decide +kernel⟩
theorem ok_goes_on (B : Bi mg) (F : Fun K "goes_on" "goes_on" s_goes_on f fd) : FnOk P w K mg base CX0 1 f fd ["doors", "others", "start", "hall"] (spZ K mg 4 f_goes_on) :=
  have nd := sc_goes_on.nd
  fn_okZ (N := ["doors", "others", "start", "hall", "due", "ahead", "led"]) (m := m_goes_on) F sc_goes_on rfl fun cdv A outer s H E hr => ⟨_,
      (ssj_cons (sj_if (t_in hr (ej_var 3 (pv 3)) (ej_var 2 (pv 2))) (ssj_one (sj_ret ej_bl)) ssj_nil)
      (ssj_cons (s_set 4 nd (x_len B.len_ (x_pos (ej_var 2 (pv 2)) aj_nil)))
      (ssj_cons (s_for (i_enum B.enumerate_ (ej_var 2 (pv 2))) (g_tup (g_cons (g_nm 5 nd) (g_cons (g_nm 6 nd) gsj_nil))) (ssj_cons (sj_if (t_ne hr (x_din hr (ej_tup (x_pos (ej_var 5 (pv 5)) (x_pos (ej_var 4 (pv 4)) aj_nil))) (ej_var 0 (pv 0))) (x_din hr (ej_tup (x_pos (ej_var 6 (pv 6)) (x_pos (ej_var 3 (pv 3)) aj_nil))) (ej_var 1 (pv 1)))) (ssj_one (sj_ret ej_bl)) ssj_nil)
      (ssj_one (sj_if (t_ne hr (x_din hr (ej_tup (x_pos (ej_var 4 (pv 4)) (x_pos (ej_var 5 (pv 5)) aj_nil))) (ej_var 0 (pv 0))) (x_din hr (ej_tup (x_pos (ej_var 3 (pv 3)) (x_pos (ej_var 6 (pv 6)) aj_nil))) (ej_var 1 (pv 1)))) (ssj_one (sj_ret ej_bl)) ssj_nil))))
      (ssj_one (sj_ret ej_bl)))))⟩
/-! least_maps: 0 one, 1 other, 2 most, 3 halls, 4 doors, 5 others, 6 choices, 7 found, 8 waiting, 9 start, 10 hall, 11 door -/
def b_least_maps_1 : SM :=
    (sIf (dTru (dCall 4 f_goes_on (dCons (dVar 4) (dCons (dVar 5) (dCons (dVar 9) (dCons (dVar 10) (.pure []))))))) (sExpr (dMut appF (dVar 8) (dCons (d2 addD (dVar 9) (dTup (dCons (dVar 10) (.pure [])))) (.pure [])))) sNx)
def t_least_maps_2 : M Bool := (dAndB (dTru (dVar 8)) (dBool (d2 ltxD (dN lenD (dCons (dVar 7) (.pure []))) (dVar 2))))
def b_least_maps_2 : SM :=
    (sSeq (sSet 9 (dMut popF (dVar 8) (.pure [])))
    (sSeq (sIf (dBool (d2 eqD (dN lenD (dCons (dVar 9) (.pure []))) (dVar 3))) (sSeq (sExpr (dMut appF (dVar 7) (dCons (dVar 9) (.pure []))))
    (.pure .ct)) sNx)
    (sFor (dRevL (d2 idxD (dVar 6) (dN lenD (dCons (dVar 9) (.pure []))))) (patNm 10) b_least_maps_1)))
def m_least_maps : SM :=
    (sSeq (sIf (dBool (d2 neD (dF (nN sortedF (dCons (dCall 1 f_marks_of (dCons (dVar 0) (.pure []))) (.pure [])))) (dF (nN sortedF (dCons (dCall 1 f_marks_of (dCons (dVar 1) (.pure []))) (.pure [])))))) (sRet (dLst (.pure []))) sNx)
    (sSeq (sSet 3 (d2 idxD (dVar 0) (dC (.int 0))))
    (sSeq (sSetO 4 (nDcN (dSq (d2 idxD (dVar 0) (dC (.int 1)))) (patNm 11) (.pure true) (dCons (dVar 11) (dCons (dC (.bool true)) (.pure []))) [11]))
    (sSeq (sSetO 5 (nDcN (dSq (d2 idxD (dVar 1) (dC (.int 1)))) (patNm 11) (.pure true) (dCons (dVar 11) (dCons (dC (.bool true)) (.pure []))) [11]))
    (sSeq (sSet 6 (dCall 2 f_choices_of (dCons (dVar 0) (dCons (dVar 1) (.pure [])))))
    (sSeq (sSetO 7 (nLst (.pure [])))
    (sSeq (sSetO 8 (nLst (dCons (dTup (.pure [])) (.pure []))))
    (sSeq (sWhile t_least_maps_2 b_least_maps_2 1000000000000)
    (sRet (dVar 7))))))))))
def f_least_maps : M D := bodyM 12 m_least_maps
theorem sc_least_maps : FnScope ["one", "other", "most", "halls", "doors", "others", "choices", "found", "waiting", "start", "hall", "door"] ["one", "other", "most"] (defScope s_least_maps) := ⟨rfl, rfl, rfl, by decide +kernel, rfl, by decide +kernel, by decide +kernel⟩
theorem ok_least_maps (B : Bi mg) (c_marks_of : C8.Cal P w K mg base 1 "marks_of" (spZ K mg 1 f_marks_of) []) (c_choices_of : C8.Cal P w K mg base 2 "choices_of" (spZ K mg 2 f_choices_of) []) (c_goes_on : C8.Cal P w K mg base 1 "goes_on" (spZ K mg 4 f_goes_on) []) (F : Fun K "least_maps" "least_maps" s_least_maps f fd) : FnOk P w K mg base CX0 3 f fd ["one", "other", "most"] (spZ K mg 3 f_least_maps) :=
  have nd := sc_least_maps.nd
  fn_okZ (N := ["one", "other", "most", "halls", "doors", "others", "choices", "found", "waiting", "start", "hall", "door"]) (m := m_least_maps) F sc_least_maps rfl fun cdv A outer s H E hr => ⟨_,
      (ssj_cons (sj_if (t_ne hr (FJ.ej (f_sorted hr B.sorted_ (x_pos (x_call c_marks_of hr (x_pos (ej_var 0 (pv 0)) aj_nil)) aj_nil))) (FJ.ej (f_sorted hr B.sorted_ (x_pos (x_call c_marks_of hr (x_pos (ej_var 1 (pv 1)) aj_nil)) aj_nil)))) (ssj_one (sj_ret (ej_lst aj_nil))) ssj_nil)
      (ssj_cons (s_set 3 nd (x_ix (ej_var 0 (pv 0)) ej_int))
      (ssj_cons (s_setDcN (own := [("door", 11)]) 4 hr nd (i_seq (x_ix (ej_var 0 (pv 0)) ej_int)) (blkOk_by (N := ["one", "other", "most", "halls", "doors", "others", "choices", "found", "waiting", "start", "hall", "door"]) (sc := defScope s_least_maps) (by decide +kernel)) (fun _ _ _ _ _ => (g_nm 11 nd)) (fun _ _ _ _ _ => tsj_nil) (fun _ _ _ _ _ => (ej_var 11 (pv 11))) (fun _ _ _ _ _ => ej_bl) (fun _ _ _ _ _ => x_pos (ej_var 11 (pv 11)) (x_pos ej_bl aj_nil)))
      (ssj_cons (s_setDcN (own := [("door", 11)]) 5 hr nd (i_seq (x_ix (ej_var 1 (pv 1)) ej_int)) (blkOk_by (N := ["one", "other", "most", "halls", "doors", "others", "choices", "found", "waiting", "start", "hall", "door"]) (sc := defScope s_least_maps) (by decide +kernel)) (fun _ _ _ _ _ => (g_nm 11 nd)) (fun _ _ _ _ _ => tsj_nil) (fun _ _ _ _ _ => (ej_var 11 (pv 11))) (fun _ _ _ _ _ => ej_bl) (fun _ _ _ _ _ => x_pos (ej_var 11 (pv 11)) (x_pos ej_bl aj_nil)))
      (ssj_cons (s_set 6 nd (x_call c_choices_of hr (x_pos (ej_var 0 (pv 0)) (x_pos (ej_var 1 (pv 1)) aj_nil))))
      (ssj_cons (s_setO 7 nd (fj_lst aj_nil))
      (ssj_cons (s_setO 8 nd (fj_lst (x_pos (ej_tup aj_nil) aj_nil)))
      (ssj_cons (s_while 1000000000000 (WJ.tj (wj_and (t_val (ej_var 8 (pv 8))) (wj_and1 (t_lt hr (x_len B.len_ (x_pos (ej_var 7 (pv 7)) aj_nil)) (ej_var 2 (pv 2)))))) (ssj_cons (s_set 9 nd (x_pop (ej_var 8 (pv 8))))
      (ssj_cons (sj_if (t_eq hr (x_len B.len_ (x_pos (ej_var 9 (pv 9)) aj_nil)) (ej_var 3 (pv 3))) (ssj_cons (s_expr (x_append (ej_var 7 (pv 7)) (x_pos (ej_var 9 (pv 9)) aj_nil)))
      (ssj_one sj_continue)) ssj_nil)
      (ssj_one (s_for (i_revL B.reversed_ (x_ix (ej_var 6 (pv 6)) (x_len B.len_ (x_pos (ej_var 9 (pv 9)) aj_nil)))) (g_nm 10 nd) (ssj_one (sj_if (t_val (x_call c_goes_on hr (x_pos (ej_var 4 (pv 4)) (x_pos (ej_var 5 (pv 5)) (x_pos (ej_var 9 (pv 9)) (x_pos (ej_var 10 (pv 10)) aj_nil)))))) (ssj_one (s_expr (x_append (ej_var 8 (pv 8)) (x_pos (x_add (ej_var 9 (pv 9)) (ej_tup (x_pos (ej_var 10 (pv 10)) aj_nil))) aj_nil)))) ssj_nil)))))))
      (ssj_one (sj_ret (ej_var 7 (pv 7))))))))))))⟩
/-! like: 0 one, 1 other, 2 found -/
def m_like : SM :=
    (sSeq (sExpr (dCall 1 f_check_house (dCons (dVar 0) (.pure []))))
    (sSeq (sExpr (dCall 1 f_check_house (dCons (dVar 1) (.pure []))))
    (sSeq (sSet 2 (dCall 3 f_least_maps (dCons (dVar 0) (dCons (dVar 1) (dCons (dC (.int 1)) (.pure []))))))
    (sRet (dIf (dTru (dVar 2)) (d2 idxD (dVar 2) (dC (.int 0))) (dC .none))))))
def f_like : M D := bodyM 3 m_like
theorem sc_like : FnScope ["one", "other", "found"] ["one", "other"] (defScope s_like) := ⟨rfl, rfl, rfl, by decide +kernel, rfl, by decide +kernel, by decide +kernel⟩
theorem ok_like (B : Bi mg) (c_check_house : C8.Cal P w K mg base 6 "check_house" (spZ K mg 1 f_check_house) []) (c_least_maps : C8.Cal P w K mg base 3 "least_maps" (spZ K mg 3 f_least_maps) []) (F : Fun K "like" "like" s_like f fd) : FnOk P w K mg base CX0 7 f fd ["one", "other"] (spZ K mg 2 f_like) :=
  have nd := sc_like.nd
  fn_okZ (N := ["one", "other", "found"]) (m := m_like) F sc_like rfl fun cdv A outer s H E hr => ⟨_,
      (ssj_cons (s_expr (x_call c_check_house hr (x_pos (ej_var 0 (pv 0)) aj_nil)))
      (ssj_cons (s_expr (x_call c_check_house hr (x_pos (ej_var 1 (pv 1)) aj_nil)))
      (ssj_cons (s_set 2 nd (x_call c_least_maps hr (x_pos (ej_var 0 (pv 0)) (x_pos (ej_var 1 (pv 1)) (x_pos ej_int aj_nil)))))
      (ssj_one (sj_ret (ej_ifx (t_val (ej_var 2 (pv 2))) (x_ix (ej_var 2 (pv 2)) ej_int) ej_non))))))⟩
/-! are_alike: 0 one, 1 other -/
def m_are_alike : SM :=
    (sRet (d2 (isNoneD true) (dCall 2 f_like (dCons (dVar 0) (dCons (dVar 1) (.pure [])))) (dC .none)))
def f_are_alike : M D := bodyM 2 m_are_alike
theorem sc_are_alike : FnScope ["one", "other"] ["one", "other"] (defScope s_are_alike) := ⟨rfl, rfl, rfl, by decide +kernel, rfl, by decide +kernel, by decide +kernel⟩
theorem ok_are_alike (B : Bi mg) (c_like : C8.Cal P w K mg base 7 "like" (spZ K mg 2 f_like) []) (F : Fun K "are_alike" "are_alike" s_are_alike f fd) : FnOk P w K mg base CX0 8 f fd ["one", "other"] (spZ K mg 2 f_are_alike) :=
  have nd := sc_are_alike.nd
  fn_okZ (N := ["one", "other"]) (m := m_are_alike) F sc_are_alike rfl fun cdv A outer s H E hr => ⟨_,
      (ssj_one (sj_ret (x_notN (x_call c_like hr (x_pos (ej_var 0 (pv 0)) (x_pos (ej_var 1 (pv 1)) aj_nil))) ej_non)))⟩
/-! shows_like: 0 one, 1 other, 2 value -/
def m_shows_like : SM :=
    (sSeq (sExpr (dCall 1 f_check_house (dCons (dVar 0) (.pure []))))
    (sSeq (sExpr (dCall 1 f_check_house (dCons (dVar 1) (.pure []))))
    (sSeq (sIf (dBool (d2 (isNoneD false) (dVar 2) (dC .none))) (sRet (dNotV (dCall 2 f_are_alike (dCons (dVar 0) (dCons (dVar 1) (.pure [])))))) sNx)
    (sRet (dCall 3 f_is_map (dCons (dVar 0) (dCons (dVar 1) (dCons (dVar 2) (.pure [])))))))))
def f_shows_like : M D := bodyM 3 m_shows_like
theorem sc_shows_like : FnScope ["one", "other", "value"] ["one", "other", "value"] (defScope s_shows_like) := ⟨rfl, rfl, rfl, by decide +kernel, rfl, by decide +kernel, by decide +kernel⟩
theorem ok_shows_like (B : Bi mg) (c_check_house : C8.Cal P w K mg base 6 "check_house" (spZ K mg 1 f_check_house) []) (c_are_alike : C8.Cal P w K mg base 8 "are_alike" (spZ K mg 2 f_are_alike) []) (c_is_map : C8.Cal P w K mg base 4 "is_map" (spZ K mg 3 f_is_map) []) (F : Fun K "shows_like" "shows_like" s_shows_like f fd) : FnOk P w K mg base CX0 9 f fd ["one", "other", "value"] (spZ K mg 3 f_shows_like) :=
  have nd := sc_shows_like.nd
  fn_okZ (N := ["one", "other", "value"]) (m := m_shows_like) F sc_shows_like rfl fun cdv A outer s H E hr => ⟨_,
      (ssj_cons (s_expr (x_call c_check_house hr (x_pos (ej_var 0 (pv 0)) aj_nil)))
      (ssj_cons (s_expr (x_call c_check_house hr (x_pos (ej_var 1 (pv 1)) aj_nil)))
      (ssj_cons (sj_if (t_isN (ej_var 2 (pv 2)) ej_non) (ssj_one (sj_ret (x_not (x_call c_are_alike hr (x_pos (ej_var 0 (pv 0)) (x_pos (ej_var 1 (pv 1)) aj_nil)))))) ssj_nil)
      (ssj_one (sj_ret (x_call c_is_map hr (x_pos (ej_var 0 (pv 0)) (x_pos (ej_var 1 (pv 1)) (x_pos (ej_var 2 (pv 2)) aj_nil)))))))))⟩
/-! _law_taken: 0 row, 1 many, 2 found, 3 cell -/
def m__law_taken : SM :=
    (sSeq (sIf (dBool (d2 gtD (d2 idxD (dVar 0) (dC (.int 3))) (dC (.int 0)))) (sSeq (sSet 2 (d2 modD (dN intD (dCons (d2 idxD (dVar 0) (dC (.int 3))) (.pure []))) (dVar 1)))
    (sSeq (sSub setL (dVar 0) (dC (.int 3)) (d2 fdivD (d2 idxD (dVar 0) (dC (.int 3))) (dVar 1)))
    (sRet (dVar 2)))) sNx)
    (sSeq (sSub setL (dVar 0) (dC (.int 1)) (d2 addD (d2 idxD (dVar 0) (dC (.int 1))) (dC (.int 1))))
    (sSeq (sIf (dBool (d2 gtD (d2 idxD (dVar 0) (dC (.int 1))) (dN lenD (dCons (d2 idxD (dVar 0) (dC (.int 0))) (.pure []))))) (sSeq (sSub setL (dVar 0) (dC (.int 2)) (d2 modD (dN intD (dCons (d2 addD (d2 mulD (d2 idxD (dVar 0) (dC (.int 2))) (dC (.int 48271))) (dC (.int 11))) (.pure []))) (dC (.int 2147483647))))
    (sRet (d2 modD (dN intD (dCons (d2 fdivD (d2 idxD (dVar 0) (dC (.int 2))) (dC (.int 7))) (.pure []))) (dVar 1)))) sNx)
    (sSeq (sSet 3 (d2 idxD (d2 idxD (dVar 0) (dC (.int 0))) (d2 subD (d2 idxD (dVar 0) (dC (.int 1))) (dC (.int 1)))))
    (sSeq (sSub setL (dVar 0) (dC (.int 2)) (d2 modD (dN intD (dCons (d2 addD (d2 addD (d2 mulD (d2 idxD (dVar 0) (dC (.int 2))) (dC (.int 48271))) (dVar 3)) (dC (.int 11))) (.pure []))) (dC (.int 2147483647))))
    (sSeq (sIf (dBool (d2 geD (dVar 3) (d2 powD (dC (.int 10)) (dC (.int 18))))) (sSub setL (dVar 0) (dC (.int 3)) (d2 fdivD (dVar 3) (dVar 1))) sNx)
    (sRet (d2 modD (dN intD (dCons (dVar 3) (.pure []))) (dVar 1)))))))))
def f__law_taken : M D := bodyM 4 m__law_taken
theorem sc__law_taken : FnScope ["row", "many", "found", "cell"] ["row", "many"] (defScope s__law_taken) := ⟨rfl, rfl, rfl, by decide +kernel, rfl, by decide +kernel, by decide +kernel⟩
theorem ok__law_taken (B : Bi mg) (F : Fun K "_law_taken" "_law_taken" s__law_taken f fd) : FnOk P w K mg base CX0 1 f fd ["row", "many"] (spZ K mg 2 f__law_taken) :=
  have nd := sc__law_taken.nd
  fn_okZ (N := ["row", "many", "found", "cell"]) (m := m__law_taken) F sc__law_taken rfl fun cdv A outer s H E hr => ⟨_,
      (ssj_cons (sj_if (t_gt (x_ix (ej_var 0 (pv 0)) ej_int) ej_int) (ssj_cons (s_set 2 nd (x_mod (x_int B.int_ (x_pos (x_ix (ej_var 0 (pv 0)) ej_int) aj_nil)) (ej_var 1 (pv 1))))
      (ssj_cons (s_subL (ej_var 0 (pv 0)) ej_int (x_fdiv (x_ix (ej_var 0 (pv 0)) ej_int) (ej_var 1 (pv 1))))
      (ssj_one (sj_ret (ej_var 2 (pv 2)))))) ssj_nil)
      (ssj_cons (s_subL (ej_var 0 (pv 0)) ej_int (x_add (x_ix (ej_var 0 (pv 0)) ej_int) ej_int))
      (ssj_cons (sj_if (t_gt (x_ix (ej_var 0 (pv 0)) ej_int) (x_len B.len_ (x_pos (x_ix (ej_var 0 (pv 0)) ej_int) aj_nil))) (ssj_cons (s_subL (ej_var 0 (pv 0)) ej_int (x_mod (x_int B.int_ (x_pos (x_add (x_mul (x_ix (ej_var 0 (pv 0)) ej_int) ej_int) ej_int) aj_nil)) ej_int))
      (ssj_one (sj_ret (x_mod (x_int B.int_ (x_pos (x_fdiv (x_ix (ej_var 0 (pv 0)) ej_int) ej_int) aj_nil)) (ej_var 1 (pv 1)))))) ssj_nil)
      (ssj_cons (s_set 3 nd (x_ix (x_ix (ej_var 0 (pv 0)) ej_int) (x_sub (x_ix (ej_var 0 (pv 0)) ej_int) ej_int)))
      (ssj_cons (s_subL (ej_var 0 (pv 0)) ej_int (x_mod (x_int B.int_ (x_pos (x_add (x_add (x_mul (x_ix (ej_var 0 (pv 0)) ej_int) ej_int) (ej_var 3 (pv 3))) ej_int) aj_nil)) ej_int))
      (ssj_cons (sj_if (t_ge (ej_var 3 (pv 3)) (x_pow ej_int ej_int)) (ssj_one (s_subL (ej_var 0 (pv 0)) ej_int (x_fdiv (ej_var 3 (pv 3)) (ej_var 1 (pv 1))))) ssj_nil)
      (ssj_one (sj_ret (x_mod (x_int B.int_ (x_pos (ej_var 3 (pv 3)) aj_nil)) (ej_var 1 (pv 1)))))))))))⟩
/-! _law_pick: 0 row, 1 things -/
def m__law_pick : SM :=
    (sRet (d2 idxD (dVar 1) (dCall 2 f__law_taken (dCons (dVar 0) (dCons (dN lenD (dCons (dVar 1) (.pure []))) (.pure []))))))
def f__law_pick : M D := bodyM 2 m__law_pick
theorem sc__law_pick : FnScope ["row", "things"] ["row", "things"] (defScope s__law_pick) := ⟨rfl, rfl, rfl, by decide +kernel, rfl, by decide +kernel, by decide +kernel⟩
theorem ok__law_pick (B : Bi mg) (c__law_taken : C8.Cal P w K mg base 1 "_law_taken" (spZ K mg 2 f__law_taken) []) (F : Fun K "_law_pick" "_law_pick" s__law_pick f fd) : FnOk P w K mg base CX0 2 f fd ["row", "things"] (spZ K mg 2 f__law_pick) :=
  have nd := sc__law_pick.nd
  fn_okZ (N := ["row", "things"]) (m := m__law_pick) F sc__law_pick rfl fun cdv A outer s H E hr => ⟨_,
      (ssj_one (sj_ret (x_ix (ej_var 1 (pv 1)) (x_call c__law_taken hr (x_pos (ej_var 0 (pv 0)) (x_pos (x_len B.len_ (x_pos (ej_var 1 (pv 1)) aj_nil)) aj_nil))))))⟩
/-! _law_alike: 0 found, 1 due, 2 k -/
def m__law_alike (fn : M D) : SM :=
    (sSeq (sIf (dTru (d1 (isi2D "tuple" "list") (dVar 1))) (sSeq (sIf (dOrB (dNotB (dTru (d1 (isi2D "tuple" "list") (dVar 0)))) (dBool (d2 neD (d1 (isiD "list") (dVar 0)) (d1 (isiD "list") (dVar 1))))) (sRet (dC (.bool false))) sNx)
    (sSeq (sIf (dBool (d2 neD (dN lenD (dCons (dVar 0) (.pure []))) (dN lenD (dCons (dVar 1) (.pure []))))) (sRet (dC (.bool false))) sNx)
    (sRet (d2 eqD (dF (dLc (dRg1 (dCons (dN lenD (dCons (dVar 1) (.pure []))) (.pure []))) (patNm 2) (dNotB (dTru (dCall 2 fn (dCons (d2 idxD (dVar 0) (dVar 2)) (dCons (d2 idxD (dVar 1) (dVar 2)) (.pure [])))))) (dVar 2) [2])) (dLst (.pure [])))))) sNx)
    (sSeq (sIf (dOrB (dBool (d2 (isNoneD false) (dVar 1) (dC .none))) (dTru (d1 (isiD "str") (dVar 1)))) (sRet (dAndV (d2 eqD (dVar 0) (dVar 1)) (d2 eqD (d1 (isiD "str") (dVar 0)) (d1 (isiD "str") (dVar 1))))) sNx)
    (sRet (dAndV (d1 (isiD "int") (dVar 0)) (dAndV (d2 eqD (d1 (isiD "bool") (dVar 0)) (d1 (isiD "bool") (dVar 1))) (d2 eqD (dVar 0) (dVar 1)))))))
def f__law_alike : Nat → M D
  | 0 => fun _ => .un
  | n + 1 => bodyM 3 (m__law_alike (f__law_alike n))
theorem sc__law_alike : FnScope ["found", "due", "k"] ["found", "due"] (defScope s__law_alike) := ⟨rfl, rfl, rfl, by decide +kernel, rfl, by decide +kernel, by decide +kernel⟩
theorem bd__law_alike {j : Nat} {fn : M D} (B : Bi mg) (c__law_alike : C8.Cal P w K mg base j "_law_alike" (spZ K mg 2 fn) []) (F : Fun K "_law_alike" "_law_alike" s__law_alike f fd) : FnOk P w K mg base CX0 (j + 0 + 1) f fd ["found", "due"] (spZ K mg 2 (bodyM 3 (m__law_alike fn))) :=
  have nd := sc__law_alike.nd
  fn_okZ (N := ["found", "due", "k"]) (m := m__law_alike fn) F sc__law_alike rfl fun cdv A outer s H E hr => ⟨_,
      (ssj_cons (sj_if (t_val (x_isi2 B.isinstance_ B.tuple_ B.list_ (by decide +kernel) (by decide +kernel) (ej_var 1 (pv 1)))) (ssj_cons (sj_if (WJ.tj (wj_or (tj_not (t_val (x_isi2 B.isinstance_ B.tuple_ B.list_ (by decide +kernel) (by decide +kernel) (ej_var 0 (pv 0))))) (wj_or1 (t_ne hr (x_isi B.isinstance_ B.list_ (by decide +kernel) (ej_var 0 (pv 0))) (x_isi B.isinstance_ B.list_ (by decide +kernel) (ej_var 1 (pv 1))))))) (ssj_one (sj_ret ej_bl)) ssj_nil)
      (ssj_cons (sj_if (t_ne hr (x_len B.len_ (x_pos (ej_var 0 (pv 0)) aj_nil)) (x_len B.len_ (x_pos (ej_var 1 (pv 1)) aj_nil))) (ssj_one (sj_ret ej_bl)) ssj_nil)
      (ssj_one (sj_ret (x_eq hr (FJ.ej (f_lc (own := [("k", 2)]) nd (i_rg1 B.range_ (x_pos (x_len B.len_ (x_pos (ej_var 1 (pv 1)) aj_nil)) aj_nil)) (blkOk_by (N := ["found", "due", "k"]) (sc := defScope s__law_alike) (by decide +kernel)) (fun _ _ _ _ _ => (g_nm 2 nd)) (fun _ _ _ _ _ => (tsj_one (tj_not (t_val (x_call (hk := by omega) c__law_alike hr (x_pos (x_ix (ej_var 0 (pv 0)) (ej_var 2 (pv 2))) (x_pos (x_ix (ej_var 1 (pv 1)) (ej_var 2 (pv 2))) aj_nil))))))) (fun _ _ _ _ _ => (ej_var 2 (pv 2))))) (ej_lst aj_nil)))))) ssj_nil)
      (ssj_cons (sj_if (WJ.tj (wj_or (t_isN (ej_var 1 (pv 1)) ej_non) (wj_or1 (t_val (x_isi B.isinstance_ B.str_ (by decide +kernel) (ej_var 1 (pv 1))))))) (ssj_one (sj_ret (x_and (x_eq hr (ej_var 0 (pv 0)) (ej_var 1 (pv 1))) (ej_one (x_eq hr (x_isi B.isinstance_ B.str_ (by decide +kernel) (ej_var 0 (pv 0))) (x_isi B.isinstance_ B.str_ (by decide +kernel) (ej_var 1 (pv 1)))))))) ssj_nil)
      (ssj_one (sj_ret (x_and (x_isi B.isinstance_ B.int_ (by decide +kernel) (ej_var 0 (pv 0))) (x_and (x_eq hr (x_isi B.isinstance_ B.bool_ (by decide +kernel) (ej_var 0 (pv 0))) (x_isi B.isinstance_ B.bool_ (by decide +kernel) (ej_var 1 (pv 1)))) (ej_one (x_eq hr (ej_var 0 (pv 0)) (ej_var 1 (pv 1))))))))))⟩
/-! _law_circle: 0 halls, 1 steps, 2 found, 3 hall, 4 step -/
def b__law_circle_1 : SM :=
    (sSet 2 (d2 addD (dVar 2) (dF (dLc (dSq (dVar 1)) (patNm 4) (dBool (d2 neD (d2 modD (dVar 4) (dVar 0)) (dC (.int 0)))) (dTup (dCons (dVar 3) (dCons (d2 modD (d2 addD (dVar 3) (dVar 4)) (dVar 0)) (.pure [])))) [4]))))
def m__law_circle : SM :=
    (sSeq (sSet 2 (dLst (.pure [])))
    (sSeq (sFor (dRg1 (dCons (dVar 0) (.pure []))) (patNm 3) b__law_circle_1)
    (sRet (dTup (dCons (dVar 0) (dCons (dN tupleD (dCons (dF (nN1 (sortSetT 2) (dVar 2))) (.pure []))) (.pure [])))))))
def f__law_circle : M D := bodyM 5 m__law_circle
theorem sc__law_circle : FnScope ["halls", "steps", "found", "hall", "step"] ["halls", "steps"] (defScope s__law_circle) := ⟨rfl, rfl, rfl, by decide +kernel, rfl, by decide +kernel, by decide +kernel⟩
theorem ok__law_circle (B : Bi mg) (F : Fun K "_law_circle" "_law_circle" s__law_circle f fd) : FnOk P w K mg base CX0 1 f fd ["halls", "steps"] (spZ K mg 2 f__law_circle) :=
  have nd := sc__law_circle.nd
  fn_okZ (N := ["halls", "steps", "found", "hall", "step"]) (m := m__law_circle) F sc__law_circle rfl fun cdv A outer s H E hr => ⟨_,
      (ssj_cons (s_set 2 nd (ej_lst aj_nil))
      (ssj_cons (s_for (i_rg1 B.range_ (x_pos (ej_var 0 (pv 0)) aj_nil)) (g_nm 3 nd) (ssj_one (s_set 2 nd (x_add (ej_var 2 (pv 2)) (FJ.ej (f_lc (own := [("step", 4)]) nd (i_seq (ej_var 1 (pv 1))) (blkOk_by (N := ["halls", "steps", "found", "hall", "step"]) (sc := defScope s__law_circle) (by decide +kernel)) (fun _ _ _ _ _ => (g_nm 4 nd)) (fun _ _ _ _ _ => (tsj_one (t_ne hr (x_mod (ej_var 4 (pv 4)) (ej_var 0 (pv 0))) ej_int))) (fun _ _ _ _ _ => (ej_tup (x_pos (ej_var 3 (pv 3)) (x_pos (x_mod (x_add (ej_var 3 (pv 3)) (ej_var 4 (pv 4))) (ej_var 0 (pv 0))) aj_nil))))))))))
      (ssj_one (sj_ret (ej_tup (x_pos (ej_var 0 (pv 0)) (x_pos (x_tuple B.tuple_ (x_pos (FJ.ej (f_sSetT 2 hr rfl B.sorted_ B.set_ (ej_var 2 (pv 2)))) aj_nil)) aj_nil)))))))⟩
/-! _law_known: 0 most, 1 rows, 2 prism, 3 house -/
def m__law_known : SM :=
    (sSeq (sSet 1 (dLst (dCons (dTup (dCons (dC (.int 1)) (dCons (dTup (.pure [])) (.pure [])))) (dCons (dCall 2 f__law_circle (dCons (dC (.int 2)) (dCons (dLst (dCons (dC (.int 1)) (.pure []))) (.pure [])))) (dCons (dCall 2 f__law_circle (dCons (dC (.int 3)) (dCons (dLst (dCons (dC (.int 1)) (.pure []))) (.pure [])))) (dCons (dCall 2 f__law_circle (dCons (dC (.int 3)) (dCons (dLst (dCons (dC (.int 1)) (dCons (dC (.int 2)) (.pure [])))) (.pure [])))) (dCons (dCall 2 f__law_circle (dCons (dC (.int 4)) (dCons (dLst (dCons (dC (.int 1)) (.pure []))) (.pure [])))) (.pure []))))))))
    (sSeq (sSet 1 (d2 addD (dVar 1) (dLst (dCons (dCall 2 f__law_circle (dCons (dC (.int 4)) (dCons (dLst (dCons (dC (.int 1)) (dCons (dC (.int 3)) (.pure [])))) (.pure [])))) (dCons (dCall 2 f__law_circle (dCons (dC (.int 4)) (dCons (dLst (dCons (dC (.int 1)) (dCons (dC (.int 2)) (dCons (dC (.int 3)) (.pure []))))) (.pure [])))) (dCons (dCall 2 f__law_circle (dCons (dC (.int 5)) (dCons (dLst (dCons (dC (.int 1)) (dCons (dC (.int 4)) (.pure [])))) (.pure [])))) (dCons (dCall 2 f__law_circle (dCons (dC (.int 4)) (dCons (dLst (dCons (dC (.int 1)) (dCons (dC (.int 2)) (.pure [])))) (.pure [])))) (.pure []))))))))
    (sSeq (sSet 1 (d2 addD (dVar 1) (dLst (dCons (dCall 2 f__law_circle (dCons (dC (.int 5)) (dCons (dLst (dCons (dC (.int 1)) (dCons (dC (.int 2)) (.pure [])))) (.pure [])))) (dCons (dCall 2 f__law_circle (dCons (dC (.int 6)) (dCons (dLst (dCons (dC (.int 1)) (.pure []))) (.pure [])))) (dCons (dCall 2 f__law_circle (dCons (dC (.int 6)) (dCons (dLst (dCons (dC (.int 1)) (dCons (dC (.int 5)) (.pure [])))) (.pure [])))) (dCons (dCall 2 f__law_circle (dCons (dC (.int 6)) (dCons (dLst (dCons (dC (.int 1)) (dCons (dC (.int 3)) (dCons (dC (.int 5)) (.pure []))))) (.pure [])))) (.pure []))))))))
    (sSeq (sSet 1 (d2 addD (dVar 1) (dLst (dCons (dTup (dCons (dC (.int 3)) (dCons (dTup (dCons (dTup (dCons (dC (.int 0)) (dCons (dC (.int 1)) (.pure [])))) (dCons (dTup (dCons (dC (.int 1)) (dCons (dC (.int 0)) (.pure [])))) (dCons (dTup (dCons (dC (.int 1)) (dCons (dC (.int 2)) (.pure [])))) (dCons (dTup (dCons (dC (.int 2)) (dCons (dC (.int 1)) (.pure [])))) (.pure [])))))) (.pure [])))) (dCons (dTup (dCons (dC (.int 4)) (dCons (dTup (dCons (dTup (dCons (dC (.int 0)) (dCons (dC (.int 1)) (.pure [])))) (dCons (dTup (dCons (dC (.int 1)) (dCons (dC (.int 2)) (.pure [])))) (dCons (dTup (dCons (dC (.int 1)) (dCons (dC (.int 3)) (.pure [])))) (dCons (dTup (dCons (dC (.int 2)) (dCons (dC (.int 0)) (.pure [])))) (dCons (dTup (dCons (dC (.int 3)) (dCons (dC (.int 0)) (.pure [])))) (.pure []))))))) (.pure [])))) (.pure []))))))
    (sSeq (sSet 2 (dLst (dCons (dTup (dCons (dC (.int 0)) (dCons (dC (.int 1)) (.pure [])))) (dCons (dTup (dCons (dC (.int 1)) (dCons (dC (.int 2)) (.pure [])))) (dCons (dTup (dCons (dC (.int 2)) (dCons (dC (.int 0)) (.pure [])))) (dCons (dTup (dCons (dC (.int 3)) (dCons (dC (.int 4)) (.pure [])))) (dCons (dTup (dCons (dC (.int 4)) (dCons (dC (.int 5)) (.pure [])))) (dCons (dTup (dCons (dC (.int 5)) (dCons (dC (.int 3)) (.pure [])))) (dCons (dTup (dCons (dC (.int 0)) (dCons (dC (.int 3)) (.pure [])))) (dCons (dTup (dCons (dC (.int 1)) (dCons (dC (.int 4)) (.pure [])))) (dCons (dTup (dCons (dC (.int 2)) (dCons (dC (.int 5)) (.pure [])))) (dCons (dTup (dCons (dC (.int 3)) (dCons (dC (.int 0)) (.pure [])))) (dCons (dTup (dCons (dC (.int 4)) (dCons (dC (.int 1)) (.pure [])))) (dCons (dTup (dCons (dC (.int 5)) (dCons (dC (.int 2)) (.pure [])))) (.pure [])))))))))))))))
    (sSeq (sSet 1 (d2 addD (dVar 1) (dLst (dCons (dTup (dCons (dC (.int 6)) (dCons (dN tupleD (dCons (dF (nN sortedF (dCons (dVar 2) (.pure [])))) (.pure []))) (.pure [])))) (dCons (dTup (dCons (dC (.int 4)) (dCons (dTup (dCons (dTup (dCons (dC (.int 0)) (dCons (dC (.int 1)) (.pure [])))) (dCons (dTup (dCons (dC (.int 1)) (dCons (dC (.int 0)) (.pure [])))) (dCons (dTup (dCons (dC (.int 1)) (dCons (dC (.int 2)) (.pure [])))) (dCons (dTup (dCons (dC (.int 2)) (dCons (dC (.int 3)) (.pure [])))) (dCons (dTup (dCons (dC (.int 3)) (dCons (dC (.int 0)) (.pure [])))) (dCons (dTup (dCons (dC (.int 3)) (dCons (dC (.int 2)) (.pure [])))) (.pure [])))))))) (.pure [])))) (.pure []))))))
    (sRet (dF (dLc (dSq (dVar 1)) (patNm 3) (dBool (d2 leD (d2 idxD (dVar 3) (dC (.int 0))) (dVar 0))) (dVar 3) [3])))))))))
def f__law_known : M D := bodyM 4 m__law_known
theorem sc__law_known : FnScope ["most", "rows", "prism", "house"] ["most"] (defScope s__law_known) := ⟨rfl, rfl, rfl, by decide +kernel, rfl, by decide +kernel, by decide +kernel⟩
theorem ok__law_known (B : Bi mg) (c__law_circle : C8.Cal P w K mg base 1 "_law_circle" (spZ K mg 2 f__law_circle) []) (F : Fun K "_law_known" "_law_known" s__law_known f fd) : FnOk P w K mg base CX0 2 f fd ["most"] (spZ K mg 1 f__law_known) :=
  have nd := sc__law_known.nd
  fn_okZ (N := ["most", "rows", "prism", "house"]) (m := m__law_known) F sc__law_known rfl fun cdv A outer s H E hr => ⟨_,
      (ssj_cons (s_set 1 nd (ej_lst (x_pos (ej_tup (x_pos ej_int (x_pos (ej_tup aj_nil) aj_nil))) (x_pos (x_call c__law_circle hr (x_pos ej_int (x_pos (ej_lst (x_pos ej_int aj_nil)) aj_nil))) (x_pos (x_call c__law_circle hr (x_pos ej_int (x_pos (ej_lst (x_pos ej_int aj_nil)) aj_nil))) (x_pos (x_call c__law_circle hr (x_pos ej_int (x_pos (ej_lst (x_pos ej_int (x_pos ej_int aj_nil))) aj_nil))) (x_pos (x_call c__law_circle hr (x_pos ej_int (x_pos (ej_lst (x_pos ej_int aj_nil)) aj_nil))) aj_nil)))))))
      (ssj_cons (s_set 1 nd (x_add (ej_var 1 (pv 1)) (ej_lst (x_pos (x_call c__law_circle hr (x_pos ej_int (x_pos (ej_lst (x_pos ej_int (x_pos ej_int aj_nil))) aj_nil))) (x_pos (x_call c__law_circle hr (x_pos ej_int (x_pos (ej_lst (x_pos ej_int (x_pos ej_int (x_pos ej_int aj_nil)))) aj_nil))) (x_pos (x_call c__law_circle hr (x_pos ej_int (x_pos (ej_lst (x_pos ej_int (x_pos ej_int aj_nil))) aj_nil))) (x_pos (x_call c__law_circle hr (x_pos ej_int (x_pos (ej_lst (x_pos ej_int (x_pos ej_int aj_nil))) aj_nil))) aj_nil)))))))
      (ssj_cons (s_set 1 nd (x_add (ej_var 1 (pv 1)) (ej_lst (x_pos (x_call c__law_circle hr (x_pos ej_int (x_pos (ej_lst (x_pos ej_int (x_pos ej_int aj_nil))) aj_nil))) (x_pos (x_call c__law_circle hr (x_pos ej_int (x_pos (ej_lst (x_pos ej_int aj_nil)) aj_nil))) (x_pos (x_call c__law_circle hr (x_pos ej_int (x_pos (ej_lst (x_pos ej_int (x_pos ej_int aj_nil))) aj_nil))) (x_pos (x_call c__law_circle hr (x_pos ej_int (x_pos (ej_lst (x_pos ej_int (x_pos ej_int (x_pos ej_int aj_nil)))) aj_nil))) aj_nil)))))))
      (ssj_cons (s_set 1 nd (x_add (ej_var 1 (pv 1)) (ej_lst (x_pos (ej_tup (x_pos ej_int (x_pos (ej_tup (x_pos (ej_tup (x_pos ej_int (x_pos ej_int aj_nil))) (x_pos (ej_tup (x_pos ej_int (x_pos ej_int aj_nil))) (x_pos (ej_tup (x_pos ej_int (x_pos ej_int aj_nil))) (x_pos (ej_tup (x_pos ej_int (x_pos ej_int aj_nil))) aj_nil))))) aj_nil))) (x_pos (ej_tup (x_pos ej_int (x_pos (ej_tup (x_pos (ej_tup (x_pos ej_int (x_pos ej_int aj_nil))) (x_pos (ej_tup (x_pos ej_int (x_pos ej_int aj_nil))) (x_pos (ej_tup (x_pos ej_int (x_pos ej_int aj_nil))) (x_pos (ej_tup (x_pos ej_int (x_pos ej_int aj_nil))) (x_pos (ej_tup (x_pos ej_int (x_pos ej_int aj_nil))) aj_nil)))))) aj_nil))) aj_nil)))))
      (ssj_cons (s_set 2 nd (ej_lst (x_pos (ej_tup (x_pos ej_int (x_pos ej_int aj_nil))) (x_pos (ej_tup (x_pos ej_int (x_pos ej_int aj_nil))) (x_pos (ej_tup (x_pos ej_int (x_pos ej_int aj_nil))) (x_pos (ej_tup (x_pos ej_int (x_pos ej_int aj_nil))) (x_pos (ej_tup (x_pos ej_int (x_pos ej_int aj_nil))) (x_pos (ej_tup (x_pos ej_int (x_pos ej_int aj_nil))) (x_pos (ej_tup (x_pos ej_int (x_pos ej_int aj_nil))) (x_pos (ej_tup (x_pos ej_int (x_pos ej_int aj_nil))) (x_pos (ej_tup (x_pos ej_int (x_pos ej_int aj_nil))) (x_pos (ej_tup (x_pos ej_int (x_pos ej_int aj_nil))) (x_pos (ej_tup (x_pos ej_int (x_pos ej_int aj_nil))) (x_pos (ej_tup (x_pos ej_int (x_pos ej_int aj_nil))) aj_nil))))))))))))))
      (ssj_cons (s_set 1 nd (x_add (ej_var 1 (pv 1)) (ej_lst (x_pos (ej_tup (x_pos ej_int (x_pos (x_tuple B.tuple_ (x_pos (FJ.ej (f_sorted hr B.sorted_ (x_pos (ej_var 2 (pv 2)) aj_nil))) aj_nil)) aj_nil))) (x_pos (ej_tup (x_pos ej_int (x_pos (ej_tup (x_pos (ej_tup (x_pos ej_int (x_pos ej_int aj_nil))) (x_pos (ej_tup (x_pos ej_int (x_pos ej_int aj_nil))) (x_pos (ej_tup (x_pos ej_int (x_pos ej_int aj_nil))) (x_pos (ej_tup (x_pos ej_int (x_pos ej_int aj_nil))) (x_pos (ej_tup (x_pos ej_int (x_pos ej_int aj_nil))) (x_pos (ej_tup (x_pos ej_int (x_pos ej_int aj_nil))) aj_nil))))))) aj_nil))) aj_nil)))))
      (ssj_one (sj_ret (FJ.ej (f_lc (own := [("house", 3)]) nd (i_seq (ej_var 1 (pv 1))) (blkOk_by (N := ["most", "rows", "prism", "house"]) (sc := defScope s__law_known) (by decide +kernel)) (fun _ _ _ _ _ => (g_nm 3 nd)) (fun _ _ _ _ _ => (tsj_one (t_le (x_ix (ej_var 3 (pv 3)) ej_int) (ej_var 0 (pv 0))))) (fun _ _ _ _ _ => (ej_var 3 (pv 3)))))))))))))⟩
/-! _law_moved: 0 house, 1 turn, 2 one, 3 other -/
def m__law_moved : SM :=
    (sRet (dTup (dCons (d2 idxD (dVar 0) (dC (.int 0))) (dCons (dN tupleD (dCons (dF (nN sortedF (dCons (dF (dLc (dSq (d2 idxD (dVar 0) (dC (.int 1)))) (patTup (patCons (patNm 2) (patCons (patNm 3) patNil))) (.pure true) (dTup (dCons (d2 idxD (dVar 1) (dVar 2)) (dCons (d2 idxD (dVar 1) (dVar 3)) (.pure [])))) [2, 3])) (.pure [])))) (.pure []))) (.pure [])))))
def f__law_moved : M D := bodyM 4 m__law_moved
theorem sc__law_moved : FnScope ["house", "turn", "one", "other"] ["house", "turn"] (defScope s__law_moved) := ⟨rfl, rfl, rfl, by decide +kernel, rfl, by decide +kernel, by decide +kernel⟩
theorem ok__law_moved (B : Bi mg) (F : Fun K "_law_moved" "_law_moved" s__law_moved f fd) : FnOk P w K mg base CX0 1 f fd ["house", "turn"] (spZ K mg 2 f__law_moved) :=
  have nd := sc__law_moved.nd
  fn_okZ (N := ["house", "turn", "one", "other"]) (m := m__law_moved) F sc__law_moved rfl fun cdv A outer s H E hr => ⟨_,
      (ssj_one (sj_ret (ej_tup (x_pos (x_ix (ej_var 0 (pv 0)) ej_int) (x_pos (x_tuple B.tuple_ (x_pos (FJ.ej (f_sorted hr B.sorted_ (x_pos (FJ.ej (f_lc (own := [("one", 2), ("other", 3)]) nd (i_seq (x_ix (ej_var 0 (pv 0)) ej_int)) (blkOk_by (N := ["house", "turn", "one", "other"]) (sc := defScope s__law_moved) (by decide +kernel)) (fun _ _ _ _ _ => (g_tup (g_cons (g_nm 2 nd) (g_cons (g_nm 3 nd) gsj_nil)))) (fun _ _ _ _ _ => tsj_nil) (fun _ _ _ _ _ => (ej_tup (x_pos (x_ix (ej_var 1 (pv 1)) (ej_var 2 (pv 2))) (x_pos (x_ix (ej_var 1 (pv 1)) (ej_var 3 (pv 3))) aj_nil)))))) aj_nil))) aj_nil)) aj_nil)))))⟩
/-! _law_turn: 0 row, 1 halls, 2 found, 3 left -/
def t__law_turn_1 : M Bool := (dBool (d2 neD (dVar 3) (dLst (.pure []))))
def b__law_turn_1 : SM :=
    (sSet 2 (d2 addD (dVar 2) (dTup (dCons (dMut popAtF (dVar 3) (dCons (dCall 2 f__law_taken (dCons (dVar 0) (dCons (dN lenD (dCons (dVar 3) (.pure []))) (.pure [])))) (.pure []))) (.pure [])))))
def m__law_turn : SM :=
    (sSeq (sParF 2 3 (dTup (.pure [])) (nRg (dCons (dVar 1) (.pure []))))
    (sSeq (sWhile t__law_turn_1 b__law_turn_1 64)
    (sRet (dVar 2))))
def f__law_turn : M D := bodyM 4 m__law_turn
theorem sc__law_turn : FnScope ["row", "halls", "found", "left"] ["row", "halls"] (defScope s__law_turn) := ⟨rfl, rfl, rfl, by decide +kernel, rfl, by decide +kernel, by decide +kernel⟩
theorem ok__law_turn (B : Bi mg) (c__law_taken : C8.Cal P w K mg base 1 "_law_taken" (spZ K mg 2 f__law_taken) []) (F : Fun K "_law_turn" "_law_turn" s__law_turn f fd) : FnOk P w K mg base CX0 2 f fd ["row", "halls"] (spZ K mg 2 f__law_turn) :=
  have nd := sc__law_turn.nd
  fn_okZ (N := ["row", "halls", "found", "left"]) (m := m__law_turn) F sc__law_turn rfl fun cdv A outer s H E hr => ⟨_,
      (ssj_cons (s_parF 2 3 nd (ej_tup aj_nil) (f_rg1 rfl B.list_ B.range_ (ej_var 1 (pv 1))))
      (ssj_cons (s_while 64 (t_ne hr (ej_var 3 (pv 3)) (ej_lst aj_nil)) (ssj_one (s_set 2 nd (x_add (ej_var 2 (pv 2)) (ej_tup (x_pos (x_popAt (ej_var 3 (pv 3)) (x_pos (x_call c__law_taken hr (x_pos (ej_var 0 (pv 0)) (x_pos (x_len B.len_ (x_pos (ej_var 3 (pv 3)) aj_nil)) aj_nil))) aj_nil)) aj_nil))))))
      (ssj_one (sj_ret (ej_var 2 (pv 2))))))⟩
/-! _law_house: 0 row, 1 most, 2 house, 3 halls, 4 doors, 5 turn, 6 door -/
def b__law_house_1 : SM :=
    (sSeq (sSet 6 (dTup (dCons (dCall 2 f__law_taken (dCons (dVar 0) (dCons (dVar 3) (.pure [])))) (dCons (dCall 2 f__law_taken (dCons (dVar 0) (dCons (dVar 3) (.pure [])))) (.pure [])))))
    (sSet 4 (d2 addD (dVar 4) (d2 mulD (dLst (dCons (dVar 6) (.pure []))) (dN intD (dCons (d2 neD (d2 idxD (dVar 6) (dC (.int 0))) (d2 idxD (dVar 6) (dC (.int 1)))) (.pure [])))))))
def m__law_house : SM :=
    (sSeq (sIf (dBool (d2 gtD (dCall 2 f__law_taken (dCons (dVar 0) (dCons (dC (.int 3)) (.pure [])))) (dC (.int 0)))) (sSeq (sSet 2 (dCall 2 f__law_pick (dCons (dVar 0) (dCons (dCall 1 f__law_known (dCons (dVar 1) (.pure []))) (.pure [])))))
    (sRet (dCall 2 f__law_moved (dCons (dVar 2) (dCons (dCall 2 f__law_turn (dCons (dVar 0) (dCons (d2 idxD (dVar 2) (dC (.int 0))) (.pure [])))) (.pure [])))))) sNx)
    (sSeq (sSet 3 (d2 addD (dC (.int 2)) (dCall 2 f__law_taken (dCons (dVar 0) (dCons (d2 subD (dVar 1) (dC (.int 1))) (.pure []))))))
    (sSeq (sSet 4 (dF (nN listF (dCons (d2 idxD (dCall 2 f__law_circle (dCons (dVar 3) (dCons (dLst (dCons (dC (.int 1)) (.pure []))) (.pure [])))) (dC (.int 1))) (.pure [])))))
    (sSeq (sFor (dRg1 (dCons (dCall 2 f__law_taken (dCons (dVar 0) (dCons (d2 addD (dVar 3) (dC (.int 1))) (.pure [])))) (.pure []))) (patNm 5) b__law_house_1)
    (sRet (dCall 2 f__law_moved (dCons (dTup (dCons (dVar 3) (dCons (dN tupleD (dCons (dF (nN1 (sortSetT 2) (dVar 4))) (.pure []))) (.pure [])))) (dCons (dCall 2 f__law_turn (dCons (dVar 0) (dCons (dVar 3) (.pure [])))) (.pure [])))))))))
def f__law_house : M D := bodyM 7 m__law_house
theorem sc__law_house : FnScope ["row", "most", "house", "halls", "doors", "turn", "door"] ["row", "most"] (defScope s__law_house) := ⟨rfl, rfl, rfl, by decide +kernel, rfl, by decide +kernel, by decide +kernel⟩
theorem ok__law_house (B : Bi mg) (c__law_taken : C8.Cal P w K mg base 1 "_law_taken" (spZ K mg 2 f__law_taken) []) (c__law_known : C8.Cal P w K mg base 2 "_law_known" (spZ K mg 1 f__law_known) []) (c__law_pick : C8.Cal P w K mg base 2 "_law_pick" (spZ K mg 2 f__law_pick) []) (c__law_turn : C8.Cal P w K mg base 2 "_law_turn" (spZ K mg 2 f__law_turn) []) (c__law_moved : C8.Cal P w K mg base 1 "_law_moved" (spZ K mg 2 f__law_moved) []) (c__law_circle : C8.Cal P w K mg base 1 "_law_circle" (spZ K mg 2 f__law_circle) []) (F : Fun K "_law_house" "_law_house" s__law_house f fd) : FnOk P w K mg base CX0 3 f fd ["row", "most"] (spZ K mg 2 f__law_house) :=
  have nd := sc__law_house.nd
  fn_okZ (N := ["row", "most", "house", "halls", "doors", "turn", "door"]) (m := m__law_house) F sc__law_house rfl fun cdv A outer s H E hr => ⟨_,
      (ssj_cons (sj_if (t_gt (x_call c__law_taken hr (x_pos (ej_var 0 (pv 0)) (x_pos ej_int aj_nil))) ej_int) (ssj_cons (s_set 2 nd (x_call c__law_pick hr (x_pos (ej_var 0 (pv 0)) (x_pos (x_call c__law_known hr (x_pos (ej_var 1 (pv 1)) aj_nil)) aj_nil))))
      (ssj_one (sj_ret (x_call c__law_moved hr (x_pos (ej_var 2 (pv 2)) (x_pos (x_call c__law_turn hr (x_pos (ej_var 0 (pv 0)) (x_pos (x_ix (ej_var 2 (pv 2)) ej_int) aj_nil))) aj_nil)))))) ssj_nil)
      (ssj_cons (s_set 3 nd (x_add ej_int (x_call c__law_taken hr (x_pos (ej_var 0 (pv 0)) (x_pos (x_sub (ej_var 1 (pv 1)) ej_int) aj_nil)))))
      (ssj_cons (s_set 4 nd (FJ.ej (f_list B.list_ (x_pos (x_ix (x_call c__law_circle hr (x_pos (ej_var 3 (pv 3)) (x_pos (ej_lst (x_pos ej_int aj_nil)) aj_nil))) ej_int) aj_nil))))
      (ssj_cons (s_for (i_rg1 B.range_ (x_pos (x_call c__law_taken hr (x_pos (ej_var 0 (pv 0)) (x_pos (x_add (ej_var 3 (pv 3)) ej_int) aj_nil))) aj_nil)) (g_nm 5 nd) (ssj_cons (s_set 6 nd (ej_tup (x_pos (x_call c__law_taken hr (x_pos (ej_var 0 (pv 0)) (x_pos (ej_var 3 (pv 3)) aj_nil))) (x_pos (x_call c__law_taken hr (x_pos (ej_var 0 (pv 0)) (x_pos (ej_var 3 (pv 3)) aj_nil))) aj_nil))))
      (ssj_one (s_set 4 nd (x_add (ej_var 4 (pv 4)) (x_mul (ej_lst (x_pos (ej_var 6 (pv 6)) aj_nil)) (x_int B.int_ (x_pos (x_ne hr (x_ix (ej_var 6 (pv 6)) ej_int) (x_ix (ej_var 6 (pv 6)) ej_int)) aj_nil))))))))
      (ssj_one (sj_ret (x_call c__law_moved hr (x_pos (ej_tup (x_pos (ej_var 3 (pv 3)) (x_pos (x_tuple B.tuple_ (x_pos (FJ.ej (f_sSetT 2 hr rfl B.sorted_ B.set_ (ej_var 4 (pv 4)))) aj_nil)) aj_nil))) (x_pos (x_call c__law_turn hr (x_pos (ej_var 0 (pv 0)) (x_pos (ej_var 3 (pv 3)) aj_nil))) aj_nil)))))))))⟩
/-! _law_maps: 0 one, 1 other, 2 rows, 3 place, 4 longer, 5 row, 6 hall, 7 far, 8 mate, 9 bad, 10 at -/
def b__law_maps_1 : SM :=
    (sIf (dBool (d2 (inD true) (dVar 6) (dVar 5))) (sSeq (sAsg (dTup (dCons (d2 idxD (dVar 0) (dC (.int 1))) (dCons (d2 idxD (dVar 1) (dC (.int 1))) (.pure [])))) (patTup (patCons (patNm 7) (patCons (patNm 8) patNil))))
    (sSeq (sSet 9 (dF (dLc (dRg1 (dCons (dVar 3) (.pure []))) (patNm 10) (dBool (d2 neD (d2 (inD false) (dTup (dCons (dVar 10) (dCons (dVar 3) (.pure [])))) (dVar 7)) (d2 (inD false) (dTup (dCons (d2 idxD (dVar 5) (dVar 10)) (dCons (dVar 6) (.pure [])))) (dVar 8)))) (dVar 10) [10])))
    (sSeq (sSet 9 (d2 addD (dVar 9) (dF (dLc (dRg1 (dCons (dVar 3) (.pure []))) (patNm 10) (dBool (d2 neD (d2 (inD false) (dTup (dCons (dVar 3) (dCons (dVar 10) (.pure [])))) (dVar 7)) (d2 (inD false) (dTup (dCons (dVar 6) (dCons (d2 idxD (dVar 5) (dVar 10)) (.pure [])))) (dVar 8)))) (dVar 10) [10]))))
    (sSet 4 (d2 addD (dVar 4) (d2 mulD (dLst (dCons (d2 addD (dVar 5) (dTup (dCons (dVar 6) (.pure [])))) (.pure []))) (dN intD (dCons (d2 eqD (dVar 9) (dLst (.pure []))) (.pure []))))))))) sNx)
def b__law_maps_2 : SM :=
    (sFor (dRg1 (dCons (d2 idxD (dVar 0) (dC (.int 0))) (.pure []))) (patNm 6) b__law_maps_1)
def b__law_maps_3 : SM :=
    (sSeq (sSet 4 (dLst (.pure [])))
    (sSeq (sFor (dSq (dVar 2)) (patNm 5) b__law_maps_2)
    (sSet 2 (dVar 4))))
def m__law_maps : SM :=
    (sSeq (sIf (dOrB (dBool (d2 neD (d2 idxD (dVar 0) (dC (.int 0))) (d2 idxD (dVar 1) (dC (.int 0))))) (dBool (d2 neD (dN lenD (dCons (d2 idxD (dVar 0) (dC (.int 1))) (.pure []))) (dN lenD (dCons (d2 idxD (dVar 1) (dC (.int 1))) (.pure [])))))) (sRet (dLst (.pure []))) sNx)
    (sSeq (sSet 2 (dLst (dCons (dTup (.pure [])) (.pure []))))
    (sSeq (sFor (dRg1 (dCons (d2 idxD (dVar 0) (dC (.int 0))) (.pure []))) (patNm 3) b__law_maps_3)
    (sRet (dVar 2)))))
def f__law_maps : M D := bodyM 11 m__law_maps
theorem sc__law_maps : FnScope ["one", "other", "rows", "place", "longer", "row", "hall", "far", "mate", "bad", "at"] ["one", "other"] (defScope s__law_maps) := ⟨rfl, rfl, rfl, by decide +kernel, rfl, by decide +kernel, by decide +kernel⟩
theorem ok__law_maps (B : Bi mg) (F : Fun K "_law_maps" "_law_maps" s__law_maps f fd) : FnOk P w K mg base CX0 1 f fd ["one", "other"] (spZ K mg 2 f__law_maps) :=
  have nd := sc__law_maps.nd
  fn_okZ (N := ["one", "other", "rows", "place", "longer", "row", "hall", "far", "mate", "bad", "at"]) (m := m__law_maps) F sc__law_maps rfl fun cdv A outer s H E hr => ⟨_,
      (ssj_cons (sj_if (WJ.tj (wj_or (t_ne hr (x_ix (ej_var 0 (pv 0)) ej_int) (x_ix (ej_var 1 (pv 1)) ej_int)) (wj_or1 (t_ne hr (x_len B.len_ (x_pos (x_ix (ej_var 0 (pv 0)) ej_int) aj_nil)) (x_len B.len_ (x_pos (x_ix (ej_var 1 (pv 1)) ej_int) aj_nil)))))) (ssj_one (sj_ret (ej_lst aj_nil))) ssj_nil)
      (ssj_cons (s_set 2 nd (ej_lst (x_pos (ej_tup aj_nil) aj_nil)))
      (ssj_cons (s_for (i_rg1 B.range_ (x_pos (x_ix (ej_var 0 (pv 0)) ej_int) aj_nil)) (g_nm 3 nd) (ssj_cons (s_set 4 nd (ej_lst aj_nil))
      (ssj_cons (s_for (i_seq (ej_var 2 (pv 2))) (g_nm 5 nd) (ssj_one (s_for (i_rg1 B.range_ (x_pos (x_ix (ej_var 0 (pv 0)) ej_int) aj_nil)) (g_nm 6 nd) (ssj_one (sj_if (t_notin hr (ej_var 6 (pv 6)) (ej_var 5 (pv 5))) (ssj_cons (s_asg (ej_tup (x_pos (x_ix (ej_var 0 (pv 0)) ej_int) (x_pos (x_ix (ej_var 1 (pv 1)) ej_int) aj_nil))) (g_tup (g_cons (g_nm 7 nd) (g_cons (g_nm 8 nd) gsj_nil))))
      (ssj_cons (s_setLc (own := [("at", 10)]) 9 nd (i_rg1 B.range_ (x_pos (ej_var 3 (pv 3)) aj_nil)) (blkOk_by (N := ["one", "other", "rows", "place", "longer", "row", "hall", "far", "mate", "bad", "at"]) (sc := defScope s__law_maps) (by decide +kernel)) (fun _ _ _ _ _ => (g_nm 10 nd)) (fun _ _ _ _ _ => (tsj_one (t_ne hr (x_in hr (ej_tup (x_pos (ej_var 10 (pv 10)) (x_pos (ej_var 3 (pv 3)) aj_nil))) (ej_var 7 (pv 7))) (x_in hr (ej_tup (x_pos (x_ix (ej_var 5 (pv 5)) (ej_var 10 (pv 10))) (x_pos (ej_var 6 (pv 6)) aj_nil))) (ej_var 8 (pv 8)))))) (fun _ _ _ _ _ => (ej_var 10 (pv 10))))
      (ssj_cons (s_set 9 nd (x_add (ej_var 9 (pv 9)) (FJ.ej (f_lc (own := [("at", 10)]) nd (i_rg1 B.range_ (x_pos (ej_var 3 (pv 3)) aj_nil)) (blkOk_by (N := ["one", "other", "rows", "place", "longer", "row", "hall", "far", "mate", "bad", "at"]) (sc := defScope s__law_maps) (by decide +kernel)) (fun _ _ _ _ _ => (g_nm 10 nd)) (fun _ _ _ _ _ => (tsj_one (t_ne hr (x_in hr (ej_tup (x_pos (ej_var 3 (pv 3)) (x_pos (ej_var 10 (pv 10)) aj_nil))) (ej_var 7 (pv 7))) (x_in hr (ej_tup (x_pos (ej_var 6 (pv 6)) (x_pos (x_ix (ej_var 5 (pv 5)) (ej_var 10 (pv 10))) aj_nil))) (ej_var 8 (pv 8)))))) (fun _ _ _ _ _ => (ej_var 10 (pv 10)))))))
      (ssj_one (s_set 4 nd (x_add (ej_var 4 (pv 4)) (x_mul (ej_lst (x_pos (x_add (ej_var 5 (pv 5)) (ej_tup (x_pos (ej_var 6 (pv 6)) aj_nil))) aj_nil)) (x_int B.int_ (x_pos (x_eq hr (ej_var 9 (pv 9)) (ej_lst aj_nil)) aj_nil))))))))) ssj_nil)))))
      (ssj_one (s_set 2 nd (ej_var 4 (pv 4)))))))
      (ssj_one (sj_ret (ej_var 2 (pv 2)))))))⟩
/-! law: 0 script, 1 row, 2 one, 3 other, 4 due, 5 told, 6 turn, 7 some, 8 odd, 9 value -/
def b_law_1 : SM :=
    (sSeq (sSet 7 (dCall 2 f__law_turn (dCons (dVar 1) (dCons (d2 idxD (dVar 2) (dC (.int 0))) (.pure [])))))
    (sSeq (sSet 7 (dIf (dAndB (dBool (d2 neD (dVar 4) (dLst (.pure [])))) (dBool (d2 eqD (dCall 2 f__law_taken (dCons (dVar 1) (dCons (dC (.int 3)) (.pure [])))) (dC (.int 0))))) (dCall 2 f__law_pick (dCons (dVar 1) (dCons (dVar 4) (.pure [])))) (dVar 7)))
    (sIf (dNotB (dTru (dCall 2 (f__law_alike 6) (dCons (dCall 3 f_shows_like (dCons (dVar 2) (dCons (dVar 3) (dCons (dVar 7) (.pure []))))) (dCons (d2 (inD false) (dVar 7) (dVar 4)) (.pure [])))))) (sRet (dC (.bool false))) sNx)))
def m_law : SM :=
    (sSeq (sSetO 1 (nLst (dCons (dVar 0) (dCons (dC (.int 0)) (dCons (dC (.int 5009)) (dCons (dC (.int 0)) (.pure [])))))))
    (sSeq (sSet 2 (dCall 2 f__law_house (dCons (dVar 1) (dCons (dC (.int 6)) (.pure [])))))
    (sSeq (sSet 3 (dCall 2 f__law_pick (dCons (dVar 1) (dCons (dLst (dCons (dCall 2 f__law_moved (dCons (dVar 2) (dCons (dCall 2 f__law_turn (dCons (dVar 1) (dCons (d2 idxD (dVar 2) (dC (.int 0))) (.pure [])))) (.pure [])))) (dCons (dCall 2 f__law_house (dCons (dVar 1) (dCons (dC (.int 6)) (.pure [])))) (dCons (dCall 2 f__law_house (dCons (dVar 1) (dCons (dC (.int 6)) (.pure [])))) (.pure []))))) (.pure [])))))
    (sSeq (sSet 4 (dCall 2 f__law_maps (dCons (dVar 2) (dCons (dVar 3) (.pure [])))))
    (sSeq (sSet 5 (dCall 2 f_like (dCons (dVar 2) (dCons (dVar 3) (.pure [])))))
    (sSeq (sIf (dOrB (dNotB (dTru (dCall 2 (f__law_alike 6) (dCons (dCall 2 f_are_alike (dCons (dVar 2) (dCons (dVar 3) (.pure [])))) (dCons (d2 neD (dVar 4) (dLst (.pure []))) (.pure [])))))) (dBool (d2 neD (d2 (isNoneD false) (dVar 5) (dC .none)) (d2 eqD (dVar 4) (dLst (.pure [])))))) (sRet (dC (.bool false))) sNx)
    (sSeq (sIf (dOrB (dAndB (dBool (d2 (isNoneD true) (dVar 5) (dC .none))) (dBool (d2 (inD true) (dVar 5) (dVar 4)))) (dBool (d2 notBD (dCall 3 f_shows_like (dCons (dVar 2) (dCons (dVar 3) (dCons (dVar 5) (.pure []))))) (dC (.bool true))))) (sRet (dC (.bool false))) sNx)
    (sSeq (sIf (dNotB (dTru (dCall 2 (f__law_alike 6) (dCons (dCall 3 f_shows_like (dCons (dVar 2) (dCons (dVar 3) (dCons (dC .none) (.pure []))))) (dCons (d2 eqD (dVar 4) (dLst (.pure []))) (.pure [])))))) (sRet (dC (.bool false))) sNx)
    (sSeq (sFor (dRg1 (dCons (dC (.int 5)) (.pure []))) (patNm 6) b_law_1)
    (sSeq (sSet 8 (dLst (dCons (dTup (.pure [])) (dCons (dF (nN listF (dCons (dVar 7) (.pure [])))) (dCons (d2 addD (dVar 7) (dTup (dCons (d2 idxD (dVar 2) (dC (.int 0))) (.pure [])))) (dCons (dSlice (dVar 7) (.pure none) (dPart (d1 negD (dC (.int 1))))) (dCons (d2 addD (dSlice (dVar 7) (.pure none) (dPart (d1 negD (dC (.int 1))))) (dTup (dCons (dC .none) (.pure [])))) (.pure []))))))))
    (sSeq (sSet 8 (d2 addD (dVar 8) (dLst (dCons (d2 addD (dTup (dCons (dC (.bool true)) (.pure []))) (dSlice (dVar 7) (dPart (dC (.int 1))) (.pure none))) (dCons (dC (.int 5)) (dCons (dF nDicK) (dCons (d2 addD (d2 tmulD (dTup (dCons (dC (.int 0)) (.pure []))) (d2 idxD (dVar 2) (dC (.int 0)))) (dTup (dCons (dC (.int 0)) (.pure [])))) (.pure []))))))))
    (sSeq (sIf (dBool (d2 notBD (dCall 2 f_are_alike (dCons (dVar 2) (dCons (dVar 2) (.pure [])))) (dC (.bool true)))) (sRet (dC (.bool false))) sNx)
    (sRet (d2 eqD (dF (dLc (dSq (dVar 8)) (patNm 9) (dBool (d2 notBD (dCall 3 f_shows_like (dCons (dVar 2) (dCons (dVar 3) (dCons (dVar 9) (.pure []))))) (dC (.bool false)))) (dVar 9) [9])) (dLst (.pure []))))))))))))))))
def f_law : M D := bodyM 10 m_law
theorem sc_law : FnScope ["script", "row", "one", "other", "due", "told", "turn", "some", "odd", "value"] ["script"] (defScope s_law) := ⟨rfl, rfl, rfl, by decide +kernel, rfl, by decide +kernel, by decide +kernel⟩
theorem ok_law (B : Bi mg) (c__law_house : C8.Cal P w K mg base 3 "_law_house" (spZ K mg 2 f__law_house) []) (c__law_turn : C8.Cal P w K mg base 2 "_law_turn" (spZ K mg 2 f__law_turn) []) (c__law_moved : C8.Cal P w K mg base 1 "_law_moved" (spZ K mg 2 f__law_moved) []) (c__law_pick : C8.Cal P w K mg base 2 "_law_pick" (spZ K mg 2 f__law_pick) []) (c__law_maps : C8.Cal P w K mg base 1 "_law_maps" (spZ K mg 2 f__law_maps) []) (c_like : C8.Cal P w K mg base 7 "like" (spZ K mg 2 f_like) []) (c_are_alike : C8.Cal P w K mg base 8 "are_alike" (spZ K mg 2 f_are_alike) []) (c__law_alike : C8.Cal P w K mg base 7 "_law_alike" (spZ K mg 2 (f__law_alike 6)) []) (c_shows_like : C8.Cal P w K mg base 9 "shows_like" (spZ K mg 3 f_shows_like) []) (c__law_taken : C8.Cal P w K mg base 1 "_law_taken" (spZ K mg 2 f__law_taken) []) (F : Fun K "law" "law" s_law f fd) : FnOk P w K mg base CX0 10 f fd ["script"] (spZ K mg 1 f_law) :=
  have nd := sc_law.nd
  fn_okZ (N := ["script", "row", "one", "other", "due", "told", "turn", "some", "odd", "value"]) (m := m_law) F sc_law rfl fun cdv A outer s H E hr => ⟨_,
      (ssj_cons (s_setO 1 nd (fj_lst (x_pos (ej_var 0 (pv 0)) (x_pos ej_int (x_pos ej_int (x_pos ej_int aj_nil))))))
      (ssj_cons (s_set 2 nd (x_call c__law_house hr (x_pos (ej_var 1 (pv 1)) (x_pos ej_int aj_nil))))
      (ssj_cons (s_set 3 nd (x_call c__law_pick hr (x_pos (ej_var 1 (pv 1)) (x_pos (ej_lst (x_pos (x_call c__law_moved hr (x_pos (ej_var 2 (pv 2)) (x_pos (x_call c__law_turn hr (x_pos (ej_var 1 (pv 1)) (x_pos (x_ix (ej_var 2 (pv 2)) ej_int) aj_nil))) aj_nil))) (x_pos (x_call c__law_house hr (x_pos (ej_var 1 (pv 1)) (x_pos ej_int aj_nil))) (x_pos (x_call c__law_house hr (x_pos (ej_var 1 (pv 1)) (x_pos ej_int aj_nil))) aj_nil)))) aj_nil))))
      (ssj_cons (s_set 4 nd (x_call c__law_maps hr (x_pos (ej_var 2 (pv 2)) (x_pos (ej_var 3 (pv 3)) aj_nil))))
      (ssj_cons (s_set 5 nd (x_call c_like hr (x_pos (ej_var 2 (pv 2)) (x_pos (ej_var 3 (pv 3)) aj_nil))))
      (ssj_cons (sj_if (WJ.tj (wj_or (tj_not (t_val (x_call c__law_alike hr (x_pos (x_call c_are_alike hr (x_pos (ej_var 2 (pv 2)) (x_pos (ej_var 3 (pv 3)) aj_nil))) (x_pos (x_ne hr (ej_var 4 (pv 4)) (ej_lst aj_nil)) aj_nil))))) (wj_or1 (t_ne hr (x_isN (ej_var 5 (pv 5)) ej_non) (x_eq hr (ej_var 4 (pv 4)) (ej_lst aj_nil)))))) (ssj_one (sj_ret ej_bl)) ssj_nil)
      (ssj_cons (sj_if (WJ.tj (wj_or (WJ.tj (wj_and (t_notN (ej_var 5 (pv 5)) ej_non) (wj_and1 (t_notin hr (ej_var 5 (pv 5)) (ej_var 4 (pv 4)))))) (wj_or1 (t_notB (x_call c_shows_like hr (x_pos (ej_var 2 (pv 2)) (x_pos (ej_var 3 (pv 3)) (x_pos (ej_var 5 (pv 5)) aj_nil)))) ej_bl)))) (ssj_one (sj_ret ej_bl)) ssj_nil)
      (ssj_cons (sj_if (tj_not (t_val (x_call c__law_alike hr (x_pos (x_call c_shows_like hr (x_pos (ej_var 2 (pv 2)) (x_pos (ej_var 3 (pv 3)) (x_pos ej_non aj_nil)))) (x_pos (x_eq hr (ej_var 4 (pv 4)) (ej_lst aj_nil)) aj_nil))))) (ssj_one (sj_ret ej_bl)) ssj_nil)
      (ssj_cons (s_for (i_rg1 B.range_ (x_pos ej_int aj_nil)) (g_nm 6 nd) (ssj_cons (s_set 7 nd (x_call c__law_turn hr (x_pos (ej_var 1 (pv 1)) (x_pos (x_ix (ej_var 2 (pv 2)) ej_int) aj_nil))))
      (ssj_cons (s_set 7 nd (ej_ifx (WJ.tj (wj_and (t_ne hr (ej_var 4 (pv 4)) (ej_lst aj_nil)) (wj_and1 (t_eq hr (x_call c__law_taken hr (x_pos (ej_var 1 (pv 1)) (x_pos ej_int aj_nil))) ej_int)))) (x_call c__law_pick hr (x_pos (ej_var 1 (pv 1)) (x_pos (ej_var 4 (pv 4)) aj_nil))) (ej_var 7 (pv 7))))
      (ssj_one (sj_if (tj_not (t_val (x_call c__law_alike hr (x_pos (x_call c_shows_like hr (x_pos (ej_var 2 (pv 2)) (x_pos (ej_var 3 (pv 3)) (x_pos (ej_var 7 (pv 7)) aj_nil)))) (x_pos (x_in hr (ej_var 7 (pv 7)) (ej_var 4 (pv 4))) aj_nil))))) (ssj_one (sj_ret ej_bl)) ssj_nil)))))
      (ssj_cons (s_set 8 nd (ej_lst (x_pos (ej_tup aj_nil) (x_pos (FJ.ej (f_list B.list_ (x_pos (ej_var 7 (pv 7)) aj_nil))) (x_pos (x_add (ej_var 7 (pv 7)) (ej_tup (x_pos (x_ix (ej_var 2 (pv 2)) ej_int) aj_nil))) (x_pos (x_slice (ej_var 7 (pv 7)) pj_no (pj_some (ej_neg ej_int))) (x_pos (x_add (x_slice (ej_var 7 (pv 7)) pj_no (pj_some (ej_neg ej_int))) (ej_tup (x_pos ej_non aj_nil))) aj_nil)))))))
      (ssj_cons (s_set 8 nd (x_add (ej_var 8 (pv 8)) (ej_lst (x_pos (x_add (ej_tup (x_pos ej_bl aj_nil)) (x_slice (ej_var 7 (pv 7)) (pj_some ej_int) pj_no)) (x_pos ej_int (x_pos (FJ.ej fj_dicK) (x_pos (x_add (x_tmul (ej_tup (x_pos ej_int aj_nil)) (x_ix (ej_var 2 (pv 2)) ej_int)) (ej_tup (x_pos ej_int aj_nil))) aj_nil)))))))
      (ssj_cons (sj_if (t_notB (x_call c_are_alike hr (x_pos (ej_var 2 (pv 2)) (x_pos (ej_var 2 (pv 2)) aj_nil))) ej_bl) (ssj_one (sj_ret ej_bl)) ssj_nil)
      (ssj_one (sj_ret (x_eq hr (FJ.ej (f_lc (own := [("value", 9)]) nd (i_seq (ej_var 8 (pv 8))) (blkOk_by (N := ["script", "row", "one", "other", "due", "told", "turn", "some", "odd", "value"]) (sc := defScope s_law) (by decide +kernel)) (fun _ _ _ _ _ => (g_nm 9 nd)) (fun _ _ _ _ _ => (tsj_one (t_notB (x_call c_shows_like hr (x_pos (ej_var 2 (pv 2)) (x_pos (ej_var 3 (pv 3)) (x_pos (ej_var 9 (pv 9)) aj_nil)))) ej_bl))) (fun _ _ _ _ _ => (ej_var 9 (pv 9))))) (ej_lst aj_nil))))))))))))))))⟩
end
end K09
/- levels {"is_number": 1, "is_pair": 1, "are_numbers": 2, "is_shuffle": 3, "ascends": 1, "is_hall": 2, "is_door": 3, "are_doors": 4, "turned_doors": 1, "steps_from": 1, "are_joined": 2, "house_fault": 5, "check_house": 6, "is_map": 4, "marks_of": 1, "choices_of": 2, "goes_on": 1, "least_maps": 3, "like": 7, "are_alike": 8, "shows_like": 9, "_law_taken": 1, "_law_pick": 2, "_law_alike": 7, "_law_circle": 1, "_law_known": 2, "_law_moved": 1, "_law_turn": 2, "_law_house": 3, "_law_maps": 1, "law": 10} -/

/-! Q1: what the program's functions answer. -/
namespace K09
open PySem L2 DL
abbrev Pr := Int × Int
def r2 (p : Pr) : Row := [p.1, p.2]
def pD (p : Pr) : D := rowD (r2 p)
def dD (l : List Pr) : D := .tuple (l.map pD)
def hD (n : Int) (l : List Pr) : D := .tuple [.int n, dD l]
theorem pD_eq (p : Pr) : pD p = .tuple [.int p.1, .int p.2] := rfl
theorem dD_rows (l : List Pr) : dD l = .tuple ((l.map r2).map rowD) := by unfold dD; rw [List.map_map]; rfl
def inH (n i : Int) : Bool := decide (0 ≤ i) && decide (i ≤ n - 1)
def okDoor (n : Int) (p : Pr) : Bool := inH n p.1 && inH n p.2 && !(p.1 == p.2)
theorem q_is_number (v lo hi : Int) : run f_is_number [.int v, .int lo, .int hi] = .ok (.bool (decide (lo ≤ v) && decide (v ≤ hi))) := by
  rw [run_ap, f_is_number, bodyM_ap]
  by_cases h : lo ≤ v <;> simp [m_is_number, h]
theorem q_is_pair (a b : D) : run f_is_pair [.tuple [a, b]] = .ok (.bool true) := by
  rw [run_ap, f_is_pair, bodyM_ap]
  simp [m_is_pair]
theorem q_is_hall (n v : Int) : run f_is_hall [.int n, .int v] = .ok (.bool (inH n v)) := by
  rw [run_ap, f_is_hall, bodyM_ap]
  simp [m_is_hall, q_is_number, inH]
@[simp] theorem allD_bools (l : List Bool) : allD [.list (l.map .bool)] = some (.bool (l.all id)) := by
  have e : ∀ l : List Bool, boolsD (l.map .bool) = some l := fun l => by
    induction l with
    | nil => rfl
    | cons b l ih => simp [boolsD, ih]
  simp [allD, e]
theorem q_is_door (n : Int) (p : Pr) : run f_is_door [.int n, pD p] = .ok (.bool (okDoor n p)) := by
  rw [run_ap, f_is_door, bodyM_ap]
  simp [m_is_door, q_is_pair, pD_eq]
  rw [lc_map (fun i : Int => .int i) (fun i : Int => .bool (inH n i)) [p.1, p.2]]
  · have e : [p.1, p.2].map (fun i : Int => PyData.bool (inH n i)) = [inH n p.1, inH n p.2].map PyData.bool := rfl
    simp only [e, allD_bools, then_ok, bind_ap, pure_ap, nows_cons, nows_nil, now_val, opt_some]
    by_cases h1 : inH n p.1 <;> by_cases h2 : inH n p.2 <;> simp [h1, h2, okDoor]
  · simp
  · rfl
  · rfl
  · intro i _
    exact ⟨_, rfl, by simp [q_is_hall], rfl⟩
  · show 2 ≤ 100000; omega
theorem rgIt1_ok (n : Int) (h1 : -100000 ≤ n) (h2 : n ≤ 100000) : rgIt1 [.int n] = some ((List.range n.toNat).map fun i => .int ((i : Nat) : Int)) := by
  show (if -100000 ≤ n ∧ n ≤ 100000 then some (rgD 0 n) else none) = _
  rw [if_pos ⟨h1, h2⟩]
  unfold rgD
  simp
@[simp] theorem ltx_row (a b : Row) : ltxD (.tuple (a.map .int)) (.tuple (b.map .int)) = some (.bool (HT.lexLt a b)) := by
  show ((intsOf (a.map .int)).bind fun ns => (intsOf (b.map .int)).map fun ms => PyData.bool (HT.lexLt ns ms)) = _
  rw [intsOf_map, intsOf_map]
  rfl
theorem all_true {α : Type} (l : List α) : (l.map fun _ => PyData.bool true) = (l.map fun _ => true).map PyData.bool := by rw [List.map_map]; rfl
theorem all_true2 {α : Type} (l : List α) : (l.map fun _ => true).all id = true := by simp
theorem q_ascends (l : List Row) (h : Asc l) (hl : l.length ≤ 1000) : run f_ascends [.tuple (l.map rowD)] = .ok (.bool true) := by
  rw [run_ap, f_ascends, bodyM_ap]
  simp [m_ascends]
  rw [lc_map (fun i : Nat => .int (i : Int)) (fun _ => .bool true) (List.range (l.length - 1))]
  · rw [all_true]
    simp only [allD_bools, then_ok, bind_ap, pure_ap, nows_cons, nows_nil, now_val, opt_some, all_true2]
    simp
  · simp
    rw [rgIt1_ok _ (by omega) (by omega)]
    simp
  · rfl
  · rfl
  · intro i hi
    rw [List.mem_range] at hi
    have h1 : i < l.length := by omega
    have h2 : i + 1 < l.length := by omega
    have e1 : atI (l.map rowD) (i : Int) = some (rowD l[i]) := by rw [atI_nat _ i (by simpa using h1)]; simp
    have e2 : atI (l.map rowD) ((i : Int) + 1) = some (rowD l[i + 1]) := by rw [show (i : Int) + 1 = ((i + 1 : Nat) : Int) by omega, atI_nat _ (i + 1) (by simpa using h2)]; simp
    have e3 : HT.lexLt l[i] l[i + 1] = true := List.pairwise_iff_getElem.mp h i (i + 1) h1 h2 (by omega)
    exact ⟨_, rfl, by simp [e1, e2, e3], rfl⟩
  · simp only [List.length_range]; show _ ≤ 100000; omega
theorem q_are_doors (n : Int) (l : List Pr) (h : Asc (l.map r2)) (hl : l.length ≤ 1000) : run f_are_doors [.int n, dD l] = .ok (.bool (l.all (okDoor n))) := by
  have ha := q_ascends (l.map r2) h (by simpa using hl)
  rw [← dD_rows] at ha
  unfold dD at ha ⊢
  rw [run_ap, f_are_doors, bodyM_ap]
  simp [m_are_doors]
  rw [lc_map pD (fun p => .bool (okDoor n p)) l]
  · have e : (l.map fun p => PyData.bool (okDoor n p)) = (l.map (okDoor n)).map PyData.bool := by rw [List.map_map]; rfl
    simp only [e, allD_bools, then_ok, bind_ap, pure_ap, nows_cons, nows_nil, now_val, opt_some]
    cases h1 : l.all (okDoor n) with
    | false =>
      have h2 : (l.map (okDoor n)).all id = false := by rw [List.all_map]; exact h1
      simp [h2]
    | true =>
      have h2 : (l.map (okDoor n)).all id = true := by rw [List.all_map]; exact h1
      simp [h2, ha]
  · simp
  · rfl
  · rfl
  · intro p _
    exact ⟨_, rfl, by simp [q_is_door], rfl⟩
  · show _ ≤ 100000; omega
/-! ### turned -/
def swp (p : Pr) : Pr := (p.2, p.1)
def srtP (l : List Pr) : List Pr := l.mergeSort fun p q => leR (r2 p) (r2 q)
theorem srtP_rows (l : List Pr) : (srtP l).map r2 = srtR (l.map r2) := PySem.W.sort_maps (r := fun p q => leR (r2 p) (r2 q)) (s := leR) r2 fun _ _ _ _ => rfl
theorem mem_srtP {l : List Pr} {p : Pr} : p ∈ srtP l ↔ p ∈ l := (List.mergeSort_perm _ _).mem_iff
def trn (l : List Pr) : List Pr := srtP (l.map swp)
theorem r2_ne (p : Pr) : r2 p ≠ [] := by intro h; cases h
theorem sorted_pairs {l : List Pr} (hl : l.length ≤ 1000) : sortedF [.list (l.map pD)] = some ((srtP l).map pD) := by
  have e : l.map pD = (l.map r2).map rowD := by rw [List.map_map]; rfl
  have e2 : (srtP l).map pD = ((srtP l).map r2).map rowD := by rw [List.map_map]; rfl
  rw [e, e2, srtP_rows]
  refine sorted_rows (fun r hr => ?_) (by rw [List.length_map]; show _ ≤ 100000; omega)
  obtain ⟨p, _, rfl⟩ := List.mem_map.mp hr
  exact r2_ne p
theorem q_turned_doors (l : List Pr) (hl : l.length ≤ 1000) : run f_turned_doors [dD l] = .ok (dD (trn l)) := by
  unfold dD
  rw [run_ap, f_turned_doors, bodyM_ap]
  simp [m_turned_doors]
  rw [lc_map pD (fun p => pD (swp p)) l]
  · have e : (l.map fun p => pD (swp p)) = (l.map swp).map pD := by rw [List.map_map]; rfl
    simp [-List.map_map, e, sorted_pairs (l := l.map swp) (by simpa using hl), trn]
  · simp
  · rfl
  · rfl
  · intro p _
    exact ⟨_, rfl, by simp [swp, pD_eq], rfl⟩
  · show _ ≤ 100000; omega
end K09

/-! Q2: ways. -/
namespace K09
open PySem L2 DL
/-- come to by at most k doors -/
def Rk (l : List Pr) (s : Int) : Nat → Int → Prop
  | 0, x => x = s
  | k + 1, x => Rk l s k x ∨ ∃ p ∈ l, Rk l s k p.1 ∧ p.2 = x
theorem Rk.mono {l : List Pr} {s x : Int} {j : Nat} : ∀ {k : Nat}, j ≤ k → Rk l s j x → Rk l s k x
  | 0, h, r => by
    have : j = 0 := by omega
    subst this
    exact r
  | k + 1, h, r => by
    by_cases e : j = k + 1
    · subst e; exact r
    · exact .inl (Rk.mono (by omega) r)
def Rch (l : List Pr) (s x : Int) : Prop := ∃ k, Rk l s k x
theorem Rch.refl (l : List Pr) (s : Int) : Rch l s s := ⟨0, rfl⟩
theorem Rch.step {l : List Pr} {s : Int} {p : Pr} (h : Rch l s p.1) (hp : p ∈ l) : Rch l s p.2 := by
  obtain ⟨k, h⟩ := h
  exact ⟨k + 1, .inr ⟨p, hp, h, rfl⟩⟩
theorem Rch.trans {l : List Pr} {a b : Int} (h : Rch l a b) : ∀ (k : Nat) (c : Int), Rk l b k c → Rch l a c
  | 0, c, r => by
    have : c = b := r
    subst this
    exact h
  | k + 1, c, r => by
    rcases r with r | ⟨p, hp, r, rfl⟩
    · exact Rch.trans h k c r
    · exact (Rch.trans h k p.1 r).step hp
theorem Rch.tr {l : List Pr} {a b c : Int} (h : Rch l a b) (k : Rch l b c) : Rch l a c := by
  obtain ⟨j, k⟩ := k
  exact h.trans j c k
theorem Rch.back {l l' : List Pr} (hl : ∀ p ∈ l, swp p ∈ l') {a : Int} : ∀ (k : Nat) (b : Int), Rk l a k b → Rch l' b a
  | 0, b, r => by
    have : b = a := r
    subst this
    exact Rch.refl _ _
  | k + 1, b, r => by
    rcases r with r | ⟨p, hp, r, rfl⟩
    · exact Rch.back hl k b r
    · exact Rch.tr ((Rch.refl l' p.2).step (p := swp p) (hl p hp)) (Rch.back hl k p.1 r)
theorem Rk.closed {l : List Pr} {s : Int} {k : Nat} (h : ∀ x, Rk l s (k + 1) x → Rk l s k x) : ∀ (j : Nat) (x : Int), Rk l s j x → Rk l s k x
  | 0, x, r => Rk.mono (Nat.zero_le k) r
  | j + 1, x, r => by
    rcases r with r | ⟨p, hp, r, rfl⟩
    · exact Rk.closed h j x r
    · exact h _ (.inr ⟨p, hp, Rk.closed h j p.1 r, rfl⟩)
theorem Rk.inH {l : List Pr} {s n : Int} (hs : inH n s = true) (hl : ∀ p ∈ l, inH n p.2 = true) : ∀ (k : Nat) (x : Int), Rk l s k x → inH n x = true
  | 0, x, r => by
    have : x = s := r
    subst this
    exact hs
  | k + 1, x, r => by
    rcases r with r | ⟨p, hp, r, rfl⟩
    · exact Rk.inH hs hl k x r
    · exact hl p hp
theorem inH_iff {n x : Int} : inH n x = true ↔ 0 ≤ x ∧ x < n := by
  unfold inH
  rw [Bool.and_eq_true, decide_eq_true_eq, decide_eq_true_eq]
  omega
def rng (n : Int) : List Int := (List.range n.toNat).map fun i : Nat => (i : Int)
theorem mem_rng {n x : Int} : x ∈ rng n ↔ inH n x = true := by
  unfold rng
  rw [inH_iff, List.mem_map]
  constructor
  · rintro ⟨i, hi, rfl⟩
    rw [List.mem_range] at hi
    omega
  · intro h
    exact ⟨x.toNat, by rw [List.mem_range]; omega, by omega⟩
theorem rng_nodup (n : Int) : (rng n).Nodup := by
  unfold rng
  refine List.Pairwise.map _ ?_ (List.nodup_range (n := n.toNat))
  intro a b h e
  exact h (by omega)
theorem rng_len (n : Int) : (rng n).length = n.toNat := by unfold rng; rw [List.length_map, List.length_range]
theorem len_le {n : Int} {l : List Int} (nd : l.Nodup) (h : ∀ x ∈ l, inH n x = true) : l.length ≤ n.toNat := by
  rw [← rng_len]
  exact nd.length_le_of_subset fun x hx => mem_rng.mpr (h x hx)
theorem len_full {n : Int} (hn : 0 ≤ n) {l : List Int} (nd : l.Nodup) (h : ∀ x ∈ l, inH n x = true) : ((l.length : Int) = n) ↔ ∀ x, inH n x = true → x ∈ l := by
  constructor
  · intro e x hx
    by_cases hm : x ∈ l
    · exact hm
    · have := len_le (n := n) (l := x :: l) (List.nodup_cons.mpr ⟨hm, nd⟩) fun y hy => by
        rcases List.mem_cons.mp hy with z | z
        · subst z; exact hx
        · exact h y z
      rw [List.length_cons] at this
      omega
  · intro k
    have h1 := len_le nd h
    have h2 := (rng_nodup n).length_le_of_subset (l₂ := l) fun x hx => k x (mem_rng.mp hx)
    rw [rng_len] at h2
    omega
/-! ### the search -/
abbrev St := List (Int × Int)
structure BI (l : List Pr) (s : Int) (k : Nat) (st : St) (nw : List Int) : Prop where
  mem : ∀ x, x ∈ st.map (·.1) ↔ Rk l s k x
  val : ∀ q ∈ st, ∃ j : Nat, q.2 = (j : Int) ∧ Rk l s j q.1 ∧ ∀ i, Rk l s i q.1 → j ≤ i
  nw : ∀ x, x ∈ nw ↔ Rk l s k x ∧ ∀ i, i < k → ¬ Rk l s i x
  nd : (st.map (·.1)).Nodup
theorem BI.start (l : List Pr) (s : Int) : BI l s 0 [(s, 0)] [s] := by
  refine ⟨fun x => by simp [Rk], fun q hq => ?_, fun x => by simp [Rk], by simp⟩
  rw [List.mem_singleton] at hq
  subst hq
  exact ⟨0, rfl, rfl, fun i _ => Nat.zero_le i⟩
theorem BI.next {l : List Pr} {s : Int} {k : Nat} {st : St} {nw nw' : List Int} (b : BI l s k st nw) (nd : nw'.Nodup) (h : ∀ x, x ∈ nw' ↔ ∃ p ∈ l, p.1 ∈ nw ∧ p.2 ∉ st.map (·.1) ∧ p.2 = x) :
    BI l s (k + 1) (st ++ nw'.map fun x => (x, ((k + 1 : Nat) : Int))) nw' := by
  have C : ∀ x, x ∈ nw' ↔ Rk l s (k + 1) x ∧ ¬ Rk l s k x := fun x => by
    rw [h x]
    constructor
    · rintro ⟨p, hp, h1, h2, rfl⟩
      exact ⟨.inr ⟨p, hp, ((b.nw _).mp h1).1, rfl⟩, fun z => h2 ((b.mem _).mpr z)⟩
    · rintro ⟨h1, h2⟩
      rcases h1 with h1 | ⟨p, hp, r, rfl⟩
      · exact (h2 h1).elim
      · refine ⟨p, hp, (b.nw _).mpr ⟨r, fun i hi z => h2 (Rk.mono (show i + 1 ≤ k by omega) (.inr ⟨p, hp, z, rfl⟩))⟩, fun z => h2 ((b.mem _).mp z), rfl⟩
  have keys : (st ++ nw'.map fun x => (x, ((k + 1 : Nat) : Int))).map (·.1) = st.map (·.1) ++ nw' := by
    rw [List.map_append, List.map_map]
    congr 1
    exact List.map_id' nw'
  refine ⟨fun x => ?_, fun q hq => ?_, fun x => ?_, ?_⟩
  · rw [keys, List.mem_append, b.mem, C]
    constructor
    · rintro (z | z)
      · exact .inl z
      · exact z.1
    · intro z
      by_cases w : Rk l s k x
      · exact .inl w
      · exact .inr ⟨z, w⟩
  · rcases List.mem_append.mp hq with z | z
    · exact b.val q z
    · obtain ⟨x, hx, rfl⟩ := List.mem_map.mp z
      obtain ⟨h1, h2⟩ := (C x).mp hx
      refine ⟨k + 1, rfl, h1, fun i hi => ?_⟩
      by_cases w : k + 1 ≤ i
      · exact w
      · exact (h2 (Rk.mono (by omega) hi)).elim
  · rw [C]
    constructor
    · rintro ⟨h1, h2⟩
      exact ⟨h1, fun i hi z => h2 (Rk.mono (by omega) z)⟩
    · rintro ⟨h1, h2⟩
      exact ⟨h1, h2 k (by omega)⟩
  · rw [keys, List.nodup_append]
    refine ⟨b.nd, nd, fun a ha c hc e => ?_⟩
    subst e
    exact ((C a).mp hc).2 ((b.mem a).mp ha)
theorem BI.len {l : List Pr} {s n : Int} {k : Nat} {st : St} {nw : List Int} (b : BI l s k st nw) (hs : inH n s = true) (hl : ∀ p ∈ l, inH n p.2 = true) : st.length ≤ n.toNat := by
  have := len_le (n := n) b.nd fun x hx => Rk.inH hs hl k x ((b.mem x).mp hx)
  rwa [List.length_map] at this
/-- what the search ends with -/
structure Fin (l : List Pr) (s : Int) (st : St) : Prop where
  mem : ∀ x, x ∈ st.map (·.1) ↔ Rch l s x
  val : ∀ q ∈ st, ∃ j : Nat, q.2 = (j : Int) ∧ Rk l s j q.1 ∧ ∀ i, Rk l s i q.1 → j ≤ i
  nd : (st.map (·.1)).Nodup
theorem BI.fin {l : List Pr} {s : Int} {k : Nat} {st : St} (b : BI l s k st []) : Fin l s st := by
  refine ⟨fun x => ?_, b.val, b.nd⟩
  rw [b.mem]
  constructor
  · intro h; exact ⟨k, h⟩
  · cases k with
    | zero =>
      have := (b.nw s).mpr ⟨rfl, fun i hi => by omega⟩
      cases this
    | succ k =>
      rintro ⟨j, h⟩
      have cl : ∀ x, Rk l s (k + 1) x → Rk l s k x := fun x hx => by
        by_cases w : Rk l s k x
        · exact w
        · have := (b.nw x).mpr ⟨hx, fun i hi z => w (Rk.mono (by omega) z)⟩
          cases this
      exact .inl (Rk.closed cl j x h)
/-! ### steps_from -/
def stL (st : St) : List (D × D) := st.map fun q => (.int q.1, .int q.2)
theorem okK_st (st : St) (x : Int) : okK (stL st) (.int x) = true := by
  cases st with
  | nil => rfl
  | cons q st => rfl
theorem look_st : ∀ (st : St) (x : Int), lookD (stL st) (.int x) = (st.find? fun q => q.1 == x).map fun q => .int q.2
  | [], x => rfl
  | q :: st, x => by
    have ih := look_st st x
    unfold lookD stL at ih ⊢
    simp only [List.map_cons, List.find?_cons]
    have e : PyData.eqv (.int q.1) (.int x) = (q.1 == x) := by simp [PyData.eqv]
    rw [e]
    cases h : q.1 == x with
    | true => rfl
    | false => exact ih
theorem look_some (st : St) (x : Int) : (lookD (stL st) (.int x)).isSome = decide (x ∈ st.map (·.1)) := by
  rw [look_st, Option.isSome_map, Bool.eq_iff_iff, List.find?_isSome, decide_eq_true_eq, List.mem_map]
  constructor
  · rintro ⟨q, hq, e⟩
    exact ⟨q, hq, by simpa using e⟩
  · rintro ⟨q, hq, e⟩
    exact ⟨q, hq, by simpa using e⟩
theorem put_new (st : St) (x v : Int) (h : x ∉ st.map (·.1)) : putD (stL st) (.int x) (.int v) = stL (st ++ [(x, v)]) := by
  unfold putD
  have e : ((stL st).any fun p => PyData.eqv p.1 (.int x)) = false := by
    rw [List.any_eq_false]
    intro p hp
    obtain ⟨q, hq, rfl⟩ := List.mem_map.mp hp
    simp only [PyData.eqv]
    intro z
    exact h (List.mem_map.mpr ⟨q, hq, by simpa using z⟩)
  rw [e]
  simp [stL]
theorem din_st (neg : Bool) (st : St) (x : Int) : dinD neg (.int x) (.dict (stL st)) = some (.bool (if neg then !decide (x ∈ st.map (·.1)) else decide (x ∈ st.map (·.1)))) := by
  show (if okK (stL st) (.int x) = true then _ else _) = _
  rw [if_pos (okK_st st x), look_some]
theorem setDk_st (st : St) (x v : Int) (h : x ∉ st.map (·.1)) (hl : st.length < 1000) : setDk (.dict (stL st)) (.int x) (.int v) = some (.dict (stL (st ++ [(x, v)]))) := by
  show (if okK (stL st) (.int x) = true ∧ (stL st).length < LIM then _ else _) = _
  rw [if_pos ⟨okK_st st x, by unfold stL; rw [List.length_map]; show _ < 100000; omega⟩, put_new st x v h]
def ei (l : List Int) : List D := l.map .int
theorem canLay_ints (l : List Int) : PyData.canLayAll0 (ei l) = true := by
  have h := shp_row l
  have h2 : (PyData.tuple (l.map .int)).canLay0 = true := h.1
  unfold ei
  simpa [PyData.canLay0] using h2
theorem memD_ints (x : Int) (l : List Int) : memD (.int x) (ei l) = decide (x ∈ l) := by
  unfold memD ei
  rw [Bool.eq_iff_iff, List.any_eq_true, decide_eq_true_eq]
  constructor
  · rintro ⟨d, hd, e⟩
    obtain ⟨y, hy, rfl⟩ := List.mem_map.mp hd
    simp only [PyData.eqv] at e
    have : y = x := by simpa using e
    subst this; exact hy
  · intro h
    exact ⟨_, List.mem_map.mpr ⟨x, h, rfl⟩, by simp [PyData.eqv]⟩
theorem in_ints (neg : Bool) (x : Int) (l : List Int) : inD neg (.int x) (.list (ei l)) = some (.bool (if neg then !decide (x ∈ l) else decide (x ∈ l))) := by
  show (if SeqAt.shaped (.int x) && PyData.canLayAll0 (ei l) then some (PyData.bool (if neg then !memD (.int x) (ei l) else memD (.int x) (ei l))) else none) = _
  rw [(shp_int 0 x).shaped (by omega), canLay_ints, memD_ints]
  rfl
structure SS where
  k : Nat
  st : St
  nw : List Int
  h : Option Sl
def evS (l : List Pr) (s : Int) (a : SS) : List (Option Sl) := [some (.dat (.tuple (l.map pD))), some (.dat (.int s)), some (.own (.dict (stL a.st))), some (.dat (.list (ei a.nw))), some (.dat (.int (a.k : Int))), a.h, none, none]
def DatO (h : Option Sl) : Prop := h = none ∨ ∃ d, h = some (.dat d)
theorem put_dat {h : Option Sl} (hh : DatO h) (i : Nat) (s : Sl) (ρ : List (Option Sl)) : putS i s (some h) ρ = .ok () (ρ.set i (some s)) := by
  rcases hh with rfl | ⟨d, rfl⟩ <;> rfl
theorem q_steps_for (l : List Pr) (s : Int) (nw' : List Int) (nd : nw'.Nodup) (k : Nat) (st : St) (hn : ∀ x ∈ nw', x ∉ st.map (·.1)) (hl : st.length + nw'.length < 1000) (h : Option Sl) (hh : DatO h) :
    ∃ h', DatO h' ∧ sForL (patNm 5) b_steps_from_1 (ei nw') (evS l s ⟨k, st, nw', h⟩) = .ok .nx (evS l s ⟨k, st ++ nw'.map fun x => (x, (k : Int)), nw', h'⟩) := by
  obtain ⟨s', ⟨h1, h2, h3, h4⟩, h5⟩ := for_ex (S := SS) (pat := patNm 5) (m := b_steps_from_1) (evS l s) (fun j a => a.k = k ∧ a.st = st ++ (nw'.take j).map (fun x => (x, (k : Int))) ∧ a.nw = nw' ∧ DatO a.h) (ei nw') 0 ⟨k, st, nw', h⟩ ⟨rfl, by simp, rfl, hh⟩ (by
    rintro j d ⟨k1, st1, nw1, h1⟩ hj ⟨e1, e2, e3, e4⟩
    simp only at e1 e2 e3 e4
    subst e1 e3
    unfold ei at hj
    rw [List.getElem?_map] at hj
    obtain ⟨x, hx, rfl⟩ := Option.map_eq_some_iff.mp hj
    obtain ⟨hjl, hxe⟩ := List.getElem?_eq_some_iff.mp hx
    have hxm : x ∈ nw1 := by rw [← hxe]; exact List.getElem_mem hjl
    rw [Nat.zero_add] at e2 ⊢
    have hxn : x ∉ st1.map (·.1) := by
      rw [e2, List.map_append, List.mem_append, List.map_map]
      rintro (z | z)
      · exact hn x hxm z
      · obtain ⟨y, hy, e⟩ := List.mem_map.mp z
        have e : y = x := e
        subst e
        obtain ⟨i, hi, he⟩ := List.mem_iff_getElem.mp hy
        rw [List.length_take] at hi
        rw [List.getElem_take] at he
        have := (List.nodup_iff_pairwise_ne.mp nd)
        exact (List.pairwise_iff_getElem.mp this i j (by omega) hjl (by omega)) (by rw [he, hxe])
    have hll : st1.length < 1000 := by
      rw [e2, List.length_append, List.length_map, List.length_take]
      omega
    refine ⟨_, ⟨k1, st1 ++ [(x, (k1 : Int))], nw1, some (.dat (.int x))⟩, by simp only [evS, patNm_ap, List.getElem?_cons_succ, List.getElem?_cons_zero, put_dat e4]; rfl, ?_, rfl, ?_, rfl, .inr ⟨_, rfl⟩⟩
    · simp [b_steps_from_1, evS, setDk_st st1 x k1 hxn hll]
    · simp only
      rw [e2, List.append_assoc, List.take_succ, hx]
      simp)
  obtain ⟨k1, st1, nw1, g1⟩ := s'
  simp only at h1 h2 h3 h4
  subst h1 h3
  refine ⟨g1, h4, ?_⟩
  rw [h5, h2, Nat.zero_add]
  unfold ei
  rw [List.length_map, List.take_length]
end K09

/-! Q3: steps_from and what stands on it. -/
namespace K09
open PySem L2 DL
theorem pats_tup (i j : Nat) (p : Pr) : patTup (patCons (patNm i) (patCons (patNm j) patNil)) (pD p) = patCons (patNm i) (patCons (patNm j) patNil) [.int p.1, .int p.2] := rfl
theorem q_steps_body (l : List Pr) (s : Int) (hlen : l.length < 64) (a : SS) (hh : DatO a.h) (b : BI l s a.k a.st a.nw) (hst : a.st.length ≤ 10) (hne : a.nw ≠ []) :
    ∃ a' : SS, b_steps_from_2 (evS l s a) = .ok .nx (evS l s a') ∧ (BI l s a'.k a'.st a'.nw ∧ DatO a'.h) ∧ a'.st.length = a.st.length + a'.nw.length := by
  obtain ⟨k, st, nw, h⟩ := a
  simp only at hh b hst hne
  simp [b_steps_from_2, evS, augI]
  generalize hsc : dScI _ _ _ _ _ _ = r
  obtain ⟨out, h1, h2, h3, h4⟩ : ∃ out, r = .ok out [some (.dat (.tuple (l.map pD))), some (.dat (.int s)), some (.own (.dict (stL st))), some (.dat (.list (ei nw))), some (.dat (.int ((k : Int) + 1))), h, none, none] ∧ out.Nodup ∧ (∀ x, x ∈ out ↔ ∃ p ∈ l, (decide (p.1 ∈ nw) && !decide (p.2 ∈ st.map (·.1))) = true ∧ p.2 = x) ∧ out.length < 64 := by
    rw [← hsc]
    refine sc_pure pD (fun p => decide (p.1 ∈ nw) && !decide (p.2 ∈ st.map (·.1))) (fun p => p.2) l ?_ ?_ ?_ ?_ hlen
    · simp
    · rfl
    · rfl
    · intro p _
      refine ⟨_, rfl, ?_, ?_, rfl⟩
      · simp only [dAndB_ap, bind_ap, dBool_ap, d2_ap, var_ap, wipe_cons, wipe_nil]
        simp [in_ints, din_st]
        by_cases w : p.1 ∈ nw <;> simp [w, din_st]
      · intro _
        simp
  rw [h1]
  simp [h4]
  have hm : ∀ x, x ∈ sortI out ↔ ∃ p ∈ l, p.1 ∈ nw ∧ p.2 ∉ st.map (·.1) ∧ p.2 = x := fun x => by
    rw [(sortI_perm out).mem_iff, h3 x]
    constructor
    · rintro ⟨p, hp, w, e⟩
      rw [Bool.and_eq_true, decide_eq_true_eq, Bool.not_eq_true', decide_eq_false_iff_not] at w
      exact ⟨p, hp, w.1, w.2, e⟩
    · rintro ⟨p, hp, w1, w2, e⟩
      exact ⟨p, hp, by simp only [w1, w2, decide_true, decide_false]; rfl, e⟩
  have ndS : (sortI out).Nodup := (sortI_perm out).nodup_iff.mpr h2
  obtain ⟨h', hd, e⟩ := q_steps_for l s (sortI out) ndS (k + 1) st (fun x hx => by
    obtain ⟨p, _, _, w, rfl⟩ := (hm x).mp hx
    exact w) (by rw [(sortI_perm out).length_eq]; omega) h hh
  refine ⟨⟨k + 1, st ++ (sortI out).map (fun x => (x, ((k + 1 : Nat) : Int))), sortI out, h'⟩, ?_, ⟨b.next ndS hm, hd⟩, by simp⟩
  have e0 : evS l s ⟨k + 1, st, sortI out, h⟩ = [some (.dat (.tuple (l.map pD))), some (.dat (.int s)), some (.own (.dict (stL st))), some (.dat (.list (ei (sortI out)))), some (.dat (.int ((k : Int) + 1))), h, none, none] := rfl
  rw [e0] at e
  show M.bind _ _ _ = _
  simp
  exact e
theorem q_steps (n : Int) (l : List Pr) (s : Int) (hn : n ≤ 10) (hs : inH n s = true) (hl : ∀ p ∈ l, inH n p.2 = true) (hlen : l.length < 64) : ∃ st, Fin l s st ∧ st.length ≤ n.toNat ∧ run f_steps_from [dD l, .int s] = .ok (.dict (stL st)) := by
  obtain ⟨a, ⟨hb, hd⟩, hz, e⟩ := while_ex (S := SS) (mt := t_steps_from_2) (m := b_steps_from_2) (evS l s) (fun a => BI l s a.k a.st a.nw ∧ DatO a.h) (fun a => a.nw = []) (fun a => 2 * (11 - a.st.length) + (if a.nw = [] then 0 else 1)) 64 ⟨0, [(s, 0)], [s], none⟩ ⟨BI.start l s, .inl rfl⟩ (by simp) (by
    rintro a ⟨hb, hd⟩
    by_cases w : a.nw = []
    · refine .inl ⟨?_, w⟩
      simp [t_steps_from_2, evS, w, ei]
    · refine .inr ⟨?_, ?_⟩
      · obtain ⟨x, r, e⟩ := List.exists_cons_of_ne_nil w
        simp [t_steps_from_2, evS, e, ei]
      · have h10 : a.st.length ≤ 10 := by have := hb.len hs hl; omega
        obtain ⟨a', h1, h2, h3⟩ := q_steps_body l s hlen a hd hb h10 w
        refine ⟨a', h1, h2, ?_⟩
        have h11 : a'.st.length ≤ 10 := by have := h2.1.len hs hl; omega
        rw [if_neg w]
        by_cases w2 : a'.nw = []
        · rw [if_pos w2, h3, w2]
          simp only [List.length_nil]
          omega
        · rw [if_neg w2, h3]
          have : 0 < a'.nw.length := List.length_pos_iff.mpr w2
          omega)
  obtain ⟨k, st, nw, h⟩ := a
  simp only at hb hd hz
  subst hz
  refine ⟨st, hb.fin, hb.len hs hl, ?_⟩
  rw [run_ap, f_steps_from, bodyM_ap]
  simp [m_steps_from, dD]
  have e0 : evS l s ⟨0, [(s, 0)], [s], none⟩ = [some (.dat (.tuple (l.map pD))), some (.dat (.int s)), some (.own (.dict [(.int s, .int 0)])), some (.dat (.list [.int s])), some (.dat (.int 0)), none, none, none] := rfl
  rw [e0] at e
  rw [e]
  simp [evS]
end K09

/-! Q4: houses. -/
namespace K09
open PySem L2 DL
def Strong (n : Int) (l : List Pr) : Prop := ∀ a b, inH n a = true → inH n b = true → Rch l a b
theorem mem_trn {l : List Pr} {p : Pr} : p ∈ trn l ↔ swp p ∈ l := by
  unfold trn
  rw [mem_srtP, List.mem_map]
  constructor
  · rintro ⟨q, hq, rfl⟩
    exact hq
  · intro h
    exact ⟨swp p, h, rfl⟩
theorem trn_len (l : List Pr) : (trn l).length = l.length := by
  unfold trn srtP
  rw [(List.mergeSort_perm _ _).length_eq, List.length_map]
theorem rch_trn {l : List Pr} {a b : Int} : Rch (trn l) a b ↔ Rch l b a := by
  constructor
  · rintro ⟨k, h⟩
    exact Rch.back (fun p hp => mem_trn.mp hp) k b h
  · rintro ⟨k, h⟩
    exact Rch.back (fun p hp => mem_trn.mpr (by rw [show swp (swp p) = p from rfl]; exact hp)) k a h
theorem lenDD_st (st : St) : lenDD [.dict (stL st)] = some (.int st.length) := by
  have h1 : isT (stL st) = false := by
    cases st with
    | nil => rfl
    | cons q st => rfl
  have h2 : scrOnly (.dict (stL st)) = false := by
    cases st with
    | nil => rfl
    | cons q st => cases st <;> rfl
  show (if isT (stL st) = true ∨ scrOnly (.dict (stL st)) = true then none else some (PyData.int (stL st).length)) = _
  rw [if_neg (by rw [h1, h2]; simp)]
  unfold stL
  rw [List.length_map]
theorem fin_full {n : Int} {l : List Pr} {s : Int} {st : St} (hn : 0 ≤ n) (hs : inH n s = true) (hl : ∀ p ∈ l, inH n p.2 = true) (f : Fin l s st) : ((st.length : Int) = n) ↔ ∀ x, inH n x = true → Rch l s x := by
  have h1 := len_full hn f.nd fun x hx => by
    obtain ⟨k, h⟩ := (f.mem x).mp hx
    exact Rk.inH hs hl k x h
  rw [List.length_map] at h1
  rw [h1]
  constructor
  · intro h x hx; exact (f.mem x).mp (h x hx)
  · intro h x hx; exact (f.mem x).mpr (h x hx)
theorem okDoor_iff {n : Int} {p : Pr} : okDoor n p = true ↔ inH n p.1 = true ∧ inH n p.2 = true ∧ p.1 ≠ p.2 := by
  unfold okDoor
  simp [and_assoc]
theorem q_are_joined (n : Int) (l : List Pr) (h1 : 1 ≤ n) (hn : n ≤ 10) (hl : ∀ p ∈ l, okDoor n p = true) (hlen : l.length < 64) : ∃ b, run f_are_joined [.int n, dD l] = .ok (.bool b) ∧ (b = true ↔ Strong n l) := by
  have h0 : inH n 0 = true := inH_iff.mpr ⟨by omega, by omega⟩
  have hl1 : ∀ p ∈ l, inH n p.2 = true := fun p hp => (okDoor_iff.mp (hl p hp)).2.1
  have hl2 : ∀ p ∈ trn l, inH n p.2 = true := fun p hp => (okDoor_iff.mp (hl _ (mem_trn.mp hp))).1
  obtain ⟨st, f1, g1, e1⟩ := q_steps n l 0 hn h0 hl1 hlen
  obtain ⟨st', f2, g2, e2⟩ := q_steps n (trn l) 0 hn h0 hl2 (by rw [trn_len]; exact hlen)
  have i1 := fin_full (by omega) h0 hl1 f1
  have i2 := fin_full (by omega) h0 hl2 f2
  refine ⟨((st.length : Int) == n) && ((st'.length : Int) == n), ?_, ?_⟩
  · rw [run_ap, f_are_joined, bodyM_ap]
    unfold dD at e1 e2 ⊢
    have e3 := q_turned_doors l (by omega)
    unfold dD at e3
    by_cases w : (st.length : Int) = n <;> simp [m_are_joined, e1, e2, e3, lenDD_st, w]
  · rw [Bool.and_eq_true, beq_iff_eq, beq_iff_eq, i1, i2]
    constructor
    · rintro ⟨z1, z2⟩ a b ha hb
      exact (rch_trn.mp (z2 a ha)).tr (z1 b hb)
    · intro z
      exact ⟨fun x hx => z 0 x h0 hx, fun x hx => rch_trn.mpr (z x 0 hx h0)⟩
theorem q_house_fault (n : Int) (l : List Pr) (h1 : 1 ≤ n) (hn : n ≤ 10) (ha : Asc (l.map r2)) (hlen : l.length < 64) :
    ∃ b, run f_house_fault [hD n l] = .ok (if b = true then .none else .str "doors") ∧ (b = true ↔ l.all (okDoor n) = true ∧ Strong n l) := by
  have e1 := q_are_doors n l ha (by omega)
  unfold dD at e1
  rw [run_ap, f_house_fault, bodyM_ap]
  unfold hD dD
  cases w : l.all (okDoor n) with
  | false =>
    refine ⟨false, ?_, by simp⟩
    simp [m_house_fault, q_is_pair, q_is_number, h1, hn, e1, w]
  | true =>
    obtain ⟨b, e2, i⟩ := q_are_joined n l h1 hn (List.all_eq_true.mp w) hlen
    unfold dD at e2
    refine ⟨b, ?_, by rw [i]; simp⟩
    cases b <;> simp [m_house_fault, q_is_pair, q_is_number, h1, hn, e1, w, e2]
/-- a house -/
structure House (n : Int) (l : List Pr) : Prop where
  lo : 1 ≤ n
  hi : n ≤ 10
  asc : Asc (l.map r2)
  ok : ∀ p ∈ l, okDoor n p = true
  str : Strong n l
  len : l.length < 64
theorem House.fault {n : Int} {l : List Pr} (h : House n l) : run f_house_fault [hD n l] = .ok .none := by
  obtain ⟨b, e, i⟩ := q_house_fault n l h.lo h.hi h.asc h.len
  rw [i.mpr ⟨List.all_eq_true.mpr h.ok, h.str⟩] at e
  exact e
theorem House.check {n : Int} {l : List Pr} (h : House n l) : run f_check_house [hD n l] = .ok .none := by
  have e := h.fault
  rw [run_ap, f_check_house, bodyM_ap]
  simp [m_check_house, e]
theorem pD_inj {p q : Pr} (h : r2 p = r2 q) : p = q := by
  simp only [r2, List.cons.injEq, and_true] at h
  exact Prod.ext h.1 h.2
theorem map_r2_inj : ∀ {a b : List Pr}, a.map r2 = b.map r2 → a = b
  | [], [], _ => rfl
  | [], _ :: _, h => by cases h
  | _ :: _, [], h => by cases h
  | x :: a, y :: b, h => by
    simp only [List.map_cons, List.cons.injEq] at h
    exact List.cons_eq_cons.mpr ⟨pD_inj h.1, map_r2_inj h.2⟩
theorem shp_hD (n : Int) (l : List Pr) : Shp 3 (hD n l) := shp_tup fun d hd => by
  rcases List.mem_cons.mp hd with rfl | hd
  · exact shp_int 2 n
  · rw [List.mem_singleton] at hd
    subst hd
    rw [dD_rows]
    exact shp_rows _
theorem eqv_hD (n m : Int) (a b : List Pr) : PyData.eqv (hD n a) (hD m b) = (n == m && decide (a = b)) := by
  unfold hD
  rw [dD_rows, dD_rows]
  simp only [PyData.eqv, PyData.eqvAll, eqv_rows, Bool.and_true]
  congr 1
  rw [decide_eq_decide]
  exact ⟨map_r2_inj, fun h => by rw [h]⟩
end K09

/-! Q5: the draws. -/
namespace K09
open PySem L2 DL
structure RS where
  i : Int
  s : Int
  r : Int
def rw (ns : List Int) (a : RS) : D := .list [scrD ns, .int a.i, .int a.s, .int a.r]
@[simp] theorem setL_1 (a b c d x : D) : setL (.list [a, b, c, d]) (.int 1) x = some (.list [a, x, c, d]) := setL_nat [a, b, c, d] 1 x (by simp)
@[simp] theorem setL_2 (a b c d x : D) : setL (.list [a, b, c, d]) (.int 2) x = some (.list [a, b, x, d]) := setL_nat [a, b, c, d] 2 x (by simp)
@[simp] theorem setL_3 (a b c d x : D) : setL (.list [a, b, c, d]) (.int 3) x = some (.list [a, b, c, x]) := setL_nat [a, b, c, d] 3 x (by simp)
theorem mod_rng {a b : Int} (h : 0 < b) : inH b (a % b) = true := inH_iff.mpr ⟨Int.emod_nonneg a (by omega), Int.emod_lt_of_pos a h⟩
@[simp] theorem mul_48271 (i : Int) : mulD (.int i) (.int 48271) = some (.int (i * 48271)) := mulD_int i 48271 (.inr (by decide))
@[simp] theorem mod_big (i : Int) : modD (.int i) (.int 2147483647) = some (.int (i % 2147483647)) := modD_int i _ (by decide)
@[simp] theorem fdiv_7 (i : Int) : fdivD (.int i) (.int 7) = some (.int (i / 7)) := fdivD_int i 7 (by decide) (by decide)
@[simp] theorem pow_18 : powD (.int 10) (.int 18) = some (.int 1000000000000000000) := rfl
theorem x_taken (ns : List Int) (a : RS) (many : Int) (ha : 0 ≤ a.i) (h1 : 0 < many) (h2 : many < 1000000000) :
    ∃ (v : Int) (a' : RS), runR f__law_taken (rw ns a) [.int many] = .ok (.int v) (rw ns a') ∧ inH many v = true ∧ 0 ≤ a'.i := by
  obtain ⟨i, s, r⟩ := a
  simp only at ha
  rw [runR_ap, f__law_taken, bodyM_ap]
  unfold rw
  by_cases hr : 0 < r
  · refine ⟨r % many, ⟨i, s, r / many⟩, ?_, mod_rng h1, ha⟩
    simp [m__law_taken, hr, modD_int _ _ h1, fdivD_int _ _ h1 h2]
  · by_cases hi : (ns.length : Int) < i + 1
    · refine ⟨((s * 48271 + 11) % 2147483647) / 7 % many, ⟨i + 1, (s * 48271 + 11) % 2147483647, r⟩, ?_, mod_rng h1, by show 0 ≤ i + 1; omega⟩
      simp [m__law_taken, hr, hi, modD_int _ _ h1]
    · have hj : i.toNat < ns.length := by omega
      have e : atI (ns.map PyData.int) i = some (.int ns[i.toNat]) := by
        have q := atI_nat (ns.map PyData.int) i.toNat (by simpa using hj)
        rw [show ((i.toNat : Nat) : Int) = i by omega] at q
        rw [q]
        simp
      by_cases hc : (1000000000000000000 : Int) ≤ ns[i.toNat]
      · refine ⟨ns[i.toNat] % many, ⟨i + 1, (s * 48271 + ns[i.toNat] + 11) % 2147483647, ns[i.toNat] / many⟩, ?_, mod_rng h1, by show 0 ≤ i + 1; omega⟩
        simp [m__law_taken, hr, hi, e, hc, modD_int _ _ h1, fdivD_int _ _ h1 h2]
      · refine ⟨ns[i.toNat] % many, ⟨i + 1, (s * 48271 + ns[i.toNat] + 11) % 2147483647, r⟩, ?_, mod_rng h1, by show 0 ≤ i + 1; omega⟩
        simp [m__law_taken, hr, hi, e, hc, modD_int _ _ h1]
theorem x_pick (ns : List Int) (a : RS) (ds : List D) (ha : 0 ≤ a.i) (h0 : ds ≠ []) (h2 : ds.length < 1000) :
    ∃ (d : D) (a' : RS), runR f__law_pick (rw ns a) [.list ds] = .ok d (rw ns a') ∧ d ∈ ds ∧ 0 ≤ a'.i := by
  have hp : 0 < ds.length := List.length_pos_iff.mpr h0
  obtain ⟨v, a', e, hv, ha'⟩ := x_taken ns a ds.length ha (by omega) (by omega)
  obtain ⟨v0, v1⟩ := inH_iff.mp hv
  obtain ⟨j, hj, rfl⟩ : ∃ j : Nat, j < ds.length ∧ v = (j : Int) := ⟨v.toNat, by omega, by omega⟩
  have e2 := atI_nat ds j hj
  refine ⟨ds[j], a', ?_, List.getElem_mem hj, ha'⟩
  rw [runR_ap, f__law_pick, bodyM_ap]
  simp [m__law_pick, e, e2]
/-! ### turns -/
theorem rgA_ok (n : Int) (h1 : -100000 ≤ n) (h2 : n ≤ 100000) : rgA [.int n] = some (0, n) := if_pos ⟨h1, h2⟩
theorem rgD_rng (n : Int) : rgD 0 n = ei (rng n) := by
  unfold rgD ei rng
  rw [List.map_map]
  simp
structure TS' where
  a : RS
  f : List Int
  l : List Int
theorem map_erase {α β : Type} (f : α → β) : ∀ (l : List α) (j : Nat), (l.map f).eraseIdx j = (l.eraseIdx j).map f
  | [], _ => rfl
  | _ :: _, 0 => rfl
  | x :: l, j + 1 => by simp [map_erase f l j]
theorem perm_erase {α : Type} : ∀ (l : List α) (j : Nat) (h : j < l.length), (l[j] :: l.eraseIdx j).Perm l
  | x :: l, 0, _ => List.Perm.refl _
  | x :: l, j + 1, h => by
    have hj : j < l.length := by simpa using h
    have ih := perm_erase l j hj
    simp only [List.getElem_cons_succ, List.eraseIdx_cons_succ]
    exact (List.Perm.swap x (l[j]'hj) _).trans (ih.cons x)
def evT (ns : List Int) (n : Int) (t : TS') : List (Option Sl) := [some (.bor (rw ns t.a)), some (.dat (.int n)), some (.dat (.tuple (ei t.f))), some (.own (.list (ei t.l)))]
theorem add_tup (a b : List D) (h : a.length + b.length ≤ 1000) : addD (.tuple a) (.tuple b) = some (.tuple (a ++ b)) := if_pos (by show _ ≤ 100000; omega)
theorem add_list (a b : List D) (h : a.length + b.length ≤ 1000) : addD (.list a) (.list b) = some (.list (a ++ b)) := if_pos (by show _ ≤ 100000; omega)
theorem shp_ei (l : List Int) : Shp 1 (.list (ei l)) := shp_list fun d hd => by
  obtain ⟨i, _, rfl⟩ := List.mem_map.mp hd
  exact shp_int 0 i
theorem ne_nil_ei (l : List Int) : neD (.list (ei l)) (.list []) = some (.bool (!decide (l = []))) := by
  show neD (.list (ei l)) (.list (ei [])) = _
  rw [neD_ok (shp_ei l) (shp_ei []) (by omega)]
  cases l <;> simp [ei, PyData.eqv, PyData.eqvAll]
theorem popAt_ei (l : List Int) (v : Nat) (h : v < l.length) (hl : l.length ≤ 1000) : popAtF (.list (ei l)) [.int (v : Int)] = some (.int l[v], .list (ei (l.eraseIdx v))) := by
  show (if (ei l).length ≤ LIM then (ixN (ei l).length (v : Int)).bind fun j => ((ei l)[j]?).map fun x => (x, PyData.list ((ei l).eraseIdx j)) else none) = _
  have e : (ei l).length = l.length := by unfold ei; rw [List.length_map]
  rw [e, if_pos (by show _ ≤ 100000; omega), ixN_nat h]
  unfold ei
  simp [h, map_erase]
theorem x_turn (ns : List Int) (a : RS) (n : Int) (ha : 0 ≤ a.i) (h1 : 0 ≤ n) (h2 : n ≤ 10) :
    ∃ (t : List Int) (a' : RS), runR f__law_turn (rw ns a) [.int n] = .ok (.tuple (ei t)) (rw ns a') ∧ t.Perm (rng n) ∧ 0 ≤ a'.i := by
  obtain ⟨t, ⟨hp, hi⟩, hz, e⟩ := while_ex (S := TS') (mt := t__law_turn_1) (m := b__law_turn_1) (evT ns n) (fun t => (t.f ++ t.l).Perm (rng n) ∧ 0 ≤ t.a.i) (fun t => t.l = []) (fun t => t.l.length) 64 ⟨a, [], rng n⟩ ⟨List.Perm.refl _, ha⟩ (by show (rng n).length < 64; rw [rng_len]; omega) (by
    rintro ⟨a, f, l⟩ ⟨hp, hi⟩
    simp only at hp hi
    have hlen := hp.length_eq
    rw [List.length_append, rng_len] at hlen
    by_cases w : l = []
    · refine .inl ⟨?_, w⟩
      simp [t__law_turn_1, evT, ne_nil_ei, w]
    · refine .inr ⟨?_, ?_⟩
      · simp [t__law_turn_1, evT, ne_nil_ei, w]
      · have hp0 : 0 < l.length := List.length_pos_iff.mpr w
        obtain ⟨v, a', e, hv, ha'⟩ := x_taken ns a l.length hi (by omega) (by omega)
        obtain ⟨v0, v1⟩ := inH_iff.mp hv
        obtain ⟨j, hj, rfl⟩ : ∃ j : Nat, j < l.length ∧ v = (j : Int) := ⟨v.toNat, by omega, by omega⟩
        have e2 := popAt_ei l j hj (by omega)
        have el : (ei l).length = l.length := by unfold ei; rw [List.length_map]
        have ef : (ei f).length = f.length := by unfold ei; rw [List.length_map]
        refine ⟨⟨a', f ++ [l[j]], l.eraseIdx j⟩, ?_, ⟨?_, ha'⟩, ?_⟩
        · simp [b__law_turn_1, evT, isL, el, e, e2, add_tup (ei f) [.int l[j]] (by rw [ef]; simp only [List.length_singleton]; omega)]
          simp [ei]
        · refine List.Perm.trans ?_ hp
          rw [List.append_assoc]
          refine List.Perm.append_left f ?_
          simp only [List.singleton_append]
          exact perm_erase l j hj
        · simp only
          rw [List.length_eraseIdx_of_lt hj]
          omega)
  obtain ⟨a1, f1, l1⟩ := t
  simp only at hp hi hz
  subst hz
  rw [List.append_nil] at hp
  refine ⟨f1, a1, ?_, hp, hi⟩
  rw [runR_ap, f__law_turn, bodyM_ap]
  simp [m__law_turn, rgA_ok n (by omega) (by omega), rgD_rng]
  have e0 : evT ns n ⟨a, [], rng n⟩ = [some (.bor (rw ns a)), some (.dat (.int n)), some (.dat (.tuple [])), some (.own (.list (ei (rng n))))] := rfl
  rw [e0] at e
  rw [e]
  simp [evT]
end K09

/-! Q6: drawn houses. -/
namespace K09
open PySem L2 DL
theorem rows_pairs : ∀ (R : List Row), (∀ r ∈ R, ∃ p, r = r2 p) → ∃ l : List Pr, l.map r2 = R
  | [], _ => ⟨[], rfl⟩
  | r :: R, h => by
    obtain ⟨p, rfl⟩ := h r List.mem_cons_self
    obtain ⟨l, e⟩ := rows_pairs R fun s hs => h s (List.mem_cons_of_mem _ hs)
    exact ⟨p :: l, by rw [List.map_cons, e]⟩
theorem mem_r2 {l : List Pr} {p : Pr} : r2 p ∈ l.map r2 ↔ p ∈ l := by
  rw [List.mem_map]
  constructor
  · rintro ⟨q, hq, e⟩
    rw [← pD_inj e]; exact hq
  · intro h; exact ⟨p, h, rfl⟩
theorem nodup_r2 {l : List Pr} : (l.map r2).Nodup ↔ l.Nodup := by
  constructor
  · intro h
    exact (List.pairwise_map.mp h).imp fun {a b} z e => z (by rw [e])
  · intro h
    exact List.Pairwise.map _ (fun a b z e => z (pD_inj e)) h
theorem map_pD (l : List Pr) : (l.map r2).map rowD = l.map pD := by rw [List.map_map]; rfl
theorem sortSet_pairs {f : List Pr} (h : ∀ p ∈ f, inH 64 p.1 = true ∧ inH 64 p.2 = true) (hl : f.length < 64) : ∃ l : List Pr, sortSetT 2 (.list (f.map pD)) = some (l.map pD) ∧ Asc (l.map r2) ∧ (∀ p, p ∈ l ↔ p ∈ f) ∧ l.length ≤ f.length := by
  have hr : ∀ r ∈ f.map r2, r.length = 2 ∧ TS.Bd 64 r := fun r hr => by
    obtain ⟨p, hp, rfl⟩ := List.mem_map.mp hr
    obtain ⟨h1, h2⟩ := h p hp
    rw [inH_iff] at h1 h2
    refine ⟨rfl, fun m hm => ?_⟩
    simp only [r2, List.mem_cons, List.not_mem_nil, or_false] at hm
    rcases hm with rfl | rfl <;> omega
  have e := sortSet_rows (by decide) hr (by rw [List.length_map]; exact hl)
  have asc := setR_asc hr
  obtain ⟨l, hm⟩ := rows_pairs (setR (f.map r2)) fun r hr' => by
    obtain ⟨p, _, rfl⟩ := List.mem_map.mp (mem_setR.mp hr')
    exact ⟨p, rfl⟩
  rw [map_pD, ← hm, map_pD] at e
  rw [← hm] at asc
  have mem : ∀ p, p ∈ l ↔ p ∈ f := fun p => by rw [← mem_r2 (l := l), hm, mem_setR, mem_r2]
  exact ⟨l, e, asc, mem, (nodup_r2.mp asc.nodup).length_le_of_subset fun p hp => (mem p).mp hp⟩
/-! ### circles -/
structure CS where
  f : List Pr
  h : Option Sl
def evC (n : Int) (steps : List Int) (c : CS) : List (Option Sl) := [some (.dat (.int n)), some (.dat (.list (ei steps))), some (.dat (.list (c.f.map pD))), c.h, none]
def isCir (n : Int) (steps : List Int) (p : Pr) : Prop := ∃ h, inH n h = true ∧ ∃ st ∈ steps, st % n ≠ 0 ∧ p = (h, (h + st) % n)
theorem isCir.ok {n : Int} {steps : List Int} {p : Pr} (hn : 0 < n) (h : isCir n steps p) : okDoor n p = true := by
  obtain ⟨x, hx, st, _, hs, rfl⟩ := h
  refine okDoor_iff.mpr ⟨hx, mod_rng hn, ?_⟩
  rw [inH_iff] at hx
  intro e
  have e : x = (x + st) % n := e
  have h1 : (x + st) % n = x % n := by rw [← e]; exact (Int.emod_eq_of_lt hx.1 hx.2).symm
  have h2 := Int.emod_emod_of_dvd
  have : (x + st - x) % n = 0 := Int.emod_eq_emod_iff_emod_sub_eq_zero.mp h1
  rw [show x + st - x = st by omega] at this
  exact hs this
theorem q_circle (n : Int) (steps : List Int) (h2 : 2 ≤ n) (h10 : n ≤ 10) (hl : n.toNat * steps.length < 64) :
    ∃ l, run f__law_circle [.int n, .list (ei steps)] = .ok (hD n l) ∧ Asc (l.map r2) ∧ (∀ p, p ∈ l ↔ isCir n steps p) ∧ l.length ≤ n.toNat * steps.length := by
  have len_rng : (ei (rng n)).length = n.toNat := by unfold ei; rw [List.length_map, rng_len]
  obtain ⟨c, ⟨h1, h3, h4⟩, e⟩ := for_ex (S := CS) (pat := patNm 3) (m := b__law_circle_1) (evC n steps)
    (fun j c => (∀ p, p ∈ c.f ↔ ∃ i : Nat, i < j ∧ ∃ st ∈ steps, st % n ≠ 0 ∧ p = ((i : Int), ((i : Int) + st) % n)) ∧ c.f.length ≤ j * steps.length ∧ DatO c.h) (ei (rng n)) 0 ⟨[], none⟩ ⟨fun p => by simp, by simp, .inl rfl⟩ (by
    rintro j d ⟨f, h⟩ hj ⟨i1, i2, i3⟩
    simp only at i1 i2 i3
    rw [Nat.zero_add] at i1 i2 ⊢
    obtain ⟨hjl, hje⟩ := List.getElem?_eq_some_iff.mp hj
    rw [len_rng] at hjl
    have ed : d = .int (j : Int) := by
      rw [← hje]
      simp [ei, rng]
    subst ed
    refine ⟨_, ⟨f ++ (steps.filter fun st => !(st % n == 0)).map fun st => ((j : Int), ((j : Int) + st) % n), some (.dat (.int j))⟩, by simp only [evC, patNm_ap, List.getElem?_cons_succ, List.getElem?_cons_zero, put_dat i3]; rfl, ?_, ?_, ?_, .inr ⟨_, rfl⟩⟩
    · simp [b__law_circle_1, evC]
      rw [lc_pure (fun i : Int => .int i) (fun st => !(st % n == 0)) (fun st => pD ((j : Int), ((j : Int) + st) % n)) steps]
      · have hf : (f.map pD).length + ((steps.filter fun st => !(st % n == 0)).map fun st => pD ((j : Int), ((j : Int) + st) % n)).length ≤ 1000 := by
          have := List.length_filter_le (fun st => !(st % n == 0)) steps
          rw [List.length_map, List.length_map]
          have q1 : j * steps.length ≤ n.toNat * steps.length := Nat.mul_le_mul_right _ (by omega)
          have q2 : steps.length ≤ n.toNat * steps.length := Nat.le_mul_of_pos_left _ (by omega)
          omega
        simp only [then_ok, bind_ap, pure_ap, now_val, add_list _ _ hf, opt_some]
        simp [pD_eq]
      · simp [ei]
      · rfl
      · rfl
      · intro st _
        refine ⟨_, rfl, ?_, fun _ => ?_, rfl⟩
        · simp [modD_int _ _ (show 0 < n by omega)]
        · simp [modD_int _ _ (show 0 < n by omega), pD_eq]
      · have q2 : steps.length ≤ n.toNat * steps.length := Nat.le_mul_of_pos_left _ (by omega)
        show _ ≤ 100000
        omega
    · intro p
      simp only
      rw [List.mem_append, i1 p, List.mem_map]
      constructor
      · rintro (⟨i, hi, w⟩ | ⟨st, hst, rfl⟩)
        · exact ⟨i, by omega, w⟩
        · rw [List.mem_filter] at hst
          exact ⟨j, by omega, st, hst.1, by simpa using hst.2, rfl⟩
      · rintro ⟨i, hi, st, hst, hz, rfl⟩
        by_cases w : i = j
        · subst w
          exact .inr ⟨st, List.mem_filter.mpr ⟨hst, by simpa using hz⟩, rfl⟩
        · exact .inl ⟨i, by omega, st, hst, hz, rfl⟩
    · simp only
      rw [List.length_append, List.length_map]
      have := List.length_filter_le (fun st => !(st % n == 0)) steps
      rw [Nat.add_mul, Nat.one_mul]
      omega)
  rw [Nat.zero_add, len_rng] at h1 h3
  have hcir : ∀ p, p ∈ c.f ↔ isCir n steps p := fun p => by
    rw [h1 p]
    constructor
    · rintro ⟨i, hi, st, a, b, rfl⟩
      exact ⟨i, inH_iff.mpr ⟨by omega, by omega⟩, st, a, b, rfl⟩
    · rintro ⟨h, hh, st, a, b, rfl⟩
      rw [inH_iff] at hh
      refine ⟨h.toNat, by omega, st, a, b, ?_⟩
      rw [show ((h.toNat : Nat) : Int) = h by omega]
  have big : ∀ p ∈ c.f, inH 64 p.1 = true ∧ inH 64 p.2 = true := fun p hp => by
    have := okDoor_iff.mp (isCir.ok (by omega) ((hcir p).mp hp))
    rw [inH_iff, inH_iff] at this
    rw [inH_iff, inH_iff]
    omega
  obtain ⟨l, e2, asc, mem, len⟩ := sortSet_pairs big (by omega)
  refine ⟨l, ?_, asc, fun p => by rw [mem, hcir], by omega⟩
  rw [run_ap, f__law_circle, bodyM_ap]
  simp [m__law_circle]
  have er : rgIt1 [.int n] = some (ei (rng n)) := by
    rw [rgIt1_ok n (by omega) (by omega)]
    unfold ei rng
    rw [List.map_map]
    rfl
  simp only [sFor, bind_ap, dRg1_ap, dCons_ap, var_ap, List.getElem?_cons_zero, varS_dat, then_ok, pure_ap, nows_cons, nows_nil, now_val, er, opt_some]
  have e0 : evC n steps ⟨[], none⟩ = [some (.dat (.int n)), some (.dat (.list (ei steps))), some (.dat (.list [])), none, none] := rfl
  rw [e0] at e
  rw [e]
  simp [evC, e2, hD, dD]
end K09

/-! Q7: drawn houses, on. -/
namespace K09
open PySem L2 DL
theorem Rch.sub {l l' : List Pr} (h : ∀ p ∈ l, p ∈ l') {a : Int} : ∀ (k : Nat) (b : Int), Rk l a k b → Rch l' a b
  | 0, b, r => by
    have : b = a := r
    subst this
    exact Rch.refl _ _
  | k + 1, b, r => by
    rcases r with r | ⟨p, hp, r, rfl⟩
    · exact Rch.sub h k b r
    · exact (Rch.sub h k p.1 r).step (h p hp)
theorem Strong.sub {n : Int} {l l' : List Pr} (h : ∀ p ∈ l, p ∈ l') (s : Strong n l) : Strong n l' := fun a b ha hb => by
  obtain ⟨k, r⟩ := s a b ha hb
  exact Rch.sub h k b r
/-- a circle is joined -/
theorem strong_circle {n : Int} {steps : List Int} {l : List Pr} (hn : 2 ≤ n) (h1 : (1 : Int) ∈ steps) (h : ∀ p, isCir n steps p → p ∈ l) : Strong n l := by
  have one : ∀ x, inH n x = true → Rch l x ((x + 1) % n) := fun x hx =>
    (Rch.refl l x).step (p := (x, (x + 1) % n)) (h _ ⟨x, hx, 1, h1, by rw [Int.emod_eq_of_lt (by omega) (by omega)]; omega, rfl⟩)
  have many : ∀ (k : Nat) (x : Int), inH n x = true → Rch l x ((x + k) % n) := fun k => by
    induction k with
    | zero =>
      intro x hx
      have hx' := inH_iff.mp hx
      rw [show (x + ((0 : Nat) : Int)) = x by omega, Int.emod_eq_of_lt hx'.1 hx'.2]
      exact Rch.refl l x
    | succ k ih =>
      intro x hx
      have q := one ((x + k) % n) (mod_rng (by omega))
      rw [Int.emod_add_emod] at q
      rw [show x + ((k + 1 : Nat) : Int) = x + k + 1 by omega]
      exact (ih x hx).tr q
  intro a b ha hb
  have ha' := inH_iff.mp ha
  have hb' := inH_iff.mp hb
  have q := many (b - a + n).toNat a ha
  rw [show a + (((b - a + n).toNat : Nat) : Int) = b + n by omega, Int.add_emod_right, Int.emod_eq_of_lt hb'.1 hb'.2] at q
  exact q
theorem House.sorted {n : Int} {l : List Pr} (lo : 1 ≤ n) (hi : n ≤ 10) (nd : l.Nodup) (ok : ∀ p ∈ l, okDoor n p = true) (str : Strong n l) (len : l.length < 64) : House n (srtP l) := by
  refine ⟨lo, hi, ?_, fun p hp => ok p (mem_srtP.mp hp), str.sub fun p hp => mem_srtP.mpr hp, ?_⟩
  · rw [srtP_rows]
    exact srtR_asc (nodup_r2.mpr nd)
  · unfold srtP
    rw [(List.mergeSort_perm _ _).length_eq]
    exact len
/-! ### moved -/
def tf (t : List Int) (i : Int) : Int := t.getD i.toNat 0
def tm (t : List Int) (p : Pr) : Pr := (tf t p.1, tf t p.2)
theorem at_tf {t : List Int} {n i : Int} (hl : t.length = n.toNat) (hi : inH n i = true) : atI (ei t) i = some (.int (tf t i)) := by
  rw [inH_iff] at hi
  have hj : i.toNat < t.length := by omega
  have e : (ei t).length = t.length := by unfold ei; rw [List.length_map]
  have q := atI_nat (ei t) i.toNat (by omega)
  rw [show ((i.toNat : Nat) : Int) = i by omega] at q
  rw [q]
  simp [ei, tf, List.getD, hj]
theorem q_moved {n : Int} {l : List Pr} {t : List Int} (ht : t.length = n.toNat) (hl : ∀ p ∈ l, inH n p.1 = true ∧ inH n p.2 = true) (len : l.length < 64) : run f__law_moved [hD n l, .tuple (ei t)] = .ok (hD n (srtP (l.map (tm t)))) := by
  rw [run_ap, f__law_moved, bodyM_ap]
  unfold hD dD
  simp [m__law_moved]
  rw [lc_map pD (fun p => pD (tm t p)) l]
  · have e : (l.map fun p => pD (tm t p)) = (l.map (tm t)).map pD := by rw [List.map_map]; rfl
    have e2 := sorted_pairs (l := l.map (tm t)) (by rw [List.length_map]; omega)
    rw [e]
    simp [-List.map_map, e2]
  · simp
  · rfl
  · rfl
  · intro p hp
    obtain ⟨h1, h2⟩ := hl p hp
    exact ⟨_, rfl, by simp [at_tf ht h1, at_tf ht h2, tm, pD_eq], rfl⟩
  · show _ ≤ 100000; omega
theorem House.moved {n : Int} {l : List Pr} {t : List Int} (h : House n l) (ht : t.Perm (rng n)) : run f__law_moved [hD n l, .tuple (ei t)] = .ok (hD n (srtP (l.map (tm t)))) ∧ House n (srtP (l.map (tm t))) := by
  have len : t.length = n.toNat := by rw [ht.length_eq, rng_len]
  have nd : t.Nodup := ht.nodup_iff.mpr (rng_nodup n)
  have hb : ∀ p ∈ l, inH n p.1 = true ∧ inH n p.2 = true := fun p hp => ⟨(okDoor_iff.mp (h.ok p hp)).1, (okDoor_iff.mp (h.ok p hp)).2.1⟩
  have get : ∀ {i : Int}, inH n i = true → ∃ hj : i.toNat < t.length, tf t i = t[i.toNat] := fun {i} hi => by
    have hi := inH_iff.mp hi
    have hj : i.toNat < t.length := by omega
    exact ⟨hj, by simp [tf, List.getD, hj]⟩
  have rg : ∀ {i : Int}, inH n i = true → inH n (tf t i) = true := fun {i} hi => by
    obtain ⟨hj, e⟩ := get hi
    rw [e]
    exact mem_rng.mp (ht.mem_iff.mp (List.getElem_mem hj))
  have inj : ∀ {i j : Int}, inH n i = true → inH n j = true → tf t i = tf t j → i = j := fun {i j} hi hj e => by
    obtain ⟨h1, e1⟩ := get hi
    obtain ⟨h2, e2⟩ := get hj
    rw [e1, e2] at e
    have := (List.getElem_inj nd).mp e
    rw [inH_iff] at hi hj
    omega
  have sur : ∀ {x : Int}, inH n x = true → ∃ i, inH n i = true ∧ tf t i = x := fun {x} hx => by
    obtain ⟨j, hj, e⟩ := List.mem_iff_getElem.mp (ht.mem_iff.mpr (mem_rng.mpr hx))
    have hi : inH n (j : Int) = true := inH_iff.mpr ⟨by omega, by omega⟩
    refine ⟨j, hi, ?_⟩
    obtain ⟨h1, e1⟩ := get hi
    rw [e1, ← e]
    simp
  refine ⟨q_moved len hb h.len, House.sorted h.lo h.hi ?_ ?_ ?_ ?_⟩
  · have nl := nodup_r2.mp h.asc.nodup
    refine List.pairwise_map.mpr (List.Pairwise.imp_of_mem (fun {a b} ha hb' z e => ?_) nl)
    obtain ⟨a1, a2⟩ := hb a ha
    obtain ⟨b1, b2⟩ := hb b hb'
    have e1 : tf t a.1 = tf t b.1 := congrArg Prod.fst e
    have e2 : tf t a.2 = tf t b.2 := congrArg Prod.snd e
    exact z (Prod.ext (inj a1 b1 e1) (inj a2 b2 e2))
  · intro p hp
    obtain ⟨q, hq, rfl⟩ := List.mem_map.mp hp
    obtain ⟨h1, h2⟩ := hb q hq
    exact okDoor_iff.mpr ⟨rg h1, rg h2, fun e => (okDoor_iff.mp (h.ok q hq)).2.2 (inj h1 h2 e)⟩
  · have go : ∀ (k : Nat) (a b : Int), Rk l a k b → Rch (l.map (tm t)) (tf t a) (tf t b) := fun k => by
      induction k with
      | zero =>
        intro a b r
        have : b = a := r
        subst this
        exact Rch.refl _ _
      | succ k ih =>
        intro a b r
        rcases r with r | ⟨p, hp, r, rfl⟩
        · exact ih a b r
        · exact (ih a p.1 r).step (p := tm t p) (List.mem_map.mpr ⟨p, hp, rfl⟩)
    intro a b ha hb'
    obtain ⟨i, hi, rfl⟩ := sur ha
    obtain ⟨j, hj, rfl⟩ := sur hb'
    obtain ⟨k, r⟩ := h.str i j hi hj
    exact go k i j r
  · rw [List.length_map]; exact h.len
end K09

/-! Q8: the known houses, a drawn house. -/
namespace K09
open PySem L2 DL
@[simp] theorem fewD_5 (a b c d e : D) : fewD [a, b, c, d, e] = some [a, b, c, d, e] := fewD_ok' _ (by show 5 ≤ 100000; omega)
@[simp] theorem fewD_6 (a b c d e f : D) : fewD [a, b, c, d, e, f] = some [a, b, c, d, e, f] := fewD_ok' _ (by show 6 ≤ 100000; omega)
@[simp] theorem fewD_7 (a b c d e f g : D) : fewD [a, b, c, d, e, f, g] = some [a, b, c, d, e, f, g] := fewD_ok' _ (by show 7 ≤ 100000; omega)
@[simp] theorem fewD_8 (a b c d e f g h : D) : fewD [a, b, c, d, e, f, g, h] = some [a, b, c, d, e, f, g, h] := fewD_ok' _ (by show 8 ≤ 100000; omega)
@[simp] theorem fewD_9 (a b c d e f g h i : D) : fewD [a, b, c, d, e, f, g, h, i] = some [a, b, c, d, e, f, g, h, i] := fewD_ok' _ (by show 9 ≤ 100000; omega)
@[simp] theorem fewD_10 (a b c d e f g h i j : D) : fewD [a, b, c, d, e, f, g, h, i, j] = some [a, b, c, d, e, f, g, h, i, j] := fewD_ok' _ (by show 10 ≤ 100000; omega)
@[simp] theorem fewD_11 (a b c d e f g h i j k : D) : fewD [a, b, c, d, e, f, g, h, i, j, k] = some [a, b, c, d, e, f, g, h, i, j, k] := fewD_ok' _ (by show 11 ≤ 100000; omega)
@[simp] theorem fewD_12 (a b c d e f g h i j k l : D) : fewD [a, b, c, d, e, f, g, h, i, j, k, l] = some [a, b, c, d, e, f, g, h, i, j, k, l] := fewD_ok' _ (by show 12 ≤ 100000; omega)

def KH (d : D) : Prop := ∃ n l, d = hD n l ∧ House n l
def clo (l : List Pr) : Nat → List Int → List Int
  | 0, S => S
  | k + 1, S => clo l k (S ++ (l.filter fun p => S.contains p.1).map (·.2))
theorem clo_rch {l : List Pr} {a : Int} : ∀ (k : Nat) (S : List Int), (∀ x ∈ S, Rch l a x) → ∀ x ∈ clo l k S, Rch l a x
  | 0, S, h, x, hx => h x hx
  | k + 1, S, h, x, hx => clo_rch k _ (fun y hy => by
      rcases List.mem_append.mp hy with z | z
      · exact h y z
      · obtain ⟨p, hp, rfl⟩ := List.mem_map.mp z
        obtain ⟨h1, h2⟩ := List.mem_filter.mp hp
        exact (h p.1 (by simpa using h2)).step h1) x hx
def strB (n : Int) (l : List Pr) : Bool := (rng n).all fun a => (rng n).all fun b => (clo l 5 [a]).contains b
theorem strong_by {n : Int} {l : List Pr} (h : strB n l = true) : Strong n l := fun a b ha hb => by
  unfold strB at h
  rw [List.all_eq_true] at h
  have h := h a (mem_rng.mpr ha)
  rw [List.all_eq_true] at h
  have h := h b (mem_rng.mpr hb)
  exact clo_rch 5 [a] (fun x hx => by rw [List.mem_singleton] at hx; subst hx; exact Rch.refl _ _) b (by simpa using h)
theorem house_by {n : Int} {l : List Pr} (h1 : 1 ≤ n) (h2 : n ≤ 10) (h3 : Asc (l.map r2)) (h4 : l.all (okDoor n) = true) (h5 : strB n l = true) (h6 : l.length < 64) : House n l :=
  ⟨h1, h2, h3, List.all_eq_true.mp h4, strong_by h5, h6⟩
theorem k_circle (n : Int) (steps : List Int) (h2 : 2 ≤ n) (h10 : n ≤ 10) (hl : n.toNat * steps.length < 64) (h1 : (1 : Int) ∈ steps) : ∃ d, run f__law_circle [.int n, .list (ei steps)] = .ok d ∧ KH d := by
  obtain ⟨l, e, asc, mem, len⟩ := q_circle n steps h2 h10 hl
  exact ⟨_, e, n, l, rfl, by omega, h10, asc, fun p hp => ((mem p).mp hp).ok (by omega), strong_circle h2 h1 fun p hp => (mem p).mpr hp, by omega⟩
def hLine : List Pr := [(0, 1), (1, 0), (1, 2), (2, 1)]
def hFour : List Pr := [(0, 1), (1, 2), (1, 3), (2, 0), (3, 0)]
def hPri : List Pr := [(0, 1), (1, 2), (2, 0), (3, 4), (4, 5), (5, 3), (0, 3), (1, 4), (2, 5), (3, 0), (4, 1), (5, 2)]
def hOth : List Pr := [(0, 1), (1, 0), (1, 2), (2, 3), (3, 0), (3, 2)]
theorem kh_one : KH (hD 1 []) := ⟨1, [], rfl, house_by (by decide) (by decide) (by decide +kernel) (by decide +kernel) (by decide +kernel) (by decide)⟩
theorem kh_line : KH (hD 3 hLine) := ⟨3, hLine, rfl, house_by (by decide) (by decide) (by decide +kernel) (by decide +kernel) (by decide +kernel) (by decide)⟩
theorem kh_four : KH (hD 4 hFour) := ⟨4, hFour, rfl, house_by (by decide) (by decide) (by decide +kernel) (by decide +kernel) (by decide +kernel) (by decide)⟩
theorem kh_oth : KH (hD 4 hOth) := ⟨4, hOth, rfl, house_by (by decide) (by decide) (by decide +kernel) (by decide +kernel) (by decide +kernel) (by decide)⟩
theorem kh_pri : KH (hD 6 (srtP hPri)) := ⟨6, _, rfl, House.sorted (by decide) (by decide) (by decide +kernel) (List.all_eq_true.mp (show hPri.all (okDoor 6) = true by decide +kernel)) (strong_by (by decide +kernel)) (by decide)⟩
def qK (m : Int) (d : D) : Bool := match d with
  | .tuple (.int n :: _) => decide (n ≤ m)
  | _ => false
theorem q_known (m : Int) (hm : 1 ≤ m) : ∃ ds : List D, run f__law_known [.int m] = .ok (.list ds) ∧ ds ≠ [] ∧ ds.length < 1000 ∧ ∀ d ∈ ds, KH d ∧ qK m d = true := by
  obtain ⟨d0, e0, k0⟩ : ∃ d, run f__law_circle [.int 2, .list [.int 1]] = .ok d ∧ KH d := k_circle 2 [1] (by decide) (by decide) (by decide) (by decide)
  obtain ⟨d1, e1, k1⟩ : ∃ d, run f__law_circle [.int 3, .list [.int 1]] = .ok d ∧ KH d := k_circle 3 [1] (by decide) (by decide) (by decide) (by decide)
  obtain ⟨d2, e2, k2⟩ : ∃ d, run f__law_circle [.int 3, .list [.int 1, .int 2]] = .ok d ∧ KH d := k_circle 3 [1, 2] (by decide) (by decide) (by decide) (by decide)
  obtain ⟨d3, e3, k3⟩ : ∃ d, run f__law_circle [.int 4, .list [.int 1]] = .ok d ∧ KH d := k_circle 4 [1] (by decide) (by decide) (by decide) (by decide)
  obtain ⟨d4, e4, k4⟩ : ∃ d, run f__law_circle [.int 4, .list [.int 1, .int 3]] = .ok d ∧ KH d := k_circle 4 [1, 3] (by decide) (by decide) (by decide) (by decide)
  obtain ⟨d5, e5, k5⟩ : ∃ d, run f__law_circle [.int 4, .list [.int 1, .int 2, .int 3]] = .ok d ∧ KH d := k_circle 4 [1, 2, 3] (by decide) (by decide) (by decide) (by decide)
  obtain ⟨d6, e6, k6⟩ : ∃ d, run f__law_circle [.int 5, .list [.int 1, .int 4]] = .ok d ∧ KH d := k_circle 5 [1, 4] (by decide) (by decide) (by decide) (by decide)
  obtain ⟨d7, e7, k7⟩ : ∃ d, run f__law_circle [.int 4, .list [.int 1, .int 2]] = .ok d ∧ KH d := k_circle 4 [1, 2] (by decide) (by decide) (by decide) (by decide)
  obtain ⟨d8, e8, k8⟩ : ∃ d, run f__law_circle [.int 5, .list [.int 1, .int 2]] = .ok d ∧ KH d := k_circle 5 [1, 2] (by decide) (by decide) (by decide) (by decide)
  obtain ⟨d9, e9, k9⟩ : ∃ d, run f__law_circle [.int 6, .list [.int 1]] = .ok d ∧ KH d := k_circle 6 [1] (by decide) (by decide) (by decide) (by decide)
  obtain ⟨d10, e10, k10⟩ : ∃ d, run f__law_circle [.int 6, .list [.int 1, .int 5]] = .ok d ∧ KH d := k_circle 6 [1, 5] (by decide) (by decide) (by decide) (by decide)
  obtain ⟨d11, e11, k11⟩ : ∃ d, run f__law_circle [.int 6, .list [.int 1, .int 3, .int 5]] = .ok d ∧ KH d := k_circle 6 [1, 3, 5] (by decide) (by decide) (by decide) (by decide)
  have ep : sortedF [.list [.tuple [.int 0, .int 1], .tuple [.int 1, .int 2], .tuple [.int 2, .int 0], .tuple [.int 3, .int 4], .tuple [.int 4, .int 5], .tuple [.int 5, .int 3], .tuple [.int 0, .int 3], .tuple [.int 1, .int 4], .tuple [.int 2, .int 5], .tuple [.int 3, .int 0], .tuple [.int 4, .int 1], .tuple [.int 5, .int 2]]] = some ((srtP hPri).map pD) := sorted_pairs (l := hPri) (by decide)
  have hall : ∀ d ∈ [hD 1 [], d0, d1, d2, d3, d4, d5, d6, d7, d8, d9, d10, d11, hD 3 hLine, hD 4 hFour, hD 6 (srtP hPri), hD 4 hOth], KH d := by
    intro d hd
    simp only [List.mem_cons, List.not_mem_nil, or_false] at hd
    rcases hd with rfl | rfl | rfl | rfl | rfl | rfl | rfl | rfl | rfl | rfl | rfl | rfl | rfl | rfl | rfl | rfl | rfl
    · exact kh_one
    · exact k0
    · exact k1
    · exact k2
    · exact k3
    · exact k4
    · exact k5
    · exact k6
    · exact k7
    · exact k8
    · exact k9
    · exact k10
    · exact k11
    · exact kh_line
    · exact kh_four
    · exact kh_pri
    · exact kh_oth
  refine ⟨[hD 1 [], d0, d1, d2, d3, d4, d5, d6, d7, d8, d9, d10, d11, hD 3 hLine, hD 4 hFour, hD 6 (srtP hPri), hD 4 hOth].filter (qK m), ?_, ?_, ?_, fun d hd => ⟨hall d (List.mem_filter.mp hd).1, (List.mem_filter.mp hd).2⟩⟩
  · rw [run_ap, f__law_known, bodyM_ap]
    simp [m__law_known, e0, e1, e2, e3, e4, e5, e6, e7, e8, e9, e10, e11, ep, add_list]
    rw [lc_pure (fun d : D => d) (qK m) (fun d => d) [hD 1 [], d0, d1, d2, d3, d4, d5, d6, d7, d8, d9, d10, d11, hD 3 hLine, hD 4 hFour, hD 6 (srtP hPri), hD 4 hOth]]
    · simp
    · rfl
    · rfl
    · rfl
    · intro d hd
      obtain ⟨n, l, rfl, h⟩ := hall d hd
      exact ⟨_, rfl, by simp [hD, qK], fun _ => by simp, rfl⟩
    · show 17 ≤ 100000; omega
  · intro e
    have : hD 1 [] ∈ [hD 1 [], d0, d1, d2, d3, d4, d5, d6, d7, d8, d9, d10, d11, hD 3 hLine, hD 4 hFour, hD 6 (srtP hPri), hD 4 hOth].filter (qK m) := List.mem_filter.mpr ⟨List.mem_cons_self, by show decide ((1 : Int) ≤ m) = true; exact decide_eq_true hm⟩
    rw [e] at this
    cases this
  · exact Nat.lt_of_le_of_lt (List.length_filter_le _ _) (by show 17 < 1000; omega)
end K09

/-! Q9: a drawn house. -/
namespace K09
open PySem L2 DL
@[simp] theorem idx_hD0 (n : Int) (l : List Pr) : idxD (hD n l) (.int 0) = some (.int n) := by unfold hD; simp
@[simp] theorem idx_hD1 (n : Int) (l : List Pr) : idxD (hD n l) (.int 1) = some (dD l) := by unfold hD; simp
@[simp] theorem seq_dD (l : List Pr) : seqD (dD l) = some (l.map pD) := rfl
@[simp] theorem list_dD (l : List Pr) : listF [dD l] = some (l.map pD) := rfl
theorem mul_01 (d : D) (b : Bool) : mulD (.list [d]) (.int (if b = true then 1 else 0)) = some (.list (if b = true then [d] else [])) := by
  cases b
  · show (if (0 : Int) ≤ 0 ∧ (0 : Int) ≤ 1000 ∧ [d].length * (0 : Int).toNat ≤ LIM then some (PyData.list (List.replicate (0 : Int).toNat [d]).flatten) else none) = _
    rw [if_pos ⟨by decide, by decide, by show 0 ≤ 100000; omega⟩]
    rfl
  · show (if (0 : Int) ≤ 1 ∧ (1 : Int) ≤ 1000 ∧ [d].length * (1 : Int).toNat ≤ LIM then some (PyData.list (List.replicate (1 : Int).toNat [d]).flatten) else none) = _
    rw [if_pos ⟨by decide, by decide, by show 1 ≤ 100000; omega⟩]
    rfl
structure HS where
  a : RS
  f : List Pr
  t : Option Sl
  d : Option Sl
def evH (m : Int) (ns : List Int) (n : Int) (h : HS) : List (Option Sl) := [some (.bor (rw ns h.a)), some (.dat (.int m)), none, some (.dat (.int n)), some (.dat (.list (h.f.map pD))), h.t, h.d]
theorem x_doors (m : Int) (ns : List Int) (n : Int) (h2 : 2 ≤ n) (h10 : n ≤ 10) (a : RS) (ha : 0 ≤ a.i) (l0 : List Pr) (hl : ∀ p ∈ l0, okDoor n p = true) (v : Int) (hv : 0 ≤ v) (hv2 : v ≤ 10) (len : l0.length ≤ 20) :
    ∃ h' : HS, sForL (patNm 5) b__law_house_1 ((List.range v.toNat).map fun i : Nat => .int (i : Int)) (evH m ns n ⟨a, l0, none, none⟩) = .ok .nx (evH m ns n h') ∧ 0 ≤ h'.a.i ∧ (∀ p ∈ l0, p ∈ h'.f) ∧ (∀ p ∈ h'.f, okDoor n p = true) ∧ h'.f.length ≤ 30 := by
  obtain ⟨h', ⟨i1, i2, i3, i4, i5, i6⟩, e⟩ := for_ex (S := HS) (pat := patNm 5) (m := b__law_house_1) (evH m ns n) (fun j h => 0 ≤ h.a.i ∧ (∀ p ∈ l0, p ∈ h.f) ∧ (∀ p ∈ h.f, okDoor n p = true) ∧ h.f.length ≤ l0.length + j ∧ DatO h.t ∧ DatO h.d) ((List.range v.toNat).map fun i : Nat => .int (i : Int)) 0 ⟨a, l0, none, none⟩ ⟨ha, fun p hp => hp, hl, Nat.le_refl _, .inl rfl, .inl rfl⟩ (by
    rintro j d ⟨a, f, t, dr⟩ hj ⟨i1, i2, i3, i4, i5, i6⟩
    simp only at i1 i2 i3 i4 i5 i6
    obtain ⟨hjl, _⟩ := List.getElem?_eq_some_iff.mp hj
    rw [List.length_map, List.length_range] at hjl
    obtain ⟨x, a1, e1, hx, ha1⟩ := x_taken ns a n i1 (by omega) (by omega)
    obtain ⟨y, a2, e2, hy, ha2⟩ := x_taken ns a1 n ha1 (by omega) (by omega)
    refine ⟨_, ⟨a2, f ++ (if (!(x == y)) = true then [(x, y)] else []), some (.dat d), some (.dat (pD (x, y)))⟩, by simp only [evH, patNm_ap, List.getElem?_cons_succ, List.getElem?_cons_zero, put_dat i5]; rfl, ?_, ha2, ?_, ?_, ?_, .inr ⟨_, rfl⟩, .inr ⟨_, rfl⟩⟩
    · have hf : (f.map pD).length + (if (!(x == y)) = true then [PyData.tuple [.int x, .int y]] else []).length ≤ 1000 := by
        rw [List.length_map]
        split <;> simp <;> omega
      have hm := mul_01 (PyData.tuple [.int x, .int y]) (!(x == y))
      simp only [b__law_house_1, evH, sSeq_ap, sSet_ap, sAsg_ap, bind_ap, dTup_ap, dCons_ap, dCall_ap, var_ap, List.getElem?_cons_succ, List.getElem?_cons_zero, varS_bor, varS_dat, then_ok, pure_ap, callR_2, callR_ap, callS_bor, e1, e2, resR_ok, put_bor, List.set_cons_zero, List.set_cons_succ, keeps_cons, keeps_nil, keep_val, fewD_2, opt_some, onPat_ap, patNm_ap, put_dat i6, pat_ok, sNx_ap, seqK_nx, d2_ap, dLst_ap, dN_ap, now_val, nows_cons, nows_nil, idx_tup, atI_0, atI_1, dC_ap, neD_int, intD_bool, fewD_1, hm, add_list _ _ hf, putS_dat]
      by_cases w : (!(x == y)) = true
      · simp only [w, if_true, List.map_append]; rfl
      · simp only [w, if_false, List.map_append]; rfl
    · intro p hp
      exact List.mem_append.mpr (.inl (i2 p hp))
    · intro p hp
      rcases List.mem_append.mp hp with z | z
      · exact i3 p z
      · split at z
        · rename_i w
          rw [List.mem_singleton] at z
          subst z
          exact okDoor_iff.mpr ⟨hx, hy, by simpa using w⟩
        · cases z
    · simp only
      rw [List.length_append]
      split <;> simp <;> omega)
  rw [List.length_map, List.length_range] at i4
  exact ⟨h', e, i1, i2, i3, by omega⟩
theorem x_house (m : Int) (hm : 2 ≤ m) (hm2 : m ≤ 10) (ns : List Int) (a : RS) (ha : 0 ≤ a.i) : ∃ (n : Int) (l : List Pr) (a' : RS), runR f__law_house (rw ns a) [.int m] = .ok (hD n l) (rw ns a') ∧ House n l ∧ n ≤ m ∧ 0 ≤ a'.i := by
  obtain ⟨v, a1, e1, hv, ha1⟩ := x_taken ns a 3 ha (by omega) (by omega)
  by_cases hw : 0 < v
  · obtain ⟨ds, e2, h0, hlen, hk⟩ := q_known m (by omega)
    obtain ⟨d, a2, e3, hd, ha2⟩ := x_pick ns a1 ds ha1 h0 hlen
    obtain ⟨⟨n, l, rfl, H⟩, hq⟩ := hk d hd
    have hnm : n ≤ m := of_decide_eq_true hq
    obtain ⟨t, a3, e4, ht, ha3⟩ := x_turn ns a2 n ha2 (by have := H.lo; omega) H.hi
    obtain ⟨e5, H5⟩ := H.moved ht
    refine ⟨n, _, a3, ?_, H5, hnm, ha3⟩
    rw [runR_ap, f__law_house, bodyM_ap]
    simp [m__law_house, e1, hw, e2, e3, e4, e5]
  · obtain ⟨v2, a2, e2, hv2, ha2⟩ := x_taken ns a1 (m - 1) ha1 (by omega) (by omega)
    have hv2 := inH_iff.mp hv2
    obtain ⟨l, e3, asc, mem, len⟩ := q_circle (2 + v2) [1] (by omega) (by omega) (by simp; omega)
    obtain ⟨v3, a3, e4, hv3, ha3⟩ := x_taken ns a2 (2 + v2 + 1) ha2 (by omega) (by omega)
    have hv3 := inH_iff.mp hv3
    obtain ⟨⟨a4, f, t, dr⟩, e5, h1, h2, h3, h4⟩ := x_doors m ns (2 + v2) (by omega) (by omega) a3 ha3 l (fun p hp => ((mem p).mp hp).ok (by omega)) v3 hv3.1 (by omega) (by simp at len; omega)
    simp only at h1 h2 h3 h4
    obtain ⟨l2, e6, asc2, mem2, len2⟩ := sortSet_pairs (f := f) (fun p hp => by
      have := okDoor_iff.mp (h3 p hp)
      rw [inH_iff, inH_iff] at this
      rw [inH_iff, inH_iff]
      omega) (by omega)
    have H : House (2 + v2) l2 := ⟨by omega, by omega, asc2, fun p hp => h3 p ((mem2 p).mp hp), strong_circle (by omega) (steps := [1]) (by simp) (fun p hp => (mem2 p).mpr (h2 p ((mem p).mpr hp))), by omega⟩
    obtain ⟨t2, a5, e7, ht, ha5⟩ := x_turn ns a4 (2 + v2) h1 (by omega) (by omega)
    obtain ⟨e8, H8⟩ := H.moved ht
    refine ⟨2 + v2, _, a5, ?_, H8, by omega, ha5⟩
    have e3' : run f__law_circle [.int (2 + v2), .list [.int 1]] = .ok (hD (2 + v2) l) := e3
    have er := rgIt1_ok v3 (by omega) (by omega)
    have e8' : run f__law_moved [.tuple [.int (2 + v2), .tuple (l2.map pD)], .tuple (ei t2)] = .ok (hD (2 + v2) (srtP (l2.map (tm t2)))) := e8
    have e5' : sForL (patNm 5) b__law_house_1 ((List.range v3.toNat).map fun i : Nat => .int (i : Int)) [some (.bor (rw ns a3)), some (.dat (.int m)), none, some (.dat (.int (2 + v2))), some (.dat (.list (l.map pD))), none, none] = .ok .nx [some (.bor (rw ns a4)), some (.dat (.int m)), none, some (.dat (.int (2 + v2))), some (.dat (.list (f.map pD))), t, dr] := e5
    rw [runR_ap, f__law_house, bodyM_ap]
    simp [m__law_house, e1, hw, e2, e3', e4, sFor, er, e5', e6, e7, e8']
end K09

/-! Q10: alike; the law's loops. -/
namespace K09
open PySem L2 DL
@[simp] theorem eqD_bool (a b : Bool) : eqD (.bool a) (.bool b) = some (.bool (a == b)) := by rw [eqD_ok (shp_bool 0 a) (shp_bool 0 b) (by omega)]; rfl
@[simp] theorem neD_bool (a b : Bool) : neD (.bool a) (.bool b) = some (.bool (!(a == b))) := by rw [neD_ok (shp_bool 0 a) (shp_bool 0 b) (by omega)]; rfl
theorem eqD_nil : eqD (.list []) (.list []) = some (.bool true) := by rw [eqD_ok (shp_list (n := 0) (l := []) (by simp)) (shp_list (n := 0) (l := []) (by simp)) (by omega)]; rfl
def Pl : Nat → D → Prop
  | 0, _ => False
  | _ + 1, .int _ => True
  | _ + 1, .bool _ => True
  | k + 1, .list l => l.length ≤ 1000 ∧ ∀ d ∈ l, Pl k d
  | k + 1, .tuple l => l.length ≤ 1000 ∧ ∀ d ∈ l, Pl k d
  | _ + 1, _ => False
theorem q_alike : ∀ (k : Nat) (d : D), Pl k d → run (f__law_alike k) [d, d] = .ok (.bool true)
  | 0, d, h => h.elim
  | k + 1, d, h => by
    have key : ∀ (l : List D) (v : D), (v = .list l ∨ v = .tuple l) → l.length ≤ 1000 → (∀ d ∈ l, Pl k d) →
        dLc (dRg1 (dCons (dN lenD (dCons (dVar 1) (.pure []))) (.pure []))) (patNm 2) (dNotB (dTru (dCall 2 (f__law_alike k) (dCons (d2 idxD (dVar 0) (dVar 2)) (dCons (d2 idxD (dVar 1) (dVar 2)) (.pure [])))))) (dVar 2) [2] [some (.dat v), some (.dat v), none] = .ok (.list []) [some (.dat v), some (.dat v), none] := by
      intro l v hv hl hp
      rw [lc_pure (fun i : Nat => .int (i : Int)) (fun _ => false) (fun i : Nat => .int (i : Int)) (List.range l.length)]
      · simp
      · rcases hv with rfl | rfl <;> (simp; rw [rgIt1_ok _ (by omega) (by omega)]; simp)
      · rfl
      · rfl
      · intro i hi
        rw [List.mem_range] at hi
        have e := atI_nat l i hi
        have ih := q_alike k l[i] (hp _ (List.getElem_mem hi))
        rcases hv with rfl | rfl
        · refine ⟨_, rfl, by simp [e, ih], ?_, rfl⟩
          intro z; cases z
        · refine ⟨_, rfl, by simp [e, ih], ?_, rfl⟩
          intro z; cases z
      · rw [List.length_range]; show _ ≤ 100000; omega
    rw [run_ap]
    show (bodyM 3 (m__law_alike (f__law_alike k)) _).out = _
    rw [bodyM_ap]
    cases d with
    | none => exact h.elim
    | str s => exact h.elim
    | dict l => exact h.elim
    | int i => simp [m__law_alike]
    | bool b => simp [m__law_alike]
    | list l =>
      have e := key l _ (.inl rfl) h.1 h.2
      simp [m__law_alike]
      rw [e]
      simp [eqD_nil]
    | tuple l =>
      have e := key l _ (.inr rfl) h.1 h.2
      simp [m__law_alike]
      rw [e]
      simp [eqD_nil]
/-! ### sets that grow -/
def suc (l : List Pr) (S : List Int) : List Int := (l.filter fun p => decide (p.1 ∈ S)).map (·.2)
theorem mem_suc {l : List Pr} {S : List Int} {x : Int} : x ∈ suc l S ↔ ∃ p ∈ l, p.1 ∈ S ∧ p.2 = x := by
  unfold suc
  rw [List.mem_map]
  constructor
  · rintro ⟨p, hp, e⟩
    obtain ⟨h1, h2⟩ := List.mem_filter.mp hp
    exact ⟨p, h1, by simpa using h2, e⟩
  · rintro ⟨p, h1, h2, e⟩
    exact ⟨p, List.mem_filter.mpr ⟨h1, by simpa using h2⟩, e⟩
theorem asc_nd {l : List Int} (h : l.Pairwise (· < ·)) : l.Nodup := h.imp fun {a b} z e => by omega
theorem suc_len (l : List Pr) (S : List Int) : (suc l S).length ≤ l.length := by
  unfold suc
  rw [List.length_map]
  exact List.length_filter_le _ _
theorem ei_app (a b : List Int) : ei (a ++ b) = ei a ++ ei b := by unfold ei; rw [List.map_append]
theorem ei_len (a : List Int) : (ei a).length = a.length := by unfold ei; rw [List.length_map]
/-- sorted(set(S + [end ..])) of a set whose members are halls -/
structure FS where
  k : Nat
  S : List Int
structure GS where
  h : List Int
  t : List Int
theorem eqv_ei (a b : List Int) : neD (.list (ei a)) (.list (ei b)) = some (.bool (!decide (a = b))) := by
  rw [neD_ok (shp_ei a) (shp_ei b) (by omega)]
  simp only [PyData.eqv]
  unfold ei
  rw [eqvAll_ints]
theorem asc_eq : ∀ {a b : List Int}, a.Pairwise (· < ·) → b.Pairwise (· < ·) → (∀ k, k ∈ a ↔ k ∈ b) → a = b := lt_ext
end K09

/-! M1: rows as maps of halls; symmetries hall by hall. -/
namespace K09
open PySem L2 DL

theorem perm_of_sub {α : Type} [DecidableEq α] : ∀ (l m : List α), l.Nodup → (∀ x ∈ l, x ∈ m) → m.length ≤ l.length → l.Perm m
  | [], m, _, _, h => by
    have : m = [] := List.length_eq_zero_iff.mp (by simpa using h)
    subst this
    exact List.Perm.refl _
  | a :: l, m, nd, hs, h => by
    rw [List.nodup_cons] at nd
    have ha := hs a List.mem_cons_self
    have e := List.perm_cons_erase ha
    refine (List.Perm.cons a (perm_of_sub l (m.erase a) nd.2 (fun x hx => ?_) ?_)).trans e.symm
    · exact (List.mem_erase_of_ne (fun (z : x = a) => nd.1 (z ▸ hx))).mpr (hs x (List.mem_cons_of_mem _ hx))
    · rw [List.length_erase_of_mem ha]
      simp only [List.length_cons] at h
      omega
theorem len_of_sub {α : Type} [DecidableEq α] : ∀ (l m : List α), l.Nodup → (∀ x ∈ l, x ∈ m) → l.length ≤ m.length
  | [], m, _, _ => Nat.zero_le _
  | a :: l, m, nd, hs => by
    rw [List.nodup_cons] at nd
    have ha := hs a List.mem_cons_self
    have := len_of_sub l (m.erase a) nd.2 fun x hx => (List.mem_erase_of_ne (fun (z : x = a) => nd.1 (z ▸ hx))).mpr (hs x (List.mem_cons_of_mem _ hx))
    rw [List.length_erase_of_mem ha] at this
    have := List.length_pos_of_mem ha
    simp only [List.length_cons]
    omega
theorem nodup_map_on {α β : Type} {l : List α} {f : α → β} (nd : l.Nodup) (inj : ∀ x ∈ l, ∀ y ∈ l, f x = f y → x = y) : (l.map f).Nodup :=
  List.pairwise_map.mpr (List.Pairwise.imp_of_mem (fun ha hb h e => h (inj _ ha _ hb e)) nd)
def isP (n : Int) (r : Row) : Prop := r.Perm (rng n)
def still (n : Int) : Row := rng n
/-- the one, behind it the other -/
def bh (a b : Row) : Row := a.map (tf b)
theorem isP.len {n : Int} {r : Row} (h : isP n r) : r.length = n.toNat := by rw [List.Perm.length_eq h, rng_len]
theorem isP.nodup {n : Int} {r : Row} (h : isP n r) : r.Nodup := (List.Perm.nodup_iff h).mpr (rng_nodup n)
theorem isP.mem {n : Int} {r : Row} (h : isP n r) {x : Int} : x ∈ r ↔ inH n x = true := by rw [List.Perm.mem_iff h, mem_rng]
theorem tf_at {r : Row} {i : Nat} (h : i < r.length) : tf r (i : Int) = r[i] := by
  unfold tf
  rw [Int.toNat_natCast, List.getD_eq_getElem?_getD, List.getElem?_eq_getElem h, Option.getD_some]
theorem inH_nat {n i : Int} (h : inH n i = true) : ∃ k : Nat, i = (k : Int) ∧ k < n.toNat := by
  rw [inH_iff] at h
  exact ⟨i.toNat, by omega, by omega⟩
theorem nat_inH {n : Int} {k : Nat} (h : k < n.toNat) : inH n (k : Int) = true := by rw [inH_iff]; omega
theorem isP.img {n : Int} {r : Row} (h : isP n r) {i : Int} (hi : inH n i = true) : inH n (tf r i) = true := by
  obtain ⟨k, rfl, hk⟩ := inH_nat hi
  rw [tf_at (by rw [h.len]; exact hk)]
  exact h.mem.mp (List.getElem_mem _)
theorem rng_get (n : Int) {i : Nat} (h : i < (rng n).length) : (rng n)[i] = (i : Int) := by
  simp [rng]
theorem row_ext {a b : Row} {n : Int} (ha : a.length = n.toNat) (hb : b.length = n.toNat) (h : ∀ i, inH n i = true → tf a i = tf b i) : a = b := by
  apply List.ext_getElem (by omega)
  intro i h1 h2
  have := h (i : Int) (nat_inH (by omega))
  rw [tf_at h1, tf_at h2] at this
  exact this
theorem tf_still {n i : Int} (h : inH n i = true) : tf (still n) i = i := by
  obtain ⟨k, rfl, hk⟩ := inH_nat h
  have hl : k < (rng n).length := by rw [rng_len]; exact hk
  show tf (rng n) (k : Int) = _
  rw [tf_at hl, rng_get n hl]
theorem isP_still (n : Int) : isP n (still n) := List.Perm.refl _
theorem tf_bh {n : Int} {a b : Row} (ha : a.length = n.toNat) {i : Int} (h : inH n i = true) : tf (bh a b) i = tf b (tf a i) := by
  obtain ⟨k, rfl, hk⟩ := inH_nat h
  have h1 : k < (bh a b).length := by unfold bh; rw [List.length_map, ha]; exact hk
  rw [tf_at h1, tf_at (by rw [ha]; exact hk)]
  simp [bh]
theorem bh_len (a b : Row) : (bh a b).length = a.length := by unfold bh; rw [List.length_map]
theorem isP.inj {n : Int} {r : Row} (h : isP n r) {i j : Int} (hi : inH n i = true) (hj : inH n j = true) (e : tf r i = tf r j) : i = j := by
  obtain ⟨k, rfl, hk⟩ := inH_nat hi
  obtain ⟨m, rfl, hm⟩ := inH_nat hj
  rw [tf_at (by rw [h.len]; exact hk), tf_at (by rw [h.len]; exact hm)] at e
  have := (List.getElem_inj h.nodup).mp e
  rw [this]
/-- a row of unlike halls, as many as there are -/
theorem isP_of {n : Int} {r : Row} (hl : r.length = n.toNat) (hi : ∀ x ∈ r, inH n x = true) (nd : r.Nodup) : isP n r := by
  exact perm_of_sub r (rng n) nd (fun x hx => mem_rng.mpr (hi x hx)) (by rw [rng_len, hl]; exact Nat.le_refl _)
theorem isP.mulp {n : Int} {a b : Row} (ha : isP n a) (hb : isP n b) : isP n (bh a b) := by
  refine isP_of (by rw [bh_len, ha.len]) (fun x hx => ?_) ?_
  · obtain ⟨y, hy, rfl⟩ := List.mem_map.mp hx
    exact hb.img (ha.mem.mp hy)
  · exact nodup_map_on ha.nodup fun x hx y hy e => hb.inj (ha.mem.mp hx) (ha.mem.mp hy) e
theorem bh_assoc {n : Int} {a b c : Row} (ha : isP n a) (hb : isP n b) : bh (bh a b) c = bh a (bh b c) := by
  refine row_ext (n := n) (by rw [bh_len, bh_len, ha.len]) (by rw [bh_len, ha.len]) fun i hi => ?_
  rw [tf_bh (by rw [bh_len, ha.len]) hi, tf_bh ha.len hi, tf_bh ha.len hi, tf_bh hb.len (ha.img hi)]
theorem still_bh {n : Int} {a : Row} (ha : isP n a) : bh (still n) a = a :=
  row_ext (n := n) (by rw [bh_len, (isP_still n).len]) ha.len fun i hi => by rw [tf_bh (isP_still n).len hi, tf_still hi]
theorem bh_still {n : Int} {a : Row} (ha : isP n a) : bh a (still n) = a :=
  row_ext (n := n) (by rw [bh_len, ha.len]) ha.len fun i hi => by rw [tf_bh ha.len hi, tf_still (ha.img hi)]
theorem bh_cancel {n : Int} {a b c : Row} (ha : isP n a) (hb : isP n b) (hc : isP n c) (e : bh a c = bh b c) : a = b := by
  refine row_ext ha.len hb.len fun i hi => ?_
  have := congrArg (fun r => tf r i) e
  simp only [tf_bh ha.len hi, tf_bh hb.len hi] at this
  exact hc.inj (ha.img hi) (hb.img hi) this
theorem map_full {α : Type} [DecidableEq α] {l : List α} {f : α → α} (nd : l.Nodup) (hf : ∀ x ∈ l, f x ∈ l) (inj : ∀ x ∈ l, ∀ y ∈ l, f x = f y → x = y) {y : α} (hy : y ∈ l) : ∃ x ∈ l, f x = y := by
  have nd2 : (l.map f).Nodup := nodup_map_on nd inj
  have p : (l.map f).Perm l := perm_of_sub _ _ nd2 (fun x hx => by
    obtain ⟨y, hy, rfl⟩ := List.mem_map.mp hx
    exact hf y hy) (by rw [List.length_map]; exact Nat.le_refl _)
  obtain ⟨x, hx, e⟩ := List.mem_map.mp (p.mem_iff.mpr hy)
  exact ⟨x, hx, e⟩

/-! ### hall by hall -/
/-- the next hall can be led to h -/
def extB (l : List Pr) (r : Row) (h : Int) : Bool := !decide (h ∈ r) && (List.range r.length).all fun i => (decide (((i : Int), (r.length : Int)) ∈ l) == decide ((r.getD i 0, h) ∈ l)) && (decide (((r.length : Int), (i : Int)) ∈ l) == decide ((h, r.getD i 0) ∈ l))
def kids (n : Int) (l : List Pr) (r : Row) : List Row := ((rng n).filter (extB l r)).map fun h => r ++ [h]
def leaves (n : Int) (l : List Pr) : Nat → Row → List Row
  | 0, r => [r]
  | j + 1, r => (kids n l r).flatMap (leaves n l j)
def lev (n : Int) (l : List Pr) : Nat → List Row
  | 0 => [[]]
  | k + 1 => (lev n l k).flatMap (kids n l)
theorem leaves_flat (n : Int) (l : List Pr) : ∀ (j : Nat) (rs : List Row), rs.flatMap (leaves n l (j + 1)) = (rs.flatMap (kids n l)).flatMap (leaves n l j)
  | j, rs => by
    rw [List.flatMap_assoc]
    rfl
theorem lev_leaves (n : Int) (l : List Pr) : ∀ (k j : Nat), (lev n l k).flatMap (leaves n l j) = leaves n l (k + j) []
  | 0, j => by simp [lev]
  | k + 1, j => by
    rw [lev, ← leaves_flat, lev_leaves n l k (j + 1)]
    congr 1
    omega
theorem lev_eq (n : Int) (l : List Pr) (k : Nat) : lev n l k = leaves n l k [] := by
  have h := lev_leaves n l k 0
  have e : (lev n l k).flatMap (leaves n l 0) = lev n l k := by
    show (lev n l k).flatMap (fun r => [r]) = _
    rw [List.flatMap_singleton']
  rw [e] at h
  exact h
/-- a beginning of a symmetry -/
structure Part (n : Int) (l : List Pr) (r : Row) : Prop where
  nd : r.Nodup
  mem : ∀ x ∈ r, inH n x = true
  len : r.length ≤ n.toNat
  keep : ∀ i j : Nat, i < r.length → j < r.length → (((i : Int), (j : Int)) ∈ l ↔ (r.getD i 0, r.getD j 0) ∈ l)
def symL (n : Int) (l : List Pr) : List Row := leaves n l n.toNat []
theorem getD_app_lt {r s : Row} {i : Nat} (h : i < r.length) : (r ++ s).getD i 0 = r.getD i 0 := by
  rw [List.getD_eq_getElem?_getD, List.getD_eq_getElem?_getD, List.getElem?_append_left h]
theorem getD_app_eq (r : Row) (h : Int) : (r ++ [h]).getD r.length 0 = h := by
  rw [List.getD_eq_getElem?_getD, List.getElem?_append_right (Nat.le_refl _)]
  simp
theorem extB_iff {l : List Pr} {r : Row} {h : Int} : extB l r h = true ↔ h ∉ r ∧ ∀ i : Nat, i < r.length → (((i : Int), (r.length : Int)) ∈ l ↔ (r.getD i 0, h) ∈ l) ∧ (((r.length : Int), (i : Int)) ∈ l ↔ (h, r.getD i 0) ∈ l) := by
  unfold extB
  simp only [Bool.and_eq_true, Bool.not_eq_true', decide_eq_false_iff_not, List.all_eq_true, List.mem_range, beq_iff_eq, decide_eq_decide]
theorem part_snoc {n : Int} {l : List Pr} (irr : ∀ p ∈ l, p.1 ≠ p.2) {r : Row} {h : Int} : Part n l (r ++ [h]) ↔ Part n l r ∧ inH n h = true ∧ extB l r h = true := by
  rw [extB_iff]
  constructor
  · intro p
    have hl : (r ++ [h]).length = r.length + 1 := by simp
    have nd := p.nd
    rw [List.nodup_append] at nd
    refine ⟨⟨nd.1, fun x hx => p.mem x (List.mem_append.mpr (.inl hx)), by have := p.len; omega, fun i j hi hj => ?_⟩, p.mem h (by simp), fun z => nd.2.2 h z h (by simp) rfl, fun i hi => ⟨?_, ?_⟩⟩
    · have := p.keep i j (by omega) (by omega)
      rw [getD_app_lt hi, getD_app_lt hj] at this
      exact this
    · have := p.keep i r.length (by omega) (by omega)
      rw [getD_app_lt hi, getD_app_eq] at this
      exact this
    · have := p.keep r.length i (by omega) (by omega)
      rw [getD_app_lt hi, getD_app_eq] at this
      exact this
  · rintro ⟨p, hh, hn, hk⟩
    have hm : ∀ x ∈ r ++ [h], inH n x = true := fun x hx => by
      rcases List.mem_append.mp hx with z | z
      · exact p.mem x z
      · rw [List.mem_singleton] at z; rw [z]; exact hh
    have nd : (r ++ [h]).Nodup := by
      rw [List.nodup_append]
      exact ⟨p.nd, by simp, fun a ha b hb => by simp at hb; subst hb; exact fun z => hn (z ▸ ha)⟩
    refine ⟨nd, hm, ?_, fun i j hi hj => ?_⟩
    · exact len_le nd hm
    · have hl : (r ++ [h]).length = r.length + 1 := by simp
      rw [hl] at hi hj
      by_cases h1 : i < r.length
      · by_cases h2 : j < r.length
        · rw [getD_app_lt h1, getD_app_lt h2]; exact p.keep i j h1 h2
        · have e : j = r.length := by omega
          subst e
          rw [getD_app_lt h1, getD_app_eq]; exact (hk i h1).1
      · have e : i = r.length := by omega
        subst e
        by_cases h2 : j < r.length
        · rw [getD_app_lt h2, getD_app_eq]; exact (hk j h2).2
        · have e : j = r.length := by omega
          subst e
          rw [getD_app_eq]
          exact ⟨fun z => absurd rfl (irr _ z), fun z => absurd rfl (irr _ z)⟩
theorem part_nil (n : Int) (l : List Pr) : Part n l [] := ⟨List.nodup_nil, fun x hx => (by cases hx), Nat.zero_le _, fun i j hi => absurd hi (Nat.not_lt_zero _)⟩
theorem mem_lev {n : Int} {l : List Pr} (irr : ∀ p ∈ l, p.1 ≠ p.2) : ∀ (k : Nat) (r : Row), r ∈ lev n l k ↔ Part n l r ∧ r.length = k
  | 0, r => by
    simp only [lev, List.mem_singleton]
    constructor
    · rintro rfl; exact ⟨part_nil n l, rfl⟩
    · rintro ⟨_, h⟩; exact List.length_eq_zero_iff.mp h
  | k + 1, r => by
    simp only [lev, List.mem_flatMap, kids, List.mem_map, List.mem_filter]
    constructor
    · rintro ⟨s, hs, h, ⟨hh, he⟩, rfl⟩
      obtain ⟨p, e⟩ := (mem_lev irr k s).mp hs
      exact ⟨(part_snoc irr).mpr ⟨p, mem_rng.mp hh, he⟩, by simp [e]⟩
    · rintro ⟨p, e⟩
      have hne : r ≠ [] := fun z => by rw [z] at e; cases e
      have e2 := List.dropLast_concat_getLast hne
      rw [← e2] at p
      obtain ⟨p1, p2, p3⟩ := (part_snoc irr).mp p
      exact ⟨r.dropLast, (mem_lev irr k _).mpr ⟨p1, by rw [List.length_dropLast]; omega⟩, r.getLast hne, ⟨mem_rng.mpr p2, p3⟩, e2⟩
/-! ### they stand ascending -/
theorem rng_asc (n : Int) : (rng n).Pairwise (· < ·) := by
  unfold rng
  rw [List.pairwise_map]
  exact List.pairwise_lt_range.imp fun h => by omega
theorem ltR_snoc : ∀ (r : Row) {h k : Int}, h < k → ltR (r ++ [h]) (r ++ [k])
  | [], h, k, e => ltR_cons.mpr (.inl e)
  | x :: r, h, k, e => ltR_cons.mpr (.inr ⟨rfl, ltR_snoc r e⟩)
theorem ltR_longer : ∀ {a b : Row} (x y : Row), a.length = b.length → ltR a b → ltR (a ++ x) (b ++ y)
  | [], [], x, y, _, h => absurd h (ltR_irrefl [])
  | a :: r, b :: s, x, y, hl, h => by
    rcases ltR_cons.mp h with e | ⟨e, e2⟩
    · exact ltR_cons.mpr (.inl e)
    · exact ltR_cons.mpr (.inr ⟨e, ltR_longer x y (by simpa using hl) e2⟩)
theorem lev_asc {n : Int} {l : List Pr} (irr : ∀ p ∈ l, p.1 ≠ p.2) : ∀ k : Nat, Asc (lev n l k)
  | 0 => List.pairwise_singleton _ _
  | k + 1 => by
    show Asc ((lev n l k).flatMap (kids n l))
    unfold Asc
    rw [List.pairwise_flatMap]
    refine ⟨fun r _ => ?_, ?_⟩
    · unfold kids
      rw [List.pairwise_map]
      exact ((rng_asc n).filter _).imp fun h => ltR_snoc r h
    · refine (lev_asc irr k).imp_of_mem fun {a b} ha hb hab => ?_
      intro x hx y hy
      unfold kids at hx hy
      obtain ⟨h, _, rfl⟩ := List.mem_map.mp hx
      obtain ⟨h', _, rfl⟩ := List.mem_map.mp hy
      exact ltR_longer _ _ (by rw [((mem_lev irr k a).mp ha).2, ((mem_lev irr k b).mp hb).2]) hab
theorem symL_asc {n : Int} {l : List Pr} (irr : ∀ p ∈ l, p.1 ≠ p.2) : Asc (symL n l) := by unfold symL; rw [← lev_eq]; exact lev_asc irr _
/-- a symmetry -/
structure Sym (n : Int) (l : List Pr) (r : Row) : Prop where
  p : isP n r
  keep : ∀ i j, inH n i = true → inH n j = true → ((i, j) ∈ l ↔ (tf r i, tf r j) ∈ l)
theorem mem_symL {n : Int} {l : List Pr} (irr : ∀ p ∈ l, p.1 ≠ p.2) {r : Row} : r ∈ symL n l ↔ Sym n l r := by
  unfold symL
  rw [← lev_eq, mem_lev irr]
  constructor
  · rintro ⟨p, e⟩
    refine ⟨isP_of e p.mem p.nd, fun i j hi hj => ?_⟩
    obtain ⟨a, rfl, ha⟩ := inH_nat hi
    obtain ⟨b, rfl, hb⟩ := inH_nat hj
    exact p.keep a b (by omega) (by omega)
  · intro s
    exact ⟨⟨s.p.nodup, fun x hx => s.p.mem.mp hx, by rw [s.p.len]; exact Nat.le_refl _, fun i j hi hj => s.keep i j (nat_inH (by rw [s.p.len] at hi; exact hi)) (nat_inH (by rw [s.p.len] at hj; exact hj))⟩, s.p.len⟩
theorem Sym.one (n : Int) (l : List Pr) : Sym n l (still n) := ⟨isP_still n, fun i j hi hj => by rw [tf_still hi, tf_still hj]⟩
theorem Sym.mul {n : Int} {l : List Pr} {a b : Row} (ha : Sym n l a) (hb : Sym n l b) : Sym n l (bh a b) :=
  ⟨ha.p.mulp hb.p, fun i j hi hj => by rw [tf_bh ha.p.len hi, tf_bh ha.p.len hj, ← hb.keep _ _ (ha.p.img hi) (ha.p.img hj)]; exact ha.keep i j hi hj⟩
end K09

/-! N0: facts that laws share -/
namespace K09
open PySem L2 DL
def ddL (l : List Pr) : List (D × D) := l.map fun p => (pD p, .bool true)
def ddD (l : List Pr) : D := .dict ((.none, .none) :: ddL l)
theorem tupK_pr (a b : Int) : tupK (.tuple [.int a, .int b]) = true := by
  simp [tupK, nksOf, nkOf, NestedKey.depth, NestedKey.depthAll]
theorem eqv_pr (p : Pr) (a b : Int) : PyData.eqv (pD p) (.tuple [.int a, .int b]) = decide (p = (a, b)) := by
  obtain ⟨x, y⟩ := p
  simp only [pD_eq, PyData.eqv, PyData.eqvAll, Bool.and_true]
  rw [Bool.eq_iff_iff]
  simp
theorem look_dd (l : List Pr) (a b : Int) : lookD ((.none, .none) :: ddL l) (.tuple [.int a, .int b]) = if (a, b) ∈ l then some (.bool true) else none := by
  have e0 : PyData.eqv PyData.none (.tuple [.int a, .int b]) = false := by simp [PyData.eqv]
  unfold lookD
  rw [List.find?_cons, e0]
  simp only
  induction l with
  | nil => rfl
  | cons p l ih =>
    unfold ddL at ih ⊢
    rw [List.map_cons, List.find?_cons]
    simp only [eqv_pr]
    by_cases h : p = (a, b)
    · simp [h]
    · have h' : ¬ (a, b) = p := fun z => h z.symm
      simp only [h, decide_false]
      rw [ih]
      simp [h']
theorem din_dd (neg : Bool) (l : List Pr) (a b : Int) : dinD neg (.tuple [.int a, .int b]) (ddD l) = some (.bool (if neg then !decide ((a, b) ∈ l) else decide ((a, b) ∈ l))) := by
  have ok : okK ((.none, .none) :: ddL l) (.tuple [.int a, .int b]) = true := by
    unfold okK
    rw [if_pos (show isT ((PyData.none, PyData.none) :: ddL l) = true from rfl)]
    exact tupK_pr a b
  unfold ddD
  simp only [dinD]
  rw [if_pos ok, look_dd]
  by_cases h : (a, b) ∈ l <;> simp [h]
theorem put_dd (l : List Pr) (p : Pr) (h : p ∉ l) : putD (ddL l) (pD p) (.bool true) = ddL (l ++ [p]) := by
  unfold putD
  have e : ((ddL l).any fun q => PyData.eqv q.1 (pD p)) = false := by
    rw [List.any_eq_false]
    intro q hq
    obtain ⟨r, hr, rfl⟩ := List.mem_map.mp hq
    rw [pD_eq p, eqv_pr]
    simp only [decide_eq_true_eq]
    intro z
    have z : r = p := z
    exact h (z ▸ hr)
  rw [e]
  simp [ddL]
theorem in_row (neg : Bool) (x : Int) (l : List Int) : inD neg (.int x) (.tuple (ei l)) = some (.bool (if neg then !decide (x ∈ l) else decide (x ∈ l))) := by
  show (if SeqAt.shaped (.int x) && PyData.canLayAll0 (ei l) then some (PyData.bool (if neg then !memD (.int x) (ei l) else memD (.int x) (ei l))) else none) = _
  rw [(shp_int 0 x).shaped (by omega), canLay_ints, memD_ints]
  rfl
theorem revD_rng (n : Int) : revD n = ei (rng n).reverse := by
  unfold revD ei rng
  apply List.ext_getElem?
  intro i
  rw [← List.map_reverse, List.map_map, List.getElem?_map, List.getElem?_map]
  by_cases h : i < n.toNat
  · rw [List.getElem?_range h, List.getElem?_eq_getElem (by simpa using h), List.getElem_reverse]
    simp
    omega
  · rw [List.getElem?_eq_none (by simpa using h), List.getElem?_eq_none (by simpa using h)]
    rfl
theorem revIt_ok (n : Int) (h1 : 0 ≤ n) (h2 : n ≤ 100000) : revIt (.int n) = some (ei (rng n).reverse) := by
  rw [← revD_rng]
  exact if_pos ⟨h1, h2⟩
theorem kids_len (n : Int) (l : List Pr) (r : Row) : (kids n l r).length ≤ n.toNat := by
  unfold kids
  rw [List.length_map]
  have := List.length_filter_le (extB l r) (rng n)
  rw [rng_len] at this
  exact this
theorem sum_le {α : Type} (f : α → Nat) (c : Nat) : ∀ l : List α, (∀ x ∈ l, f x ≤ c) → (l.map f).sum ≤ l.length * c
  | [], _ => by simp
  | x :: l, h => by
    have h1 := h x List.mem_cons_self
    have h2 := sum_le f c l fun y hy => h y (List.mem_cons_of_mem _ hy)
    simp only [List.map_cons, List.sum_cons, List.length_cons]
    rw [Nat.add_mul, Nat.one_mul]
    omega
theorem fm_same {α β : Type} {f g : α → List β} : ∀ l : List α, (∀ x ∈ l, f x = g x) → l.flatMap f = l.flatMap g
  | [], _ => rfl
  | x :: l, h => by rw [List.flatMap_cons, List.flatMap_cons, h x List.mem_cons_self, fm_same l fun y hy => h y (List.mem_cons_of_mem _ hy)]
theorem app_row (fs : List Row) (r : Row) (h : fs.length < 1000) : appF (.list (fs.map rowD)) [rowD r] = some (.none, .list ((fs ++ [r]).map rowD)) := by
  show (if (fs.map rowD).length < LIM then _ else _) = _
  rw [if_pos (by rw [List.length_map]; show _ < 100000; omega)]
  simp
theorem House.irr {n : Int} {l : List Pr} (h : House n l) : ∀ p ∈ l, p.1 ≠ p.2 := fun p hp => (okDoor_iff.mp (h.ok p hp)).2.2
theorem House.nd {n : Int} {l : List Pr} (h : House n l) : l.Nodup := nodup_r2.mp h.asc.nodup
theorem ne_row (a b : Row) : neD (rowD a) (rowD b) = some (.bool (!decide (a = b))) := by
  rw [neD_ok (shp_row a) (shp_row b) (by omega)]
  simp only [PyData.eqv, eqvAll_ints]
theorem pop_row (vs : List Row) (r : Row) : popF (.list ((vs ++ [r]).map rowD)) [] = some (rowD r, .list (vs.map rowD)) := by
  unfold popF
  simp
theorem in_dD (neg : Bool) (l : List Pr) (a b : Int) : inD neg (.tuple [.int a, .int b]) (dD l) = some (.bool (if neg then !decide ((a, b) ∈ l) else decide ((a, b) ∈ l))) := by
  have h1 : SeqAt.shaped (.tuple [.int a, .int b]) = true := (shp_row [a, b]).shaped (by omega)
  have h2 : PyData.canLayAll0 (l.map pD) = true := by
    have h := shp_rows (l.map r2)
    rw [map_pD] at h
    have h3 : (PyData.tuple (l.map pD)).canLay0 = true := h.1
    simpa [PyData.canLay0] using h3
  have h3 : memD (.tuple [.int a, .int b]) (l.map pD) = decide ((a, b) ∈ l) := by
    unfold memD
    rw [Bool.eq_iff_iff, List.any_eq_true, decide_eq_true_eq]
    constructor
    · rintro ⟨d, hd, e⟩
      obtain ⟨p, hp, rfl⟩ := List.mem_map.mp hd
      rw [eqv_pr, decide_eq_true_eq] at e
      rw [← e]; exact hp
    · intro h
      exact ⟨pD (a, b), List.mem_map.mpr ⟨_, h, rfl⟩, by rw [eqv_pr]; simp⟩
  show (if SeqAt.shaped (.tuple [.int a, .int b]) && PyData.canLayAll0 (l.map pD) then some (PyData.bool (if neg then !memD (.tuple [.int a, .int b]) (l.map pD) else memD (.tuple [.int a, .int b]) (l.map pD))) else none) = _
  rw [h1, h2, h3]
  rfl
theorem eq_nil_ei (l : List Int) : eqD (.list (ei l)) (.list []) = some (.bool (decide (l = []))) := by
  show eqD (.list (ei l)) (.list (ei [])) = _
  rw [eqD_ok (shp_ei l) (shp_ei []) (by omega)]
  simp only [PyData.eqv]
  unfold ei
  rw [eqvAll_ints]
theorem at_row (r : Row) (i : Nat) (h : i < r.length) : atI (r.map PyData.int) (i : Int) = some (.int (r.getD i 0)) := by
  rw [atI_nat _ i (by simpa using h)]
  simp [List.getD_eq_getElem?_getD, List.getElem?_eq_getElem h]
section
variable {n : Int} {l : List Pr}
theorem few_lev (irr : ∀ p ∈ l, p.1 ≠ p.2) (h1 : 1 ≤ n) (h6 : n ≤ 6) {k : Nat} (hk : k ≤ n.toNat) : (lev n l k).length ≤ 720 := by
  have c : ∀ n : Int, 1 ≤ n → n ≤ 6 → ∀ k, k ≤ n.toNat → (lev n [] k).length ≤ 720 := fun n h1 h2 k hk => by
    have a : n = 1 ∨ n = 2 ∨ n = 3 ∨ n = 4 ∨ n = 5 ∨ n = 6 := by omega
    have b : k = 0 ∨ k = 1 ∨ k = 2 ∨ k = 3 ∨ k = 4 ∨ k = 5 ∨ k = 6 := by omega
    rcases a with rfl | rfl | rfl | rfl | rfl | rfl <;> rcases b with rfl | rfl | rfl | rfl | rfl | rfl | rfl <;> first | decide +kernel | (exfalso; revert hk; decide)
  refine Nat.le_trans (len_of_sub _ (lev n [] k) (lev_asc irr k).nodup fun r hr => ?_) (c n h1 h6 k hk)
  obtain ⟨p, e⟩ := (mem_lev irr k r).mp hr
  exact (mem_lev (fun p hp => by cases hp) k r).mpr ⟨⟨p.nd, p.mem, p.len, fun i j _ _ => by simp⟩, e⟩
theorem srtR_same {L : List Row} (h : Asc L) : srtR L = L := asc_ext (srtR_asc h.nodup) h fun k => mem_srtR
end
theorem ne_nil_rows (L : List Row) : neD (.list (L.map rowD)) (.list []) = some (.bool (!decide (L = []))) := by
  have h1 : Shp 2 (.list (L.map rowD)) := shp_list fun d hd => by
    obtain ⟨r, _, rfl⟩ := List.mem_map.mp hd
    exact shp_row r
  rw [neD_ok h1 (shp_list (n := 1) (l := []) (by simp)) (by omega)]
  cases L <;> simp [PyData.eqv, PyData.eqvAll]
theorem eqv_row (a b : Row) : PyData.eqv (rowD a) (rowD b) = decide (a = b) := by
  simp only [PyData.eqv, eqvAll_ints]
section
variable {n : Int} {l : List Pr}
theorem ded_len {r : Row} (nd : r.Nodup) : (dedI [] r).length = r.length := by
  obtain ⟨h1, h2⟩ := dedI_spec r [] List.nodup_nil
  have a := len_of_sub (dedI [] r) r h1 fun x hx => by rcases (h2 x).mp hx with z | z; cases z; exact z
  have b := len_of_sub r (dedI [] r) nd fun x hx => (h2 x).mpr (.inr hx)
  omega
end
section
variable {n : Int} {l : List Pr}
def numB (hi : Int) : D → Bool
  | .int i => decide (0 ≤ i) && decide (i ≤ hi)
  | _ => false
def plainI : D → Prop
  | .int _ => True
  | .bool _ => True
  | .none => True
  | _ => False
theorem lenSet_row (r : Row) (hl : r.length ≤ 1000) : lenSetI (rowD r) = some (.int (dedI [] r).length) := by
  show ((intsOf (r.map .int)).bind fun ns => if ns.length < 4000 then some (PyData.int (dedI [] ns).length) else none) = _
  rw [intsOf_map, Option.bind_some, if_pos (by omega)]
end
end K09

/-! N1: maps of one house's halls to another's, hall by hall. -/
namespace K09
open PySem L2 DL
/-! ### hall by hall -/
/-- the next hall can be led to h -/
def ext2 (a b : List Pr) (r : Row) (h : Int) : Bool := !decide (h ∈ r) && (List.range r.length).all fun i => (decide (((i : Int), (r.length : Int)) ∈ a) == decide ((r.getD i 0, h) ∈ b)) && (decide (((r.length : Int), (i : Int)) ∈ a) == decide ((h, r.getD i 0) ∈ b))
def kids2 (n : Int) (a b : List Pr) (r : Row) : List Row := ((rng n).filter (ext2 a b r)).map fun h => r ++ [h]
def leaves2 (n : Int) (a b : List Pr) : Nat → Row → List Row
  | 0, r => [r]
  | j + 1, r => (kids2 n a b r).flatMap (leaves2 n a b j)
def lev2 (n : Int) (a b : List Pr) : Nat → List Row
  | 0 => [[]]
  | k + 1 => (lev2 n a b k).flatMap (kids2 n a b)
theorem leaves2_flat (n : Int) (a b : List Pr) : ∀ (j : Nat) (rs : List Row), rs.flatMap (leaves2 n a b (j + 1)) = (rs.flatMap (kids2 n a b)).flatMap (leaves2 n a b j)
  | j, rs => by
    rw [List.flatMap_assoc]
    rfl
theorem lev2_leaves2 (n : Int) (a b : List Pr) : ∀ (k j : Nat), (lev2 n a b k).flatMap (leaves2 n a b j) = leaves2 n a b (k + j) []
  | 0, j => by simp [lev2]
  | k + 1, j => by
    rw [lev2, ← leaves2_flat, lev2_leaves2 n a b k (j + 1)]
    congr 1
    omega
theorem lev2_eq (n : Int) (a b : List Pr) (k : Nat) : lev2 n a b k = leaves2 n a b k [] := by
  have h := lev2_leaves2 n a b k 0
  have e : (lev2 n a b k).flatMap (leaves2 n a b 0) = lev2 n a b k := by
    show (lev2 n a b k).flatMap (fun r => [r]) = _
    rw [List.flatMap_singleton']
  rw [e] at h
  exact h
/-- a beginning of a symmetry -/
structure Part2 (n : Int) (a b : List Pr) (r : Row) : Prop where
  nd : r.Nodup
  mem : ∀ x ∈ r, inH n x = true
  len : r.length ≤ n.toNat
  keep : ∀ i j : Nat, i < r.length → j < r.length → (((i : Int), (j : Int)) ∈ a ↔ (r.getD i 0, r.getD j 0) ∈ b)
def mapL (n : Int) (a b : List Pr) : List Row := leaves2 n a b n.toNat []
theorem ext2_iff {a b : List Pr} {r : Row} {h : Int} : ext2 a b r h = true ↔ h ∉ r ∧ ∀ i : Nat, i < r.length → (((i : Int), (r.length : Int)) ∈ a ↔ (r.getD i 0, h) ∈ b) ∧ (((r.length : Int), (i : Int)) ∈ a ↔ (h, r.getD i 0) ∈ b) := by
  unfold ext2
  simp only [Bool.and_eq_true, Bool.not_eq_true', decide_eq_false_iff_not, List.all_eq_true, List.mem_range, beq_iff_eq, decide_eq_decide]
theorem part2_snoc {n : Int} {a b : List Pr} (ia : ∀ p ∈ a, p.1 ≠ p.2) (ib : ∀ p ∈ b, p.1 ≠ p.2) {r : Row} {h : Int} : Part2 n a b (r ++ [h]) ↔ Part2 n a b r ∧ inH n h = true ∧ ext2 a b r h = true := by
  rw [ext2_iff]
  constructor
  · intro p
    have hl : (r ++ [h]).length = r.length + 1 := by simp
    have nd := p.nd
    rw [List.nodup_append] at nd
    refine ⟨⟨nd.1, fun x hx => p.mem x (List.mem_append.mpr (.inl hx)), by have := p.len; omega, fun i j hi hj => ?_⟩, p.mem h (by simp), fun z => nd.2.2 h z h (by simp) rfl, fun i hi => ⟨?_, ?_⟩⟩
    · have := p.keep i j (by omega) (by omega)
      rw [getD_app_lt hi, getD_app_lt hj] at this
      exact this
    · have := p.keep i r.length (by omega) (by omega)
      rw [getD_app_lt hi, getD_app_eq] at this
      exact this
    · have := p.keep r.length i (by omega) (by omega)
      rw [getD_app_lt hi, getD_app_eq] at this
      exact this
  · rintro ⟨p, hh, hn, hk⟩
    have hm : ∀ x ∈ r ++ [h], inH n x = true := fun x hx => by
      rcases List.mem_append.mp hx with z | z
      · exact p.mem x z
      · rw [List.mem_singleton] at z; rw [z]; exact hh
    have nd : (r ++ [h]).Nodup := by
      rw [List.nodup_append]
      exact ⟨p.nd, by simp, fun a ha b hb => by simp at hb; subst hb; exact fun z => hn (z ▸ ha)⟩
    refine ⟨nd, hm, ?_, fun i j hi hj => ?_⟩
    · exact len_le nd hm
    · have hl : (r ++ [h]).length = r.length + 1 := by simp
      rw [hl] at hi hj
      by_cases h1 : i < r.length
      · by_cases h2 : j < r.length
        · rw [getD_app_lt h1, getD_app_lt h2]; exact p.keep i j h1 h2
        · have e : j = r.length := by omega
          subst e
          rw [getD_app_lt h1, getD_app_eq]; exact (hk i h1).1
      · have e : i = r.length := by omega
        subst e
        by_cases h2 : j < r.length
        · rw [getD_app_lt h2, getD_app_eq]; exact (hk j h2).2
        · have e : j = r.length := by omega
          subst e
          rw [getD_app_eq]
          exact ⟨fun z => absurd rfl (ia _ z), fun z => absurd rfl (ib _ z)⟩
theorem part2_nil (n : Int) (a b : List Pr) : Part2 n a b [] := ⟨List.nodup_nil, fun x hx => (by cases hx), Nat.zero_le _, fun i j hi => absurd hi (Nat.not_lt_zero _)⟩
theorem mem_lev2 {n : Int} {a b : List Pr} (ia : ∀ p ∈ a, p.1 ≠ p.2) (ib : ∀ p ∈ b, p.1 ≠ p.2) : ∀ (k : Nat) (r : Row), r ∈ lev2 n a b k ↔ Part2 n a b r ∧ r.length = k
  | 0, r => by
    simp only [lev2, List.mem_singleton]
    constructor
    · rintro rfl; exact ⟨part2_nil n a b, rfl⟩
    · rintro ⟨_, h⟩; exact List.length_eq_zero_iff.mp h
  | k + 1, r => by
    simp only [lev2, List.mem_flatMap, kids2, List.mem_map, List.mem_filter]
    constructor
    · rintro ⟨s, hs, h, ⟨hh, he⟩, rfl⟩
      obtain ⟨p, e⟩ := (mem_lev2 ia ib k s).mp hs
      exact ⟨(part2_snoc ia ib).mpr ⟨p, mem_rng.mp hh, he⟩, by simp [e]⟩
    · rintro ⟨p, e⟩
      have hne : r ≠ [] := fun z => by rw [z] at e; cases e
      have e2 := List.dropLast_concat_getLast hne
      rw [← e2] at p
      obtain ⟨p1, p2, p3⟩ := (part2_snoc ia ib).mp p
      exact ⟨r.dropLast, (mem_lev2 ia ib k _).mpr ⟨p1, by rw [List.length_dropLast]; omega⟩, r.getLast hne, ⟨mem_rng.mpr p2, p3⟩, e2⟩
/-! ### they stand ascending -/
theorem lev2_asc {n : Int} {a b : List Pr} (ia : ∀ p ∈ a, p.1 ≠ p.2) (ib : ∀ p ∈ b, p.1 ≠ p.2) : ∀ k : Nat, Asc (lev2 n a b k)
  | 0 => List.pairwise_singleton _ _
  | k + 1 => by
    show Asc ((lev2 n a b k).flatMap (kids2 n a b))
    unfold Asc
    rw [List.pairwise_flatMap]
    refine ⟨fun r _ => ?_, ?_⟩
    · unfold kids2
      rw [List.pairwise_map]
      exact ((rng_asc n).filter _).imp fun h => ltR_snoc r h
    · refine (lev2_asc ia ib k).imp_of_mem fun {a b} ha hb hab => ?_
      intro x hx y hy
      unfold kids2 at hx hy
      obtain ⟨h, _, rfl⟩ := List.mem_map.mp hx
      obtain ⟨h', _, rfl⟩ := List.mem_map.mp hy
      exact ltR_longer _ _ (by rw [((mem_lev2 ia ib k a).mp ha).2, ((mem_lev2 ia ib k b).mp hb).2]) hab
theorem mapL_asc {n : Int} {a b : List Pr} (ia : ∀ p ∈ a, p.1 ≠ p.2) (ib : ∀ p ∈ b, p.1 ≠ p.2) : Asc (mapL n a b) := by unfold mapL; rw [← lev2_eq]; exact lev2_asc ia ib _
/-- a symmetry -/
structure Map2 (n : Int) (a b : List Pr) (r : Row) : Prop where
  p : isP n r
  keep : ∀ i j, inH n i = true → inH n j = true → ((i, j) ∈ a ↔ (tf r i, tf r j) ∈ b)
theorem mem_mapL {n : Int} {a b : List Pr} (ia : ∀ p ∈ a, p.1 ≠ p.2) (ib : ∀ p ∈ b, p.1 ≠ p.2) {r : Row} : r ∈ mapL n a b ↔ Map2 n a b r := by
  unfold mapL
  rw [← lev2_eq, mem_lev2 ia ib]
  constructor
  · rintro ⟨p, e⟩
    refine ⟨isP_of e p.mem p.nd, fun i j hi hj => ?_⟩
    obtain ⟨a, rfl, ha⟩ := inH_nat hi
    obtain ⟨b, rfl, hb⟩ := inH_nat hj
    exact p.keep a b (by omega) (by omega)
  · intro s
    exact ⟨⟨s.p.nodup, fun x hx => s.p.mem.mp hx, by rw [s.p.len]; exact Nat.le_refl _, fun i j hi hj => s.keep i j (nat_inH (by rw [s.p.len] at hi; exact hi)) (nat_inH (by rw [s.p.len] at hj; exact hj))⟩, s.p.len⟩
end K09

/-! N2: the law's maps between houses. -/
namespace K09
open PySem L2 DL
structure ZS where
  L : List Row
  h : Option Sl
  f : Option Sl
  m : Option Sl
  d : Option Sl
def evZ (n : Int) (a b : List Pr) (R : List Row) (k : Nat) (r : Option Sl) (s : ZS) : List (Option Sl) := [some (.dat (hD n a)), some (.dat (hD n b)), some (.dat (.list (R.map rowD))), some (.dat (.int (k : Int))), some (.dat (.list (s.L.map rowD))), r, s.h, s.f, s.m, s.d, none]
def okAt2 (a b : List Pr) (r : Row) (h : Int) (i : Nat) : Bool := (decide (((i : Int), (r.length : Int)) ∈ a) == decide ((r.getD i 0, h) ∈ b)) && (decide (((r.length : Int), (i : Int)) ∈ a) == decide ((h, r.getD i 0) ∈ b))
theorem ext2_eq (a b : List Pr) (r : Row) (h : Int) : ext2 a b r h = (!decide (h ∈ r) && (List.range r.length).all (okAt2 a b r h)) := rfl
def bad2A (a b : List Pr) (r : Row) (x : Int) : List Int := ((List.range r.length).filter fun i : Nat => !(decide (((i : Int), (r.length : Int)) ∈ a) == decide ((r.getD i 0, x) ∈ b))).map fun i : Nat => (i : Int)
def bad2B (a b : List Pr) (r : Row) (x : Int) : List Int := ((List.range r.length).filter fun i : Nat => !(decide (((r.length : Int), (i : Int)) ∈ a) == decide ((x, r.getD i 0) ∈ b))).map fun i : Nat => (i : Int)
theorem bad2_ext (a b : List Pr) (r : Row) (x : Int) : decide (bad2A a b r x ++ bad2B a b r x = []) = (List.range r.length).all (okAt2 a b r x) := by
  rw [Bool.eq_iff_iff, decide_eq_true_eq, List.all_eq_true, List.append_eq_nil_iff]
  unfold bad2A bad2B okAt2
  rw [List.map_eq_nil_iff, List.map_eq_nil_iff, List.filter_eq_nil_iff, List.filter_eq_nil_iff]
  constructor
  · rintro ⟨h1, h2⟩ i hi
    have p := h1 i hi
    have q := h2 i hi
    rw [Bool.and_eq_true]
    simp at p q ⊢
    exact ⟨p, q⟩
  · intro h
    refine ⟨fun i hi => ?_, fun i hi => ?_⟩
    · have := h i hi
      rw [Bool.and_eq_true] at this
      simp at this ⊢
      exact this.1
    · have := h i hi
      rw [Bool.and_eq_true] at this
      simp at this ⊢
      exact this.2
theorem bad2_len (a b : List Pr) (r : Row) (x : Int) : (bad2A a b r x).length ≤ r.length ∧ (bad2B a b r x).length ≤ r.length := by
  unfold bad2A bad2B
  rw [List.length_map, List.length_map]
  have h1 := List.length_filter_le (fun i : Nat => !(decide (((i : Int), (r.length : Int)) ∈ a) == decide ((r.getD i 0, x) ∈ b))) (List.range r.length)
  have h2 := List.length_filter_le (fun i : Nat => !(decide (((r.length : Int), (i : Int)) ∈ a) == decide ((x, r.getD i 0) ∈ b))) (List.range r.length)
  rw [List.length_range] at h1 h2
  exact ⟨h1, h2⟩
section
variable {n : Int} {a b : List Pr}
theorem z_bad (R : List Row) (r : Row) (x : Int) (L : List Row) (d : Option Sl) (hr : r.length ≤ 100) :
    dLc (dRg1 (dCons (dVar 3) (.pure []))) (patNm 10) (dBool (d2 neD (d2 (inD false) (dTup (dCons (dVar 10) (dCons (dVar 3) (.pure [])))) (dVar 7)) (d2 (inD false) (dTup (dCons (d2 idxD (dVar 5) (dVar 10)) (dCons (dVar 6) (.pure [])))) (dVar 8)))) (dVar 10) [10] (evZ n a b R r.length (some (.dat (rowD r))) ⟨L, some (.dat (.int x)), some (.dat (dD a)), some (.dat (dD b)), d⟩) = .ok (.list (ei (bad2A a b r x))) (evZ n a b R r.length (some (.dat (rowD r))) ⟨L, some (.dat (.int x)), some (.dat (dD a)), some (.dat (dD b)), d⟩) ∧
    dLc (dRg1 (dCons (dVar 3) (.pure []))) (patNm 10) (dBool (d2 neD (d2 (inD false) (dTup (dCons (dVar 3) (dCons (dVar 10) (.pure [])))) (dVar 7)) (d2 (inD false) (dTup (dCons (dVar 6) (dCons (d2 idxD (dVar 5) (dVar 10)) (.pure [])))) (dVar 8)))) (dVar 10) [10] (evZ n a b R r.length (some (.dat (rowD r))) ⟨L, some (.dat (.int x)), some (.dat (dD a)), some (.dat (dD b)), d⟩) = .ok (.list (ei (bad2B a b r x))) (evZ n a b R r.length (some (.dat (rowD r))) ⟨L, some (.dat (.int x)), some (.dat (dD a)), some (.dat (dD b)), d⟩) := by
  constructor
  · rw [lc_pure (fun i : Nat => .int (i : Int)) (fun i : Nat => !(decide (((i : Int), (r.length : Int)) ∈ a) == decide ((r.getD i 0, x) ∈ b))) (fun i : Nat => .int (i : Int)) (List.range r.length)]
    · unfold bad2A ei
      rw [List.map_map]; rfl
    · simp [evZ]
      rw [rgIt1_ok _ (by omega) (by omega)]
      simp
    · rfl
    · rfl
    · intro i hi
      rw [List.mem_range] at hi
      have e := at_row r i hi
      refine ⟨_, rfl, ?_, fun _ => by simp [evZ], rfl⟩
      simp [evZ, e, in_dD]
    · rw [List.length_range]; show _ ≤ 100000; omega
  · rw [lc_pure (fun i : Nat => .int (i : Int)) (fun i : Nat => !(decide (((r.length : Int), (i : Int)) ∈ a) == decide ((x, r.getD i 0) ∈ b))) (fun i : Nat => .int (i : Int)) (List.range r.length)]
    · unfold bad2B ei
      rw [List.map_map]; rfl
    · simp [evZ]
      rw [rgIt1_ok _ (by omega) (by omega)]
      simp
    · rfl
    · rfl
    · intro i hi
      rw [List.mem_range] at hi
      have e := at_row r i hi
      refine ⟨_, rfl, ?_, fun _ => by simp [evZ], rfl⟩
      simp [evZ, e, in_dD]
    · rw [List.length_range]; show _ ≤ 100000; omega
theorem z_inner (R : List Row) (r : Row) (h1 : 1 ≤ n) (h2 : n ≤ 10) (hr : r.length < n.toNat) (L0 : List Row) (hL : L0.length ≤ 900) (h f m d : Option Sl) (hh : DatO h) (hf : DatO f) (hm : DatO m) (hd : DatO d) :
    ∃ h' f' m' d', DatO h' ∧ DatO f' ∧ DatO m' ∧ DatO d' ∧ sForL (patNm 6) b__law_maps_1 (ei (rng n)) (evZ n a b R r.length (some (.dat (rowD r))) ⟨L0, h, f, m, d⟩) = .ok .nx (evZ n a b R r.length (some (.dat (rowD r))) ⟨L0 ++ kids2 n a b r, h', f', m', d'⟩) := by
  obtain ⟨⟨L', h', f', m', d'⟩, ⟨i1, i2, i3, i4, i5⟩, e⟩ := for_ex (S := ZS) (pat := patNm 6) (m := b__law_maps_1) (evZ n a b R r.length (some (.dat (rowD r)))) (fun j s => s.L = L0 ++ (((rng n).take j).filter (ext2 a b r)).map (fun h => r ++ [h]) ∧ DatO s.h ∧ DatO s.f ∧ DatO s.m ∧ DatO s.d) (ei (rng n)) 0 ⟨L0, h, f, m, d⟩ ⟨by simp, hh, hf, hm, hd⟩ (by
    rintro j dd ⟨L, h, f, m, d⟩ hj ⟨i1, i2, i3, i4, i5⟩
    simp only at i1 i2 i3 i4 i5
    rw [Nat.zero_add] at i1 ⊢
    unfold ei at hj
    rw [List.getElem?_map] at hj
    obtain ⟨x, hx, rfl⟩ := Option.map_eq_some_iff.mp hj
    obtain ⟨hjl, hxe⟩ := List.getElem?_eq_some_iff.mp hx
    rw [rng_len] at hjl
    have hl1 : L.length ≤ 910 := by
      rw [i1, List.length_append, List.length_map]
      have q1 := List.length_filter_le (ext2 a b r) ((rng n).take j)
      rw [List.length_take] at q1
      omega
    have tk : ((rng n).take (j + 1)).filter (ext2 a b r) = ((rng n).take j).filter (ext2 a b r) ++ (if ext2 a b r x = true then [x] else []) := by
      rw [List.take_succ, hx, List.filter_append]
      by_cases w : ext2 a b r x = true <;> simp [w]
    have hpat : patNm 6 (.int x) (evZ n a b R r.length (some (.dat (rowD r))) ⟨L, h, f, m, d⟩) = .ok () (evZ n a b R r.length (some (.dat (rowD r))) ⟨L, some (.dat (.int x)), f, m, d⟩) := by
      simp only [evZ, patNm_ap, List.getElem?_cons_succ, List.getElem?_cons_zero, put_dat i2]; rfl
    by_cases hmr : x ∈ r
    · have w : ext2 a b r x = false := by rw [ext2_eq]; simp [hmr]
      refine ⟨_, ⟨L, some (.dat (.int x)), f, m, d⟩, hpat, ?_, ?_, .inr ⟨_, rfl⟩, i3, i4, i5⟩
      · simp [b__law_maps_1, evZ, show rowD r = .tuple (ei r) from rfl, in_row, hmr]
      · simp only
        rw [tk, i1, w]
        simp
    · obtain ⟨e1, _⟩ := z_bad (n := n) (a := a) (b := b) R r x L d (by omega)
      obtain ⟨_, e2⟩ := z_bad (n := n) (a := a) (b := b) R r x L (some (.dat (.list (ei (bad2A a b r x))))) (by omega)
      have w : ext2 a b r x = decide (bad2A a b r x ++ bad2B a b r x = []) := by rw [bad2_ext, ext2_eq]; simp [hmr]
      obtain ⟨bl1, bl2⟩ := bad2_len a b r x
      have ha := add_list (ei (bad2A a b r x)) (ei (bad2B a b r x)) (by rw [ei_len, ei_len]; omega)
      rw [← ei_app] at ha
      have hq := eq_nil_ei (bad2A a b r x ++ bad2B a b r x)
      rw [← w] at hq
      have hadd : addD (rowD r) (.tuple [.int x]) = some (rowD (r ++ [x])) := by
        rw [show rowD r = .tuple (ei r) from rfl, add_tup _ _ (by rw [ei_len]; simp only [List.length_singleton]; omega)]
        simp [ei]
      have hmul := mul_01 (rowD (r ++ [x])) (ext2 a b r x)
      have hLa : addD (.list (L.map rowD)) (.list (if ext2 a b r x = true then [rowD (r ++ [x])] else [])) = some (.list ((L ++ if ext2 a b r x = true then [r ++ [x]] else []).map rowD)) := by
        rw [add_list _ _ (by rw [List.length_map]; split <;> simp <;> omega)]
        by_cases w : ext2 a b r x = true <;> simp [w]
      refine ⟨_, ⟨L ++ (if ext2 a b r x = true then [r ++ [x]] else []), some (.dat (.int x)), some (.dat (dD a)), some (.dat (dD b)), some (.dat (.list (ei (bad2A a b r x ++ bad2B a b r x))))⟩, hpat, ?_, ?_, .inr ⟨_, rfl⟩, .inr ⟨_, rfl⟩, .inr ⟨_, rfl⟩, .inr ⟨_, rfl⟩⟩
      · unfold b__law_maps_1
        rw [sIf_ap]
        have ht : dBool (d2 (inD true) (dVar 6) (dVar 5)) (evZ n a b R r.length (some (.dat (rowD r))) ⟨L, some (.dat (.int x)), f, m, d⟩) = .ok true (evZ n a b R r.length (some (.dat (rowD r))) ⟨L, some (.dat (.int x)), f, m, d⟩) := by
          simp [evZ, show rowD r = .tuple (ei r) from rfl, in_row, hmr]
        have hasg : sAsg (dTup (dCons (d2 idxD (dVar 0) (dC (.int 1))) (dCons (d2 idxD (dVar 1) (dC (.int 1))) (.pure [])))) (patTup (patCons (patNm 7) (patCons (patNm 8) patNil))) (evZ n a b R r.length (some (.dat (rowD r))) ⟨L, some (.dat (.int x)), f, m, d⟩) = .ok .nx (evZ n a b R r.length (some (.dat (rowD r))) ⟨L, some (.dat (.int x)), some (.dat (dD a)), some (.dat (dD b)), d⟩) := by
          rcases i3 with rfl | ⟨u, rfl⟩ <;> rcases i4 with rfl | ⟨v, rfl⟩ <;> simp [evZ]
        rw [bind_ap, ht, then_ok, if_pos rfl, sSeq_ap, hasg, then_ok, seqK_nx, sSeq_ap, sSet_ap, sAsg_ap, bind_ap, dF_ap, bind_ap, e1, then_ok]
        have hset : (onPat (patNm 9) (.list (ei (bad2A a b r x))) sNx) (evZ n a b R r.length (some (.dat (rowD r))) ⟨L, some (.dat (.int x)), some (.dat (dD a)), some (.dat (dD b)), d⟩) = .ok .nx (evZ n a b R r.length (some (.dat (rowD r))) ⟨L, some (.dat (.int x)), some (.dat (dD a)), some (.dat (dD b)), some (.dat (.list (ei (bad2A a b r x))))⟩) := by
          simp only [onPat_ap, patNm_ap, evZ, List.getElem?_cons_succ, List.getElem?_cons_zero, put_dat i5]; rfl
        rw [pure_ap, then_ok, bind_ap, keep_val, pure_ap, then_ok, hset, then_ok, seqK_nx, sSeq_ap, sSet_ap, sAsg_ap, bind_ap, d2_ap, bind_ap]
        rw [show dVar 9 (evZ n a b R r.length (some (.dat (rowD r))) ⟨L, some (.dat (.int x)), some (.dat (dD a)), some (.dat (dD b)), some (.dat (.list (ei (bad2A a b r x))))⟩) = .ok (.val (.list (ei (bad2A a b r x)))) (evZ n a b R r.length (some (.dat (rowD r))) ⟨L, some (.dat (.int x)), some (.dat (dD a)), some (.dat (dD b)), some (.dat (.list (ei (bad2A a b r x))))⟩) from rfl, then_ok, bind_ap, dF_ap, bind_ap, e2, then_ok]
        simp only [pure_ap, then_ok, bind_ap, now_val, ha, opt_some, keep_val]
        simp [-List.map_append, evZ, hq, hmul, hadd, hLa]
      · simp only
        rw [tk, i1]
        by_cases w : ext2 a b r x = true <;> simp [w])
  refine ⟨h', f', m', d', i2, i3, i4, i5, ?_⟩
  simp only at i1
  rw [Nat.zero_add, ei_len, List.take_length] at i1
  rw [e, i1]
  rfl
structure ZM where
  L : List Row
  r : Option Sl
  h : Option Sl
  f : Option Sl
  m : Option Sl
  d : Option Sl
theorem z_mid (k : Nat) (h1 : 1 ≤ n) (h2 : n ≤ 10) (hk : k < n.toNat) (R : List Row) (hR : ∀ r ∈ R, r.length = k) (hl : (R.flatMap (kids2 n a b)).length ≤ 720) (r h f m d : Option Sl) (hr : DatO r) (hh : DatO h) (hf : DatO f) (hm : DatO m) (hd : DatO d) :
    ∃ r' h' f' m' d', DatO r' ∧ DatO h' ∧ DatO f' ∧ DatO m' ∧ DatO d' ∧ sForL (patNm 5) b__law_maps_2 (R.map rowD) (evZ n a b R k r ⟨[], h, f, m, d⟩) = .ok .nx (evZ n a b R k r' ⟨R.flatMap (kids2 n a b), h', f', m', d'⟩) := by
  obtain ⟨⟨L', r', h', f', m', d'⟩, ⟨i1, i2, i3, i4, i5, i6⟩, e⟩ := for_ex (S := ZM) (pat := patNm 5) (m := b__law_maps_2) (fun s => evZ n a b R k s.r ⟨s.L, s.h, s.f, s.m, s.d⟩) (fun j s => s.L = (R.take j).flatMap (kids2 n a b) ∧ DatO s.r ∧ DatO s.h ∧ DatO s.f ∧ DatO s.m ∧ DatO s.d) (R.map rowD) 0 ⟨[], r, h, f, m, d⟩ ⟨by simp, hr, hh, hf, hm, hd⟩ (by
    rintro j dd ⟨L, r, h, f, m, d⟩ hj ⟨i1, i2, i3, i4, i5, i6⟩
    simp only at i1 i2 i3 i4 i5 i6
    rw [Nat.zero_add] at i1 ⊢
    rw [List.getElem?_map] at hj
    obtain ⟨x, hx, rfl⟩ := Option.map_eq_some_iff.mp hj
    have hxm := List.mem_of_getElem? hx
    have hxl := hR x hxm
    have hL : L.length ≤ 900 := by
      have q : R.flatMap (kids2 n a b) = (R.take j).flatMap (kids2 n a b) ++ (R.drop j).flatMap (kids2 n a b) := by
        rw [← List.flatMap_append, List.take_append_drop]
      rw [q, List.length_append] at hl
      rw [i1]
      omega
    subst hxl
    obtain ⟨h', f', m', d', d1, d2, d3, d4, e⟩ := z_inner (n := n) (a := a) (b := b) R x h1 h2 hk L hL h f m d i3 i4 i5 i6
    refine ⟨_, ⟨L ++ kids2 n a b x, some (.dat (rowD x)), h', f', m', d'⟩, by simp only [evZ, patNm_ap, List.getElem?_cons_succ, List.getElem?_cons_zero, put_dat i2]; rfl, ?_, ?_, .inr ⟨_, rfl⟩, d1, d2, d3, d4⟩
    · unfold b__law_maps_2
      rw [sFor_ap, bind_ap]
      have er : rgIt1 [.int n] = some (ei (rng n)) := by
        rw [rgIt1_ok n (by omega) (by omega)]
        unfold ei rng
        rw [List.map_map]
        rfl
      unfold evZ at e ⊢
      simp only [dRg1_ap, bind_ap, dCons_ap, d2_ap, dC_ap, idx_hD0, var_ap, List.set_cons_succ, List.set_cons_zero, List.getElem?_cons_succ, List.getElem?_cons_zero, varS_dat, then_ok, pure_ap, nows_cons, nows_nil, now_val, er, opt_some]
      exact e
    · simp only
      rw [List.take_succ, hx, List.flatMap_append, i1]
      simp)
  simp only at i1 i2 i3 i4 i5 i6 e
  rw [Nat.zero_add, List.length_map, List.take_length] at i1
  exact ⟨r', h', f', m', d', i2, i3, i4, i5, i6, by rw [e, i1]⟩
structure ZO where
  R : List Row
  p : Option Sl
  L : Option Sl
  r : Option Sl
  h : Option Sl
  f : Option Sl
  m : Option Sl
  d : Option Sl
def evZO (n : Int) (a b : List Pr) (s : ZO) : List (Option Sl) := [some (.dat (hD n a)), some (.dat (hD n b)), some (.dat (.list (s.R.map rowD))), s.p, s.L, s.r, s.h, s.f, s.m, s.d, none]
theorem few_lev2 (ia : ∀ p ∈ a, p.1 ≠ p.2) (ib : ∀ p ∈ b, p.1 ≠ p.2) (h1 : 1 ≤ n) (h6 : n ≤ 6) {k : Nat} (hk : k ≤ n.toNat) : (lev2 n a b k).length ≤ 720 := by
  refine Nat.le_trans (len_of_sub _ (lev n [] k) (lev2_asc ia ib k).nodup fun r hr => ?_) (few_lev (l := []) (fun p hp => by cases hp) h1 h6 hk)
  obtain ⟨p, e⟩ := (mem_lev2 ia ib k r).mp hr
  exact (mem_lev (fun p hp => by cases hp) k r).mpr ⟨⟨p.nd, p.mem, p.len, fun i j _ _ => by simp⟩, e⟩
theorem q_law_maps (ha : House n a) (hb : House n b) (hlen : a.length = b.length) (h6 : n ≤ 6) : run f__law_maps [hD n a, hD n b] = .ok (.list ((mapL n a b).map rowD)) := by
  have h1 := ha.lo
  have ia := ha.irr
  have ib := hb.irr
  obtain ⟨⟨R, p, L, r, hh, f, m, d⟩, ⟨i1, i2, i3, i4, i5, i6, i7, i8⟩, e⟩ := for_ex (S := ZO) (pat := patNm 3) (m := b__law_maps_3) (evZO n a b) (fun j s => s.R = lev2 n a b j ∧ DatO s.p ∧ DatO s.L ∧ DatO s.r ∧ DatO s.h ∧ DatO s.f ∧ DatO s.m ∧ DatO s.d) ((List.range n.toNat).map fun i : Nat => .int (i : Int)) 0 ⟨[[]], none, none, none, none, none, none, none⟩ ⟨rfl, .inl rfl, .inl rfl, .inl rfl, .inl rfl, .inl rfl, .inl rfl, .inl rfl⟩ (by
    rintro j dd ⟨R, p, L, r, hh, f, m, d⟩ hj ⟨i1, i2, i3, i4, i5, i6, i7, i8⟩
    simp only at i1 i2 i3 i4 i5 i6 i7 i8
    rw [Nat.zero_add] at i1 ⊢
    obtain ⟨hjl, hje⟩ := List.getElem?_eq_some_iff.mp hj
    rw [List.length_map, List.length_range] at hjl
    have ed : dd = .int (j : Int) := by
      rw [← hje]
      simp
    subst ed i1
    have hl : ((lev2 n a b j).flatMap (kids2 n a b)).length ≤ 720 := few_lev2 ia ib h1 h6 (k := j + 1) (by omega)
    obtain ⟨r', h', f', m', d', d1, d2, d3, d4, d5, e⟩ := z_mid (n := n) (a := a) (b := b) j h1 ha.hi hjl (lev2 n a b j) (fun r hr => ((mem_lev2 ia ib j r).mp hr).2) hl r hh f m d i4 i5 i6 i7 i8
    refine ⟨_, ⟨lev2 n a b (j + 1), some (.dat (.int (j : Int))), some (.dat (.list ((lev2 n a b (j + 1)).map rowD))), r', h', f', m', d'⟩, by simp only [evZO, patNm_ap, List.getElem?_cons_succ, List.getElem?_cons_zero, put_dat i2]; rfl, ?_, rfl, .inr ⟨_, rfl⟩, .inr ⟨_, rfl⟩, d1, d2, d3, d4, d5⟩
    have e5 : (onPat (patNm 4) (.list []) sNx) [some (.dat (hD n a)), some (.dat (hD n b)), some (.dat (.list ((lev2 n a b j).map rowD))), some (.dat (.int (j : Int))), L, r, hh, f, m, d, none] = .ok .nx (evZ n a b (lev2 n a b j) j r ⟨[], hh, f, m, d⟩) := by
      simp only [onPat_ap, patNm_ap, List.getElem?_cons_succ, List.getElem?_cons_zero, put_dat i3]; rfl
    unfold b__law_maps_3
    show (sSeq _ _) [some (.dat (hD n a)), some (.dat (hD n b)), some (.dat (.list ((lev2 n a b j).map rowD))), some (.dat (.int (j : Int))), L, r, hh, f, m, d, none] = _
    rw [sSeq_ap, sSet_ap, sAsg_ap, bind_ap, dLst_ap]
    simp only [bind_ap, pure_ap, then_ok, keeps_nil, fewD_0, opt_some, keep_val, e5, seqK_nx, sSeq_ap, sFor_ap]
    rw [show dSq (dVar 2) (evZ n a b (lev2 n a b j) j r ⟨[], hh, f, m, d⟩) = .ok ((lev2 n a b j).map rowD) (evZ n a b (lev2 n a b j) j r ⟨[], hh, f, m, d⟩) from rfl, then_ok, e, then_ok, seqK_nx]
    rfl)
  simp only at i1
  rw [Nat.zero_add, List.length_map, List.length_range] at i1
  subst i1
  rw [run_ap, f__law_maps, bodyM_ap]
  have er := rgIt1_ok n (by omega) (by have := ha.hi; omega)
  have e0 : evZO n a b ⟨[[]], none, none, none, none, none, none, none⟩ = [some (.dat (hD n a)), some (.dat (hD n b)), some (.dat (.list [.tuple []])), none, none, none, none, none, none, none, none] := rfl
  rw [e0] at e
  have hsd : mapL n a b = lev2 n a b n.toNat := by unfold mapL; rw [lev2_eq]
  have hld : ∀ l : List Pr, lenD [dD l] = some (.int l.length) := fun l => by unfold dD; simp
  simp [m__law_maps, sFor_ap, er, hld, hlen]
  rw [e]
  simp [evZO, hsd]
/-- none, where the houses differ in size -/
theorem q_law_maps0 {n' : Int} {b : List Pr} (h : n ≠ n' ∨ a.length ≠ b.length) : run f__law_maps [hD n a, hD n' b] = .ok (.list []) := by
  have hld : ∀ l : List Pr, lenD [dD l] = some (.int l.length) := fun l => by unfold dD; simp
  rw [run_ap, f__law_maps, bodyM_ap]
  by_cases c : n = n'
  · have c2 : ¬ ((a.length : Int) = b.length) := by
      rcases h with z | z
      · exact (z c).elim
      · omega
    simp [m__law_maps, hld, c, c2]
  · simp [m__law_maps, hld, c]
end
end K09

/-! SL: k09's law, the program's answers given. -/
namespace K09
open PySem L2 DL
def mapsOf (n : Int) (a : List Pr) (n' : Int) (b : List Pr) : List Row := if n = n' ∧ a.length = b.length then mapL n a b else []
theorem q_maps {n n' : Int} {a b : List Pr} (ha : House n a) (hb : House n' b) (h6 : n ≤ 6) : run f__law_maps [hD n a, hD n' b] = .ok (.list ((mapsOf n a n' b).map rowD)) := by
  unfold mapsOf
  by_cases c : n = n' ∧ a.length = b.length
  · obtain ⟨rfl, c2⟩ := c
    rw [if_pos ⟨rfl, c2⟩]
    exact q_law_maps ha hb c2 h6
  · rw [if_neg c]
    exact q_law_maps0 (by
      by_cases z : n = n'
      · exact .inr fun y => c ⟨z, y⟩
      · exact .inl z)
theorem mapsOf_p {n n' : Int} {a b : List Pr} (ha : House n a) (hb : House n' b) {r : Row} (h : r ∈ mapsOf n a n' b) : isP n r := by
  unfold mapsOf at h
  split at h
  · rename_i c
    obtain ⟨rfl, _⟩ := c
    exact ((mem_mapL ha.irr hb.irr).mp h).p
  · cases h
theorem mapsOf_len {n n' : Int} {a b : List Pr} (ha : House n a) (hb : House n' b) (h6 : n ≤ 6) : (mapsOf n a n' b).length ≤ 720 := by
  unfold mapsOf
  split
  · rename_i c
    obtain ⟨rfl, _⟩ := c
    unfold mapL
    rw [← lev2_eq]
    exact few_lev2 ha.irr hb.irr ha.lo h6 (Nat.le_refl _)
  · simp
/-- what the program is to answer -/
structure LikeOk : Prop where
  like : ∀ (n : Int) (a : List Pr) (n' : Int) (b : List Pr), House n a → House n' b → n ≤ 6 → n' ≤ 6 → (mapsOf n a n' b = [] ∧ run f_like [hD n a, hD n' b] = .ok .none) ∨ ∃ r, r ∈ mapsOf n a n' b ∧ run f_like [hD n a, hD n' b] = .ok (rowD r)
  are : ∀ (n : Int) (a : List Pr) (n' : Int) (b : List Pr), House n a → House n' b → n ≤ 6 → n' ≤ 6 → run f_are_alike [hD n a, hD n' b] = .ok (.bool (!decide (mapsOf n a n' b = [])))
  none : ∀ (n : Int) (a : List Pr) (n' : Int) (b : List Pr), House n a → House n' b → n ≤ 6 → n' ≤ 6 → run f_shows_like [hD n a, hD n' b, .none] = .ok (.bool (decide (mapsOf n a n' b = [])))
  row : ∀ (n : Int) (a : List Pr) (n' : Int) (b : List Pr) (r : Row), House n a → House n' b → n ≤ 6 → n' ≤ 6 → isP n r → run f_shows_like [hD n a, hD n' b, rowD r] = .ok (.bool (decide (r ∈ mapsOf n a n' b)))
  odd : ∀ (n : Int) (a : List Pr) (n' : Int) (b : List Pr) (r : Row) (d : D), House n a → House n' b → n ≤ 6 → n' ≤ 6 → isP n r → d ∈ [.tuple [], .list (ei r), rowD (r ++ [n]), rowD r.dropLast, .tuple (ei r.dropLast ++ [.none]), .tuple (.bool true :: ei r.tail), .int 5, .dict [], rowD (List.replicate n.toNat 0 ++ [0])] →
    run f_shows_like [hD n a, hD n' b, d] = .ok (.bool false)
theorem in_rows (neg : Bool) (r : Row) (L : List Row) : inD neg (rowD r) (.list (L.map rowD)) = some (.bool (if neg then !decide (r ∈ L) else decide (r ∈ L))) := by
  have h1 : SeqAt.shaped (rowD r) = true := (shp_row r).shaped (by omega)
  have h2 : PyData.canLayAll0 (L.map rowD) = true := by
    have h := shp_rows L
    have h3 : (PyData.tuple (L.map rowD)).canLay0 = true := h.1
    simpa [PyData.canLay0] using h3
  have h3 : memD (rowD r) (L.map rowD) = decide (r ∈ L) := by
    unfold memD
    rw [Bool.eq_iff_iff, List.any_eq_true, decide_eq_true_eq]
    constructor
    · rintro ⟨d, hd, e⟩
      obtain ⟨p, hp, rfl⟩ := List.mem_map.mp hd
      rw [eqv_row, decide_eq_true_eq] at e
      rw [← e]; exact hp
    · intro h
      exact ⟨rowD r, List.mem_map.mpr ⟨_, h, rfl⟩, by rw [eqv_row]; simp⟩
  show (if SeqAt.shaped (rowD r) && PyData.canLayAll0 (L.map rowD) then some (PyData.bool (if neg then !memD (rowD r) (L.map rowD) else memD (rowD r) (L.map rowD))) else none) = _
  rw [h1, h2, h3]
  rfl
theorem eq_nil_rows (L : List Row) : eqD (.list (L.map rowD)) (.list []) = some (.bool (decide (L = []))) := by
  have h1 : Shp 2 (.list (L.map rowD)) := shp_list fun d hd => by
    obtain ⟨r, _, rfl⟩ := List.mem_map.mp hd
    exact shp_row r
  rw [eqD_ok h1 (shp_list (n := 1) (l := []) (by simp)) (by omega)]
  cases L <;> simp [PyData.eqv, PyData.eqvAll]
theorem slice_init {r : Row} (h : r ≠ []) : sliceD (rowD r) none (some (-1)) = some (rowD r.dropLast) := by
  have hp : 0 < r.length := List.length_pos_iff.mpr h
  have e1 : HT.sIx (r.map PyData.int).length (r.map PyData.int).length (some (-1)) = r.length - 1 := by
    rw [List.length_map]
    show (if (-1 : Int) < 0 then ((-1 : Int) + (r.length : Int)).toNat else min (-1 : Int).toNat r.length) = _
    rw [if_pos (by decide)]
    omega
  show (if HT.sIx (r.map PyData.int).length 0 none = 0 ∧ HT.sIx (r.map PyData.int).length (r.map PyData.int).length (some (-1)) = (r.map PyData.int).length then some (PyData.tuple (r.map PyData.int)) else some (.tuple (cutD (r.map PyData.int) none (some (-1))))) = _
  rw [if_neg (fun z => by have := z.2; rw [e1, List.length_map] at this; omega)]
  unfold cutD
  rw [e1, HT.sIx_none, List.drop_zero, Nat.sub_zero, ← List.map_take, List.dropLast_eq_take]
theorem slice_tail {r : Row} (h : r ≠ []) : sliceD (rowD r) (some 1) none = some (rowD r.tail) := by
  have hp : 0 < r.length := List.length_pos_iff.mpr h
  have e1 : HT.sIx (r.map PyData.int).length 0 (some 1) = 1 := by
    rw [List.length_map]
    show (if (1 : Int) < 0 then ((1 : Int) + (r.length : Int)).toNat else min (1 : Int).toNat r.length) = _
    rw [if_neg (by decide)]
    have : (1 : Int).toNat = 1 := rfl
    rw [this]
    omega
  show (if HT.sIx (r.map PyData.int).length 0 (some 1) = 0 ∧ HT.sIx (r.map PyData.int).length (r.map PyData.int).length none = (r.map PyData.int).length then some (PyData.tuple (r.map PyData.int)) else some (.tuple (cutD (r.map PyData.int) (some 1) none))) = _
  rw [if_neg (fun z => by have := z.1; rw [e1] at this; cases this)]
  unfold cutD
  rw [e1, HT.sIx_none, ← List.map_drop, ← List.map_take, List.length_map, List.take_of_length_le (by rw [List.length_drop]; exact Nat.le_refl _), List.drop_one]
@[simp] theorem tmul_zero (k : Int) (h1 : 1 ≤ k) (h2 : k ≤ 10) : tmulD (.tuple [.int 0]) (.int k) = some (rowD (List.replicate k.toNat 0)) := by
  by_cases e : k = 1
  · subst e
    rfl
  · show (if k = 1 then _ else if [PyData.int 0] ≠ [] ∧ 2 ≤ k ∧ k ≤ 1000 ∧ [PyData.int 0].length ≤ 1000 then some (PyData.tuple (List.replicate k.toNat [PyData.int 0]).flatten) else none) = _
    rw [if_neg e, if_pos ⟨by simp, by omega, by omega, by simp⟩]
    have : ∀ m : Nat, (List.replicate m [PyData.int 0]).flatten = (List.replicate m (0 : Int)).map PyData.int := fun m => by
      induction m with
      | zero => rfl
      | succ m ih => rw [List.replicate_succ, List.flatten_cons, ih]; rfl
    rw [this]
structure LwS where
  a : RS
  t : Option Sl
  s : Option Sl
def evLw (ns : List Int) (n : Int) (a : List Pr) (n' : Int) (b : List Pr) (told : D) (s : LwS) : List (Option Sl) := [some (.dat (scrD ns)), some (.own (rw ns s.a)), some (.dat (hD n a)), some (.dat (hD n' b)), some (.dat (.list ((mapsOf n a n' b).map rowD))), some (.dat told), s.t, s.s, none, none]
theorem law_for (K : LikeOk) (ns : List Int) {n n' : Int} {a b : List Pr} (ha : House n a) (hb : House n' b) (h6 : n ≤ 6) (h6' : n' ≤ 6) (told : D) (s0 : RS) (hs0 : 0 ≤ s0.i) :
    ∃ (s' : RS) (t' : Option Sl) (r : Row), isP n r ∧ DatO t' ∧ sForL (patNm 6) b_law_1 ((List.range 5).map fun i : Nat => .int (i : Int)) (evLw ns n a n' b told ⟨s0, none, none⟩) = .ok .nx (evLw ns n a n' b told ⟨s', t', some (.dat (rowD r))⟩) := by
  have lm := mapsOf_len ha hb h6
  obtain ⟨⟨s', t', q'⟩, ⟨i1, i2, i3⟩, e⟩ := for_ex (S := LwS) (pat := patNm 6) (m := b_law_1) (evLw ns n a n' b told) (fun j s => 0 ≤ s.a.i ∧ DatO s.t ∧ ((j = 0 ∧ s.s = none) ∨ ∃ r, isP n r ∧ s.s = some (.dat (rowD r)))) ((List.range 5).map fun i : Nat => .int (i : Int)) 0 ⟨s0, none, none⟩ ⟨hs0, .inl rfl, .inl ⟨rfl, rfl⟩⟩ (by
    rintro j d ⟨s, t, q⟩ hj ⟨i1, i2, i3⟩
    simp only at i1 i2 i3
    have hq : DatO q := by
      rcases i3 with ⟨_, e⟩ | ⟨r, _, e⟩
      · exact .inl e
      · exact .inr ⟨_, e⟩
    obtain ⟨r, s1, e1, hp, hs1⟩ := x_turn ns s n i1 (by have := ha.lo; omega) ha.hi
    have hpat : patNm 6 d (evLw ns n a n' b told ⟨s, t, q⟩) = .ok () (evLw ns n a n' b told ⟨s, some (.dat d), q⟩) := by
      simp only [evLw, patNm_ap, List.getElem?_cons_succ, List.getElem?_cons_zero, put_dat i2]; rfl
    have hset1 : sSet 7 (dCall 2 f__law_turn (dCons (dVar 1) (dCons (d2 idxD (dVar 2) (dC (.int 0))) (.pure [])))) (evLw ns n a n' b told ⟨s, some (.dat d), q⟩) = .ok .nx (evLw ns n a n' b told ⟨s1, some (.dat d), some (.dat (rowD r))⟩) := by
      rcases hq with rfl | ⟨z, rfl⟩ <;> (simp [evLw, e1]; rfl)
    have hne := ne_nil_rows (mapsOf n a n' b)
    have key : ∃ (r' : Row) (s2 : RS), isP n r' ∧ 0 ≤ s2.i ∧ sSet 7 (dIf (dAndB (dBool (d2 neD (dVar 4) (dLst (.pure [])))) (dBool (d2 eqD (dCall 2 f__law_taken (dCons (dVar 1) (dCons (dC (.int 3)) (.pure [])))) (dC (.int 0))))) (dCall 2 f__law_pick (dCons (dVar 1) (dCons (dVar 4) (.pure [])))) (dVar 7)) (evLw ns n a n' b told ⟨s1, some (.dat d), some (.dat (rowD r))⟩) = .ok .nx (evLw ns n a n' b told ⟨s2, some (.dat d), some (.dat (rowD r'))⟩) := by
      by_cases c : mapsOf n a n' b = []
      · rw [decide_eq_true c] at hne
        exact ⟨r, s1, hp, hs1, by simp [evLw, hne]⟩
      · rw [decide_eq_false c] at hne
        obtain ⟨v, s2, e2, hv, hs2⟩ := x_taken ns s1 3 hs1 (by omega) (by omega)
        by_cases cv : v = 0
        · subst cv
          obtain ⟨dd, s3, e3, hd, hs3⟩ := x_pick ns s2 ((mapsOf n a n' b).map rowD) hs2 (by simpa using c) (by rw [List.length_map]; omega)
          obtain ⟨r', hr', rfl⟩ := List.mem_map.mp hd
          exact ⟨r', s3, mapsOf_p ha hb hr', hs3, by simp [evLw, hne, e2, e3]⟩
        · exact ⟨r, s2, hp, hs2, by simp [evLw, hne, e2, cv]⟩
    obtain ⟨r', s2, hp', hs2, e2⟩ := key
    refine ⟨_, ⟨s2, some (.dat d), some (.dat (rowD r'))⟩, hpat, ?_, hs2, .inr ⟨_, rfl⟩, .inr ⟨r', hp', rfl⟩⟩
    have e3 := K.row n a n' b r' ha hb h6 h6' hp'
    have e4 := in_rows false r' (mapsOf n a n' b)
    have e5 := q_alike 6 (.bool (decide (r' ∈ mapsOf n a n' b))) trivial
    unfold b_law_1
    rw [sSeq_ap, hset1, then_ok, seqK_nx, sSeq_ap, e2, then_ok, seqK_nx]
    simp [evLw, e3, e4, e5])
  rcases i3 with ⟨z, _⟩ | ⟨r, hp, e3⟩
  · simp at z
  · simp only at e3
    exact ⟨s', t', r, hp, i2, by rw [e, e3]⟩
end K09

/-! SL2: k09's law, on. -/
namespace K09
open PySem L2 DL
def oddL (n : Int) (r : Row) : List D := [.tuple [], .list (ei r), rowD (r ++ [n]), rowD r.dropLast, .tuple (ei r.dropLast ++ [.none]), .tuple (.bool true :: ei r.tail), .int 5, .dict [], rowD (List.replicate n.toNat 0 ++ [0])]
theorem law_end (K : LikeOk) (ns : List Int) {n n' : Int} {a b : List Pr} (ha : House n a) (hb : House n' b) (h6 : n ≤ 6) (h6' : n' ≤ 6) (told : D) (s : RS) (t : Option Sl) (r : Row) (hp : isP n r) :
    (sSeq (sSet 8 (dLst (dCons (dTup (.pure [])) (dCons (dF (nN listF (dCons (dVar 7) (.pure [])))) (dCons (d2 addD (dVar 7) (dTup (dCons (d2 idxD (dVar 2) (dC (.int 0))) (.pure [])))) (dCons (dSlice (dVar 7) (.pure none) (dPart (d1 negD (dC (.int 1))))) (dCons (d2 addD (dSlice (dVar 7) (.pure none) (dPart (d1 negD (dC (.int 1))))) (dTup (dCons (dC .none) (.pure [])))) (.pure []))))))))
    (sSeq (sSet 8 (d2 addD (dVar 8) (dLst (dCons (d2 addD (dTup (dCons (dC (.bool true)) (.pure []))) (dSlice (dVar 7) (dPart (dC (.int 1))) (.pure none))) (dCons (dC (.int 5)) (dCons (dF nDicK) (dCons (d2 addD (d2 tmulD (dTup (dCons (dC (.int 0)) (.pure []))) (d2 idxD (dVar 2) (dC (.int 0)))) (dTup (dCons (dC (.int 0)) (.pure [])))) (.pure []))))))))
    (sSeq (sIf (dBool (d2 notBD (dCall 2 f_are_alike (dCons (dVar 2) (dCons (dVar 2) (.pure [])))) (dC (.bool true)))) (sRet (dC (.bool false))) sNx)
    (sRet (d2 eqD (dF (dLc (dSq (dVar 8)) (patNm 9) (dBool (d2 notBD (dCall 3 f_shows_like (dCons (dVar 2) (dCons (dVar 3) (dCons (dVar 9) (.pure []))))) (dC (.bool false)))) (dVar 9) [9])) (dLst (.pure [])))))))
      (evLw ns n a n' b told ⟨s, t, some (.dat (rowD r))⟩) = .ok (.rt (.bool true)) [some (.dat (scrD ns)), some (.own (rw ns s)), some (.dat (hD n a)), some (.dat (hD n' b)), some (.dat (.list ((mapsOf n a n' b).map rowD))), some (.dat told), t, some (.dat (rowD r)), some (.dat (.list (oddL n r))), none] := by
  have h1 := ha.lo
  have hl := hp.len
  have hne : r ≠ [] := fun z => by rw [z] at hl; simp at hl; omega
  have hrl : r.length ≤ 10 := by have := ha.hi; omega
  have e1 := slice_init hne
  have e2 := slice_tail hne
  have a1 : addD (rowD r) (.tuple [.int n]) = some (rowD (r ++ [n])) := by
    rw [show rowD r = .tuple (ei r) from rfl, add_tup _ _ (by rw [ei_len]; simp only [List.length_singleton]; omega)]
    simp [ei]
  have a2 : addD (rowD r.dropLast) (.tuple [.none]) = some (.tuple (ei r.dropLast ++ [.none])) := by
    rw [show rowD r.dropLast = .tuple (ei r.dropLast) from rfl, add_tup _ _ (by rw [ei_len, List.length_dropLast]; simp only [List.length_singleton]; omega)]
  have a3 : addD (.tuple [.bool true]) (rowD r.tail) = some (.tuple (.bool true :: ei r.tail)) := by
    rw [show rowD r.tail = .tuple (ei r.tail) from rfl, add_tup _ _ (by rw [ei_len, List.length_tail]; simp only [List.length_singleton]; omega)]
    rfl
  have a4 : addD (rowD (List.replicate n.toNat 0)) (.tuple [.int 0]) = some (rowD (List.replicate n.toNat 0 ++ [0])) := by
    rw [show rowD (List.replicate n.toNat 0) = .tuple (ei (List.replicate n.toNat 0)) from rfl, add_tup _ _ (by rw [ei_len, List.length_replicate]; simp only [List.length_singleton]; have := ha.hi; omega)]
    simp [ei]
  have tz := tmul_zero n h1 ha.hi
  have hls : listF [rowD r] = some (ei r) := rfl
  have a5 : addD (.list [.tuple [], .list (ei r), rowD (r ++ [n]), rowD r.dropLast, .tuple (ei r.dropLast ++ [.none])]) (.list [.tuple (.bool true :: ei r.tail), .int 5, .dict [], rowD (List.replicate n.toNat 0 ++ [0])]) = some (.list (oddL n r)) := add_list _ _ (by show 9 ≤ 1000; omega)
  have ear := K.are n a n a ha ha h6 h6
  have hms : mapsOf n a n a ≠ [] := by
    have m : still n ∈ mapsOf n a n a := by
      unfold mapsOf
      rw [if_pos ⟨rfl, rfl⟩]
      refine (mem_mapL ha.irr ha.irr).mpr ⟨isP_still n, fun i j hi hj => by rw [tf_still hi, tf_still hj]⟩
    intro z
    rw [z] at m
    cases m
  rw [decide_eq_false hms] at ear
  have hlc : dLc (dSq (dVar 8)) (patNm 9) (dBool (d2 notBD (dCall 3 f_shows_like (dCons (dVar 2) (dCons (dVar 3) (dCons (dVar 9) (.pure []))))) (dC (.bool false)))) (dVar 9) [9] [some (.dat (scrD ns)), some (.own (rw ns s)), some (.dat (hD n a)), some (.dat (hD n' b)), some (.dat (.list ((mapsOf n a n' b).map rowD))), some (.dat told), t, some (.dat (rowD r)), some (.dat (.list (oddL n r))), none] = .ok (.list []) [some (.dat (scrD ns)), some (.own (rw ns s)), some (.dat (hD n a)), some (.dat (hD n' b)), some (.dat (.list ((mapsOf n a n' b).map rowD))), some (.dat told), t, some (.dat (rowD r)), some (.dat (.list (oddL n r))), none] := by
    rw [lc_pure (fun d : D => d) (fun _ => false) (fun d => d) (oddL n r)]
    · simp
    · simp
    · rfl
    · rfl
    · intro d hd
      have e := K.odd n a n' b r d ha hb h6 h6' hp hd
      exact ⟨_, rfl, by simp [e], fun z => (by cases z), rfl⟩
    · show 9 ≤ 100000; omega
  have hng : negD (.int 1) = some (.int (-1)) := rfl
  have hdk : ∀ ρ : DL.Env, nDicK ρ = .ok (.dict []) ρ := fun _ => rfl
  have hf9 : fewD [.tuple [], .list (ei r), rowD (r ++ [n]), rowD r.dropLast, .tuple (ei r.dropLast ++ [.none])] = some [.tuple [], .list (ei r), rowD (r ++ [n]), rowD r.dropLast, .tuple (ei r.dropLast ++ [.none])] := fewD_5 _ _ _ _ _
  simp only [sSeq_ap, sSet_ap, sAsg_ap, bind_ap, dLst_ap, dCons_ap, dTup_ap, dF_ap, nN_ap, d2_ap, dSlice_ap, dPart_ap, d1_ap, evLw, var_ap, List.getElem?_cons_succ, List.getElem?_cons_zero, varS_dat, then_ok, pure_ap, keeps_nil, keeps_cons, keep_val, fewD_0, opt_some, nows_cons, nows_nil, now_val, hls, dC_ap, idx_hD0, fewD_1, a1, hng, intOf_int, e1, a2, hf9, onPat_ap, patNm_ap, putS_none, pat_ok, sNx_ap, seqK_nx, List.set_cons_succ, List.set_cons_zero, e2, a3, hdk, tz, a4, fewD_4, a5, putS_dat, sIf_ap, dBool_ap, dCall_ap, callI_2, ear, res_ok, notB_b, boolD_b]
  simp only [Bool.not_false, decide_true, Bool.not_true, Bool.false_eq_true, if_false, sNx_ap, then_ok, seqK_nx, sRet_ap, bind_ap, d2_ap, dF_ap, hlc, pure_ap, dLst_ap, keeps_nil, fewD_0, opt_some, now_val, eqD_nil, retIv_val]
theorem law_holds (K : LikeOk) (ns : List Int) : run f_law [scrD ns] = .ok (.bool true) := by
  obtain ⟨n, a, s1, e1, ha, h6, hs1⟩ := x_house 6 (by omega) (by omega) ns ⟨0, 5009, 0⟩ (by decide)
  obtain ⟨t, s2, e2, ht, hs2⟩ := x_turn ns s1 n hs1 (by have := ha.lo; omega) ha.hi
  obtain ⟨e3, hm⟩ := ha.moved ht
  obtain ⟨n2, l2, s3, e4, h2, h26, hs3⟩ := x_house 6 (by omega) (by omega) ns s2 hs2
  obtain ⟨n3, l3, s4, e5, h3, h36, hs4⟩ := x_house 6 (by omega) (by omega) ns s3 hs3
  obtain ⟨d, s5, e6, hd, hs5⟩ := x_pick ns s4 [hD n (srtP (a.map (tm t))), hD n2 l2, hD n3 l3] hs4 (by simp) (by show 3 < 1000; omega)
  obtain ⟨n', b, rfl, hb, h6'⟩ : ∃ n' b, d = hD n' b ∧ House n' b ∧ n' ≤ 6 := by
    simp only [List.mem_cons, List.not_mem_nil, or_false] at hd
    rcases hd with rfl | rfl | rfl
    · exact ⟨_, _, rfl, hm, h6⟩
    · exact ⟨_, _, rfl, h2, h26⟩
    · exact ⟨_, _, rfl, h3, h36⟩
  have em := q_maps ha hb h6
  have ear := K.are n a n' b ha hb h6 h6'
  have eno := K.none n a n' b ha hb h6 h6'
  have hne := ne_nil_rows (mapsOf n a n' b)
  have heq := eq_nil_rows (mapsOf n a n' b)
  have al1 := q_alike 6 (.bool (!decide (mapsOf n a n' b = []))) trivial
  have al2 := q_alike 6 (.bool (decide (mapsOf n a n' b = []))) trivial
  have told : ∃ told, run f_like [hD n a, hD n' b] = .ok told ∧ isNoneD false told .none = some (.bool (decide (mapsOf n a n' b = []))) ∧ (dOrB (dAndB (dBool (d2 (isNoneD true) (dVar 5) (dC .none))) (dBool (d2 (inD true) (dVar 5) (dVar 4)))) (dBool (d2 notBD (dCall 3 f_shows_like (dCons (dVar 2) (dCons (dVar 3) (dCons (dVar 5) (.pure []))))) (dC (.bool true))))) (evLw ns n a n' b told ⟨s5, none, none⟩) = .ok false (evLw ns n a n' b told ⟨s5, none, none⟩) := by
    rcases K.like n a n' b ha hb h6 h6' with ⟨c, e⟩ | ⟨r, hr, e⟩
    · rw [decide_eq_true c] at eno
      exact ⟨.none, e, by simp [c], by simp [evLw, eno]⟩
    · have hmn : mapsOf n a n' b ≠ [] := fun z => by rw [z] at hr; cases hr
      have er := K.row n a n' b r ha hb h6 h6' (mapsOf_p ha hb hr)
      rw [decide_eq_true hr] at er
      have hin := in_rows true r (mapsOf n a n' b)
      refine ⟨rowD r, e, ?_, ?_⟩
      · rw [decide_eq_false hmn]; rfl
      · simp [evLw, hin, hr, er]
  obtain ⟨told, el, en, ec⟩ := told
  obtain ⟨s6, t6, r6, hp6, ht6, ef⟩ := law_for K ns ha hb h6 h6' told s5 hs5
  have eend := law_end K ns ha hb h6 h6' told s6 t6 r6 hp6
  have er5 := rgIt1_ok 5 (by omega) (by omega)
  have er5' : rgIt1 [.int 5] = some ((List.range 5).map fun i : Nat => .int (i : Int)) := er5
  rw [run_ap, f_law, bodyM_ap]
  unfold m_law
  have hrow : (PyData.list [scrD ns, .int 0, .int 5009, .int 0]) = rw ns ⟨0, 5009, 0⟩ := rfl
  rw [sSeq_ap]
  have st1 : sSetO 1 (nLst (dCons (dVar 0) (dCons (dC (.int 0)) (dCons (dC (.int 5009)) (dCons (dC (.int 0)) (.pure [])))))) ((List.map (fun d => some (Sl.dat d)) [scrD ns]) ++ List.replicate (10 - (List.map (fun d => some (Sl.dat d)) [scrD ns]).length) none) = .ok .nx [some (.dat (scrD ns)), some (.own (rw ns ⟨0, 5009, 0⟩)), none, none, none, none, none, none, none, none] := by
    simp
    rfl
  rw [st1, then_ok, seqK_nx, sSeq_ap]
  have st2 : sSet 2 (dCall 2 f__law_house (dCons (dVar 1) (dCons (dC (.int 6)) (.pure [])))) [some (.dat (scrD ns)), some (.own (rw ns ⟨0, 5009, 0⟩)), none, none, none, none, none, none, none, none] = .ok .nx [some (.dat (scrD ns)), some (.own (rw ns s1)), some (.dat (hD n a)), none, none, none, none, none, none, none] := by
    simp [e1]
  rw [st2, then_ok, seqK_nx, sSeq_ap]
  have st3 : sSet 3 (dCall 2 f__law_pick (dCons (dVar 1) (dCons (dLst (dCons (dCall 2 f__law_moved (dCons (dVar 2) (dCons (dCall 2 f__law_turn (dCons (dVar 1) (dCons (d2 idxD (dVar 2) (dC (.int 0))) (.pure [])))) (.pure [])))) (dCons (dCall 2 f__law_house (dCons (dVar 1) (dCons (dC (.int 6)) (.pure [])))) (dCons (dCall 2 f__law_house (dCons (dVar 1) (dCons (dC (.int 6)) (.pure [])))) (.pure []))))) (.pure [])))) [some (.dat (scrD ns)), some (.own (rw ns s1)), some (.dat (hD n a)), none, none, none, none, none, none, none] = .ok .nx [some (.dat (scrD ns)), some (.own (rw ns s5)), some (.dat (hD n a)), some (.dat (hD n' b)), none, none, none, none, none, none] := by
    simp [e2, e3, e4, e5, e6]
  rw [st3, then_ok, seqK_nx, sSeq_ap]
  have st4 : sSet 4 (dCall 2 f__law_maps (dCons (dVar 2) (dCons (dVar 3) (.pure [])))) [some (.dat (scrD ns)), some (.own (rw ns s5)), some (.dat (hD n a)), some (.dat (hD n' b)), none, none, none, none, none, none] = .ok .nx [some (.dat (scrD ns)), some (.own (rw ns s5)), some (.dat (hD n a)), some (.dat (hD n' b)), some (.dat (.list ((mapsOf n a n' b).map rowD))), none, none, none, none, none] := by
    simp [em]
  rw [st4, then_ok, seqK_nx, sSeq_ap]
  have st5 : sSet 5 (dCall 2 f_like (dCons (dVar 2) (dCons (dVar 3) (.pure [])))) [some (.dat (scrD ns)), some (.own (rw ns s5)), some (.dat (hD n a)), some (.dat (hD n' b)), some (.dat (.list ((mapsOf n a n' b).map rowD))), none, none, none, none, none] = .ok .nx (evLw ns n a n' b told ⟨s5, none, none⟩) := by
    simp [el, evLw]
  rw [st5, then_ok, seqK_nx, sSeq_ap]
  have st6 : sIf (dOrB (dNotB (dTru (dCall 2 (f__law_alike 6) (dCons (dCall 2 f_are_alike (dCons (dVar 2) (dCons (dVar 3) (.pure [])))) (dCons (d2 neD (dVar 4) (dLst (.pure []))) (.pure [])))))) (dBool (d2 neD (d2 (isNoneD false) (dVar 5) (dC .none)) (d2 eqD (dVar 4) (dLst (.pure [])))))) (sRet (dC (.bool false))) sNx (evLw ns n a n' b told ⟨s5, none, none⟩) = .ok .nx (evLw ns n a n' b told ⟨s5, none, none⟩) := by
    simp [evLw, ear, hne, al1, en, heq]
  rw [st6, then_ok, seqK_nx, sSeq_ap, sIf_ap, bind_ap, ec, then_ok, if_neg (by decide), sNx_ap, then_ok, seqK_nx, sSeq_ap]
  have st7 : sIf (dNotB (dTru (dCall 2 (f__law_alike 6) (dCons (dCall 3 f_shows_like (dCons (dVar 2) (dCons (dVar 3) (dCons (dC .none) (.pure []))))) (dCons (d2 eqD (dVar 4) (dLst (.pure []))) (.pure [])))))) (sRet (dC (.bool false))) sNx (evLw ns n a n' b told ⟨s5, none, none⟩) = .ok .nx (evLw ns n a n' b told ⟨s5, none, none⟩) := by
    simp [evLw, eno, heq, al2]
  rw [st7, then_ok, seqK_nx, sSeq_ap]
  have st8 : sFor (dRg1 (dCons (dC (.int 5)) (.pure []))) (patNm 6) b_law_1 (evLw ns n a n' b told ⟨s5, none, none⟩) = .ok .nx (evLw ns n a n' b told ⟨s6, t6, some (.dat (rowD r6))⟩) := by
    rw [sFor_ap]
    simp only [bind_ap, dRg1_ap, dCons_ap, dC_ap, then_ok, pure_ap, nows_cons, nows_nil, now_val, er5', opt_some]
    exact ef
  rw [st8, then_ok, seqK_nx, eend]
  rfl
end K09

/-! T1: marks, choices. -/
namespace K09
open PySem L2 DL
def mrk (l : List Pr) (h : Int) : Pr := (((l.map (·.1)).count h : Nat), ((l.map (·.2)).count h : Nat))
def marksL (n : Int) (l : List Pr) : List Pr := (rng n).map (mrk l)
theorem marksL_len (n : Int) (l : List Pr) : (marksL n l).length = n.toNat := by unfold marksL; rw [List.length_map, rng_len]
theorem er_rng {n : Int} (h1 : 0 ≤ n) (h2 : n ≤ 1000) : rgIt1 [.int n] = some (ei (rng n)) := by
  rw [rgIt1_ok n (by omega) (by omega)]
  unfold ei rng
  rw [List.map_map]
  rfl
theorem q_marks_of (n : Int) (l : List Pr) (h1 : 0 ≤ n) (h2 : n ≤ 1000) (hl : l.length ≤ 1000) : run f_marks_of [hD n l] = .ok (.list ((marksL n l).map pD)) := by
  have b1 : dLc (dSq (d2 idxD (dVar 0) (dC (.int 1)))) (patTup (patCons (patNm 3) (patCons (patNm 4) patNil))) (.pure true) (dVar 3) [3, 4] [some (.dat (hD n l)), none, none, none, none, none] = .ok (.list ((l.map (·.1)).map .int)) [some (.dat (hD n l)), none, none, none, none, none] := by
    rw [lc_map pD (fun p => .int p.1) l]
    · simp only [List.map_map, Function.comp_def]
    · simp [hD, dD]
    · rfl
    · rfl
    · intro p _
      exact ⟨_, rfl, by simp, rfl⟩
    · show _ ≤ 100000; omega
  have b2 : dLc (dSq (d2 idxD (dVar 0) (dC (.int 1)))) (patTup (patCons (patNm 3) (patCons (patNm 4) patNil))) (.pure true) (dVar 4) [3, 4] [some (.dat (hD n l)), some (.dat (.list ((l.map (·.1)).map .int))), none, none, none, none] = .ok (.list ((l.map (·.2)).map .int)) [some (.dat (hD n l)), some (.dat (.list ((l.map (·.1)).map .int))), none, none, none, none] := by
    rw [lc_map pD (fun p => .int p.2) l]
    · simp only [List.map_map, Function.comp_def]
    · simp [hD, dD]
    · rfl
    · rfl
    · intro p _
      exact ⟨_, rfl, by simp, rfl⟩
    · show _ ≤ 100000; omega
  have er := er_rng (n := n) h1 h2
  have b3 : dLc (dRg1 (dCons (d2 idxD (dVar 0) (dC (.int 0))) (.pure []))) (patNm 5) (.pure true) (dTup (dCons (dCnt (dVar 1) (dCons (dVar 5) (.pure []))) (dCons (dCnt (dVar 2) (dCons (dVar 5) (.pure []))) (.pure [])))) [5] [some (.dat (hD n l)), some (.dat (.list ((l.map (·.1)).map .int))), some (.dat (.list ((l.map (·.2)).map .int))), none, none, none] = .ok (.list ((marksL n l).map pD)) [some (.dat (hD n l)), some (.dat (.list ((l.map (·.1)).map .int))), some (.dat (.list ((l.map (·.2)).map .int))), none, none, none] := by
    rw [lc_map (fun i : Int => .int i) (fun i => pD (mrk l i)) (rng n)]
    · unfold marksL; simp only [List.map_map, Function.comp_def]
    · simp [er]
      rfl
    · rfl
    · rfl
    · intro i _
      have c1 := cntD_ints (l.map (·.1)) i
      have c2 := cntD_ints (l.map (·.2)) i
      exact ⟨_, rfl, by simp [-List.map_map, c1, c2, mrk, pD_eq], rfl⟩
    · rw [rng_len]; show _ ≤ 100000; omega
  rw [run_ap, f_marks_of, bodyM_ap]
  simp [-List.map_map, m_marks_of, b1, b2, b3]
def chL (n' : Int) (b : List Pr) (m : Pr) : List Int := (rng n').filter fun h => decide (mrk b h = m)
theorem eqv_pD (p q : Pr) : eqD (pD p) (pD q) = some (.bool (decide (p = q))) := by
  obtain ⟨x, y⟩ := q
  unfold pD
  rw [eqD_ok (shp_row _) (shp_row _) (by omega)]
  show some (PyData.bool (PyData.eqv (pD p) (.tuple [.int x, .int y]))) = _
  rw [eqv_pr]
theorem q_choices_of (n n' : Int) (a b : List Pr) (h1 : 0 ≤ n) (h2 : n ≤ 1000) (h1' : 0 ≤ n') (h2' : n' ≤ 1000) (ha : a.length ≤ 1000) (hb : b.length ≤ 1000) :
    run f_choices_of [hD n a, hD n' b] = .ok (.list ((marksL n a).map fun m => .list (ei (chL n' b m)))) := by
  have m1 := q_marks_of n a h1 h2 ha
  have m2 := q_marks_of n' b h1' h2' hb
  have key : dLc (dSq (dCall 1 f_marks_of (dCons (dVar 0) (.pure [])))) (patNm 3) (.pure true) (dF (dLc (dEnumL (dVar 2)) (patTup (patCons (patNm 4) (patCons (patNm 5) patNil))) (dBool (d2 eqD (dVar 5) (dVar 3))) (dVar 4) [4, 5])) [3]
      [some (.dat (hD n a)), some (.dat (hD n' b)), some (.dat (.list ((marksL n' b).map pD))), none, none, none] = .ok (.list ((marksL n a).map fun m => .list (ei (chL n' b m)))) [some (.dat (hD n a)), some (.dat (hD n' b)), some (.dat (.list ((marksL n' b).map pD))), none, none, none] := by
    rw [lc_map pD (fun m => .list (ei (chL n' b m))) (marksL n a)]
    · simp [m1]
    · rfl
    · rfl
    · intro m _
      have inner : dLc (dEnumL (dVar 2)) (patTup (patCons (patNm 4) (patCons (patNm 5) patNil))) (dBool (d2 eqD (dVar 5) (dVar 3))) (dVar 4) [4, 5] [some (.dat (hD n a)), some (.dat (hD n' b)), some (.dat (.list ((marksL n' b).map pD))), some (.dat (pD m)), none, none] = .ok (.list (ei (chL n' b m))) [some (.dat (hD n a)), some (.dat (hD n' b)), some (.dat (.list ((marksL n' b).map pD))), some (.dat (pD m)), none, none] := by
        rw [lc_pure (fun h : Int => .tuple [.int h, pD (mrk b h)]) (fun h => decide (mrk b h = m)) (fun h => .int h) (rng n')]
        · rfl
        · have : enumD 0 ((marksL n' b).map pD) = (rng n').map fun h : Int => PyData.tuple [.int h, pD (mrk b h)] := by
            apply List.ext_getElem?
            intro i
            rw [enumD_get, List.getElem?_map, List.getElem?_map]
            unfold marksL rng
            rw [List.map_map, List.getElem?_map, List.getElem?_map]
            by_cases h : i < n'.toNat
            · rw [List.getElem?_range h]; simp
            · rw [List.getElem?_eq_none (by simpa using h)]; rfl
          simp [-List.map_map, this]
        · rfl
        · rfl
        · intro h _
          have e := eqv_pD (mrk b h) m
          exact ⟨_, rfl, by simp [e], fun _ => by simp, rfl⟩
        · rw [rng_len]; show _ ≤ 100000; omega
      exact ⟨_, rfl, by simp [-List.map_map, inner], rfl⟩
    · rw [marksL_len]; show _ ≤ 100000; omega
  rw [run_ap, f_choices_of, bodyM_ap]
  simp [-List.map_map, m_choices_of, m2, key]
end K09

/-! T2: goes_on. -/
namespace K09
open PySem L2 DL
structure GS1 where
  a : Option Sl
  b : Option Sl
def evG (a b : List Pr) (r : Row) (h : Int) (s : GS1) : List (Option Sl) := [some (.bor (ddD a)), some (.bor (ddD b)), some (.dat (rowD r)), some (.dat (.int h)), some (.dat (.int (r.length : Int))), s.a, s.b]
theorem q_goes_on (a b : List Pr) (r : Row) (h : Int) : f_goes_on [some (.bor (ddD a)), some (.bor (ddD b)), some (.dat (rowD r)), some (.dat (.int h))] = .ok (.bool (ext2 a b r h)) [some (.bor (ddD a)), some (.bor (ddD b)), some (.dat (rowD r)), some (.dat (.int h))] := by
  rw [f_goes_on, bodyM_ap, ext2_eq]
  by_cases hm : h ∈ r
  · simp [m_goes_on, hm, show rowD r = .tuple (ei r) from rfl, in_row, outE]
  · have e := for_exR (S := GS1) (pat := patTup (patCons (patNm 5) (patCons (patNm 6) patNil))) (m := b_goes_on_1) (evG a b r h) (fun j s => (∀ i, i < j → okAt2 a b r h i = true) ∧ DatO s.a ∧ DatO s.b) (fun c ρ => (c = .bool false ∧ ∃ s, ρ = evG a b r h s) ∧ (List.range r.length).all (okAt2 a b r h) = false) (enumD 0 (ei r)) 0 ⟨none, none⟩ ⟨fun i hi => absurd hi (Nat.not_lt_zero i), .inl rfl, .inl rfl⟩ (by
      rintro j d ⟨s1, s2⟩ hj ⟨i1, i2, i3⟩
      simp only at i1 i2 i3
      rw [Nat.zero_add] at i1 ⊢
      rw [enumD_get] at hj
      unfold ei at hj
      rw [List.getElem?_map, Option.map_map] at hj
      obtain ⟨x, hx, rfl⟩ := Option.map_eq_some_iff.mp hj
      obtain ⟨hjl, hxe⟩ := List.getElem?_eq_some_iff.mp hx
      have eg : r.getD j 0 = x := by rw [List.getD_eq_getElem?_getD, hx]; rfl
      refine ⟨evG a b r h ⟨some (.dat (.int ((0 + j : Nat) : Int))), some (.dat (.int x))⟩, ?_, ?_⟩
      · simp [evG, put_dat i2, put_dat i3]
      · cases w : okAt2 a b r h j with
        | true =>
          refine .inl ⟨.nx, ⟨some (.dat (.int ((0 + j : Nat) : Int))), some (.dat (.int x))⟩, .inl rfl, ?_, fun i hi => ?_, .inr ⟨_, rfl⟩, .inr ⟨_, rfl⟩⟩
          · unfold okAt2 at w
            rw [eg, Bool.and_eq_true, beq_iff_eq, beq_iff_eq] at w
            simp [b_goes_on_1, evG, din_dd, w.1, w.2]
          · by_cases e : i = j
            · rw [e]; exact w
            · exact i1 i (by omega)
        | false =>
          have all : (List.range r.length).all (okAt2 a b r h) = false := by
            rw [List.all_eq_false]
            exact ⟨j, List.mem_range.mpr hjl, by rw [w]; simp⟩
          refine .inr ⟨.bool false, evG a b r h ⟨some (.dat (.int ((0 + j : Nat) : Int))), some (.dat (.int x))⟩, ⟨⟨rfl, _, rfl⟩, all⟩, ?_⟩
          · unfold okAt2 at w
            rw [eg] at w
            by_cases w1 : (decide (((j : Int), (r.length : Int)) ∈ a) == decide ((x, h) ∈ b)) = true
            · rw [w1, Bool.true_and] at w
              rw [beq_iff_eq] at w1
              simp [b_goes_on_1, evG, din_dd, w1, w]
            · have w1 : (decide (((j : Int), (r.length : Int)) ∈ a) == decide ((x, h) ∈ b)) = false := by simpa using w1
              simp [b_goes_on_1, evG, din_dd, w1])
    have e0 : evG a b r h ⟨none, none⟩ = [some (.bor (ddD a)), some (.bor (ddD b)), some (.dat (.tuple (ei r))), some (.dat (.int h)), some (.dat (.int (r.length : Int))), none, none] := rfl
    rcases e with ⟨s, ⟨i1, _⟩, e⟩ | ⟨c, ρe, ⟨⟨rfl, s, rfl⟩, all⟩, e⟩
    · rw [Nat.zero_add, enumD_len, ei_len] at i1
      have all : (List.range r.length).all (okAt2 a b r h) = true := by
        rw [List.all_eq_true]
        intro i hi
        exact i1 i (List.mem_range.mp hi)
      rw [e0] at e
      simp [m_goes_on, hm, show rowD r = .tuple (ei r) from rfl, in_row, sFor_ap, ei_len, e, all, evG, outE]
    · rw [e0] at e
      simp [m_goes_on, hm, show rowD r = .tuple (ei r) from rfl, in_row, sFor_ap, ei_len, e, all, evG, outE]
structure LS where
  fs : List Row
  ws : List Row
  a : Option Sl
  b : Option Sl
def evL (n : Int) (a : List Pr) (b : List Pr) (most : Int) (ch : D) (s : LS) : List (Option Sl) := [some (.dat (hD n a)), some (.dat (hD n b)), some (.dat (.int most)), some (.dat (.int n)), some (.own (ddD a)), some (.own (ddD b)), some (.dat ch), some (.own (.list (s.fs.map rowD))), some (.own (.list (s.ws.map rowD))), s.a, s.b, none]
theorem call_goes (n : Int) (a b : List Pr) (most : Int) (ch : D) (s : LS) (r : Row) (h : Int) : callI 4 f_goes_on [.sl 4, .sl 5, .val (rowD r), .val (.int h)] (evL n a b most ch s) = .ok (.val (.bool (ext2 a b r h))) (evL n a b most ch s) := by
  have e := q_goes_on a b r h
  unfold callI
  rw [if_pos (by simp [slots])]
  simp only [evL, mkArgs, List.getElem?_cons_succ, List.getElem?_cons_zero, Sl.isM, if_true, Option.map_some, Sl.d, e]
  cases s.a <;> cases s.b <;> rfl
end K09

/-! T3: maps with choices; least_maps. -/
namespace K09
open PySem L2 DL
/-! ### maps, hall by hall, over what may be chosen -/
def kids3 (n : Int) (a b : List Pr) (r : Row) : List Row := ((chL n b (mrk a (r.length : Int))).filter (ext2 a b r)).map fun h => r ++ [h]
def leaves3 (n : Int) (a b : List Pr) : Nat → Row → List Row
  | 0, r => [r]
  | k + 1, r => (kids3 n a b r).flatMap (leaves3 n a b k)
def mapL3 (n : Int) (a b : List Pr) : List Row := leaves3 n a b n.toNat []
def cnt3 (n : Int) (a b : List Pr) : Nat → Row → Nat
  | 0, _ => 1
  | j + 1, r => 1 + ((kids3 n a b r).map (cnt3 n a b j)).sum
theorem kids3_len (n : Int) (a b : List Pr) (r : Row) : (kids3 n a b r).length ≤ n.toNat := by
  unfold kids3 chL
  rw [List.length_map]
  have h1 := List.length_filter_le (ext2 a b r) ((rng n).filter fun h => decide (mrk b h = mrk a (r.length : Int)))
  have h2 := List.length_filter_le (fun h => decide (mrk b h = mrk a (r.length : Int))) (rng n)
  rw [rng_len] at h2
  exact Nat.le_trans h1 h2
theorem cnt3_le (n : Int) (h2 : n ≤ 10) (a b : List Pr) : ∀ (j : Nat) (r : Row), cnt3 n a b j r ≤ 11 ^ j
  | 0, r => by simp [cnt3]
  | j + 1, r => by
    have h1 := sum_le (cnt3 n a b j) (11 ^ j) (kids3 n a b r) fun x _ => cnt3_le n h2 a b j x
    have h3 := kids3_len n a b r
    have h4 : (kids3 n a b r).length * 11 ^ j ≤ 10 * 11 ^ j := Nat.mul_le_mul_right _ (by omega)
    have h5 : 0 < 11 ^ j := Nat.pow_pos (by decide)
    unfold cnt3
    rw [Nat.pow_succ]
    omega
/-- a stack is not high -/
def Low (n : Int) (ws : List Row) : Prop := ∀ i r, ws[i]? = some r → i ≤ n.toNat * r.length ∧ r.length ≤ n.toNat
theorem Low.len {n : Int} {ws : List Row} (h : Low n ws) (h1 : 0 ≤ n) (h2 : n ≤ 10) : ws.length ≤ 101 := by
  by_cases e : ws.length = 0
  · omega
  · have hl : ws.length - 1 < ws.length := by omega
    obtain ⟨q1, q2⟩ := h (ws.length - 1) ws[ws.length - 1] (List.getElem?_eq_getElem hl)
    have a1 : n.toNat ≤ 10 := by omega
    have a2 : n.toNat * (ws[ws.length - 1]).length ≤ 10 * 10 := Nat.mul_le_mul a1 (by omega)
    omega
def left (n : Int) (a b : List Pr) (ws : List Row) : Nat := (ws.map fun r => cnt3 n a b (n.toNat - r.length) r).sum
theorem left_snoc (n : Int) (a b : List Pr) (ws : List Row) (r : Row) : left n a b (ws ++ [r]) = left n a b ws + cnt3 n a b (n.toNat - r.length) r := by
  unfold left
  simp
theorem left_rev (n : Int) (a b : List Pr) (ws vs : List Row) : left n a b (ws ++ vs.reverse) = left n a b ws + left n a b vs := by
  unfold left
  rw [List.map_append, List.sum_append, List.map_reverse, List.sum_reverse]
theorem left_kids (n : Int) (a b : List Pr) (r : Row) (h : r.length < n.toNat) : cnt3 n a b (n.toNat - r.length) r = 1 + left n a b (kids3 n a b r) := by
  obtain ⟨j, hj⟩ : ∃ j, n.toNat - r.length = j + 1 := ⟨n.toNat - r.length - 1, by omega⟩
  rw [hj]
  show 1 + ((kids3 n a b r).map (cnt3 n a b j)).sum = _
  unfold left
  congr 2
  apply List.map_congr_left
  intro s hs
  unfold kids3 at hs
  obtain ⟨x, _, rfl⟩ := List.mem_map.mp hs
  rw [show n.toNat - (r ++ [x]).length = j by rw [List.length_append]; simp; omega]
/-- what is still to come out of a stack -/
def come (n : Int) (a b : List Pr) (ws : List Row) : List Row := ws.reverse.flatMap fun r => leaves3 n a b (n.toNat - r.length) r
theorem come_snoc (n : Int) (a b : List Pr) (ws : List Row) (r : Row) : come n a b (ws ++ [r]) = leaves3 n a b (n.toNat - r.length) r ++ come n a b ws := by
  unfold come
  simp
theorem come_kids (n : Int) (a b : List Pr) (ws : List Row) (r : Row) (h : r.length < n.toNat) : come n a b (ws ++ (kids3 n a b r).reverse) = leaves3 n a b (n.toNat - r.length) r ++ come n a b ws := by
  obtain ⟨j, hj⟩ : ∃ j, n.toNat - r.length = j + 1 := ⟨n.toNat - r.length - 1, by omega⟩
  unfold come
  rw [List.reverse_append, List.reverse_reverse, List.flatMap_append, hj]
  congr 1
  show _ = (kids3 n a b r).flatMap (leaves3 n a b j)
  refine fm_same _ fun s hs => ?_
  unfold kids3 at hs
  obtain ⟨x, _, rfl⟩ := List.mem_map.mp hs
  rw [show n.toNat - (r ++ [x]).length = j by rw [List.length_append]; simp; omega]
theorem low_kids {n : Int} {a b : List Pr} {ws : List Row} {r : Row} (h : Low n (ws ++ [r])) (hr : r.length < n.toNat) : Low n (ws ++ (kids3 n a b r).reverse) := by
  intro i s hs
  by_cases w : i < ws.length
  · rw [List.getElem?_append_left w] at hs
    exact h i s (by rw [List.getElem?_append_left w]; exact hs)
  · have hl := (h ws.length r (by simp)).1
    have hi : i < (ws ++ (kids3 n a b r).reverse).length := (List.getElem?_eq_some_iff.mp hs).1
    rw [List.length_append, List.length_reverse] at hi
    have hk := kids3_len n a b r
    rw [List.getElem?_append_right (by omega)] at hs
    have hm : s ∈ kids3 n a b r := List.mem_reverse.mp (List.mem_of_getElem? hs)
    unfold kids3 at hm
    obtain ⟨x, _, rfl⟩ := List.mem_map.mp hm
    rw [List.length_append, List.length_singleton, Nat.mul_add, Nat.mul_one]
    omega
theorem low_pop {n : Int} {ws : List Row} {r : Row} (h : Low n (ws ++ [r])) : Low n ws := fun i s hs => h i s (by
  rw [List.getElem?_append_left (List.getElem?_eq_some_iff.mp hs).1]; exact hs)
theorem dd_compG (i : Nat) (l : List Pr) (nd : l.Nodup) (hl : l.length < 1000) (ρ : DL.Env) (mi : M (List D)) (hi : mi ρ = .ok (l.map pD) ρ) (h8 : ρ[i]? = some none) :
    dCG addN [] mi (patNm i) (.pure true) (dCons (dVar i) (dCons (dC (.bool true)) (.pure []))) [i] ρ = .ok (ddL l) ρ := by
  have hset : ρ.set i none = ρ := by
    apply List.ext_getElem?
    intro j
    rw [List.getElem?_set]
    split
    · rename_i e; subst e
      obtain ⟨q1, q2⟩ := List.getElem?_eq_some_iff.mp h8
      rw [if_pos q1, h8]
    · rfl
  have hlen : i < ρ.length := (List.getElem?_eq_some_iff.mp h8).1
  have key : ∃ acc', acc' = ddL (l.take l.length) ∧ dCG addN [] mi (patNm i) (.pure true) (dCons (dVar i) (dCons (dC (.bool true)) (.pure []))) [i] ρ = .ok acc' ρ := by
    refine cg_ix (add := addN) (acc0 := []) (mi := mi) (pat := patNm i) (mt := .pure true) (ma := dCons (dVar i) (dCons (dC (.bool true)) (.pure []))) (vs := [i]) (ρ := ρ) pD (fun p => [pD p, .bool true]) (fun j acc => acc = ddL (l.take j)) l (by simp [ddL]) hi (by simp [cleanV, h8]) (by simp [restE, wipeE, h8, hset]) ?_ ?_
    · intro p _
      simp only [wipe_cons, wipe_nil, hset]
      refine ⟨ρ.set i (some (.dat (pD p))), by rw [patNm_ap, h8]; rfl, rfl, ?_, ?_⟩
      · simp [hlen]
      · rw [List.set_set, hset]
    · rintro j p acc hj rfl
      obtain ⟨hjl, hje⟩ := List.getElem?_eq_some_iff.mp hj
      refine ⟨_, ?_, rfl⟩
      have hx : p ∉ l.take j := fun z => by
        obtain ⟨k, hk, he⟩ := List.mem_iff_getElem.mp z
        rw [List.length_take] at hk
        rw [List.getElem_take] at he
        have := (List.getElem_inj nd).mp (he.trans hje.symm)
        omega
      have hp : tupK (pD p) = true := by rw [pD_eq]; exact tupK_pr _ _
      show (if tupK (pD p) = true ∧ (ddL (l.take j)).length < LIM then _ else _) = _
      rw [if_pos ⟨hp, by unfold ddL; rw [List.length_map, List.length_take]; show _ < 100000; omega⟩, put_dd _ p hx, List.take_succ, hj]
      rfl
  obtain ⟨acc, rfl, e⟩ := key
  rw [e, List.take_length]
end K09

/-! T4: a map keeps how many doors there are. -/
namespace K09
open PySem L2 DL
theorem count_inj {α : Type} [DecidableEq α] {β : Type} [DecidableEq β] (f : α → β) (x : α) : ∀ l : List α, (∀ y ∈ l, f y = f x → y = x) → (l.map f).count (f x) = l.count x
  | [], _ => rfl
  | y :: l, h => by
    have ih := count_inj f x l fun z hz => h z (List.mem_cons_of_mem _ hz)
    rw [List.map_cons, List.count_cons, List.count_cons, ih]
    by_cases e : y = x
    · subst e; simp
    · have e2 : f y ≠ f x := fun z => e (h y List.mem_cons_self z)
      simp [e, e2]
section
variable {n : Int} {a b : List Pr}
theorem Map2.perm (ha : House n a) (hb : House n b) {r : Row} (m : Map2 n a b r) : (a.map (tm r)).Perm b := by
  have inA : ∀ p ∈ a, inH n p.1 = true ∧ inH n p.2 = true := fun p hp => ⟨(okDoor_iff.mp (ha.ok p hp)).1, (okDoor_iff.mp (ha.ok p hp)).2.1⟩
  have inB : ∀ p ∈ b, inH n p.1 = true ∧ inH n p.2 = true := fun p hp => ⟨(okDoor_iff.mp (hb.ok p hp)).1, (okDoor_iff.mp (hb.ok p hp)).2.1⟩
  have nd : (a.map (tm r)).Nodup := nodup_map_on ha.nd fun x hx y hy e => by
    have e1 : tf r x.1 = tf r y.1 := congrArg Prod.fst e
    have e2 : tf r x.2 = tf r y.2 := congrArg Prod.snd e
    exact Prod.ext (m.p.inj (inA x hx).1 (inA y hy).1 e1) (m.p.inj (inA x hx).2 (inA y hy).2 e2)
  refine (List.perm_ext_iff_of_nodup nd hb.nd).mpr fun q => ?_
  rw [List.mem_map]
  constructor
  · rintro ⟨p, hp, rfl⟩
    exact (m.keep p.1 p.2 (inA p hp).1 (inA p hp).2).mp hp
  · intro hq
    have onto : ∀ j, inH n j = true → ∃ i, inH n i = true ∧ tf r i = j := fun j hj => by
      obtain ⟨k, hk, e⟩ := List.mem_iff_getElem.mp (m.p.mem.mpr hj)
      refine ⟨(k : Int), nat_inH (by rw [← m.p.len]; exact hk), ?_⟩
      rw [tf_at hk, e]
    obtain ⟨i, hi, e1⟩ := onto q.1 (inB q hq).1
    obtain ⟨j, hj, e2⟩ := onto q.2 (inB q hq).2
    refine ⟨(i, j), (m.keep i j hi hj).mpr (by rw [e1, e2]; exact hq), ?_⟩
    show (tf r i, tf r j) = q
    rw [e1, e2]
theorem Map2.mrk (ha : House n a) (hb : House n b) {r : Row} (m : Map2 n a b r) {i : Int} (hi : inH n i = true) : mrk b (tf r i) = mrk a i := by
  have inA : ∀ p ∈ a, inH n p.1 = true ∧ inH n p.2 = true := fun p hp => ⟨(okDoor_iff.mp (ha.ok p hp)).1, (okDoor_iff.mp (ha.ok p hp)).2.1⟩
  have pm := m.perm ha hb
  have c1 : (b.map (·.1)).count (tf r i) = (a.map (·.1)).count i := by
    rw [← (pm.map (·.1)).count_eq, List.map_map]
    rw [show ((·.1) ∘ tm r : Pr → Int) = (tf r) ∘ (·.1) from rfl, ← List.map_map]
    refine count_inj (tf r) i _ fun y hy e => ?_
    obtain ⟨p, hp, rfl⟩ := List.mem_map.mp hy
    exact m.p.inj (inA p hp).1 hi e
  have c2 : (b.map (·.2)).count (tf r i) = (a.map (·.2)).count i := by
    rw [← (pm.map (·.2)).count_eq, List.map_map]
    rw [show ((·.2) ∘ tm r : Pr → Int) = (tf r) ∘ (·.2) from rfl, ← List.map_map]
    refine count_inj (tf r) i _ fun y hy e => ?_
    obtain ⟨p, hp, rfl⟩ := List.mem_map.mp hy
    exact m.p.inj (inA p hp).2 hi e
  unfold K09.mrk
  rw [c1, c2]
theorem row_rng {r : Row} (p : isP n r) : r = (rng n).map (tf r) := by
  refine row_ext p.len (by rw [List.length_map, rng_len]) fun i hi => ?_
  obtain ⟨k, rfl, hk⟩ := inH_nat hi
  have h2 : k < ((rng n).map (tf r)).length := by rw [List.length_map, rng_len]; exact hk
  rw [tf_at h2, List.getElem_map, rng_get]
theorem Map2.marks (ha : House n a) (hb : House n b) {r : Row} (m : Map2 n a b r) : (marksL n a).Perm (marksL n b) := by
  have e : marksL n a = r.map (K09.mrk b) := by
    conv => rhs; rw [row_rng m.p]
    unfold marksL
    rw [List.map_map]
    apply List.map_congr_left
    intro i hi
    exact (m.mrk ha hb (mem_rng.mp hi)).symm
  rw [e]
  exact m.p.map _
/-! ### what is pruned -/
def okM (a b : List Pr) (k : Nat) (s : Row) : Bool := (List.range s.length).all fun i => decide (i < k) || decide (K09.mrk b (s.getD i 0) = K09.mrk a (i : Int))
theorem leaves2_pre (n : Int) (a b : List Pr) : ∀ (k : Nat) (r s : Row), s ∈ leaves2 n a b k r → ∃ t, s = r ++ t ∧ t.length = k
  | 0, r, s, h => by
    have : s = r := by simpa [leaves2] using h
    exact ⟨[], by simp [this], rfl⟩
  | k + 1, r, s, h => by
    obtain ⟨q, hq, hs⟩ := List.mem_flatMap.mp (show s ∈ (kids2 n a b r).flatMap (leaves2 n a b k) from h)
    unfold kids2 at hq
    obtain ⟨x, _, rfl⟩ := List.mem_map.mp hq
    obtain ⟨t, rfl, ht⟩ := leaves2_pre n a b k _ _ hs
    exact ⟨x :: t, by simp, by simp [ht]⟩
theorem filter_flat {α β : Type} (q : β → Bool) (f : α → List β) : ∀ l : List α, (l.flatMap f).filter q = l.flatMap fun x => (f x).filter q
  | [] => rfl
  | x :: l => by rw [List.flatMap_cons, List.flatMap_cons, List.filter_append, filter_flat q f l]
theorem flat_filter {α β : Type} (q : α → Bool) (f g : α → List β) : ∀ l : List α, (∀ x ∈ l, f x = if q x = true then g x else []) → l.flatMap f = (l.filter q).flatMap g
  | [], _ => rfl
  | x :: l, h => by
    have ih := flat_filter q f g l fun y hy => h y (List.mem_cons_of_mem _ hy)
    rw [List.flatMap_cons, h x List.mem_cons_self, ih, List.filter_cons]
    by_cases c : q x = true <;> simp [c]
theorem leaves3_eq (n : Int) (a b : List Pr) : ∀ (k : Nat) (r : Row), leaves3 n a b k r = (leaves2 n a b k r).filter (okM a b r.length)
  | 0, r => by
    have : okM a b r.length r = true := by
      unfold okM
      rw [List.all_eq_true]
      intro i hi
      have := List.mem_range.mp hi
      simp [this]
    simp [leaves3, leaves2, this]
  | k + 1, r => by
    show (kids3 n a b r).flatMap (leaves3 n a b k) = ((kids2 n a b r).flatMap (leaves2 n a b k)).filter (okM a b r.length)
    rw [filter_flat]
    have step : ∀ s ∈ kids2 n a b r, (leaves2 n a b k s).filter (okM a b r.length) = if (decide (K09.mrk b (s.getD r.length 0) = K09.mrk a (r.length : Int))) = true then leaves3 n a b k s else [] := by
      intro s hs
      unfold kids2 at hs
      obtain ⟨x, _, rfl⟩ := List.mem_map.mp hs
      have gx : (r ++ [x]).getD r.length 0 = x := getD_app_eq r x
      rw [gx]
      by_cases c : K09.mrk b x = K09.mrk a (r.length : Int)
      · rw [if_pos (decide_eq_true c), leaves3_eq n a b k]
        refine List.filter_congr fun t ht => ?_
        obtain ⟨u, rfl, hu⟩ := leaves2_pre n a b k _ _ ht
        unfold okM
        rw [Bool.eq_iff_iff, List.all_eq_true, List.all_eq_true]
        constructor
        · intro h i hi
          have := h i hi
          simp only [Bool.or_eq_true, decide_eq_true_eq, List.length_append, List.length_singleton] at this ⊢
          rcases this with z | z
          · left; omega
          · right; exact z
        · intro h i hi
          have := h i hi
          simp only [Bool.or_eq_true, decide_eq_true_eq, List.length_append, List.length_singleton] at this ⊢
          rcases this with z | z
          · by_cases e : i = r.length
            · right
              subst e
              rw [getD_app_lt (by simp), gx]
              exact c
            · left; omega
          · right; exact z
      · rw [if_neg (by simpa using c)]
        rw [List.filter_eq_nil_iff]
        intro t ht z
        obtain ⟨u, rfl, hu⟩ := leaves2_pre n a b k _ _ ht
        unfold okM at z
        rw [List.all_eq_true] at z
        have := z r.length (List.mem_range.mpr (by simp))
        simp only [Bool.or_eq_true, decide_eq_true_eq] at this
        rcases this with q | q
        · omega
        · rw [getD_app_lt (by simp), gx] at q
          exact c q
    rw [flat_filter (fun s : Row => decide (K09.mrk b (s.getD r.length 0) = K09.mrk a (r.length : Int))) _ (leaves3 n a b k) (kids2 n a b r) step]
    congr 1
    unfold kids3 kids2 chL
    rw [List.filter_map, List.filter_filter, List.filter_filter]
    congr 1
    refine List.filter_congr fun x _ => ?_
    show _ = (decide (K09.mrk b ((r ++ [x]).getD r.length 0) = K09.mrk a (r.length : Int)) && ext2 a b r x)
    rw [getD_app_eq, Bool.and_comm]
theorem mapL3_eq (ha : House n a) (hb : House n b) : mapL3 n a b = mapL n a b := by
  unfold mapL3
  rw [leaves3_eq]
  refine List.filter_eq_self.mpr fun s hs => ?_
  have m : Map2 n a b s := (mem_mapL ha.irr hb.irr).mp hs
  unfold okM
  rw [List.all_eq_true]
  intro i hi
  have hi := List.mem_range.mp hi
  rw [m.p.len] at hi
  have e := m.mrk ha hb (nat_inH hi)
  simp only [Bool.or_eq_true, decide_eq_true_eq]
  right
  rw [← e]
  unfold tf
  simp
theorem mapL_none (ha : House n a) (hb : House n b) (h : a.length ≠ b.length) : mapL n a b = [] := by
  rw [List.eq_nil_iff_forall_not_mem]
  intro r hr
  have := ((mem_mapL ha.irr hb.irr).mp hr).perm ha hb
  exact h (by rw [← List.Perm.length_eq this, List.length_map])
end
end K09

/-! T5: least_maps. -/
namespace K09
open PySem L2 DL
def SR (n : Int) (a : List Pr) : List Row := srtR ((marksL n a).map r2)
theorem sorted_marks (n : Int) (a : List Pr) (h2 : n ≤ 1000) : sortedF [.list ((marksL n a).map pD)] = some ((SR n a).map rowD) := by
  have e : (marksL n a).map pD = ((marksL n a).map r2).map rowD := by rw [List.map_map]; rfl
  rw [e]
  refine sorted_rows (fun r hr => ?_) (by rw [List.length_map, marksL_len]; show _ ≤ 100000; omega)
  obtain ⟨p, _, rfl⟩ := List.mem_map.mp hr
  exact r2_ne p
theorem ne_rows (A B : List Row) : neD (.list (A.map rowD)) (.list (B.map rowD)) = some (.bool (!decide (A = B))) := by
  have sh : ∀ L : List Row, Shp 2 (.list (L.map rowD)) := fun L => shp_list fun d hd => by
    obtain ⟨r, _, rfl⟩ := List.mem_map.mp hd
    exact shp_row r
  rw [neD_ok (sh A) (sh B) (by omega)]
  show some (PyData.bool (!PyData.eqvAll (A.map rowD) (B.map rowD))) = _
  rw [eqv_rows]
theorem SR_len (n : Int) (a : List Pr) : (SR n a).length = n.toNat := by
  unfold SR
  rw [List.Perm.length_eq (srtR_perm _), List.length_map, marksL_len]
theorem chL_at (n n' : Int) (a b : List Pr) {i : Nat} (h : i < n.toNat) : atI ((marksL n a).map fun m => PyData.list (ei (chL n' b m))) (i : Int) = some (.list (ei (chL n' b (mrk a (i : Int))))) := by
  rw [atI_nat _ i (by rw [List.length_map, marksL_len]; exact h), List.getElem_map]
  congr 4
  unfold marksL
  rw [List.getElem_map, rng_get]
section
variable {n : Int} {a b : List Pr}
theorem q_for_kids (most : Int) (ch : D) (h1 : 0 ≤ n) (h2 : n ≤ 10) (fs ws : List Row) (r : Row) (hw : ws.length ≤ 101) (hr : r.length < n.toNat) (bb : Option Sl) (hb : DatO bb) :
    ∃ b', DatO b' ∧ sForL (patNm 10) b_least_maps_1 ((ei (chL n b (mrk a (r.length : Int)))).reverse) (evL n a b most ch ⟨fs, ws, some (.dat (rowD r)), bb⟩) = .ok .nx (evL n a b most ch ⟨fs, ws ++ (kids3 n a b r).reverse, some (.dat (rowD r)), b'⟩) := by
  have hcl : (chL n b (mrk a (r.length : Int))).length ≤ 10 := by
    unfold chL
    have := List.length_filter_le (fun h => decide (mrk b h = mrk a (r.length : Int))) (rng n)
    rw [rng_len] at this
    omega
  generalize hC : chL n b (mrk a (r.length : Int)) = C at hcl ⊢
  have hrev : (ei C).reverse = ei C.reverse := by unfold ei; rw [List.map_reverse]
  rw [hrev]
  obtain ⟨⟨fs', ws', a', b'⟩, ⟨e1, e2, e3, e4⟩, e⟩ := for_ex (S := LS) (pat := patNm 10) (m := b_least_maps_1) (evL n a b most ch) (fun j s => s.fs = fs ∧ s.ws = ws ++ ((C.reverse.take j).filter (ext2 a b r)).map (fun h => r ++ [h]) ∧ s.a = some (.dat (rowD r)) ∧ DatO s.b) (ei C.reverse) 0 ⟨fs, ws, some (.dat (rowD r)), bb⟩ ⟨rfl, by simp, rfl, hb⟩ (by
    rintro j d ⟨fs1, ws1, a1, b1⟩ hj ⟨i1, i2, i3, i4⟩
    simp only at i1 i2 i3 i4
    subst i1 i3
    rw [Nat.zero_add] at i2 ⊢
    unfold ei at hj
    rw [List.getElem?_map] at hj
    obtain ⟨x, hx, rfl⟩ := Option.map_eq_some_iff.mp hj
    obtain ⟨hjl, hxe⟩ := List.getElem?_eq_some_iff.mp hx
    have hl1 : ws1.length < 1000 := by
      rw [i2, List.length_append, List.length_map]
      have q1 := List.length_filter_le (ext2 a b r) (C.reverse.take j)
      rw [List.length_take, List.length_reverse] at q1
      omega
    have tk : (C.reverse.take (j + 1)).filter (ext2 a b r) = (C.reverse.take j).filter (ext2 a b r) ++ (if ext2 a b r x = true then [x] else []) := by
      rw [List.take_succ, hx, List.filter_append]
      by_cases w : ext2 a b r x = true <;> simp [w]
    have hadd : addD (rowD r) (.tuple [.int x]) = some (rowD (r ++ [x])) := by
      rw [show rowD r = .tuple (ei r) from rfl, add_tup _ _ (by rw [ei_len]; simp only [List.length_singleton]; omega)]
      simp [ei]
    have hg := call_goes n a b most ch ⟨fs1, ws1, some (.dat (rowD r)), some (.dat (.int x))⟩ r x
    simp only [evL] at hg
    refine ⟨_, ⟨fs1, if ext2 a b r x = true then ws1 ++ [r ++ [x]] else ws1, some (.dat (rowD r)), some (.dat (.int x))⟩, by simp only [evL, patNm_ap, List.getElem?_cons_succ, List.getElem?_cons_zero, put_dat i4]; rfl, ?_, rfl, ?_, rfl, .inr ⟨_, rfl⟩⟩
    · by_cases w : ext2 a b r x = true
      · have ha := app_row ws1 (r ++ [x]) hl1
        simp only [w, if_true]
        simp [-List.map_append, b_least_maps_1, evL, hg, w, isL, hadd, ha]
      · simp only [w, if_false]
        have w' : ext2 a b r x = false := by simpa using w
        simp [b_least_maps_1, evL, hg, w']
    · simp only
      rw [tk, i2]
      by_cases w : ext2 a b r x = true <;> simp [w])
  simp only at e1 e2 e3 e4
  subst e1 e3
  refine ⟨b', e4, ?_⟩
  rw [e, e2, Nat.zero_add, ei_len, List.take_length]
  have ek : ((C.reverse).filter (ext2 a b r)).map (fun h => r ++ [h]) = (kids3 n a b r).reverse := by
    unfold kids3
    rw [hC, ← List.map_reverse, List.filter_reverse]
  rw [ek]
theorem q_least_main (h1 : 1 ≤ n) (h2 : n ≤ 10) (nda : a.Nodup) (ndb : b.Nodup) (hla : a.length < 1000) (hlb : b.length < 1000) (most : Int) (m0 : 0 ≤ most) (m1 : most ≤ 999) (hs : SR n a = SR n b) :
    run f_least_maps [hD n a, hD n b, .int most] = .ok (.list (((mapL3 n a b).take most.toNat).map rowD)) := by
  generalize hch : PyData.list ((marksL n a).map fun m => PyData.list (ei (chL n b m))) = ch
  have W := while_exR (S := LS) (mt := t_least_maps_2) (m := b_least_maps_2) (evL n a b most ch)
    (fun s => s.fs ++ come n a b s.ws = mapL3 n a b ∧ s.fs.length ≤ most.toNat ∧ Low n s.ws ∧ DatO s.a ∧ DatO s.b) (fun s => s.ws = [] ∨ s.fs.length = most.toNat) (fun _ _ => False) (fun s => left n a b s.ws) 1000000000000 ⟨[], [[]], none, none⟩
    ⟨by simp [come, mapL3], Nat.zero_le _, fun i r hr => by
      cases i with
      | zero => cases hr; exact ⟨Nat.zero_le _, Nat.zero_le _⟩
      | succ i => simp at hr, .inl rfl, .inl rfl⟩ (by
      have q := cnt3_le n h2 a b n.toNat []
      have q2 : 11 ^ n.toNat ≤ 11 ^ 10 := Nat.pow_le_pow_right (by decide) (by omega)
      have q3 : (11 : Nat) ^ 10 = 25937424601 := by decide
      unfold left
      simp
      omega) (by
    rintro ⟨fs, ws, x, y⟩ ⟨i1, i2, i3, i4, i5⟩
    simp only at i1 i2 i3 i4 i5
    have hwl := i3.len (by omega) h2
    by_cases w : ws = []
    · refine .inl ⟨?_, .inl w⟩
      simp [t_least_maps_2, evL, w]
    · by_cases w2 : fs.length = most.toNat
      · refine .inl ⟨?_, .inr w2⟩
        have : ¬ ((fs.length : Int) < most) := by omega
        simp [t_least_maps_2, evL, w, this]
      · have hlt : (fs.length : Int) < most := by omega
        refine .inr ⟨by simp [t_least_maps_2, evL, w, hlt], .inl ?_⟩
        obtain ⟨vs, r, rfl⟩ : ∃ vs r, ws = vs ++ [r] := ⟨ws.dropLast, ws.getLast w, (List.dropLast_concat_getLast w).symm⟩
        have hrl : r.length ≤ n.toNat := (i3 vs.length r (by simp)).2
        have hpop : popF (.list ((vs ++ [r]).map rowD)) [] = some (rowD r, .list (vs.map rowD)) := by
          unfold popF
          simp
        rw [come_snoc] at i1
        by_cases e : r.length = n.toNat
        · refine ⟨.ct, ⟨fs ++ [r], vs, some (.dat (rowD r)), y⟩, .inr rfl, ?_, ⟨?_, ?_, low_pop i3, .inr ⟨_, rfl⟩, i5⟩, ?_⟩
          · have ha := app_row fs r (by omega)
            have el : (PyData.int (r.length : Int)) = .int n := by rw [e, show ((n.toNat : Nat) : Int) = n by omega]
            rcases i4 with rfl | ⟨d, rfl⟩ <;> simp [-List.map_append, b_least_maps_2, evL, isL, hpop, ha, el]
          · show fs ++ [r] ++ come n a b vs = _
            rw [← i1, e, Nat.sub_self]
            simp [leaves3]
          · show (fs ++ [r]).length ≤ _
            rw [List.length_append, List.length_singleton]
            omega
          · show left n a b vs < left n a b (vs ++ [r])
            rw [left_snoc, e, Nat.sub_self]
            show _ < _ + 1
            omega
        · have hr : r.length < n.toNat := by omega
          have hvl : vs.length ≤ 101 := by rw [List.length_append] at hwl; omega
          obtain ⟨b', hb', ef⟩ := q_for_kids (a := a) (b := b) most ch (by omega) h2 fs vs r hvl hr y i5
          refine ⟨.nx, ⟨fs, vs ++ (kids3 n a b r).reverse, some (.dat (rowD r)), b'⟩, .inl rfl, ?_, ⟨?_, i2, low_kids i3 hr, .inr ⟨_, rfl⟩, hb'⟩, ?_⟩
          · have el : ¬ ((r.length : Int) = n) := by omega
            have ec : idxD ch (.int (r.length : Int)) = some (.list (ei (chL n b (mrk a (r.length : Int))))) := by
              rw [← hch]
              exact chL_at n n a b hr
            unfold evL at ef
            rcases i4 with rfl | ⟨d, rfl⟩ <;> simp [-List.map_append, b_least_maps_2, evL, isL, hpop, el, sFor_ap, ec, ef]
          · show fs ++ come n a b (vs ++ (kids3 n a b r).reverse) = _
            rw [come_kids n a b vs r hr, i1]
          · show left n a b (vs ++ (kids3 n a b r).reverse) < left n a b (vs ++ [r])
            rw [left_rev, left_snoc, left_kids n a b r hr]
            omega)
  rcases W with ⟨⟨fs, ws, x, y⟩, ⟨i1, i2, i3, i4, i5⟩, hd, e⟩ | ⟨_, _, z, _⟩
  · simp only at i1 i2 i3 i4 i5 hd
    have ht : (mapL3 n a b).take most.toNat = fs := by
      rw [← i1]
      rcases hd with rfl | hd
      · simp [come, List.take_of_length_le i2]
      · rw [← hd, List.take_left]
    have ma := q_marks_of n a (by omega) (by omega) (by omega)
    have mb := q_marks_of n b (by omega) (by omega) (by omega)
    have sa := sorted_marks n a (by omega)
    have sb := sorted_marks n b (by omega)
    have ne := ne_rows (SR n a) (SR n b)
    rw [decide_eq_true hs] at ne
    have ech := q_choices_of n n a b (by omega) (by omega) (by omega) (by omega) (by omega) (by omega)
    rw [hch] at ech
    rw [ht, run_ap, f_least_maps, bodyM_ap]
    have dc1 := dd_compG 11 a nda hla [some (.dat (hD n a)), some (.dat (hD n b)), some (.dat (.int most)), some (.dat (.int n)), none, none, none, none, none, none, none, none] (dSq (d2 idxD (dVar 0) (dC (.int 1)))) (by simp [hD, dD]) rfl
    have dc2 := dd_compG 11 b ndb hlb [some (.dat (hD n a)), some (.dat (hD n b)), some (.dat (.int most)), some (.dat (.int n)), some (.own (ddD a)), none, none, none, none, none, none, none] (dSq (d2 idxD (dVar 1) (dC (.int 1)))) (by simp [hD, dD]) rfl
    have e0 : evL n a b most ch ⟨[], [[]], none, none⟩ = [some (.dat (hD n a)), some (.dat (hD n b)), some (.dat (.int most)), some (.dat (.int n)), some (.own (ddD a)), some (.own (ddD b)), some (.dat ch), some (.own (.list [])), some (.own (.list [.tuple []])), none, none, none] := rfl
    rw [e0] at e
    unfold ddD at dc2 e
    simp [-List.map_map, m_least_maps, ma, mb, sa, sb, ne, dc1, dc2, ech]
    rw [e]
    simp [evL]
  · exact z.elim
theorem q_least_ne {n' : Int} {b : List Pr} (h1 : 0 ≤ n) (h2 : n ≤ 10) (h1' : 0 ≤ n') (h2' : n' ≤ 10) (hla : a.length < 1000) (hlb : b.length < 1000) (most : Int) (hs : SR n a ≠ SR n' b) :
    run f_least_maps [hD n a, hD n' b, .int most] = .ok (.list []) := by
  have ma := q_marks_of n a (by omega) (by omega) (by omega)
  have mb := q_marks_of n' b (by omega) (by omega) (by omega)
  have sa := sorted_marks n a (by omega)
  have sb := sorted_marks n' b (by omega)
  have ne := ne_rows (SR n a) (SR n' b)
  rw [decide_eq_false hs] at ne
  rw [run_ap, f_least_maps, bodyM_ap]
  simp [-List.map_map, m_least_maps, ma, mb, sa, sb, ne]
end
theorem srtR_perm_dup {l m : List Row} (h : l.Perm m) : srtR l = srtR m := by
  have tr : ∀ a b c : Row, leR a b = true → leR b c = true → leR a c = true := leR_trans
  refine List.Perm.eq_of_pairwise (le := fun a b => leR a b = true) ?_ (List.pairwise_mergeSort tr leR_total l) (List.pairwise_mergeSort tr leR_total m) (((srtR_perm l).trans h).trans (srtR_perm m).symm)
  intro a b _ _ h1 h2
  rcases leR_iff.mp h1 with c | c
  · rcases leR_iff.mp h2 with d | d
    · exact (ltR_irrefl _ (ltR_trans c d)).elim
    · exact d.symm
  · exact c
theorem q_least_maps {n n' : Int} {a b : List Pr} (ha : House n a) (hb : House n' b) (most : Int) (m0 : 0 ≤ most) (m1 : most ≤ 999) :
    run f_least_maps [hD n a, hD n' b, .int most] = .ok (.list (((mapsOf n a n' b).take most.toNat).map rowD)) := by
  by_cases hs : SR n a = SR n' b
  · have e : n = n' := by
      have := congrArg List.length hs
      rw [SR_len, SR_len] at this
      have := ha.lo
      have := hb.lo
      omega
    subst e
    rw [q_least_main ha.lo ha.hi ha.nd hb.nd (by have := ha.len; omega) (by have := hb.len; omega) most m0 m1 hs, mapL3_eq ha hb]
    unfold mapsOf
    by_cases c : a.length = b.length
    · rw [if_pos ⟨rfl, c⟩]
    · rw [if_neg (fun z => c z.2), mapL_none ha hb c]
  · rw [q_least_ne (by have := ha.lo; omega) ha.hi (by have := hb.lo; omega) hb.hi (by have := ha.len; omega) (by have := hb.len; omega) most hs]
    have : mapsOf n a n' b = [] := by
      unfold mapsOf
      split
      · rename_i c
        obtain ⟨rfl, _⟩ := c
        rw [List.eq_nil_iff_forall_not_mem]
        intro r hr
        have pm := ((mem_mapL ha.irr hb.irr).mp hr).marks ha hb
        exact hs (srtR_perm_dup (pm.map r2))
      · rfl
    rw [this, List.take_nil]
    rfl
end K09

/-! T6: is_map; like, are_alike, shows_like. -/
namespace K09
open PySem L2 DL
section
variable {n : Int} {l : List Pr}
theorem q_num (hi : Int) (d : D) (h : plainI d) : run f_is_number [d, .int 0, .int hi] = .ok (.bool (numB hi d)) := by
  cases d with
  | int i => rw [q_is_number]; rfl
  | bool b =>
    rw [run_ap, f_is_number, bodyM_ap]
    have e1 : isiD "int" (.bool b) = some (.bool true) := by simp
    have e2 : isiD "bool" (.bool b) = some (.bool true) := by simp
    simp [m_is_number, numB]
  | none =>
    rw [run_ap, f_is_number, bodyM_ap]
    simp [m_is_number, numB]
  | str s => exact h.elim
  | list s => exact h.elim
  | tuple s => exact h.elim
  | dict s => exact h.elim
theorem q_are_numbers (vs : List D) (hv : ∀ d ∈ vs, plainI d) (hl : vs.length ≤ 1000) (m hi : Int) : run f_are_numbers [.tuple vs, .int m, .int hi] = .ok (.bool (((vs.length : Int) == m) && vs.all (numB hi))) := by
  rw [run_ap, f_are_numbers, bodyM_ap]
  by_cases c : (vs.length : Int) = m
  · have hlc : dLc (dSq (dVar 0)) (patNm 3) (.pure true) (dCall 3 f_is_number (dCons (dVar 3) (dCons (dC (.int 0)) (dCons (dVar 2) (.pure []))))) [3] [some (.dat (.tuple vs)), some (.dat (.int m)), some (.dat (.int hi)), none] = .ok (.list ((vs.map (numB hi)).map .bool)) [some (.dat (.tuple vs)), some (.dat (.int m)), some (.dat (.int hi)), none] := by
      rw [lc_map (fun d => d) (fun d => .bool (numB hi d)) vs]
      · rw [List.map_map]; rfl
      · simp
      · rfl
      · rfl
      · intro d hd
        have e := q_num hi d (hv d hd)
        exact ⟨_, rfl, by simp [e], rfl⟩
      · show _ ≤ 100000; omega
    have ha : (vs.map (numB hi)).all id = vs.all (numB hi) := by rw [List.all_map]; rfl
    simp [-List.map_map, m_are_numbers, c, hlc, ha]
  · simp [m_are_numbers, c]
theorem q_are_numbers_no (d : D) (h : isiD "tuple" d = some (.bool false)) (m hi : Int) : run f_are_numbers [d, .int m, .int hi] = .ok (.bool false) := by
  rw [run_ap, f_are_numbers, bodyM_ap]
  simp [m_are_numbers, h]
theorem q_shuffle_no (d : D) (h : isiD "tuple" d = some (.bool false)) : run f_is_shuffle [d, .int n] = .ok (.bool false) := by
  have e := q_are_numbers_no d h n (n - 1)
  rw [run_ap, f_is_shuffle, bodyM_ap]
  simp [m_is_shuffle, e]
theorem q_shuffle_bad (vs : List D) (hv : ∀ d ∈ vs, plainI d) (hl : vs.length ≤ 1000) (hb : (vs.length : Int) ≠ n ∨ ∃ d ∈ vs, numB (n - 1) d = false) : run f_is_shuffle [.tuple vs, .int n] = .ok (.bool false) := by
  have e := q_are_numbers vs hv hl n (n - 1)
  have z : (((vs.length : Int) == n) && vs.all (numB (n - 1))) = false := by
    rw [Bool.and_eq_false_iff]
    rcases hb with c | ⟨d, hd, c⟩
    · left; simpa using c
    · right
      rw [List.all_eq_false]
      exact ⟨d, hd, by rw [c]; simp⟩
  rw [z] at e
  rw [run_ap, f_is_shuffle, bodyM_ap]
  simp [m_is_shuffle, e]
theorem q_shuffle_row (r : Row) (hl : r.length ≤ 1000) : run f_is_shuffle [rowD r, .int n] = .ok (.bool (((r.length : Int) == n) && (r.all (inH n)) && (((dedI [] r).length : Int) == n))) := by
  have e := q_are_numbers (r.map .int) (fun d hd => by obtain ⟨i, _, rfl⟩ := List.mem_map.mp hd; trivial) (by rw [List.length_map]; exact hl) n (n - 1)
  have ha : (r.map PyData.int).all (numB (n - 1)) = r.all (inH n) := by rw [List.all_map]; rfl
  rw [List.length_map, ha] at e
  have e2 := lenSet_row r hl
  rw [run_ap, f_is_shuffle, bodyM_ap]
  cases c : ((r.length : Int) == n) && r.all (inH n) with
  | false => rw [c] at e; simp [m_is_shuffle, e]
  | true => rw [c] at e; simp [m_is_shuffle, e, e2]
theorem q_shuffle_zero (h1 : 1 < n) (h2 : n ≤ 10) : run f_is_shuffle [rowD (List.replicate n.toNat 0), .int n] = .ok (.bool false) := by
  have es := q_shuffle_row (n := n) (List.replicate n.toNat 0) (by rw [List.length_replicate]; omega)
  have c3 : (((dedI [] (List.replicate n.toNat (0 : Int))).length : Int) == n) = false := by
    obtain ⟨h1', h2'⟩ := dedI_spec (List.replicate n.toNat (0 : Int)) [] List.nodup_nil
    have := len_of_sub _ [0] h1' fun x hx => by
      rcases (h2' x).mp hx with z | z
      · cases z
      · rw [List.mem_singleton]; exact List.eq_of_mem_replicate z
    rw [List.length_singleton] at this
    have z : ¬ ((dedI [] (List.replicate n.toNat (0 : Int))).length : Int) = n := by omega
    simpa using z
  rw [c3, Bool.and_false] at es
  exact es
end

section
variable {n n' : Int} {a b : List Pr}
theorem eq_int_ne (i j : Int) : neD (.int i) (.int j) = some (.bool (!decide (i = j))) := by
  rw [neD_int]
  by_cases c : i = j <;> simp [c]
theorem keep_map (ha : House n a) (hb : House n b) (hl : a.length = b.length) {r : Row} (p : isP n r) : (a.all fun q => decide (tm r q ∈ b)) = true ↔ Map2 n a b r := by
  have inA : ∀ q ∈ a, inH n q.1 = true ∧ inH n q.2 = true := fun q hq => ⟨(okDoor_iff.mp (ha.ok q hq)).1, (okDoor_iff.mp (ha.ok q hq)).2.1⟩
  rw [List.all_eq_true]
  constructor
  · intro k
    have k : ∀ q ∈ a, tm r q ∈ b := fun q hq => by simpa using k q hq
    have nd : (a.map (tm r)).Nodup := nodup_map_on ha.nd fun x hx y hy e => by
      have e1 : tf r x.1 = tf r y.1 := congrArg Prod.fst e
      have e2 : tf r x.2 = tf r y.2 := congrArg Prod.snd e
      exact Prod.ext (p.inj (inA x hx).1 (inA y hy).1 e1) (p.inj (inA x hx).2 (inA y hy).2 e2)
    have pm : (a.map (tm r)).Perm b := perm_of_sub _ _ nd (fun x hx => by
      obtain ⟨q, hq, rfl⟩ := List.mem_map.mp hx
      exact k q hq) (by rw [List.length_map, hl]; exact Nat.le_refl _)
    refine ⟨p, fun i j hi hj => ⟨fun q => k _ q, fun q => ?_⟩⟩
    obtain ⟨⟨x, y⟩, hq, e⟩ := List.mem_map.mp (pm.mem_iff.mpr q)
    have e1 : tf r x = tf r i := congrArg Prod.fst e
    have e2 : tf r y = tf r j := congrArg Prod.snd e
    rw [← p.inj (inA _ hq).1 hi e1, ← p.inj (inA _ hq).2 hj e2]
    exact hq
  · intro s q hq
    obtain ⟨h1, h2⟩ := inA q hq
    exact decide_eq_true (show tm r q ∈ b from (s.keep q.1 q.2 h1 h2).mp hq)
theorem q_map_no (ha : House n a) (hb : House n' b) (d : D) (h : n ≠ n' ∨ a.length ≠ b.length ∨ run f_is_shuffle [d, .int n] = .ok (.bool false)) : run f_is_map [hD n a, hD n' b, d] = .ok (.bool false) := by
  have e1 := eq_int_ne n n'
  have e2 := eq_int_ne (a.length : Int) (b.length : Int)
  rw [run_ap, f_is_map, bodyM_ap]
  by_cases c1 : n = n'
  · by_cases c2 : a.length = b.length
    · have e : run f_is_shuffle [d, .int n] = .ok (.bool false) := by
        rcases h with z | z | z
        · exact (z c1).elim
        · exact (z c2).elim
        · exact z
      subst c1
      simp [m_is_map, dD, c2, e]
    · have c3 : ¬ (a.length : Int) = (b.length : Int) := by omega
      simp [m_is_map, dD, c1, c2, c3]
  · simp [m_is_map, dD, c1]
theorem q_map_row (ha : House n a) (hb : House n' b) {r : Row} (p : isP n r) : run f_is_map [hD n a, hD n' b, rowD r] = .ok (.bool (decide (r ∈ mapsOf n a n' b))) := by
  by_cases c : n = n' ∧ a.length = b.length
  · obtain ⟨rfl, c2⟩ := c
    have hl := p.len
    have h1 := ha.lo
    have h2 := ha.hi
    have es := q_shuffle_row (n := n) r (by omega)
    have c1 : ((r.length : Int) == n) = true := by rw [beq_iff_eq]; omega
    have c2' : r.all (inH n) = true := by rw [List.all_eq_true]; exact fun x hx => p.mem.mp hx
    have c3 : (((dedI [] r).length : Int) == n) = true := by rw [ded_len p.nodup]; exact c1
    rw [c1, c2', c3] at es
    have hlc : dLc (dSq (d2 idxD (dVar 0) (dC (.int 1)))) (patTup (patCons (patNm 3) (patCons (patNm 4) patNil))) (.pure true) (d2 (inD false) (dTup (dCons (d2 idxD (dVar 2) (dVar 3)) (dCons (d2 idxD (dVar 2) (dVar 4)) (.pure [])))) (d2 idxD (dVar 1) (dC (.int 1)))) [3, 4] [some (.dat (hD n a)), some (.dat (hD n b)), some (.dat (rowD r)), none, none] = .ok (.list ((a.map fun q => decide (tm r q ∈ b)).map .bool)) [some (.dat (hD n a)), some (.dat (hD n b)), some (.dat (rowD r)), none, none] := by
      rw [lc_map pD (fun q => .bool (decide (tm r q ∈ b))) a]
      · rw [List.map_map]; rfl
      · simp [hD, dD]
      · rfl
      · rfl
      · intro q hq
        obtain ⟨i1, i2, _⟩ := okDoor_iff.mp (ha.ok q hq)
        have e1 := at_tf hl i1
        have e2 := at_tf hl i2
        unfold ei at e1 e2
        exact ⟨_, rfl, by simp [e1, e2, in_dD, tm]; rfl, rfl⟩
      · have := ha.len; show _ ≤ 100000; omega
    have hal := allD_bools (a.map fun q => decide (tm r q ∈ b))
    have hm : mapsOf n a n b = mapL n a b := by unfold mapsOf; rw [if_pos ⟨rfl, c2⟩]
    have hal2 : ((a.map fun q => decide (tm r q ∈ b)).all id) = decide (r ∈ mapsOf n a n b) := by
      rw [List.all_map, Bool.eq_iff_iff, decide_eq_true_eq, hm, mem_mapL ha.irr hb.irr, ← keep_map ha hb c2 p]
      rfl
    rw [hal2] at hal
    have e1 := eq_int_ne n n
    have e2 := eq_int_ne (a.length : Int) (b.length : Int)
    rw [run_ap, f_is_map, bodyM_ap]
    simp [-List.map_map, m_is_map, dD, c2, es]
    unfold dD at hlc
    simp [-List.map_map, dD, hlc, hal]
  · rw [q_map_no ha hb (rowD r) (by
      by_cases c1 : n = n'
      · exact .inr (.inl fun z => c ⟨c1, z⟩)
      · exact .inl c1)]
    unfold mapsOf
    rw [if_neg c]
    simp
theorem q_like (ha : House n a) (hb : House n' b) : run f_like [hD n a, hD n' b] = .ok (match mapsOf n a n' b with | [] => .none | r :: _ => rowD r) := by
  have e := q_least_maps ha hb 1 (by omega) (by omega)
  have c1 := ha.check
  have c2 := hb.check
  rw [run_ap, f_like, bodyM_ap]
  cases hm : mapsOf n a n' b with
  | nil => rw [hm] at e; simp [m_like, c1, c2, e]
  | cons r L => rw [hm] at e; simp [m_like, c1, c2, e]
theorem q_are (ha : House n a) (hb : House n' b) : run f_are_alike [hD n a, hD n' b] = .ok (.bool (!decide (mapsOf n a n' b = []))) := by
  have e := q_like ha hb
  rw [run_ap, f_are_alike, bodyM_ap]
  cases hm : mapsOf n a n' b with
  | nil => rw [hm] at e; simp [m_are_alike, e]
  | cons r L =>
    rw [hm] at e
    have : isNoneD true (rowD r) .none = some (.bool true) := rfl
    simp [m_are_alike, e, this]
theorem q_shows_none (ha : House n a) (hb : House n' b) : run f_shows_like [hD n a, hD n' b, .none] = .ok (.bool (decide (mapsOf n a n' b = []))) := by
  have e := q_are ha hb
  have c1 := ha.check
  have c2 := hb.check
  rw [run_ap, f_shows_like, bodyM_ap]
  simp [m_shows_like, c1, c2, e]
theorem q_shows (ha : House n a) (hb : House n' b) (d : D) (hd : isNoneD false d .none = some (.bool false)) (t : Bool) (e : run f_is_map [hD n a, hD n' b, d] = .ok (.bool t)) : run f_shows_like [hD n a, hD n' b, d] = .ok (.bool t) := by
  have c1 := ha.check
  have c2 := hb.check
  rw [run_ap, f_shows_like, bodyM_ap]
  simp [m_shows_like, c1, c2, e, hd]
end
end K09

/-! T7: what like answers; the law. -/
namespace K09
open PySem L2 DL
section
variable {n n' : Int} {a b : List Pr}
theorem plain_ei (l : List Int) : ∀ d ∈ ei l, plainI d := fun d hd => by
  obtain ⟨i, _, rfl⟩ := List.mem_map.mp hd
  trivial
theorem odd_shuffle (h1 : 1 ≤ n) (h2 : n ≤ 10) {r : Row} (p : isP n r) {d : D} (hd : d ∈ oddL n r) : run f_is_shuffle [d, .int n] = .ok (.bool false) ∧ isNoneD false d .none = some (.bool false) := by
  have hl := p.len
  have hne : r ≠ [] := fun z => by rw [z] at hl; simp at hl; omega
  unfold oddL at hd
  simp only [List.mem_cons, List.not_mem_nil, or_false] at hd
  rcases hd with rfl | rfl | rfl | rfl | rfl | rfl | rfl | rfl | rfl
  · exact ⟨q_shuffle_bad [] (fun d hd => (by cases hd)) (by simp) (.inl (by simp; omega)), rfl⟩
  · exact ⟨q_shuffle_no _ (by simp), rfl⟩
  · exact ⟨q_shuffle_bad (ei (r ++ [n])) (plain_ei _) (by rw [ei_len]; simp; omega) (.inl (by rw [ei_len]; simp; omega)), rfl⟩
  · exact ⟨q_shuffle_bad (ei r.dropLast) (plain_ei _) (by rw [ei_len]; simp; omega) (.inl (by rw [ei_len]; simp; omega)), rfl⟩
  · refine ⟨q_shuffle_bad (ei r.dropLast ++ [.none]) (fun d hd => ?_) (by simp [ei_len]; omega) (.inr ⟨.none, by simp, rfl⟩), rfl⟩
    rcases List.mem_append.mp hd with z | z
    · exact plain_ei _ d z
    · rw [List.mem_singleton] at z; subst z; trivial
  · refine ⟨q_shuffle_bad (.bool true :: ei r.tail) (fun d hd => ?_) (by simp [ei_len]; omega) (.inr ⟨.bool true, by simp, rfl⟩), rfl⟩
    rcases List.mem_cons.mp hd with z | z
    · subst z; trivial
    · exact plain_ei _ d z
  · exact ⟨q_shuffle_no _ (by simp), rfl⟩
  · exact ⟨q_shuffle_no _ (by rfl), rfl⟩
  · exact ⟨q_shuffle_bad (ei (List.replicate n.toNat 0 ++ [0])) (plain_ei _) (by rw [ei_len]; simp; omega) (.inl (by rw [ei_len]; simp; omega)), rfl⟩
end
theorem like_ok : LikeOk where
  like n a n' b ha hb _ _ := by
    have e := q_like ha hb
    cases hm : mapsOf n a n' b with
    | nil => rw [hm] at e; exact .inl ⟨rfl, e⟩
    | cons r L => rw [hm] at e; exact .inr ⟨r, List.mem_cons_self, e⟩
  are n a n' b ha hb _ _ := q_are ha hb
  none n a n' b ha hb _ _ := q_shows_none ha hb
  row n a n' b r ha hb _ _ p := q_shows ha hb _ rfl _ (q_map_row ha hb p)
  odd n a n' b r d ha hb _ _ p hd := by
    obtain ⟨e1, e2⟩ := odd_shuffle ha.lo ha.hi p (d := d) hd
    exact q_shows ha hb d e2 _ (q_map_no ha hb d (.inr (.inr e1)))
theorem x_law (ns : List Int) : run f_law [scrD ns] = .ok (.bool true) := law_holds like_ok ns
end K09

/-! ### what the top has written -/
namespace K09
open PySem L2 DL
theorem all_mk {l : PySem.W.OpenLaw} {w : World} {K : PySem.W.Frag} {h : Heap} {mg : Str → Option Value} {fa f1 f2 f3 f4 f5 f6 f7 f8 f9 f10 f11 f12 f13 f14 f15 f16 f17 f18 f19 f20 f21 f22 f23 f24 f25 f26 f27 f28 f29 f30 f31 : Addr} (X : K.In h) (G : h.Ns mainGlobals mg) (hfa : mg "law" = some (.ref fa))
    {od1 an1 od2 an2 od3 an3 od4 an4 od5 an5 od6 an6 od7 an7 od8 an8 od9 an9 od10 an10 od11 an11 od12 an12 od13 an13 od14 an14 od15 an15 od16 an16 od17 an17 od18 an18 od19 an19 od20 an20 od21 an21 od22 an22 od23 an23 od24 an24 od25 an25 od26 an26 od27 an27 od28 an28 od29 an29 od30 an30 od31 an31 : Option Addr} {sl1 sl2 sl3 sl4 sl5 sl6 sl7 sl8 sl9 sl10 sl11 sl12 sl13 sl14 sl15 sl16 sl17 sl18 sl19 sl20 sl21 sl22 sl23 sl24 sl25 sl26 sl27 sl28 sl29 sl30 sl31 : Array (Option Value)} {oc1 kV1 dc1 pm1 cd1 ct1 oc2 kV2 dc2 pm2 cd2 ct2 oc3 kV3 dc3 pm3 cd3 ct3 oc4 kV4 dc4 pm4 cd4 ct4 oc5 kV5 dc5 pm5 cd5 ct5 oc6 kV6 dc6 pm6 cd6 ct6 oc7 kV7 dc7 pm7 cd7 ct7 oc8 kV8 dc8 pm8 cd8 ct8 oc9 kV9 dc9 pm9 cd9 ct9 oc10 kV10 dc10 pm10 cd10 ct10 oc11 kV11 dc11 pm11 cd11 ct11 oc12 kV12 dc12 pm12 cd12 ct12 oc13 kV13 dc13 pm13 cd13 ct13 oc14 kV14 dc14 pm14 cd14 ct14 oc15 kV15 dc15 pm15 cd15 ct15 oc16 kV16 dc16 pm16 cd16 ct16 oc17 kV17 dc17 pm17 cd17 ct17 oc18 kV18 dc18 pm18 cd18 ct18 oc19 kV19 dc19 pm19 cd19 ct19 oc20 kV20 dc20 pm20 cd20 ct20 oc21 kV21 dc21 pm21 cd21 ct21 oc22 kV22 dc22 pm22 cd22 ct22 oc23 kV23 dc23 pm23 cd23 ct23 oc24 kV24 dc24 pm24 cd24 ct24 oc25 kV25 dc25 pm25 cd25 ct25 oc26 kV26 dc26 pm26 cd26 ct26 oc27 kV27 dc27 pm27 cd27 ct27 oc28 kV28 dc28 pm28 cd28 ct28 oc29 kV29 dc29 pm29 cd29 ct29 oc30 kV30 dc30 pm30 cd30 ct30 oc31 kV31 dc31 pm31 cd31 ct31 : Value}
    {tk_MOST_HALLS : Tok} (g_MOST_HALLS : PySem.W.nsIn K mainGlobals "MOST_HALLS" = some (some (.int 10 tk_MOST_HALLS)))
    (a1 : PySem.W.nsIn K mainGlobals "is_number" = some (some (.ref f1))) (l1 : K.lookup f1 = some ⟨oc1, od1, .func (PySem.W.fnOf "is_number" "is_number" (defArgs s_is_number) (defBody s_is_number) (defScope s_is_number) .none kV1 dc1 pm1 an1 cd1 ct1), sl1⟩) (c1 : PySem.W.codeIn K cd1 "is_number" = true) (k1 : PySem.W.keepIn K (.ref f1) = true)
    (a2 : PySem.W.nsIn K mainGlobals "is_pair" = some (some (.ref f2))) (l2 : K.lookup f2 = some ⟨oc2, od2, .func (PySem.W.fnOf "is_pair" "is_pair" (defArgs s_is_pair) (defBody s_is_pair) (defScope s_is_pair) .none kV2 dc2 pm2 an2 cd2 ct2), sl2⟩) (c2 : PySem.W.codeIn K cd2 "is_pair" = true) (k2 : PySem.W.keepIn K (.ref f2) = true)
    (a3 : PySem.W.nsIn K mainGlobals "are_numbers" = some (some (.ref f3))) (l3 : K.lookup f3 = some ⟨oc3, od3, .func (PySem.W.fnOf "are_numbers" "are_numbers" (defArgs s_are_numbers) (defBody s_are_numbers) (defScope s_are_numbers) .none kV3 dc3 pm3 an3 cd3 ct3), sl3⟩) (c3 : PySem.W.codeIn K cd3 "are_numbers" = true) (k3 : PySem.W.keepIn K (.ref f3) = true)
    (a4 : PySem.W.nsIn K mainGlobals "is_shuffle" = some (some (.ref f4))) (l4 : K.lookup f4 = some ⟨oc4, od4, .func (PySem.W.fnOf "is_shuffle" "is_shuffle" (defArgs s_is_shuffle) (defBody s_is_shuffle) (defScope s_is_shuffle) .none kV4 dc4 pm4 an4 cd4 ct4), sl4⟩) (c4 : PySem.W.codeIn K cd4 "is_shuffle" = true) (k4 : PySem.W.keepIn K (.ref f4) = true)
    (a5 : PySem.W.nsIn K mainGlobals "ascends" = some (some (.ref f5))) (l5 : K.lookup f5 = some ⟨oc5, od5, .func (PySem.W.fnOf "ascends" "ascends" (defArgs s_ascends) (defBody s_ascends) (defScope s_ascends) .none kV5 dc5 pm5 an5 cd5 ct5), sl5⟩) (c5 : PySem.W.codeIn K cd5 "ascends" = true) (k5 : PySem.W.keepIn K (.ref f5) = true)
    (a6 : PySem.W.nsIn K mainGlobals "is_hall" = some (some (.ref f6))) (l6 : K.lookup f6 = some ⟨oc6, od6, .func (PySem.W.fnOf "is_hall" "is_hall" (defArgs s_is_hall) (defBody s_is_hall) (defScope s_is_hall) .none kV6 dc6 pm6 an6 cd6 ct6), sl6⟩) (c6 : PySem.W.codeIn K cd6 "is_hall" = true) (k6 : PySem.W.keepIn K (.ref f6) = true)
    (a7 : PySem.W.nsIn K mainGlobals "is_door" = some (some (.ref f7))) (l7 : K.lookup f7 = some ⟨oc7, od7, .func (PySem.W.fnOf "is_door" "is_door" (defArgs s_is_door) (defBody s_is_door) (defScope s_is_door) .none kV7 dc7 pm7 an7 cd7 ct7), sl7⟩) (c7 : PySem.W.codeIn K cd7 "is_door" = true) (k7 : PySem.W.keepIn K (.ref f7) = true)
    (a8 : PySem.W.nsIn K mainGlobals "are_doors" = some (some (.ref f8))) (l8 : K.lookup f8 = some ⟨oc8, od8, .func (PySem.W.fnOf "are_doors" "are_doors" (defArgs s_are_doors) (defBody s_are_doors) (defScope s_are_doors) .none kV8 dc8 pm8 an8 cd8 ct8), sl8⟩) (c8 : PySem.W.codeIn K cd8 "are_doors" = true) (k8 : PySem.W.keepIn K (.ref f8) = true)
    (a9 : PySem.W.nsIn K mainGlobals "turned_doors" = some (some (.ref f9))) (l9 : K.lookup f9 = some ⟨oc9, od9, .func (PySem.W.fnOf "turned_doors" "turned_doors" (defArgs s_turned_doors) (defBody s_turned_doors) (defScope s_turned_doors) .none kV9 dc9 pm9 an9 cd9 ct9), sl9⟩) (c9 : PySem.W.codeIn K cd9 "turned_doors" = true) (k9 : PySem.W.keepIn K (.ref f9) = true)
    (a10 : PySem.W.nsIn K mainGlobals "steps_from" = some (some (.ref f10))) (l10 : K.lookup f10 = some ⟨oc10, od10, .func (PySem.W.fnOf "steps_from" "steps_from" (defArgs s_steps_from) (defBody s_steps_from) (defScope s_steps_from) .none kV10 dc10 pm10 an10 cd10 ct10), sl10⟩) (c10 : PySem.W.codeIn K cd10 "steps_from" = true) (k10 : PySem.W.keepIn K (.ref f10) = true)
    (a11 : PySem.W.nsIn K mainGlobals "are_joined" = some (some (.ref f11))) (l11 : K.lookup f11 = some ⟨oc11, od11, .func (PySem.W.fnOf "are_joined" "are_joined" (defArgs s_are_joined) (defBody s_are_joined) (defScope s_are_joined) .none kV11 dc11 pm11 an11 cd11 ct11), sl11⟩) (c11 : PySem.W.codeIn K cd11 "are_joined" = true) (k11 : PySem.W.keepIn K (.ref f11) = true)
    (a12 : PySem.W.nsIn K mainGlobals "house_fault" = some (some (.ref f12))) (l12 : K.lookup f12 = some ⟨oc12, od12, .func (PySem.W.fnOf "house_fault" "house_fault" (defArgs s_house_fault) (defBody s_house_fault) (defScope s_house_fault) .none kV12 dc12 pm12 an12 cd12 ct12), sl12⟩) (c12 : PySem.W.codeIn K cd12 "house_fault" = true) (k12 : PySem.W.keepIn K (.ref f12) = true)
    (a13 : PySem.W.nsIn K mainGlobals "check_house" = some (some (.ref f13))) (l13 : K.lookup f13 = some ⟨oc13, od13, .func (PySem.W.fnOf "check_house" "check_house" (defArgs s_check_house) (defBody s_check_house) (defScope s_check_house) .none kV13 dc13 pm13 an13 cd13 ct13), sl13⟩) (c13 : PySem.W.codeIn K cd13 "check_house" = true) (k13 : PySem.W.keepIn K (.ref f13) = true)
    (a14 : PySem.W.nsIn K mainGlobals "is_map" = some (some (.ref f14))) (l14 : K.lookup f14 = some ⟨oc14, od14, .func (PySem.W.fnOf "is_map" "is_map" (defArgs s_is_map) (defBody s_is_map) (defScope s_is_map) .none kV14 dc14 pm14 an14 cd14 ct14), sl14⟩) (c14 : PySem.W.codeIn K cd14 "is_map" = true) (k14 : PySem.W.keepIn K (.ref f14) = true)
    (a15 : PySem.W.nsIn K mainGlobals "marks_of" = some (some (.ref f15))) (l15 : K.lookup f15 = some ⟨oc15, od15, .func (PySem.W.fnOf "marks_of" "marks_of" (defArgs s_marks_of) (defBody s_marks_of) (defScope s_marks_of) .none kV15 dc15 pm15 an15 cd15 ct15), sl15⟩) (c15 : PySem.W.codeIn K cd15 "marks_of" = true) (k15 : PySem.W.keepIn K (.ref f15) = true)
    (a16 : PySem.W.nsIn K mainGlobals "choices_of" = some (some (.ref f16))) (l16 : K.lookup f16 = some ⟨oc16, od16, .func (PySem.W.fnOf "choices_of" "choices_of" (defArgs s_choices_of) (defBody s_choices_of) (defScope s_choices_of) .none kV16 dc16 pm16 an16 cd16 ct16), sl16⟩) (c16 : PySem.W.codeIn K cd16 "choices_of" = true) (k16 : PySem.W.keepIn K (.ref f16) = true)
    (a17 : PySem.W.nsIn K mainGlobals "goes_on" = some (some (.ref f17))) (l17 : K.lookup f17 = some ⟨oc17, od17, .func (PySem.W.fnOf "goes_on" "goes_on" (defArgs s_goes_on) (defBody s_goes_on) (defScope s_goes_on) .none kV17 dc17 pm17 an17 cd17 ct17), sl17⟩) (c17 : PySem.W.codeIn K cd17 "goes_on" = true) (k17 : PySem.W.keepIn K (.ref f17) = true)
    (a18 : PySem.W.nsIn K mainGlobals "least_maps" = some (some (.ref f18))) (l18 : K.lookup f18 = some ⟨oc18, od18, .func (PySem.W.fnOf "least_maps" "least_maps" (defArgs s_least_maps) (defBody s_least_maps) (defScope s_least_maps) .none kV18 dc18 pm18 an18 cd18 ct18), sl18⟩) (c18 : PySem.W.codeIn K cd18 "least_maps" = true) (k18 : PySem.W.keepIn K (.ref f18) = true)
    (a19 : PySem.W.nsIn K mainGlobals "like" = some (some (.ref f19))) (l19 : K.lookup f19 = some ⟨oc19, od19, .func (PySem.W.fnOf "like" "like" (defArgs s_like) (defBody s_like) (defScope s_like) .none kV19 dc19 pm19 an19 cd19 ct19), sl19⟩) (c19 : PySem.W.codeIn K cd19 "like" = true) (k19 : PySem.W.keepIn K (.ref f19) = true)
    (a20 : PySem.W.nsIn K mainGlobals "are_alike" = some (some (.ref f20))) (l20 : K.lookup f20 = some ⟨oc20, od20, .func (PySem.W.fnOf "are_alike" "are_alike" (defArgs s_are_alike) (defBody s_are_alike) (defScope s_are_alike) .none kV20 dc20 pm20 an20 cd20 ct20), sl20⟩) (c20 : PySem.W.codeIn K cd20 "are_alike" = true) (k20 : PySem.W.keepIn K (.ref f20) = true)
    (a21 : PySem.W.nsIn K mainGlobals "shows_like" = some (some (.ref f21))) (l21 : K.lookup f21 = some ⟨oc21, od21, .func (PySem.W.fnOf "shows_like" "shows_like" (defArgs s_shows_like) (defBody s_shows_like) (defScope s_shows_like) .none kV21 dc21 pm21 an21 cd21 ct21), sl21⟩) (c21 : PySem.W.codeIn K cd21 "shows_like" = true) (k21 : PySem.W.keepIn K (.ref f21) = true)
    (a22 : PySem.W.nsIn K mainGlobals "_law_taken" = some (some (.ref f22))) (l22 : K.lookup f22 = some ⟨oc22, od22, .func (PySem.W.fnOf "_law_taken" "_law_taken" (defArgs s__law_taken) (defBody s__law_taken) (defScope s__law_taken) .none kV22 dc22 pm22 an22 cd22 ct22), sl22⟩) (c22 : PySem.W.codeIn K cd22 "_law_taken" = true) (k22 : PySem.W.keepIn K (.ref f22) = true)
    (a23 : PySem.W.nsIn K mainGlobals "_law_pick" = some (some (.ref f23))) (l23 : K.lookup f23 = some ⟨oc23, od23, .func (PySem.W.fnOf "_law_pick" "_law_pick" (defArgs s__law_pick) (defBody s__law_pick) (defScope s__law_pick) .none kV23 dc23 pm23 an23 cd23 ct23), sl23⟩) (c23 : PySem.W.codeIn K cd23 "_law_pick" = true) (k23 : PySem.W.keepIn K (.ref f23) = true)
    (a24 : PySem.W.nsIn K mainGlobals "_law_alike" = some (some (.ref f24))) (l24 : K.lookup f24 = some ⟨oc24, od24, .func (PySem.W.fnOf "_law_alike" "_law_alike" (defArgs s__law_alike) (defBody s__law_alike) (defScope s__law_alike) .none kV24 dc24 pm24 an24 cd24 ct24), sl24⟩) (c24 : PySem.W.codeIn K cd24 "_law_alike" = true) (k24 : PySem.W.keepIn K (.ref f24) = true)
    (a25 : PySem.W.nsIn K mainGlobals "_law_circle" = some (some (.ref f25))) (l25 : K.lookup f25 = some ⟨oc25, od25, .func (PySem.W.fnOf "_law_circle" "_law_circle" (defArgs s__law_circle) (defBody s__law_circle) (defScope s__law_circle) .none kV25 dc25 pm25 an25 cd25 ct25), sl25⟩) (c25 : PySem.W.codeIn K cd25 "_law_circle" = true) (k25 : PySem.W.keepIn K (.ref f25) = true)
    (a26 : PySem.W.nsIn K mainGlobals "_law_known" = some (some (.ref f26))) (l26 : K.lookup f26 = some ⟨oc26, od26, .func (PySem.W.fnOf "_law_known" "_law_known" (defArgs s__law_known) (defBody s__law_known) (defScope s__law_known) .none kV26 dc26 pm26 an26 cd26 ct26), sl26⟩) (c26 : PySem.W.codeIn K cd26 "_law_known" = true) (k26 : PySem.W.keepIn K (.ref f26) = true)
    (a27 : PySem.W.nsIn K mainGlobals "_law_moved" = some (some (.ref f27))) (l27 : K.lookup f27 = some ⟨oc27, od27, .func (PySem.W.fnOf "_law_moved" "_law_moved" (defArgs s__law_moved) (defBody s__law_moved) (defScope s__law_moved) .none kV27 dc27 pm27 an27 cd27 ct27), sl27⟩) (c27 : PySem.W.codeIn K cd27 "_law_moved" = true) (k27 : PySem.W.keepIn K (.ref f27) = true)
    (a28 : PySem.W.nsIn K mainGlobals "_law_turn" = some (some (.ref f28))) (l28 : K.lookup f28 = some ⟨oc28, od28, .func (PySem.W.fnOf "_law_turn" "_law_turn" (defArgs s__law_turn) (defBody s__law_turn) (defScope s__law_turn) .none kV28 dc28 pm28 an28 cd28 ct28), sl28⟩) (c28 : PySem.W.codeIn K cd28 "_law_turn" = true) (k28 : PySem.W.keepIn K (.ref f28) = true)
    (a29 : PySem.W.nsIn K mainGlobals "_law_house" = some (some (.ref f29))) (l29 : K.lookup f29 = some ⟨oc29, od29, .func (PySem.W.fnOf "_law_house" "_law_house" (defArgs s__law_house) (defBody s__law_house) (defScope s__law_house) .none kV29 dc29 pm29 an29 cd29 ct29), sl29⟩) (c29 : PySem.W.codeIn K cd29 "_law_house" = true) (k29 : PySem.W.keepIn K (.ref f29) = true)
    (a30 : PySem.W.nsIn K mainGlobals "_law_maps" = some (some (.ref f30))) (l30 : K.lookup f30 = some ⟨oc30, od30, .func (PySem.W.fnOf "_law_maps" "_law_maps" (defArgs s__law_maps) (defBody s__law_maps) (defScope s__law_maps) .none kV30 dc30 pm30 an30 cd30 ct30), sl30⟩) (c30 : PySem.W.codeIn K cd30 "_law_maps" = true) (k30 : PySem.W.keepIn K (.ref f30) = true)
    (a31 : PySem.W.nsIn K mainGlobals "law" = some (some (.ref f31))) (l31 : K.lookup f31 = some ⟨oc31, od31, .func (PySem.W.fnOf "law" "law" (defArgs s_law) (defBody s_law) (defScope s_law) .none kV31 dc31 pm31 an31 cd31 ct31), sl31⟩) (c31 : PySem.W.codeIn K cd31 "law" = true) (k31 : PySem.W.keepIn K (.ref f31) = true)
    (z_len : PySem.W.nsIn K mainGlobals "len" = some none)
    (z_isinstance : PySem.W.nsIn K mainGlobals "isinstance" = some none)
    (z_tuple : PySem.W.nsIn K mainGlobals "tuple" = some none)
    (z_list : PySem.W.nsIn K mainGlobals "list" = some none)
    (z_range : PySem.W.nsIn K mainGlobals "range" = some none)
    (z_sorted : PySem.W.nsIn K mainGlobals "sorted" = some none)
    (z_set : PySem.W.nsIn K mainGlobals "set" = some none)
    (z_all : PySem.W.nsIn K mainGlobals "all" = some none)
    (z_any : PySem.W.nsIn K mainGlobals "any" = some none)
    (z_int : PySem.W.nsIn K mainGlobals "int" = some none)
    (z_bool : PySem.W.nsIn K mainGlobals "bool" = some none)
    (z_str : PySem.W.nsIn K mainGlobals "str" = some none)
    (z_min : PySem.W.nsIn K mainGlobals "min" = some none)
    (z_max : PySem.W.nsIn K mainGlobals "max" = some none)
    (z_sum : PySem.W.nsIn K mainGlobals "sum" = some none)
    (z_dict : PySem.W.nsIn K mainGlobals "dict" = some none)
    (z_enumerate : PySem.W.nsIn K mainGlobals "enumerate" = some none)
    (z_zip : PySem.W.nsIn K mainGlobals "zip" = some none)
    (z_reversed : PySem.W.nsIn K mainGlobals "reversed" = some none)
    (z_abs : PySem.W.nsIn K mainGlobals "abs" = some none)
    (z_type : PySem.W.nsIn K mainGlobals "type" = some none)
    : ∃ fd : FuncData, (∀ (s : Shared) (v : Value), BindsTo s fd ⟨[v], []⟩ [("script", v)]) ∧ ∀ base : Heap, K.In base → base.Ns mainGlobals mg → FnOk l.prog w K mg base CX0 10 fa fd ["script"] (spL K) := by
  have e := hfa.symm.trans (PySem.W.mg_of X G a31)
  cases e
  have B : Bi mg := ⟨PySem.W.mg_none_of X G z_len, PySem.W.mg_none_of X G z_isinstance, PySem.W.mg_none_of X G z_tuple, PySem.W.mg_none_of X G z_list, PySem.W.mg_none_of X G z_range, PySem.W.mg_none_of X G z_sorted, PySem.W.mg_none_of X G z_set, PySem.W.mg_none_of X G z_all, PySem.W.mg_none_of X G z_any, PySem.W.mg_none_of X G z_int, PySem.W.mg_none_of X G z_bool, PySem.W.mg_none_of X G z_str, PySem.W.mg_none_of X G z_min, PySem.W.mg_none_of X G z_max, PySem.W.mg_none_of X G z_sum, PySem.W.mg_none_of X G z_dict, PySem.W.mg_none_of X G z_enumerate, PySem.W.mg_none_of X G z_zip, PySem.W.mg_none_of X G z_reversed, PySem.W.mg_none_of X G z_abs, PySem.W.mg_none_of X G z_type⟩
  have F1 := fun_mk (st := s_is_number) l1 c1 k1
  have b1 := F1.binds (ps := ["value", "low", "high"]) fun _ _ _ _ _ _ us hl => match us, hl with | [_, _, _], _ => rfl
  have F2 := fun_mk (st := s_is_pair) l2 c2 k2
  have b2 := F2.binds (ps := ["value"]) fun _ _ _ _ _ _ us hl => match us, hl with | [_], _ => rfl
  have F3 := fun_mk (st := s_are_numbers) l3 c3 k3
  have b3 := F3.binds (ps := ["value", "many", "high"]) fun _ _ _ _ _ _ us hl => match us, hl with | [_, _, _], _ => rfl
  have F4 := fun_mk (st := s_is_shuffle) l4 c4 k4
  have b4 := F4.binds (ps := ["value", "size"]) fun _ _ _ _ _ _ us hl => match us, hl with | [_, _], _ => rfl
  have F5 := fun_mk (st := s_ascends) l5 c5 k5
  have b5 := F5.binds (ps := ["items"]) fun _ _ _ _ _ _ us hl => match us, hl with | [_], _ => rfl
  have F6 := fun_mk (st := s_is_hall) l6 c6 k6
  have b6 := F6.binds (ps := ["halls", "value"]) fun _ _ _ _ _ _ us hl => match us, hl with | [_, _], _ => rfl
  have F7 := fun_mk (st := s_is_door) l7 c7 k7
  have b7 := F7.binds (ps := ["halls", "value"]) fun _ _ _ _ _ _ us hl => match us, hl with | [_, _], _ => rfl
  have F8 := fun_mk (st := s_are_doors) l8 c8 k8
  have b8 := F8.binds (ps := ["halls", "value"]) fun _ _ _ _ _ _ us hl => match us, hl with | [_, _], _ => rfl
  have F9 := fun_mk (st := s_turned_doors) l9 c9 k9
  have b9 := F9.binds (ps := ["doors"]) fun _ _ _ _ _ _ us hl => match us, hl with | [_], _ => rfl
  have F10 := fun_mk (st := s_steps_from) l10 c10 k10
  have b10 := F10.binds (ps := ["doors", "start"]) fun _ _ _ _ _ _ us hl => match us, hl with | [_, _], _ => rfl
  have F11 := fun_mk (st := s_are_joined) l11 c11 k11
  have b11 := F11.binds (ps := ["halls", "doors"]) fun _ _ _ _ _ _ us hl => match us, hl with | [_, _], _ => rfl
  have F12 := fun_mk (st := s_house_fault) l12 c12 k12
  have b12 := F12.binds (ps := ["value"]) fun _ _ _ _ _ _ us hl => match us, hl with | [_], _ => rfl
  have F13 := fun_mk (st := s_check_house) l13 c13 k13
  have b13 := F13.binds (ps := ["value"]) fun _ _ _ _ _ _ us hl => match us, hl with | [_], _ => rfl
  have F14 := fun_mk (st := s_is_map) l14 c14 k14
  have b14 := F14.binds (ps := ["one", "other", "value"]) fun _ _ _ _ _ _ us hl => match us, hl with | [_, _, _], _ => rfl
  have F15 := fun_mk (st := s_marks_of) l15 c15 k15
  have b15 := F15.binds (ps := ["house"]) fun _ _ _ _ _ _ us hl => match us, hl with | [_], _ => rfl
  have F16 := fun_mk (st := s_choices_of) l16 c16 k16
  have b16 := F16.binds (ps := ["one", "other"]) fun _ _ _ _ _ _ us hl => match us, hl with | [_, _], _ => rfl
  have F17 := fun_mk (st := s_goes_on) l17 c17 k17
  have b17 := F17.binds (ps := ["doors", "others", "start", "hall"]) fun _ _ _ _ _ _ us hl => match us, hl with | [_, _, _, _], _ => rfl
  have F18 := fun_mk (st := s_least_maps) l18 c18 k18
  have b18 := F18.binds (ps := ["one", "other", "most"]) fun _ _ _ _ _ _ us hl => match us, hl with | [_, _, _], _ => rfl
  have F19 := fun_mk (st := s_like) l19 c19 k19
  have b19 := F19.binds (ps := ["one", "other"]) fun _ _ _ _ _ _ us hl => match us, hl with | [_, _], _ => rfl
  have F20 := fun_mk (st := s_are_alike) l20 c20 k20
  have b20 := F20.binds (ps := ["one", "other"]) fun _ _ _ _ _ _ us hl => match us, hl with | [_, _], _ => rfl
  have F21 := fun_mk (st := s_shows_like) l21 c21 k21
  have b21 := F21.binds (ps := ["one", "other", "value"]) fun _ _ _ _ _ _ us hl => match us, hl with | [_, _, _], _ => rfl
  have F22 := fun_mk (st := s__law_taken) l22 c22 k22
  have b22 := F22.binds (ps := ["row", "many"]) fun _ _ _ _ _ _ us hl => match us, hl with | [_, _], _ => rfl
  have F23 := fun_mk (st := s__law_pick) l23 c23 k23
  have b23 := F23.binds (ps := ["row", "things"]) fun _ _ _ _ _ _ us hl => match us, hl with | [_, _], _ => rfl
  have F24 := fun_mk (st := s__law_alike) l24 c24 k24
  have b24 := F24.binds (ps := ["found", "due"]) fun _ _ _ _ _ _ us hl => match us, hl with | [_, _], _ => rfl
  have F25 := fun_mk (st := s__law_circle) l25 c25 k25
  have b25 := F25.binds (ps := ["halls", "steps"]) fun _ _ _ _ _ _ us hl => match us, hl with | [_, _], _ => rfl
  have F26 := fun_mk (st := s__law_known) l26 c26 k26
  have b26 := F26.binds (ps := ["most"]) fun _ _ _ _ _ _ us hl => match us, hl with | [_], _ => rfl
  have F27 := fun_mk (st := s__law_moved) l27 c27 k27
  have b27 := F27.binds (ps := ["house", "turn"]) fun _ _ _ _ _ _ us hl => match us, hl with | [_, _], _ => rfl
  have F28 := fun_mk (st := s__law_turn) l28 c28 k28
  have b28 := F28.binds (ps := ["row", "halls"]) fun _ _ _ _ _ _ us hl => match us, hl with | [_, _], _ => rfl
  have F29 := fun_mk (st := s__law_house) l29 c29 k29
  have b29 := F29.binds (ps := ["row", "most"]) fun _ _ _ _ _ _ us hl => match us, hl with | [_, _], _ => rfl
  have F30 := fun_mk (st := s__law_maps) l30 c30 k30
  have b30 := F30.binds (ps := ["one", "other"]) fun _ _ _ _ _ _ us hl => match us, hl with | [_, _], _ => rfl
  have F31 := fun_mk (st := s_law) l31 c31 k31
  have b31 := F31.binds (ps := ["script"]) fun _ _ _ _ _ _ us hl => match us, hl with | [_], _ => rfl
  refine ⟨PySem.W.fnOf "law" "law" (defArgs s_law) (defBody s_law) (defScope s_law) .none kV31 dc31 pm31 an31 cd31 ct31, fun s v => .of_eq rfl, fun base _ _ => ?_⟩
  have C1 := cal_mk F1 (ok_is_number (P := l.prog) (w := w) (base := base) B   F1) (PySem.W.mg_of X G a1) b1
  have C2 := cal_mk F2 (ok_is_pair (P := l.prog) (w := w) (base := base) B   F2) (PySem.W.mg_of X G a2) b2
  have C3 := cal_mk F3 (ok_are_numbers (P := l.prog) (w := w) (base := base) B  C1 F3) (PySem.W.mg_of X G a3) b3
  have C4 := cal_mk F4 (ok_is_shuffle (P := l.prog) (w := w) (base := base) B  C3 F4) (PySem.W.mg_of X G a4) b4
  have C5 := cal_mk F5 (ok_ascends (P := l.prog) (w := w) (base := base) B   F5) (PySem.W.mg_of X G a5) b5
  have C6 := cal_mk F6 (ok_is_hall (P := l.prog) (w := w) (base := base) B  C1 F6) (PySem.W.mg_of X G a6) b6
  have C7 := cal_mk F7 (ok_is_door (P := l.prog) (w := w) (base := base) B  C2 C6 F7) (PySem.W.mg_of X G a7) b7
  have C8 := cal_mk F8 (ok_are_doors (P := l.prog) (w := w) (base := base) B  C7 C5 F8) (PySem.W.mg_of X G a8) b8
  have C9 := cal_mk F9 (ok_turned_doors (P := l.prog) (w := w) (base := base) B   F9) (PySem.W.mg_of X G a9) b9
  have C10 := cal_mk F10 (ok_steps_from (P := l.prog) (w := w) (base := base) B   F10) (PySem.W.mg_of X G a10) b10
  have C11 := cal_mk F11 (ok_are_joined (P := l.prog) (w := w) (base := base) B  C10 C9 F11) (PySem.W.mg_of X G a11) b11
  have C12 := cal_mk F12 (ok_house_fault (P := l.prog) (w := w) (base := base) B (PySem.W.mg_of X G g_MOST_HALLS) C2 C1 C8 C11 F12) (PySem.W.mg_of X G a12) b12
  have C13 := cal_mk F13 (ok_check_house (P := l.prog) (w := w) (base := base) B  C12 F13) (PySem.W.mg_of X G a13) b13
  have C14 := cal_mk F14 (ok_is_map (P := l.prog) (w := w) (base := base) B  C4 F14) (PySem.W.mg_of X G a14) b14
  have C15 := cal_mk F15 (ok_marks_of (P := l.prog) (w := w) (base := base) B   F15) (PySem.W.mg_of X G a15) b15
  have C16 := cal_mk F16 (ok_choices_of (P := l.prog) (w := w) (base := base) B  C15 F16) (PySem.W.mg_of X G a16) b16
  have C17 := cal_mk F17 (ok_goes_on (P := l.prog) (w := w) (base := base) B   F17) (PySem.W.mg_of X G a17) b17
  have C18 := cal_mk F18 (ok_least_maps (P := l.prog) (w := w) (base := base) B  C15 C16 C17 F18) (PySem.W.mg_of X G a18) b18
  have C19 := cal_mk F19 (ok_like (P := l.prog) (w := w) (base := base) B  C13 C18 F19) (PySem.W.mg_of X G a19) b19
  have C20 := cal_mk F20 (ok_are_alike (P := l.prog) (w := w) (base := base) B  C19 F20) (PySem.W.mg_of X G a20) b20
  have C21 := cal_mk F21 (ok_shows_like (P := l.prog) (w := w) (base := base) B  C13 C20 C14 F21) (PySem.W.mg_of X G a21) b21
  have C22 := cal_mk F22 (ok__law_taken (P := l.prog) (w := w) (base := base) B   F22) (PySem.W.mg_of X G a22) b22
  have C23 := cal_mk F23 (ok__law_pick (P := l.prog) (w := w) (base := base) B  C22 F23) (PySem.W.mg_of X G a23) b23
  have R24 : ∀ n : Nat, FnOk l.prog w K mg base CX0 n f24 _ ["found", "due"] (spZ K mg 2 (f__law_alike n)) := fun n => by
    induction n with
    | zero => exact fn_un rfl
    | succ n ih => exact bd__law_alike (P := l.prog) (w := w) (base := base) B   (cal_mk F24 ih (PySem.W.mg_of X G a24) b24) F24
  have C24 := cal_mono (cal_mk F24 (R24 6) (PySem.W.mg_of X G a24) b24) (show 6 ≤ 7 by omega)
  have C25 := cal_mk F25 (ok__law_circle (P := l.prog) (w := w) (base := base) B   F25) (PySem.W.mg_of X G a25) b25
  have C26 := cal_mk F26 (ok__law_known (P := l.prog) (w := w) (base := base) B  C25 F26) (PySem.W.mg_of X G a26) b26
  have C27 := cal_mk F27 (ok__law_moved (P := l.prog) (w := w) (base := base) B   F27) (PySem.W.mg_of X G a27) b27
  have C28 := cal_mk F28 (ok__law_turn (P := l.prog) (w := w) (base := base) B  C22 F28) (PySem.W.mg_of X G a28) b28
  have C29 := cal_mk F29 (ok__law_house (P := l.prog) (w := w) (base := base) B  C22 C26 C23 C28 C27 C25 F29) (PySem.W.mg_of X G a29) b29
  have C30 := cal_mk F30 (ok__law_maps (P := l.prog) (w := w) (base := base) B   F30) (PySem.W.mg_of X G a30) b30
  exact law_imp (ok_law (P := l.prog) (w := w) (base := base) B  C29 C28 C27 C23 C30 C19 C20 C24 C21 C22 F31) fun ns hl => x_law ns
theorem walk {l : PySem.W.OpenLaw} {q : Program} {loose : List Str} {XP : (Str → Option Value) → Heap → Prop} {YP : World → Heap → Prop} {d : DefRec} {K : Params → PySem.W.Frag} (hn : l.most = some 63) (hdf : d.params.defaults = [])
    (hY : ∀ (w : World) (h : Heap), YP w h → (K w.params).In h)
    (F : ∀ (w : World) (mg : Str → Option Value) (fa : Addr) (h : Heap), (K w.params).In h → h.Ns mainGlobals mg → mg d.name = some (.ref fa) →
      ∃ fd : FuncData, (∀ (s : Shared) (u : Value), BindsTo s fd ⟨[u], []⟩ [("script", u)]) ∧ ∀ base : Heap, (K w.params).In base → base.Ns mainGlobals mg → FnOk l.prog w (K w.params) mg base CX0 10 fa fd ["script"] (spL (K w.params))) :
    PySem.W.WalkO q loose XP YP l.row.toRowW d [] (fun f vs => PySem.call f vs) :=
  L2.walk_of (n := 63) (k := 10) (x := "script") (CX := fun _ => CX0) (sp := fun w => spL (K w.params)) hn (by decide) hdf ⟨rfl, by decide, by decide⟩ hY F (fun _ _ a ns hl _ hS => ⟨a, ns, rfl, hS, hl, fun _ => rfl⟩) fun _ _ _ _ _ z => z
end K09
open PySem PySem.W PyProof.Rows
set_option maxRecDepth 100000 in
set_option maxHeartbeats 0 in
theorem PySem.Challenge.cw_letterhalls_k09_whole_likes_holds : PySem.Challenge.rw_letterhalls_k09_whole_likes.Holds := by
  w_on; o_law; k_head; (case hw => w_witness2)
  k_fill
  refine K09.walk (l := PySem.Challenge.rw_letterhalls_k09_whole_likes) rfl rfl (fun w h Y => PySem.W.kIn_of Y) ?F
  case F =>
    intro w mg fa h KX G hmg
    refine' K09.all_mk KX G hmg ?g_MOST_HALLS ?a1 ?l1 ?c1 ?k1 ?a2 ?l2 ?c2 ?k2 ?a3 ?l3 ?c3 ?k3 ?a4 ?l4 ?c4 ?k4 ?a5 ?l5 ?c5 ?k5 ?a6 ?l6 ?c6 ?k6 ?a7 ?l7 ?c7 ?k7 ?a8 ?l8 ?c8 ?k8 ?a9 ?l9 ?c9 ?k9 ?a10 ?l10 ?c10 ?k10 ?a11 ?l11 ?c11 ?k11 ?a12 ?l12 ?c12 ?k12 ?a13 ?l13 ?c13 ?k13 ?a14 ?l14 ?c14 ?k14 ?a15 ?l15 ?c15 ?k15 ?a16 ?l16 ?c16 ?k16 ?a17 ?l17 ?c17 ?k17 ?a18 ?l18 ?c18 ?k18 ?a19 ?l19 ?c19 ?k19 ?a20 ?l20 ?c20 ?k20 ?a21 ?l21 ?c21 ?k21 ?a22 ?l22 ?c22 ?k22 ?a23 ?l23 ?c23 ?k23 ?a24 ?l24 ?c24 ?k24 ?a25 ?l25 ?c25 ?k25 ?a26 ?l26 ?c26 ?k26 ?a27 ?l27 ?c27 ?k27 ?a28 ?l28 ?c28 ?k28 ?a29 ?l29 ?c29 ?k29 ?a30 ?l30 ?c30 ?k30 ?a31 ?l31 ?c31 ?k31 ?z_len ?z_isinstance ?z_tuple ?z_list ?z_range ?z_sorted ?z_set ?z_all ?z_any ?z_int ?z_bool ?z_str ?z_min ?z_max ?z_sum ?z_dict ?z_enumerate ?z_zip ?z_reversed ?z_abs ?z_type
    (case g_MOST_HALLS => k_is); (case a1 => k_is); (case l1 => k_is); (case c1 => k_is); (case k1 => k_is); (case a2 => k_is)
    (case l2 => k_is); (case c2 => k_is); (case k2 => k_is); (case a3 => k_is); (case l3 => k_is); (case c3 => k_is)
    (case k3 => k_is); (case a4 => k_is); (case l4 => k_is); (case c4 => k_is); (case k4 => k_is); (case a5 => k_is)
    (case l5 => k_is); (case c5 => k_is); (case k5 => k_is); (case a6 => k_is); (case l6 => k_is); (case c6 => k_is)
    (case k6 => k_is); (case a7 => k_is); (case l7 => k_is); (case c7 => k_is); (case k7 => k_is); (case a8 => k_is)
    (case l8 => k_is); (case c8 => k_is); (case k8 => k_is); (case a9 => k_is); (case l9 => k_is); (case c9 => k_is)
    (case k9 => k_is); (case a10 => k_is); (case l10 => k_is); (case c10 => k_is); (case k10 => k_is); (case a11 => k_is)
    (case l11 => k_is); (case c11 => k_is); (case k11 => k_is); (case a12 => k_is); (case l12 => k_is); (case c12 => k_is)
    (case k12 => k_is); (case a13 => k_is); (case l13 => k_is); (case c13 => k_is); (case k13 => k_is); (case a14 => k_is)
    (case l14 => k_is); (case c14 => k_is); (case k14 => k_is); (case a15 => k_is); (case l15 => k_is); (case c15 => k_is)
    (case k15 => k_is); (case a16 => k_is); (case l16 => k_is); (case c16 => k_is); (case k16 => k_is); (case a17 => k_is)
    (case l17 => k_is); (case c17 => k_is); (case k17 => k_is); (case a18 => k_is); (case l18 => k_is); (case c18 => k_is)
    (case k18 => k_is); (case a19 => k_is); (case l19 => k_is); (case c19 => k_is); (case k19 => k_is); (case a20 => k_is)
    (case l20 => k_is); (case c20 => k_is); (case k20 => k_is); (case a21 => k_is); (case l21 => k_is); (case c21 => k_is)
    (case k21 => k_is); (case a22 => k_is); (case l22 => k_is); (case c22 => k_is); (case k22 => k_is); (case a23 => k_is)
    (case l23 => k_is); (case c23 => k_is); (case k23 => k_is); (case a24 => k_is); (case l24 => k_is); (case c24 => k_is)
    (case k24 => k_is); (case a25 => k_is); (case l25 => k_is); (case c25 => k_is); (case k25 => k_is); (case a26 => k_is)
    (case l26 => k_is); (case c26 => k_is); (case k26 => k_is); (case a27 => k_is); (case l27 => k_is); (case c27 => k_is)
    (case k27 => k_is); (case a28 => k_is); (case l28 => k_is); (case c28 => k_is); (case k28 => k_is); (case a29 => k_is)
    (case l29 => k_is); (case c29 => k_is); (case k29 => k_is); (case a30 => k_is); (case l30 => k_is); (case c30 => k_is)
    (case k30 => k_is); (case a31 => k_is); (case l31 => k_is); (case c31 => k_is); (case k31 => k_is); (case z_len => k_is)
    (case z_isinstance => k_is); (case z_tuple => k_is); (case z_list => k_is); (case z_range => k_is); (case z_sorted => k_is); (case z_set => k_is)
    (case z_all => k_is); (case z_any => k_is); (case z_int => k_is); (case z_bool => k_is); (case z_str => k_is); (case z_min => k_is)
    (case z_max => k_is); (case z_sum => k_is); (case z_dict => k_is); (case z_enumerate => k_is); (case z_zip => k_is); (case z_reversed => k_is)
    (case z_abs => k_is); (case z_type => k_is)
