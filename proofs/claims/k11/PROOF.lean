import PyProof.Rows.All
import HandS.TupSets
import HandS.SetKeys
import Wide.All
import OpenK.AllK
import Wide.FinOn
import HandS.ForMost
import HandS.More
import HandS.TupAny
import HandS.Star
import HandS.Evl
import PyProof.Rows.StrMeet
import HandS.Walk
import PyProof.StrLawsRepr
import HandS.SortRule
import HandS.Deep
import KE.GoesEnum
import KE.GoesMore
import HandS.ExcValue
import HandS.Strs
import KE.KeyNested
import KE.LtSeq
import HandS.OwnEq
import HandS.IsInst
import HandS.StrMore
import HandS.OwnIter
import HandS.IterVal
import KE.KOwnIter
import OpenK.KOps
import HandS.Keys
import HandS.SortKw
import KE.KSortKeyAny
import HandS.Comp
import HandS.SetBool
import HandS.ExcInit
import HandS.ExcIs
import HandS.ExcField
import KE.KExcIs
import KE.KExcInit
import KE.KExcMake
import OpenK.KMeth
import HandS.Exc
import HandS.ExcOwn
import HandS.WordsExc
import HandS.TryElse
import PyProof.NeKinds
import HandS.Dict
import PyProof.StrOps2
import HandS.DeepEq
import HandS.Style
import HandS.StrSplit
import HandS.Zip
import HandS.Defaults
import HandS.CallRecv
import KE.KxText
import PySem.Challenge.RW_narrowkeys_k11_words_of_any_value
set_option Elab.async false
set_option linter.all false
set_option maxRecDepth 100000
set_option maxHeartbeats 4000000
set_option maxRecDepth 100000
set_option maxHeartbeats 4000000
namespace Qk
open PySem PySem.Spec PyProof.Rows L2
/-- the set at a holds just the texts of S -/
def TSet (P : Program) (w : World) (h : Heap) (a : Addr) (S : Str → Bool) (n : Nat) : Prop := h.SetOf (strKind P w) a S n
section
variable {P : Program} {w : World} {A : Around} {E : Value → Shared → Prop} {s : Shared} {a o r : Addr} {S T R : Str → Bool} {n m k : Nat}
theorem TSet.keep {h h' : Heap} {a : Addr} {S : Str → Bool} {n : Nat} (x : TSet P w h a S n) (k : ∀ u, h.get? a = some u → h'.get? a = some u) : TSet P w h' a S n := by
  obtain ⟨oa, es, ep, t, ho, r⟩ := x
  exact ⟨oa, es, ep, t, k _ ho, r⟩
end
end Qk
set_option maxRecDepth 100000
set_option maxHeartbeats 4000000
set_option maxRecDepth 100000
set_option maxHeartbeats 4000000
namespace Qk
open PySem PySem.Spec PyProof.Rows L2
section
variable {X : Cx}
theorem get_list : PGet X (fun o i H Q => ∃ p xs j v, o = .ref p ∧ i = .int ((j : Nat) : Int) ∧ SqL X.K H p xs ∧ xs[j]? = some v ∧ Q v H) := by
  intro pins s σ H o i ov iv Q I ro ri h
  obtain ⟨p, xs, j, v, rfl, rfl, hx, ha, q⟩ := h
  cases ro
  obtain ⟨t, rfl⟩ := ri
  obtain ⟨its, r, pl, hz⟩ := I.list hx
  obtain ⟨w, ew, rw'⟩ := r.get ha
  have hj : j < xs.length := (List.getElem?_eq_some_iff.mp ha).1
  have hn := line63
  exact wpAny_getItem_list pl.isList (by omega) (by omega) (by simpa using ew) ⟨v, H, I, rw', q⟩
def rSortedST (K : PySem.W.Frag) : List V → Hp → VK → Prop := fun vs H Q => ∃ (a : Addr) (ss : List Str), vs = [V.ref a] ∧ (SqL K H a (ss.map V.str) ∨ SqT K H a (ss.map V.str)) ∧ ss.length < 64 ∧
  ∀ (ys : List Str) (p : Addr), ys.Perm ss → sortedS ys = true → H p = none → Q (.ref p) (upd H p (.lst (ys.map V.str)))
theorem cr_sortedST : CallR X (.builtin "sorted") (rSortedST X.K) := by
  intro pins s σ H vs us Q I r h
  obtain ⟨a, ss, rfl, hs, h64, q⟩ := h
  rcases hs with hs | hs
  · exact cr_sortedS pins s σ H _ us Q I r ⟨a, ss, rfl, hs, h64, q⟩
  · obtain ⟨its, rv, ⟨o, ho, hc, n, hd⟩, hz⟩ := I.tuple hs
    rw [Vals.ref1 r]
    have hS : StrsAre its ss := rv.strs
    have hl : its.length = ss.length := by
      have z := rv.length
      rw [List.length_map] at z
      exact z.symm
    refine Calls.call_function_entry PyProof.Rows.kind_sorted PyProof.Rows.plain_sorted PyProof.Rows.entry_sorted (PyProof.Rows.args_sorted1 _) ?_
    unfold Builtin.«sorted»
    refine wpAny_bind (m := checkCount "sorted" 1 1 _) (wpAny_pure ?_)
    refine wpAny_bind (wpAny_collect_seq a (.inr rfl) ho hc hd (fun h' hk => ?_) (by rw [List.size_toArray, hl, sizeLine_eq]; omega))
    have e0 : its.toArray.toList = its := by simp
    rw [e0]
    have I1 : Inv X pins σ H { s with heap := h' } := I.kept (t' := s.toks) hk
    refine wpAny_bind (wpAny_newList ?_ (by rw [hl, sizeLine_eq]; omega))
    have hoL : (h'.push (seqObj "list" its.toArray 0)).get? h'.objs.size = some (seqObj "list" its.toArray 0) := Heap.get?_push_size _ rfl
    show wpAny _ _ _ _ _ { s with heap := h'.push (seqObj "list" its.toArray 0) }
    refine wpAny_bind (wpAny_holding (wpAny_call_entry PyProof.Rows.slot_list_sort ⟨_, hoL, rfl⟩ PyProof.Rows.entry_list_sort
      (list_sort_treeK strKind_oneLt (s := { s with heap := h'.push (seqObj "list" its.toArray 0) }) hoL hS.keysOf (fun v₁ v₂ rest e => keyKind_strs (by rw [← e]; exact hS)) (by rw [hl]; exact h64) fun st' hp hs => ⟨_, rfl, ?_⟩)
      (PyProof.Rows.args_list_sort _)))
    obtain ⟨ys, g1, g2, g3⟩ := sorted_out_str hS hp hs
    obtain ⟨ep, he'⟩ := PyProof.Rows.sortedHeap_at (vs := its) (out := (arrOf st').map (·.2)) hoL
    have hlen : (ys.map V.str).length ≤ sizeLine := by
      rw [List.length_map, g2.length_eq]
      exact Nat.le_trans (Nat.le_of_lt h64) (by decide)
    have hfresh : H h'.objs.size = none := I1.hok.fresh (Nat.le_refl _)
    refine wpAny_pure ⟨_, rfl, .ref h'.objs.size, upd H h'.objs.size (.lst (ys.map V.str)), I1.laid (t' := s.toks) (fun b u hu => ?_) (Nat.le_refl _)
      (show ObjOk X.prog X.w _ _ h'.objs.size (.lst (ys.map V.str)) from ⟨hlen, ((arrOf st').map (·.2)).toList, ep, vals_of_strs g1, by rw [Array.toArray_toList]; exact he'⟩), rfl, q ys _ g2 g3 hfresh⟩
    have hb : b ≠ h'.objs.size := Nat.ne_of_lt (Heap.lt_size hu)
    have hu2 : (h'.push (seqObj "list" its.toArray 0)).get? b = some u := Heap.get?_push_of_some _ hu
    rw [PyProof.Rows.sortedHeap_old hb (Heap.lt_size hu2)]
    exact hu2
end
end Qk
set_option maxRecDepth 100000
set_option maxHeartbeats 4000000
namespace Qk
open PySem PySem.Spec PyProof.Rows L2
def Bag (H : Hp) (b l : Addr) : Prop := ∃ (h m : Int) (p : Nat) (ns : List Int), H b = some (.lst [.int h, .int m, .int (p : Int), .ref l]) ∧ H l = some (.lst (ns.map V.int)) ∧ l ≠ b ∧
  0 ≤ h ∧ 0 ≤ m ∧ m < 2147483647 ∧ ∀ n ∈ ns, 0 ≤ n
/-- all but b is kept -/
def Kp (b : Addr) (H H' : Hp) : Prop := ∀ c o, H c = some o → c ≠ b → H' c = some o
theorem Kp.refl (b : Addr) (H : Hp) : Kp b H H := fun _ _ e _ => e
theorem Kp.trans {b : Addr} {H H1 H2 : Hp} (x : Kp b H H1) (y : Kp b H1 H2) : Kp b H H2 := fun c o e n => y c o (x c o e n) n
theorem Kp.of {b : Addr} {H H' : Hp} (s : Same H H') : Kp b H H' := fun c o e _ => s c o e
theorem Kp.at_ (b : Addr) (H : Hp) (o : HO) : Kp b H (upd H b o) := fun c u e n => by rw [upd_ne n]; exact e
theorem Kp.new {b p : Addr} {H : Hp} {o : HO} (hp : H p = none) : Kp b H (L2.upd H p o) := fun c u e _ => by rw [upd_ne (ne_of_none e hp)]; exact e
theorem Bag.at_ {H : Hp} {b l : Addr} (B : Bag H b l) : ∃ o, H b = some o := by
  obtain ⟨h, m, p, ns, hb, _⟩ := B
  exact ⟨_, hb⟩
theorem Bag.same {H H' : Hp} {b l : Addr} (s : Same H H') (B : Bag H b l) : Bag H' b l := by
  obtain ⟨h, m, p, ns, hb, hl, r⟩ := B
  exact ⟨h, m, p, ns, s _ _ hb, s _ _ hl, r⟩
theorem same_new {H : Hp} {p : Addr} {o : HO} (h : H p = none) : Same H (upd H p o) := fun b x e => by
  rw [upd_ne (ne_of_none e h)]
  exact e
theorem Bag.new {H : Hp} {b l p : Addr} {o : HO} (B : Bag H b l) (h : H p = none) : Bag (upd H p o) b l := B.same (same_new h)
theorem Bag.ne {H : Hp} {b l p : Addr} (B : Bag H b l) (h : H p = none) : p ≠ b := by
  obtain ⟨o, e⟩ := B.at_
  exact (ne_of_none e h).symm
/-- the bag stands nowhere where something of another kind stands -/
theorem Bag.ne_tup {H : Hp} {b l p : Addr} {xs : List V} (B : Bag H b l) (h : H p = some (.tup xs)) : p ≠ b := by
  obtain ⟨h', m, q, ns, hb, _⟩ := B
  exact ne_of h hb (by intro z; cases z)
/-- what stands beside the bag and its list may change -/
theorem Bag.off {H H' : Hp} {b l p : Addr} (B : Bag H b l) (h : ∀ c o, H c = some o → c ≠ p → H' c = some o) (nb : b ≠ p) (nl : l ≠ p) : Bag H' b l := by
  obtain ⟨h', m, q, ns, hb, hl, r⟩ := B
  exact ⟨h', m, q, ns, h _ _ hb nb, h _ _ hl nl, r⟩
theorem Bag.list {H : Hp} {b l : Addr} (B : Bag H b l) : ∃ o, H l = some o := by
  obtain ⟨h, m, p, ns, hb, hl, _⟩ := B
  exact ⟨_, hl⟩
theorem Bag.nel {H : Hp} {b l p : Addr} (B : Bag H b l) (h : H p = none) : l ≠ p := by
  obtain ⟨o, e⟩ := B.list
  exact ne_of_none e h
theorem Bag.upd {H : Hp} {b l p : Addr} {o : HO} (B : Bag H b l) (nb : b ≠ p) (nl : l ≠ p) : Bag (L2.upd H p o) b l :=
  B.off (fun c u e n => by rw [upd_ne n]; exact e) nb nl
theorem setIx {H : Hp} {b : Addr} {xs : List V} {v : V} {Q : Hp → Prop} (j : Nat) (h : H b = some (.lst xs)) (e : j < xs.length) (q : Q (upd H b (.lst (xs.set j v)))) : rSetL (.ref b) (.int (j : Int)) v H Q :=
  ⟨b, xs, (j : Int), j, rfl, rfl, h, Evl.ixN_nat e, q⟩
/-- a draw: a number below many, the bag moves on -/
def spTake : Sp := fun vs H Q _ => ∃ (b l : Addr) (n : Int), vs = [.ref b, .int n] ∧ Bag H b l ∧ 0 < n ∧ n < 1000000 ∧ ∀ (k : Nat) (H' : Hp), (k : Int) < n → Bag H' b l → Kp b H H' → Q (.int (k : Int)) H'
/-- one of a list -/
def spOne : Sp := fun vs H Q _ => ∃ (b l a : Addr) (xs : List V), vs = [.ref b, .ref a] ∧ Bag H b l ∧ a ≠ b ∧ H a = some (.lst xs) ∧ xs ≠ [] ∧ xs.length < 1000 ∧ ∀ (x : V) (H' : Hp), x ∈ xs → Bag H' b l → Kp b H H' → Q x H'
/-- a new list of the same things in some order -/
def spMixed : Sp := fun vs H Q _ => ∃ (b l a : Addr) (xs : List V), vs = [.ref b, .ref a] ∧ Bag H b l ∧ a ≠ b ∧ H a = some (.lst xs) ∧ xs.length < 1000 ∧
  ∀ (ys : List V) (p : Addr) (H' : Hp), ys.Perm xs → H p = none → p ≠ b → H' p = some (.lst ys) → Bag H' b l → Kp b H H' → Q (.ref p) H'
/-- the bag of a script -/
def spBag (K : PySem.W.Frag) : Sp := fun vs H Q _ => ∃ (a : Addr) (ns : List Int), vs = [.ref a] ∧ SqL K H a (ns.map V.int) ∧ ns.length ≤ 63 ∧ ∀ (b l : Addr) (H' : Hp), H b = none → Bag H' b l → Same H H' → Q (.ref b) H'
/-- a def that is called by its name -/
structure Cal (P : Program) (w : World) (K : PySem.W.Frag) (mg : Str → Option Value) (base : Heap) (k : Nat) (x : Str) (ps : List Str) (sp : Sp) where
  f : Addr
  fd : FuncData
  G : FnOk P w K mg base CX0 k f fd ps sp
  m : mg x = some (.ref f)
  kp : PySem.W.keepIn K (.ref f) = true
  b : Binds K fd ps []
theorem cut_to (k : Nat) (xs : List V) : cutV xs none (some (k : Int)) = xs.take k := by
  unfold cutV
  rw [HT.sIx_none, HT.sIx_nat, List.drop_zero, Nat.sub_zero]
  by_cases h : k ≤ xs.length
  · rw [Nat.min_eq_left h]
  · rw [Nat.min_eq_right (by omega), List.take_of_length_le (Nat.le_refl _), List.take_of_length_le (by omega)]
theorem take_mod {k n : Int} (hn : 0 < n) : ∃ j : Nat, k % n = (j : Int) ∧ (j : Int) < n := by
  have h1 := Int.emod_nonneg k (show n ≠ 0 by omega)
  have h2 := Int.emod_lt_of_pos k hn
  exact ⟨(k % n).toNat, by omega, by omega⟩
/-- the names that the laws draw from -/
def menu0 : List Str := ["a", "b", "ab", "ba", "job", "view", "pin", "quay", "stock", "golfer", "exhumed", "zzzzzzzz"]
/-- .. and others of other laws -/
def menu : List Str := menu0 ++ (["aa", "z", "power", "status", "ask", "quicklyx", "fghmndct", "q", "qq", "c", "d", "e", "f", "g", "h", "i", "j", "k", "l", "m"] : List Str)
theorem menu0_nodup : menu0.Nodup := by decide +kernel
theorem menu0_sub : ∀ c ∈ menu0, c ∈ menu := fun c h => List.mem_append_left _ h
theorem perm_strs {ys : List V} {xs : List Str} (h : ys.Perm (xs.map V.str)) : ∃ zs : List Str, ys = zs.map V.str ∧ zs.Perm xs := by
  have go : ∀ (ys : List V), (∀ y ∈ ys, ∃ z, y = V.str z) → ∃ zs : List Str, ys = zs.map V.str := by
    intro ys
    induction ys with
    | nil => intro _; exact ⟨[], rfl⟩
    | cons y ys ih =>
      intro h
      obtain ⟨z, rfl⟩ := h y List.mem_cons_self
      obtain ⟨zs, rfl⟩ := ih fun y hy => h y (List.mem_cons_of_mem _ hy)
      exact ⟨z :: zs, rfl⟩
  obtain ⟨zs, rfl⟩ := go ys fun y hy => by
    obtain ⟨z, _, e⟩ := List.mem_map.mp (h.mem_iff.mp hy)
    exact ⟨z, e.symm⟩
  refine ⟨zs, rfl, ?_⟩
  have unstr : ∀ l : List Str, (l.map V.str).map (fun v => match v with | .str z => z | _ => "") = l := fun l => by
    rw [List.map_map]
    exact (List.map_congr_left fun _ _ => rfl).trans (List.map_id _)
  have := h.map (fun v => match v with | .str z => z | _ => "")
  rwa [unstr, unstr] at this
/-- some of the menu's names, each once, n at most -/
structure Names (n : Nat) (xs : List Str) : Prop where
  nd : xs.Nodup
  sub : ∀ c ∈ xs, c ∈ menu
  len : xs.length = min n 12
def spNames : Sp := fun vs H Q _ => ∃ (b l : Addr) (n : Nat), vs = [.ref b, .int (n : Int)] ∧ Bag H b l ∧
  ∀ (xs : List Str) (p : Addr) (H' : Hp), Names n xs → H p = none → p ≠ b → H' p = some (.lst (xs.map V.str)) → Bag H' b l → Kp b H H' → Q (.ref p) H'
/-- a row of names -/
structure Row (xs : List Str) : Prop where
  nd : xs.Nodup
  sub : ∀ c ∈ xs, c ∈ menu
  pos : 0 < xs.length
  le : xs.length ≤ 12
theorem Names.row {n : Nat} {xs : List Str} (h : Names n xs) (hn : 0 < n) : Row xs := ⟨h.nd, h.sub, by rw [h.len]; omega, by rw [h.len]; omega⟩
/-- a question as it stands -/
def QAt (H : Hp) (q : Addr) (cols : List Str) (e : Str) : Prop := ∃ c, H q = some (.tup [.ref c, .str e]) ∧ H c = some (.tup (cols.map V.str))
theorem QAt.same {H H' : Hp} {q : Addr} {cols : List Str} {e : Str} (s : Same H H') (h : QAt H q cols e) : QAt H' q cols e := by
  obtain ⟨c, h1, h2⟩ := h
  exact ⟨c, s _ _ h1, s _ _ h2⟩
theorem QAt.kp {H H' : Hp} {q b l : Addr} {cols : List Str} {e : Str} (B : Bag H b l) (s : Kp b H H') (h : QAt H q cols e) : QAt H' q cols e := by
  obtain ⟨c, h1, h2⟩ := h
  exact ⟨c, s _ _ h1 (B.ne_tup h1), s _ _ h2 (B.ne_tup h2)⟩
end Qk
set_option maxRecDepth 100000
set_option maxHeartbeats 4000000
namespace Qk
open PySem PySem.Spec PyProof.Rows L2
def leS (a b : Str) : Prop := ltCps b.cps.toList a.cps.toList = false
theorem str_ext {a b : Str} (h : a.cps.toList = b.cps.toList) : a = b := by
  obtain ⟨x⟩ := a
  obtain ⟨y⟩ := b
  simp only at h
  congr 1
  exact Array.toList_inj.mp h
theorem leS_antisymm {a b : Str} (h1 : leS a b) (h2 : leS b a) : a = b := by
  unfold leS at h1 h2
  rw [ltCps_eq] at h1 h2
  have n1 := of_decide_eq_false h1
  have n2 := of_decide_eq_false h2
  exact str_ext (List.le_antisymm (List.not_lt.mp n1) (List.not_lt.mp n2))
theorem leS_trans {a b c : Str} (h1 : leS a b) (h2 : leS b c) : leS a c := by
  unfold leS at *
  rw [ltCps_eq] at *
  have n1 := List.not_lt.mp (of_decide_eq_false h1)
  have n2 := List.not_lt.mp (of_decide_eq_false h2)
  exact decide_eq_false (List.not_lt.mpr (List.le_trans n1 n2))
theorem risingS_pw : ∀ (xs : List Str) (p : Str), risingS p xs = true → (p :: xs).Pairwise leS
  | [], p, _ => List.pairwise_singleton _ _
  | x :: r, p, h => by
    rw [risingS, Bool.and_eq_true] at h
    have h1 : leS p x := by
      have := h.1
      rw [Bool.not_eq_true'] at this
      exact this
    have ih := risingS_pw r x h.2
    refine List.pairwise_cons.mpr ⟨fun y hy => ?_, ih⟩
    rcases List.mem_cons.mp hy with rfl | hy
    · exact h1
    · exact leS_trans h1 ((List.pairwise_cons.mp ih).1 y hy)
theorem sortedS_pw {xs : List Str} (h : sortedS xs = true) : xs.Pairwise leS := by
  cases xs with
  | nil => exact List.Pairwise.nil
  | cons x r => exact risingS_pw r x h
theorem perm_sorted : ∀ {xs ys : List Str}, xs.Perm ys → xs.Pairwise leS → ys.Pairwise leS → xs = ys
  | [], ys, h, _, _ => (List.Perm.nil_eq h)
  | x :: xs, [], h, _, _ => absurd h.length_eq (by simp)
  | x :: xs, y :: ys, h, h1, h2 => by
    have e : x = y := by
      rcases List.mem_cons.mp (h.mem_iff.mp List.mem_cons_self) with e | m1
      · exact e
      · rcases List.mem_cons.mp (h.mem_iff.mpr List.mem_cons_self) with e | m2
        · exact e.symm
        · exact leS_antisymm ((List.pairwise_cons.mp h1).1 y m2) ((List.pairwise_cons.mp h2).1 x m1)
    subst e
    rw [perm_sorted (List.Perm.cons_inv h) (List.pairwise_cons.mp h1).2 (List.pairwise_cons.mp h2).2]
theorem menu_ok : ∀ c ∈ menu, PyData.strOk c = true := by decide +kernel
theorem lay_strs : ∀ {xs : List Str}, (∀ c ∈ xs, PyData.strOk c = true) → PyData.canLayAll0 (xs.map PyData.str) = true
  | [], _ => rfl
  | x :: xs, h => by
    show (PyData.canLay0 (.str x) && PyData.canLayAll0 (xs.map PyData.str)) = true
    rw [lay_strs fun c hc => h c (List.mem_cons_of_mem _ hc), Bool.and_true]
    exact h x List.mem_cons_self
theorem depth_strs : ∀ (xs : List Str), PyData.depthAll (xs.map PyData.str) = 0
  | [] => rfl
  | x :: xs => by
    show max (PyData.depth (.str x)) (PyData.depthAll (xs.map PyData.str)) = 0
    rw [depth_strs xs]
    rfl
theorem eqv_strs : ∀ (xs ys : List Str), PyData.eqvAll (xs.map PyData.str) (ys.map PyData.str) = decide (xs = ys)
  | [], [] => by simp [PyData.eqvAll]
  | [], y :: ys => by simp [PyData.eqvAll]
  | x :: xs, [] => by simp [PyData.eqvAll]
  | x :: xs, y :: ys => by
    show PyData.eqvAll (PyData.str x :: xs.map PyData.str) (PyData.str y :: ys.map PyData.str) = _
    rw [PyData.eqvAll, eqv_strs xs ys, PyData.eqv]
    by_cases h1 : x = y
    · subst h1
      by_cases h2 : xs = ys
      · subst h2
        simp
      · simp [h2]
    · simp [h1]
theorem shaped_list {xs : List Str} (h : ∀ c ∈ xs, PyData.strOk c = true) : SeqAt.shaped (.list (xs.map PyData.str)) = true := by
  unfold SeqAt.shaped
  rw [Bool.and_eq_true]
  exact ⟨lay_strs h, decide_eq_true (by rw [PyData.depth, depth_strs]; decide)⟩
theorem shaped_tuple {xs : List Str} (h : ∀ c ∈ xs, PyData.strOk c = true) : SeqAt.shaped (.tuple (xs.map PyData.str)) = true := by
  unfold SeqAt.shaped
  rw [Bool.and_eq_true]
  exact ⟨lay_strs h, decide_eq_true (by rw [PyData.depth, depth_strs]; decide)⟩
theorem dp_strs {K : PySem.W.Frag} {H : Hp} : ∀ (xs : List Str), DpAll K H (xs.map V.str) (xs.map PyData.str)
  | [] => .nil
  | x :: xs => .cons (.str x) (dp_strs xs)
theorem flat_strs (xs : List Str) : (xs.map V.str).all flatV = true := by
  rw [List.all_map]
  exact List.all_eq_true.mpr fun _ _ => rfl
theorem inV_strs (c : Str) (xs : List Str) : inV (.str c) (xs.map V.str) = decide (c ∈ xs) := by
  unfold inV
  rw [List.any_map]
  by_cases h : c ∈ xs
  · rw [decide_eq_true h]
    exact List.any_eq_true.mpr ⟨c, h, by show (c == c) = true; exact beq_self_eq_true c⟩
  · rw [decide_eq_false h]
    refine List.any_eq_false.mpr fun y hy e => h ?_
    have e' : (y == c) = true := e
    rw [← eq_of_beq e']
    exact hy
structure QM (cols : List Str) (e : Str) : Prop where
  nd : cols.Nodup
  srt : sortedS cols = true
  sub : ∀ c ∈ cols, c ∈ menu
  esub : e = "" ∨ e ∈ menu
  le : cols.length ≤ 12
  some : e = "" → cols ≠ []
theorem Row.take {xs : List Str} (R : Row xs) (k : Nat) : Row (xs.take (k + 1)) :=
  ⟨R.nd.sublist (List.take_sublist _ _), fun c hc => R.sub _ ((List.take_sublist _ _).mem hc), by have := R.pos; rw [List.length_take]; omega, by have := R.le; rw [List.length_take]; omega⟩
end Qk
set_option maxRecDepth 100000
set_option maxHeartbeats 4000000
namespace Qk
open PySem PySem.Spec PyProof.Rows L2
structure FnG (P : Program) (w : World) (K : PySem.W.Frag) (mg : Str → Option Value) (base : Heap) (k : Nat) (f : Addr) (fd : FuncData) (ps : List Str) (sp : Sp) : Prop where
  len : ∀ vs H Q E, sp vs H Q E → vs.length = ps.length
  run : ∀ (A : Around) (outer : List Env) (s : Shared) (H : Hp) (args : Args) (us : List Value) (vs : List V) (Q : VK) (E : XK), Room k A → A.guards = some [] → Env0 P w K mg base A outer s H →
    BindsTo s fd args (ps.zip us) → Vals vs us → sp vs H Q E → codeAny (model P w) A (.call (.ref f) args) (CR CX0 outer P w H s Q E) s
theorem FnG.of {P : Program} {w : World} {K : PySem.W.Frag} {mg : Str → Option Value} {base : Heap} {k : Nat} {f : Addr} {fd : FuncData} {ps : List Str} {sp : Sp} (F : FnOk P w K mg base CX0 k f fd ps sp) : FnG P w K mg base k f fd ps sp :=
  ⟨F.len, fun A o s H args us vs Q E hr _ e b v h => F.run A o s H args us vs Q E hr e b v h⟩
section
variable {P : Program} {w : World} {K : PySem.W.Frag} {mg : Str → Option Value} {base : Heap}
theorem okG {x qual : Str} {st : Stmt} {f : Addr} {fd : FuncData} {N ps : List Str} {k : Nat} {sp : Sp} (F : Fun K x qual st f fd) (S : FnScope N ps (defScope st)) (len : ∀ vs H Q E, sp vs H Q E → vs.length = ps.length)
    (body : ∀ (cdv : Value) (A : Around) (outer : List Env) (s : Shared) (H : Hp) (vs : List V) (Q : VK) (E : XK), Room k (A.deeper (envOfC qual (defScope st) s.heap.objs.size f cdv)) → A.guards = some [] → sp vs H Q E →
      ∃ t, PSs (cxOf CX0 P w K mg base N qual (defScope st) f cdv A outer s H E).nox (defBody st) t ∧ t { nx := fun _ H' => Q .non H', rt := Q } (start N vs) H) : FnG P w K mg base (k + 1) f fd ps sp := by
  obtain ⟨oc, od, kV, doc, pm, an, cdv, ct, osl, rfl, lk, hcd⟩ := F.ex
  constructor
  · exact len
  intro A outer s H args us vs Q E hr hg e0 hb rv hsp
  have hlen := len _ _ _ _ hsp
  have kept : ∀ b o, base.get? b = some o → s.heap.get? b = some o := fun b o e => (e0.bs b o e).1
  have KX : K.In s.heap := e0.mod.kin.keeps kept
  have par : ∀ y ∈ ps.zip us, (defScope st).names.lookup y.1 = some .local ∨ ((defScope st).names.lookup y.1 = some .cell ∧ ((cellsFrom (s.heap.objs.size + 1) (defScope st).names []).lookup y.1).isSome = true) := by
    rintro ⟨n, v⟩ hy
    exact (S.par n (List.of_mem_zip hy).1).imp id fun q => ⟨q, PySem.W.cellsFrom_some _ _ _ (.inl q)⟩
  refine codeAny_call_function hr.depth (KX _ _ lk) rfl S.co S.gen rfl (PySem.W.codeRec_of KX hcd) (hb _ _ _ _ ?_)
  refine wpAny_newFunctionEnv_cells S.kind par fun env he s1 xe => ?_
  subst he
  refine ⟨(e0.mod.nolimit.keeps kept).keeps xe.toInCall.keep, codeAny_func ?_⟩
  obtain ⟨t, ht, hq⟩ := body cdv A outer s H vs Q E (hr.deeper _) hg hsp
  refine wpAny_mono (ht.nox.run [] s1 (start N vs) H _ (inv_start S hr.hd e0 hlen rv xe) hq) (fun fl s' hs => ?_) fun _ _ z => z
  cases fl with
  | ret u =>
    obtain ⟨v, σ', H', J, r, q⟩ := hs
    exact ⟨v, H', J.os, J.bare, J.base, J.hok, r, q⟩
  | next =>
    obtain ⟨σ', H', J, q⟩ := hs
    exact ⟨V.non, H', J.os, J.bare, J.base, J.hok, rfl, q⟩
  | brk => exact hs.elim fun _ z => z.elim fun _ z => z.2.elim
  | cont => exact hs.elim fun _ z => z.elim fun _ z => z.2.elim
end
section
variable {X : Cx} {k : Nat} {f : Addr} {fd : FuncData} {ps : List Str} {sp : Sp} {x : Str} {p pos : Pos} {e : Expr} {es : List Expr} {t : TA}
/-- repr of data, where no repr is running -/
def rReprD (K : PySem.W.Frag) : List V → Hp → VK → Prop := fun vs H Q => ∃ (x : V) (d : PyData), vs = [x] ∧ Dp K H x d ∧ d.showable = true ∧ d.hasDict = false ∧ d.shown.length ≤ sizeLine ∧ d.depth ≤ 60 ∧ Q (.str d.shown) H
theorem call_reprD (hg : X.A.guards = some []) (hu : X.A.units + 64 < cLine) : CallR X (.builtin "repr") (rReprD X.K) := by
  intro pins s σ H xs us Q I r h
  obtain ⟨x, d, rfl, hd, h1, h2, h3, h4, q⟩ := h
  obtain ⟨u, rfl, rx⟩ := vals1 r
  obtain ⟨as, rd⟩ := Dp.reads I d x u hd rx
  cases hd with
  | non =>
    cases rx
    exact PySem.P.repr_of_none ⟨.str _, H, I.tok _, ⟨_, rfl⟩, q⟩
  | bl b =>
    cases rx
    exact PySem.P.repr_of_bool ⟨.str _, H, I.tok _, ⟨_, rfl⟩, q⟩
  | int i =>
    obtain ⟨tk, rfl⟩ := rx
    exact PySem.P.repr_of_int (by simpa [PyData.showable] using h1) ⟨.str _, H, I.tok _, ⟨_, rfl⟩, q⟩
  | str z =>
    obtain ⟨tk, rfl⟩ := rx
    exact PySem.P.repr_of_str ⟨.str _, H, I.tok _, ⟨_, rfl⟩, q⟩ h3
  | lst hs ha =>
    cases rx
    exact repr_of_reads' rd h1 (fun z => by rw [h2] at z; cases z) hg (by omega) (fun _ _ z => z) (fun h' u tk hk => ⟨.str _, H, I.kept hk, ⟨_, rfl⟩, q⟩) h3
  | tup hs ha =>
    cases rx
    exact repr_of_reads' rd h1 (fun z => by rw [h2] at z; cases z) hg (by omega) (fun _ _ z => z) (fun h' u tk hk => ⟨.str _, H, I.kept hk, ⟨_, rfl⟩, q⟩) h3
end
end Qk
set_option maxRecDepth 100000
set_option maxHeartbeats 4000000
namespace Qk
open PySem PySem.Spec PyProof.Rows L2
theorem law_g {P : Program} {w : World} {K : PySem.W.Frag} {mg mb : Str → Option Value} {k : Nat} {fa a : Addr} {fd : FuncData} {x : Str} {sp : Sp} {s₁ : Shared} {vs : List Value} {ns : List Int}
    (KX : K.In s₁.heap) (hns : s₁.heap.Ns mainGlobals mg) (hb : s₁.heap.Ns builtinsNs mb) (hbb : ∀ x : Str, x ≠ "__name__" → mb x = bootBuiltins x) (hlim : s₁.heap.NoLimit) (hg : s₁.gens = #[])
    (ha : s₁.heap.get? a = some { cls := .type "list", data := .seq vs.toArray }) (hi : IntsAre vs ns) (hl : ns.length ≤ sizeLine) (hr : Room k callerA)
    (F : ∀ base : Heap, K.In base → base.Ns mainGlobals mg → FnG P w K mg base k fa fd [x] sp) (hbind : ∀ (s : Shared) (u : Value), BindsTo s fd ⟨[u], []⟩ [(x, u)])
    (hsp : ∀ H : Hp, Only H → SqL K H a (ns.map V.int) → sp [.ref a] H (fun v _ => v = .bl true) fun _ _ _ => False) :
    codeAny (model P w) callerA (.call (.ref fa) ⟨[.ref a], []⟩) (fun r s' => r = .ok (.ret (.bool true)) ∧ OldK s₁.heap s'.heap ∧ s'.os = s₁.os ∧ AllBare s'.gens) s₁ := by
  let o : Obj := { cls := .type "list", data := .seq vs.toArray }
  have rv : Vals (ns.map V.int) vs := vals_ints hi
  have lenV : vs.length = ns.length := hi.length
  -- the abstract heap: the script alone, where the top does not know it
  let H : Hp := fun b => if b = a ∧ K.lookup a = none then some (.frz o (.lst (ns.map V.int))) else none
  have Hsome : ∀ {b u}, H b = some u → b = a ∧ K.lookup a = none ∧ u = .frz o (.lst (ns.map V.int)) := fun {b u} z => by
    by_cases c : b = a ∧ K.lookup a = none
    · have z2 : some (HO.frz o (.lst (ns.map V.int))) = some u := (if_pos c).symm.trans z
      exact ⟨c.1, c.2, (Option.some.inj z2).symm⟩
    · have z2 : (none : Option HO) = some u := (if_neg c).symm.trans z
      cases z2
  have hO : Only H := fun b => by
    cases q : H b with
    | none => exact .inl rfl
    | some u => exact .inr ⟨_, _, by rw [(Hsome q).2.2]⟩
  have hS : SqL K H a (ns.map V.int) := by
    cases q : K.lookup a with
    | none => exact .inl (.inr ⟨o, if_pos ⟨rfl, q⟩⟩)
    | some u =>
      have e := KX a u q
      rw [ha] at e
      cases e
      exact .inr ⟨_, vs.toArray, _, q, rfl, rfl, rfl, by rw [List.size_toArray, lenV]; exact hl, by simpa using rv⟩
  have hok : HOk P w H s₁.heap := fun b u z => by
    obtain ⟨rfl, _, rfl⟩ := Hsome z
    exact ⟨ha, by rw [List.length_map]; exact hl, vs, _, rv, ha⟩
  have keepB : ∀ {b : Addr} {u : Obj}, s₁.heap.get? b = some u → (b = a → K.lookup a ≠ none) → (hidT s₁.heap H).get? b = some u := fun {b u} e n => hidT_get e (by
    cases q : H b with
    | none => rfl
    | some z => exact absurd (Hsome q).2.1 (n (Hsome q).1))
  have keepN : ∀ {b : Addr} {m : Str → Option Value}, s₁.heap.Ns b m → (hidT s₁.heap H).Ns b m := fun {b m} ⟨u, es, ep, e, d, r⟩ => by
    refine ⟨u, es, ep, keepB e fun eb => ?_, d, r⟩
    subst eb
    rw [ha] at e
    cases e
    cases d
  have hKb : K.In (hidT s₁.heap H) := fun b u e => keepB (KX b u e) fun eb q => by
    subst eb
    rw [q] at e
    cases e
  have hM : Mod K mg (hidT s₁.heap H) := ⟨hKb, keepN hns, ⟨mb, keepN hb, hbb⟩, let ⟨mc, h1, h2⟩ := hlim; ⟨mc, keepN h1, h2⟩⟩
  have e0 : Env0 P w K mg (hidT s₁.heap H) callerA [] s₁ H := ⟨rfl, hM, fun _ _ e => of_hidT e, Nat.le_of_eq (hidT_size _ _), trivial, fun b z => absurd (show b ∈ ([] : List Addr) from z) (by simp), hok, .of_eq hg⟩
  have run := (F _ hKb (keepN hns)).run callerA [] s₁ H ⟨[.ref a], []⟩ [.ref a] [.ref a] _ _ hr rfl e0 (hbind s₁ (.ref a)) (.cons rfl .nil) (hsp H hO hS)
  refine codeAny_mono run fun r s' h => ?_
  cases r with
  | error e => exact False.elim h
  | ok fl =>
    cases fl with
    | ret u =>
      obtain ⟨v, H', os, bare, un, hok', r', q⟩ := h
      obtain rfl : v = .bl true := q
      obtain rfl : u = Value.bool true := r'
      refine ⟨rfl, OldK.of_keep fun b u e => ?_, os, bare⟩
      cases q : H b with
      | none => exact un.keep b u e q (fun z => absurd (show b ∈ ([] : List Addr) from z) (by simp)) (by simp)
      | some z =>
        obtain ⟨rfl, _, rfl⟩ := Hsome q
        obtain ⟨e2, _⟩ := hok' b _ (un.frzs b o _ q)
        rw [ha] at e
        cases e
        exact e2
    | _ => exact False.elim h
theorem walk_g {l : PySem.W.OpenLaw} {n k : Nat} {q : Program} {loose : List Str} {XP : (Str → Option Value) → Heap → Prop} {YP : World → Heap → Prop} {d : DefRec} {K : Params → PySem.W.Frag} {sp : World → Sp} {x : Str}
    (hn : l.most = some n) (hn2 : n ≤ sizeLine) (hdf : d.params.defaults = []) (hr : Room k callerA) (hY : ∀ (w : World) (h : Heap), YP w h → (K w.params).In h)
    (F : ∀ (w : World) (mg : Str → Option Value) (fa : Addr) (h : Heap), (K w.params).In h → h.Ns mainGlobals mg → mg d.name = some (.ref fa) →
      ∃ fd : FuncData, (∀ (s : Shared) (u : Value), BindsTo s fd ⟨[u], []⟩ [(x, u)]) ∧ ∀ base : Heap, (K w.params).In base → base.Ns mainGlobals mg → FnG l.prog w (K w.params) mg base k fa fd [x] (sp w))
    (hsp : ∀ (w : World) (H : Hp) (a : Addr) (ns : List Int), ns.length ≤ n → Only H → SqL (K w.params) H a (ns.map V.int) → sp w [.ref a] H (fun v _ => v = .bl true) fun _ _ _ => False) :
    PySem.W.WalkO q loose XP YP l.row.toRowW d [] (fun f vs => PySem.call f vs) := by
  refine Att.attach_call hn hdf fun w s₀ s₁ mg mb fa o pm cd doc a vs ns G Y ho hd hcd hmg hobj hints hlen hg => ?_
  obtain ⟨fd, hb, hF⟩ := F w mg fa _ (hY w _ Y) G.T.g hmg
  exact law_g (hY w _ Y) G.T.g G.T.b G.T.builtins G.T.nolimit hg hobj hints (Nat.le_trans hlen hn2) hr hF hb fun H hO hS => hsp w H a ns hlen hO hS
mutual
def fine : PyData → Bool
  | .none => true
  | .bool _ => true
  | .int i => decide (i.natAbs < 10 ^ 60)
  | .str x => PyData.strOk x && decide (x.cps.size ≤ 20)
  | .list xs => fineAll xs
  | .tuple xs => fineAll xs
  | .dict _ => false
def fineAll : List PyData → Bool
  | [] => true
  | x :: xs => fine x && fineAll xs
end
mutual
def cost : PyData → Nat
  | .none => 4
  | .bool _ => 5
  | .int _ => 64
  | .str _ => 210
  | .list xs => costAll xs + 3
  | .tuple xs => costAll xs + 3
  | .dict _ => 0
def costAll : List PyData → Nat
  | [] => 0
  | x :: xs => cost x + 2 + costAll xs
end
mutual
theorem fine_lay : ∀ d : PyData, fine d = true → d.canLay0 = true ∧ d.showable = true ∧ d.hasDict = false
  | .none, _ => ⟨rfl, rfl, rfl⟩
  | .bool _, _ => ⟨rfl, rfl, rfl⟩
  | .int i, h => by
    have hi : i.natAbs < 10 ^ 60 := of_decide_eq_true h
    refine ⟨rfl, ?_, rfl⟩
    show decide (i.natAbs.log2 < 1920) = true
    refine decide_eq_true ?_
    by_cases h0 : i.natAbs = 0
    · rw [h0]
      decide
    · exact Nat.lt_of_lt_of_le ((Nat.log2_lt h0).mpr (Nat.lt_of_lt_of_le hi (show 10 ^ 60 ≤ 2 ^ 200 by decide))) (by decide)
  | .str x, h => by
    have h' : (PyData.strOk x && decide (x.cps.size ≤ 20)) = true := h
    rw [Bool.and_eq_true] at h'
    exact ⟨h'.1, rfl, rfl⟩
  | .list xs, h => fine_layAll xs h
  | .tuple xs, h => fine_layAll xs h
  | .dict _, h => by cases h
theorem fine_layAll : ∀ xs : List PyData, fineAll xs = true → PyData.canLayAll0 xs = true ∧ PyData.showableAll xs = true ∧ PyData.hasDictAll xs = false
  | [], _ => ⟨rfl, rfl, rfl⟩
  | x :: xs, h => by
    have h' : (fine x && fineAll xs) = true := h
    rw [Bool.and_eq_true] at h'
    obtain ⟨a1, a2, a3⟩ := fine_lay x h'.1
    obtain ⟨b1, b2, b3⟩ := fine_layAll xs h'.2
    refine ⟨?_, ?_, ?_⟩
    · show (PyData.canLay0 x && PyData.canLayAll0 xs) = true
      rw [a1, b1]
      rfl
    · show (PyData.showable x && PyData.showableAll xs) = true
      rw [a2, b2]
      rfl
    · show (PyData.hasDict x || PyData.hasDictAll xs) = false
      rw [a3, b3]
      rfl
end
theorem listText_le (ts : List Str) : (listText ts).length ≤ piled ts + 2 := by
  cases ts with
  | nil => decide
  | cons t r =>
    have e : listText (t :: r) = textFrom 1 ("[" ++ "" ++ t) r ++ "]" := rfl
    rw [e, strLen_append, textFrom_length_pos r 1 _ (by decide), strLen_append, piled_cons]
    have e1 : (("[" : Str) ++ ("" : Str)).length = 1 := rfl
    have e2 : ((("]" : String) : Str)).length = 1 := rfl
    have e3 : (((("[" : String) : Str) ++ (("" : String) : Str)) : Str).length = 1 := rfl
    omega
theorem tupleText_le (ts : List Str) : (tupleText ts).length ≤ piled ts + 3 := by
  unfold tupleText
  rw [strLen_append, strLen_append]
  have e1 : (("(" : String) : Str).length = 1 := rfl
  have e2 : ((if (ts.length == 1) = true then ",)" else ")" : String) : Str).length ≤ 2 := by
    split
    · decide
    · decide
  cases ts with
  | nil =>
    have : (Str.join ", " ([] : List Str)).length = 0 := rfl
    omega
  | cons t r =>
    have := join_length_add (t :: r) (by simp)
    omega
mutual
theorem shown_le : ∀ d : PyData, fine d = true → d.shown.length ≤ cost d
  | .none, _ => by decide
  | .bool b, _ => by cases b <;> decide
  | .int i, h => by
    have hi : i.natAbs < 10 ^ 60 := of_decide_eq_true h
    have e := int_text_length_le10 (k := 60) (a := i) (by decide) hi
    show (Str.ofString (toString i)).length ≤ 64
    rw [PySem.ofString_length]
    omega
  | .str x, h => by
    have h' : (PyData.strOk x && decide (x.cps.size ≤ 20)) = true := h
    rw [Bool.and_eq_true] at h'
    have h2 : x.length ≤ 20 := of_decide_eq_true h'.2
    have h3 : ∀ c ∈ x.cps.toList, c < 16 ^ 8 := fun c hc => by
      have := Array.all_eq_true'.mp h'.1 c (by simpa using hc)
      have := of_decide_eq_true this
      omega
    have := PySem.StrLaws.reprText_len x h3
    show (reprText x).length ≤ 210
    omega
  | .list xs, h => by
    have := listText_le (PyData.shownAll xs)
    have h2 := shown_leAll xs h
    show (listText (PyData.shownAll xs)).length ≤ costAll xs + 3
    omega
  | .tuple xs, h => by
    have := tupleText_le (PyData.shownAll xs)
    have h2 := shown_leAll xs h
    show (tupleText (PyData.shownAll xs)).length ≤ costAll xs + 3
    omega
  | .dict _, h => by cases h
theorem shown_leAll : ∀ xs : List PyData, fineAll xs = true → piled (PyData.shownAll xs) ≤ costAll xs
  | [], _ => Nat.le_refl 0
  | x :: xs, h => by
    have h' : (fine x && fineAll xs) = true := h
    rw [Bool.and_eq_true] at h'
    have h1 := shown_le x h'.1
    have h2 := shown_leAll xs h'.2
    show piled (PyData.shown x :: PyData.shownAll xs) ≤ cost x + 2 + costAll xs
    rw [piled_cons]
    omega
end
structure DOk (d : PyData) : Prop where
  f : fine d = true
  dp : d.depth ≤ 50
  c : cost d ≤ 1000000
theorem DOk.shaped {d : PyData} (h : DOk d) : SeqAt.shaped d = true := by
  unfold SeqAt.shaped
  rw [(fine_lay d h.f).1]
  exact decide_eq_true (Nat.le_trans h.dp (by decide))
theorem DOk.len {d : PyData} (h : DOk d) : d.shown.length ≤ sizeLine := Nat.le_trans (shown_le d h.f) (Nat.le_trans h.c (by rw [sizeLine_eq]; decide))
mutual
theorem Dp.same {K : PySem.W.Frag} {H H' : Hp} (s : Same H H') : ∀ (d : PyData) (v : V), Dp K H v d → Dp K H' v d
  | .none, _, h => by cases h; exact .non
  | .bool _, _, h => by cases h; exact .bl _
  | .int _, _, h => by cases h; exact .int _
  | .str _, _, h => by cases h; exact .str _
  | .list ds, _, h => by
    cases h with
    | lst h1 h2 => exact .lst (s.seq h1) (Dp.sameAll s ds _ h2)
  | .tuple ds, _, h => by
    cases h with
    | tup h1 h2 => exact .tup (Evl.ex_t s h1) (Dp.sameAll s ds _ h2)
  | .dict _, _, h => by cases h
theorem Dp.sameAll {K : PySem.W.Frag} {H H' : Hp} (s : Same H H') : ∀ (ds : List PyData) (vs : List V), DpAll K H vs ds → DpAll K H' vs ds
  | [], _, h => by cases h; exact .nil
  | d :: ds, _, h => by
    cases h with
    | cons h1 h2 => exact .cons (Dp.same s d _ h1) (Dp.sameAll s ds _ h2)
end
/-- a question as data -/
def dQ (cols : List Str) (e : Str) : PyData := .tuple [.tuple (cols.map PyData.str), .str e]
theorem dp_q {K : PySem.W.Frag} {H : Hp} {q : Addr} {cols : List Str} {e : Str} (h : QAt H q cols e) : Dp K H (.ref q) (dQ cols e) := by
  obtain ⟨c, h1, h2⟩ := h
  exact .tup (SqT.of h1) (.cons (.tup (SqT.of h2) (dp_strs _)) (.cons (.str e) .nil))
end Qk
set_option maxRecDepth 100000
set_option maxHeartbeats 4000000
namespace Qk
open PySem PySem.Spec PyProof.Rows L2
abbrev Qd := List Str × Str
/-- v is a question in the heap -/
def IsQ (h : Heap) (v : Value) (q : Qd) : Prop := ∃ (a c : Addr) (o oc : Obj) (t : Tok) (us : List Value) (n m : Nat), v = .ref a ∧ h.get? a = some o ∧ o.cls = .type "tuple" ∧ o.data = .seq #[.ref c, .str q.2 t] n ∧
  h.get? c = some oc ∧ oc.cls = .type "tuple" ∧ oc.data = .seq us.toArray m ∧ StrsAre us q.1
theorem IsQ.keeps {h h' : Heap} {v : Value} {q : Qd} (x : IsQ h v q) (k : ∀ b o, h.get? b = some o → o.cls = .type "tuple" → h'.get? b = some o) : IsQ h' v q := by
  obtain ⟨a, c, o, oc, t, us, n, m, e, ho, hc, hd, hoc, hcc, hdc, hs⟩ := x
  exact ⟨a, c, o, oc, t, us, n, m, e, k _ _ ho hc, hc, hd, k _ _ hoc hcc, hcc, hdc, hs⟩
end Qk
set_option maxRecDepth 100000
set_option maxHeartbeats 4000000
set_option maxRecDepth 100000
set_option maxHeartbeats 4000000
namespace Qk
open PySem PySem.Spec PyProof.Rows L2
instance (a b : Str) : Decidable (leS a b) := by unfold leS; infer_instance
def srt (xs : List Str) : List Str := xs.mergeSort (fun a b => decide (leS a b))
def QL (H : Hp) (xs : List V) (qs : List Qd) : Prop := Paired (fun (x : V) (q : Qd) => ∃ t, x = .ref t ∧ QAt H t q.1 q.2) xs qs
theorem QL.len {H : Hp} {xs : List V} {qs : List Qd} (h : QL H xs qs) : xs.length = qs.length := Paired.length h
theorem QL.same {H H' : Hp} {xs : List V} {qs : List Qd} (s : Same H H') (h : QL H xs qs) : QL H' xs qs := Paired.mapP h fun x q ⟨t, e, z⟩ => ⟨t, e, z.same s⟩
theorem QL.kp {H H' : Hp} {b l : Addr} {xs : List V} {qs : List Qd} (B : Bag H b l) (s : Kp b H H') (h : QL H xs qs) : QL H' xs qs := Paired.mapP h fun x q ⟨t, e, z⟩ => ⟨t, e, z.kp B s⟩
theorem QL.mem {H : Hp} : ∀ {xs : List V} {qs : List Qd}, QL H xs qs → ∀ x ∈ xs, ∃ (t : Addr) (q : Qd), x = V.ref t ∧ QAt H t q.1 q.2 ∧ q ∈ qs
  | _, _, .nil, x, hx => by cases hx
  | _, _, .cons ⟨t, e, z⟩ r, x, hx => by
    rcases List.mem_cons.mp hx with rfl | hx
    · exact ⟨t, _, e, z, List.mem_cons_self⟩
    · obtain ⟨t', q', a, b, c⟩ := QL.mem r x hx
      exact ⟨t', q', a, b, List.mem_cons_of_mem _ c⟩
def dq (q : Qd) : PyData := dQ q.1 q.2
theorem QL.dp {K : PySem.W.Frag} {H : Hp} : ∀ {xs : List V} {qs : List Qd}, QL H xs qs → DpAll K H xs (qs.map dq)
  | _, _, .nil => .nil
  | _, _, .cons ⟨t, e, z⟩ r => by
    subst e
    exact .cons (dp_q z) (QL.dp r)
end Qk
set_option maxRecDepth 100000
set_option maxHeartbeats 4000000
namespace Qk
open PySem PySem.Spec PyProof.Rows L2
def SetX (P : Program) (w : World) (a : Addr) (S : Str → Bool) (n : Nat) : HO := .ext fun h => TSet P w h a S n
theorem setX_new {P : Program} {w : World} {H : Hp} {h : Heap} {a : Addr} {S : Str → Bool} {n : Nat} (R : TSet P w h a S n) : ObjOk P w H h a (SetX P w a S n) := by
  have ⟨o, _, _, _, ho, _⟩ := R
  exact ⟨R, ⟨o, ho⟩, fun h1 h2 p k => TSet.keep p fun u e => k u e⟩
end Qk
set_option maxRecDepth 100000
set_option maxHeartbeats 4000000
namespace Qk
open PySem PySem.Spec PyProof.Rows L2
section
variable {P : Program} {w : World} {A : Around} {R : Result → Shared → Prop} {I : Addr} {fp wr : List Addr} {G : Array GenState → Array GenState → Prop} {n : Nat} {Pv : Nat → Value → Prop} {St : Nat → Shared → Prop}
/-- what stands after i turns -/
def Fill (P : Program) (w : World) (xs : List Str) (S : Addr) (i : Nat) (h : Heap) : Prop := ∃ j, TSet P w h S (fun z => decide (z ∈ xs.take i)) j ∧ j ≤ i ∧ (xs.Nodup → j = i) ∧ (j = i → (xs.take i).Nodup)
theorem fill_loop (W : WalksS P w A.in1 I fp wr G n Pv St) (S : Addr) (hSf : S ∉ fp) (xs : List Str) (hsz : xs.length = n) (hn1 : n ≤ 1000) (hval : ∀ i v, Pv i v → ∃ t, v = .str (xs.getD i Str.empty) t) :
    ∀ (k i : Nat) (s : Shared), n - i = k → i ≤ n → St i s → Fill P w xs S i s.heap → (∀ s', Moved (S :: wr) G s s' → Fill P w xs S n s'.heap → R (.ok (.ret .none)) s') →
      codeAny (model P w) A (.builtin "set.update.loop" ⟨[.ref S, .ref I], []⟩) R s := by
  have hSw : S ∉ wr := fun h => hSf (W.sub _ h)
  have hsub : ∀ b ∈ wr, b ∈ S :: wr := fun b hb => List.mem_cons_of_mem _ hb
  have same : ∀ {s s' : Shared} {i : Nat}, Moved wr G s s' → Fill P w xs S i s.heap → Fill P w xs S i s'.heap := fun hm ⟨j, g, q⟩ => ⟨j, g.keep fun u e => hm.heap S _ hSw e, q⟩
  intro k
  induction k with
  | zero =>
    intro i s hk hi hst hS hR
    obtain rfl : i = n := by omega
    refine codeAny_builtin PyProof.Rows.F.entry_set_update_loop ?_
    rw [Around.under_plainId PyProof.Rows.F.plain_set_update_loop _]
    exact wpAny_bind (m := pyNext (.ref I)) (W.done s _ _ hst fun s' hm => wpAny_pure (hR s' (hm.mono hsub) (same hm hS)))
  | succ k ih =>
    intro i s hk hi hst hS hR
    have hlt : i < n := by omega
    refine codeAny_builtin PyProof.Rows.F.entry_set_update_loop ?_
    rw [Around.under_plainId PyProof.Rows.F.plain_set_update_loop _]
    refine wpAny_bind (m := pyNext (.ref I)) (W.item i s _ _ hlt hst fun v s' hP hst' hm => ?_)
    obtain ⟨t, rfl⟩ := hval i v hP
    obtain ⟨j, g, hj, hnd, hdn⟩ := same hm hS
    show wpAny _ A.in1 (holding [Value.str (xs.getD i Str.empty) t] (setAdd S (.str (xs.getD i Str.empty) t)) >>= _) _ _ s'
    refine wpAny_bind (wpAny_holding ?_)
    unfold setAdd
    refine wpAny_holding (wpAny_bind ((strKind P w).pyHash (k := xs.getD i Str.empty) (strKind_is _ _ _ _) ?_))
    refine wpAny_setAddHashed_of (knd := strKind P w) (s := { s' with toks := s'.toks + 1 }) (strKind_is _ _ _ _) rfl g (by unfold scanBound; omega) fun h' hsb g2 => ?_
    have hx : xs[i]? = some (xs.getD i Str.empty) := by
      rw [List.getD_eq_getElem?_getD, List.getElem?_eq_getElem (by omega)]
      rfl
    have ht : xs.take (i + 1) = xs.take i ++ [xs.getD i Str.empty] := by rw [List.take_add_one, hx]; rfl
    have g3 : Fill P w xs S (i + 1) h' := by
      refine ⟨_, SetOf_congr g2 (fun z => ?_) rfl, by split <;> omega, fun nd => ?_, fun e => ?_⟩
      · rw [ht]
        simp [Bool.decide_or]
      · have hni : xs.getD i Str.empty ∉ xs.take i := by
          have nd2 : (xs.take (i + 1)).Nodup := nd.sublist (List.take_sublist _ _)
          rw [ht] at nd2
          exact fun z => (List.nodup_append.mp nd2).2.2 _ z _ (List.mem_singleton.mpr rfl) rfl
        rw [if_neg (by simpa using hni), hnd nd]
      · split at e
        · omega
        · rename_i hni
          rw [ht, List.nodup_append]
          refine ⟨hdn (by omega), by simp, fun a ha b hb => ?_⟩
          rw [List.mem_singleton.mp hb]
          rintro rfl
          exact hni (by simpa using ha)
    refine wpAny_pure ⟨plainId_quiet PyProof.Rows.F.plain_set_update_loop _, ih (i + 1) _ (by omega) hlt (W.frame _ s' _ _ hst' (Nat.le_succ _) fun b hb o e => ?_) g3 fun s'' hm'' hS'' => ?_⟩
    · rw [hsb.2 b (fun h : b = S => hSf (by rw [← h]; exact hb))]
      exact e
    · refine hR s'' (Moved.trans W.gtrans ((hm.mono hsub).then_heap (Nat.le_succ _) fun b o hb e => ?_) hm'') hS''
      rw [hsb.2 b (fun h : b = S => hb (by rw [h]; exact List.mem_cons_self))]
      exact e
end
section
variable {P : Program} {w : World} {A : Around} {E : Value → Shared → Prop} {s : Shared}
set_option maxHeartbeats 3200000 in
theorem set_tuple {l : Addr} {items : Array Value} {xs : List Str} {Q : Value → Shared → Prop} (hh : A.handled = none) (hl : s.heap.IsTuple l items) (hi : PyProof.Rows.StrsAre items.toList xs) (hn1 : xs.length ≤ 1000)
    (h : ∀ (h' : Heap) (tk : Nat), Fill P w xs s.heap.objs.size items.size h' → (∀ b o, s.heap.get? b = some o → h'.get? b = some o) → Q (.ref s.heap.objs.size) { s with heap := h', toks := tk }) :
    wpAny (model P w) A (call (.type "set") [.ref l]) Q E s := by
  obtain ⟨c, tl, hmro⟩ := PySem.F.called_set.mro
  have hmade := PySem.F.called_set.made
  have hsub := PySem.F.called_set.sub
  refine wpAny_call (codeAny_of_tree ?_)
  show wpAny _ _ (callAny (.type "set") _) _ _ _
  refine wpAny_pure ⟨Code.quiet_builtin _ (by decide +kernel), codeAny_builtin PySem.F.entry_type_call ?_⟩
  rw [Around.under_plain (weight_type_call_type "set" [.ref l] []) rfl]
  have q1 := PySem.F.called_set.notType
  have q2 := PySem.F.called_set.canCreate
  have q3 := PySem.F.typeCall_set_1 (.ref l)
  repeat (any_goals (first | assumption | wp_step))
  obtain ⟨N, hN⟩ : ∃ N, N = s.heap.objs.size := ⟨_, rfl⟩
  refine codeAny_mono (code_set_new_1 (.ref l) (E := E) (Q₁ := fun v s₁ => ∃ led : Bool, v = .ref s.heap.objs.size ∧ s₁ = { s with heap := s.heap.push { cls := .type "set", dict := none, data := .set #[] 0 (.fresh 0 0 led) } }) fun led => ⟨led, rfl, rfl⟩) fun r s₁ hr => ?_
  cases r with
  | error e => exact hr
  | ok fl =>
    cases fl with
    | ret v =>
      obtain ⟨led, rfl, rfl⟩ := hr
      have hS : (s.heap.push { cls := .type "set", dict := none, data := .set #[] 0 (.fresh 0 0 led) }).get? s.heap.objs.size = some { cls := .type "set", dict := none, data := .set #[] 0 (.fresh 0 0 led) } := Heap.get?_push_size _ rfl
      have hT : Shared.TypeIs { s with heap := s.heap.push { cls := .type "set", dict := none, data := .set #[] 0 (.fresh 0 0 led) } } (.ref s.heap.objs.size) "set" := ⟨_, hS, rfl⟩
      have q4 := PySem.F.called_set.init.lookup
      have q5 := PySem.F.called_set.init.bind (.ref s.heap.objs.size)
      repeat (any_goals (first | assumption | wp_step))
      refine codeAny_mono (codeAny_call_builtin (R := wants (fun r s₂ => r = .none ∧ ∃ h' tk, s₂ = { s with heap := h', toks := tk } ∧ Fill P w xs s.heap.objs.size items.size h' ∧ (∀ b o, s.heap.get? b = some o → h'.get? b = some o)) E)
        PySem.F.called_set.init.plain PySem.F.entry_set_init (check_set_init_1 hT ?_)) fun r₂ s₂ hr₂ => ?_
      · have hlS : l < s.heap.objs.size := by
          obtain ⟨ol, hol, _⟩ := hl
          exact Heap.lt_size hol
        have hl1 : (s.heap.push { cls := .type "set", dict := none, data := .set #[] 0 (.fresh 0 0 led) }).IsTuple l items := hl.push _
        obtain ⟨ol, hol, hcl, nl, hdl⟩ := hl1
        obtain ⟨ocls, odict, odata, oslots⟩ := ol
        simp only at hcl hdl
        subst hcl; subst hdl
        have hol' := hol
        have q6 := PySem.F.sub_tuple_set
        have q7 := PySem.F.sub_tuple_frozenset
        have q8 : (Value.type "tuple" == Value.type "dict") = false := by decide
        have hl1 : (s.heap.push { cls := .type "set", dict := none, data := .set #[] 0 (.fresh 0 0 led) }).IsTuple l items := ⟨_, hol, rfl, nl, rfl⟩
        unfold Builtin.«set.__init__» noKeywords Builtin.Frozenset.updateFrom
        generalize hPI : pyIter = PI
        wp_walk
        subst hPI
        refine wpAny_pyIter_tuple hl1 ?_
        refine wpAny_bind (wpAny_runValue ?_)
        have hh3 : A.in1.in1.in1.handled = none := by simp [hh]
        have hps : (s.heap.push { cls := .type "set", dict := none, data := .set #[] 0 (.fresh 0 0 led) }).objs.size = s.heap.objs.size + 1 := Heap.size_push _ _
        have hneI : l ≠ (s.heap.push { cls := .type "set", dict := none, data := .set #[] 0 (.fresh 0 0 led) }).objs.size := by
          rw [hps]
          exact Nat.ne_of_lt (Nat.lt_succ_of_lt hlS)
        have hSf : s.heap.objs.size ∉ [(s.heap.push { cls := .type "set", dict := none, data := .set #[] 0 (.fresh 0 0 led) }).objs.size, l] := by
          rw [hps]
          simp only [List.mem_cons, List.not_mem_nil, or_false, not_or]
          exact ⟨Nat.ne_of_lt (Nat.lt_succ_self _), Nat.ne_of_gt hlS⟩
        have hsz : xs.length = items.size := by rw [← StrsAre.len_eq hi, Array.length_toList]
        have hval : ∀ (i : Nat) (v : Value), items[i]? = some v → ∃ t, v = .str (xs.getD i Str.empty) t := fun i v hv => SS.strs_at hi i v (by rw [Array.getElem?_toList]; exact hv)
        refine fill_loop ((Walks.tuple hh3 _ l hneI items).toS) s.heap.objs.size hSf xs hsz (by rw [← hsz]; exact hn1) hval (items.size - 0) 0 _ (by omega) (Nat.zero_le _)
          ⟨⟨_, Heap.get?_push_size _ rfl, rfl, rfl⟩, (hl1.push _)⟩ ?hS0 ?hR
        case hS0 =>
          have hget : ((s.heap.push { cls := .type "set", dict := none, data := .set #[] 0 (.fresh 0 0 led) }).push { cls := .type "tuple_iterator", data := .fields #[.ref l, .int 0 0] }).get? s.heap.objs.size
              = some { cls := .type "set", dict := none, data := .set #[] 0 (.fresh 0 0 led) } := Heap.get?_push_of_some _ hS
          exact ⟨0, SetOf_congr ((setObjOf_fresh (knd := strKind P w) led).setOf hget (by unfold scanBound; omega)) (fun z => by simp) rfl, Nat.le_refl _, fun _ => rfl, fun _ => by simp⟩
        case hR =>
          intro s' hm hF
          obtain ⟨h', g', d', tk', os'⟩ := s'
          have eg : g' = s.gens := hm.gens
          have ed : d' = s.drawn := hm.drawn
          have eo : os' = s.os := hm.os
          subst eg; subst ed; subst eo
          show wpAny _ _ _ _ _ _
          refine wpAny_pure ?_
          show wpAny _ _ (ret Value.none) _ _ _
          refine wpAny_pure ⟨rfl, h', tk', rfl, hF, fun b o e => ?_⟩
          have hb := Heap.lt_size e
          refine hm.heap b o ?_ (Heap.get?_push_of_some _ (Heap.get?_push_of_some _ e))
          rw [hps]
          simp only [List.mem_cons, List.mem_singleton, List.not_mem_nil, or_false, not_or]
          exact ⟨Nat.ne_of_lt hb, Nat.ne_of_lt (Nat.lt_succ_of_lt hb)⟩
      · cases r₂ with
        | error e => exact hr₂
        | ok fl₂ =>
          cases fl₂ with
          | ret r =>
            obtain ⟨rfl, h', tk, rfl, hF, hk'⟩ := hr₂
            repeat (any_goals (first | assumption | wp_step))
            exact h _ _ hF hk'
          | _ => exact hr₂.elim
    | _ => exact hr.elim
end
def rLenX (P : Program) (w : World) : List V → Hp → VK → Prop := fun vs H Q => ∃ (a : Addr) (S : Str → Bool) (n : Nat), vs = [.ref a] ∧ H a = some (SetX P w a S n) ∧ Q (.int (n : Int)) H
section
variable {X : Cx}
theorem set_any (hc : X.calm = true) {pins : List (Addr × Obj)} {σ : L2.St} {H : Hp} {s : Shared} {l : Addr} {xs : List Str} {Q : VK} (I : Inv X pins σ H s) (hq : SqT X.K H l (xs.map V.str)) (hz : xs.length ≤ 1000)
    (q : ∀ (p : Addr) (n : Nat), H p = none → n ≤ xs.length → (n = xs.length ↔ xs.Nodup) → Q (.ref p) (upd H p (SetX X.prog X.w p (fun z => decide (z ∈ xs)) n))) :
    wpAny (model X.prog X.w) X.A (call (.type "set") [.ref l]) (EP X pins σ Q) X.xe s := by
  obtain ⟨its, rv, pl, _⟩ := I.tuple hq
  have hlen : its.toArray.size = xs.length := by rw [List.size_toArray, ← rv.length, List.length_map]
  refine set_tuple (I.ok.hd hc) pl (by simpa using strsAre_of rv) hz fun h' tk ⟨j, g, hj, hnd, hdn⟩ hk => ?_
  rw [hlen] at g hj hnd hdn
  rw [List.take_of_length_le (Nat.le_refl _)] at g hdn
  have hn : H s.heap.objs.size = none := I.hok.fresh (Nat.le_refl _)
  exact ⟨.ref _, _, I.laidN hk (Heap.get?_none_of_le (Nat.le_refl _)) hn (setX_new g), rfl, q _ j hn hj ⟨hdn, hnd⟩⟩
/-- set(xs), xs a tuple of texts: as many as there are just if each stands once -/
def rSetY (K : PySem.W.Frag) (P : Program) (w : World) : List V → Hp → VK → Prop := fun vs H Q => ∃ (l : Addr) (xs : List Str), vs = [.ref l] ∧ SqT K H l (xs.map V.str) ∧ xs.length ≤ 1000 ∧
  ∀ (p : Addr) (n : Nat), H p = none → n ≤ xs.length → (n = xs.length ↔ xs.Nodup) → Q (.ref p) (upd H p (SetX P w p (fun z => decide (z ∈ xs)) n))
theorem cr_setY (hc : X.calm = true) : CallR X (.type "set") (rSetY X.K X.prog X.w) := by
  intro pins s σ H vs us Q I r h
  obtain ⟨l, xs, rfl, hq, hz, q⟩ := h
  obtain ⟨u, rfl, rx⟩ := vals1 r
  cases rx
  exact set_any hc I hq hz q
theorem cr_lenX : CallR X (.builtin "len") (rLenX X.prog X.w) := by
  intro pins s σ H vs us Q I r h
  obtain ⟨a, S, n, rfl, ha, q⟩ := h
  obtain ⟨u, rfl, rx⟩ := vals1 r
  cases rx
  have g : TSet X.prog X.w s.heap a S n := (I.hok a _ ha).1
  obtain ⟨o, es, ep, t, ho, hex, hd, _, _, hlt, hf, hn⟩ := g
  refine call_len_set ho hex hd hf (by unfold scanBound at hlt; omega) ⟨.int n, H, I.tok _, ⟨_, by rw [hn]⟩, q⟩
end
end Qk
set_option maxRecDepth 100000
set_option maxHeartbeats 4000000
namespace Qk
open PySem PySem.Spec PyProof.Rows L2
/-- each slot is met in a round -/
structure MaskB (m : Nat) : Prop where
  all : ∀ j, j ≤ m → ∃ b, b ≤ m ∧ lcgN m b = j
  rnd : lcgN m (m + 1) = 0
  is_ : m = 7 ∨ m = 31 ∨ m = 127 ∨ m = 511
theorem MaskB.again {m : Nat} (hm : MaskB m) : ∀ k, lcgN m (m + 1 + k) = lcgN m k
  | 0 => hm.rnd
  | k + 1 => by
    have ih := hm.again k
    show (lcgN m (m + 1 + k) * 5 + 1) % (m + 1) = _
    rw [ih]
    rfl
theorem MaskB.to {m i j : Nat} (hm : MaskB m) (hi : i ≤ m) (hj : j ≤ m) : ∃ k, k ≤ m ∧ lcgI m i k = j := by
  obtain ⟨a, a1, rfl⟩ := hm.all i hi
  obtain ⟨b, b1, rfl⟩ := hm.all j hj
  by_cases c : a ≤ b
  · exact ⟨b - a, by omega, by rw [lcgN_add, show a + (b - a) = b by omega]⟩
  · exact ⟨m + 1 + b - a, by omega, by rw [lcgN_add, show a + (m + 1 + b - a) = m + 1 + b by omega, hm.again]⟩
theorem MaskB.meets {m : Nat} (hm : MaskB m) (h : Int) {j : Nat} (hj : j ≤ m) : ∃ n, n ≤ m + 12 ∧ runI m (SetTable.bits h) n = j := by
  obtain ⟨k, k1, k2⟩ := hm.to (runI_le m (SetTable.bits h) 12) hj
  refine ⟨12 + k, by omega, ?_⟩
  rw [runI_tail (bits_lt h), k2]
theorem MaskB.way_to {m : Nat} (hm : MaskB m) (h : Int) {j : Nat} (hj : j ≤ m) : ∃ n, n ≤ m + 12 ∧ way m h (off m (SetTable.bits h % (m + 1)) (SetTable.bits h) n) = j := by
  obtain ⟨n, n1, n2⟩ := hm.meets h hj
  refine ⟨n, n1, ?_⟩
  unfold way
  rw [nth_off, itL_run, n2]
  rfl
theorem off_le (m : Nat) : ∀ (n i b : Nat), i ≤ m → off m i b n ≤ 10 * n
  | 0, _, _, _ => Nat.le_refl _
  | n + 1, i, b, hi => by
    have r := runEnd_bd hi
    have ih := off_le m n (SetTable.leap m i b).1 (SetTable.leap m i b).2 (leap_le m i b)
    show SetTable.runEnd m i - i + 1 + off m (SetTable.leap m i b).1 (SetTable.leap m i b).2 n ≤ _
    omega
/-- on h's way, j comes behind places of ps alone -/
def OnWay (m : Nat) (ps : List Nat) (h : Int) (j : Nat) : Prop := ∃ k, way m h k = j ∧ ∀ c, c < k → way m h c ∈ ps
structure TabB (t : SetTable) (hs : List Int) : Prop where
  up : Ris t.place.toList
  noD : t.dummies = #[]
  many : t.place.toList.length = hs.length
  mB : MaskB t.mask
  in_ : ∀ x ∈ t.place.toList, x ≤ t.mask
  onW : ∀ (i : Nat) (h : Int) (j : Nat), hs[i]? = some h → t.place.toList[i]? = some j → OnWay t.mask t.place.toList h j
theorem TabB.sz {t : SetTable} {hs : List Int} (T : TabB t hs) : t.place.size = hs.length := by
  rw [← Array.length_toList]
  exact T.many
theorem TabB.stop {t : SetTable} {hs : List Int} (T : TabB t hs) (hl : hs.length ≤ t.mask) (h : Int) :
    ∃ K, K < 10 * SetTable.turns t.mask ∧ way t.mask h K ∉ t.place.toList ∧ ∀ k, k < K → way t.mask h k ∈ t.place.toList := by
  obtain ⟨j, j1, j2⟩ := st_missing t.place.toList (t.mask + 1) (by rw [T.many]; omega)
  obtain ⟨n, n1, n2⟩ := T.mB.way_to h (Nat.le_of_lt_succ j1)
  have ob := off_le t.mask n (SetTable.bits h % (t.mask + 1)) (SetTable.bits h) (Nat.le_of_lt_succ (Nat.mod_lt _ (Nat.succ_pos t.mask)))
  obtain ⟨K, K1, K2, K3⟩ := st_least (p := fun k => way t.mask h k ∉ t.place.toList) _ (n2 ▸ j2)
  refine ⟨K, ?_, K2, fun k hk => Classical.byContradiction fun q => K3 k hk q⟩
  unfold SetTable.turns
  omega
theorem MaskB.free {m : Nat} (hm : MaskB m) (owner : Array (Option Nat)) (h : Int) {j : Nat} (hj : j ≤ m) (hf : oAt owner j = none) :
    ∃ K, SetTable.layClean.free m owner (SetTable.turns m) (SetTable.bits h % (m + 1)) (SetTable.bits h) = some (way m h K) ∧ oAt owner (way m h K) = none ∧ ∀ k, k < K → oAt owner (way m h k) ≠ none := by
  obtain ⟨n, n1, n2⟩ := hm.way_to h hj
  obtain ⟨K, K1, K2, K3⟩ := st_least (p := fun k => oAt owner (way m h k) = none) _ (by rw [← n2] at hf; exact hf)
  refine ⟨K, free_spec m owner _ n _ _ K (by unfold SetTable.turns; omega) K1 (fun k hk => ?_) (by rw [show oAt owner (nth m (runAt m _ _) K).j = none from K2]; rfl), K2, K3⟩
  cases e : oAt owner (way m h k) with
  | none => exact absurd e (K3 k hk)
  | some x => rfl
end Qk
set_option maxRecDepth 100000
set_option maxHeartbeats 4000000
namespace Qk
open PySem PySem.Spec PyProof.Rows L2
/-- the key k stands at a -/
def KAt (h : Heap) (k : NestedKey) (a : Addr) : Prop := NestedIs h k (.ref a) ∧ k.depth ≤ 8
abbrev Kp2 := NestedKey × Addr
/-- what the table has for a member -/
def ent (w : World) (p : Kp2) : Int × Value := (p.1.hash w, .ref p.2)
def hashesK (w : World) (L : List Kp2) : List Int := L.map fun p => p.1.hash w
/-- the set at a: L are its members (key and address), as the table has them -/
structure KSet (w : World) (h : Heap) (a : Addr) (L : List Kp2) (es : Array (Int × Value)) (ep : Nat) (t : SetTable) : Prop where
  ob : ∃ o, h.get? a = some o ∧ o.ExactSet ∧ o.data = .set es ep t
  rows : es.toList = L.map (ent w)
  tab : TabB t (hashesK w L)
  nd : (L.map Prod.fst).Nodup
  led : w.params.followText "set-order" = true ∨ t.led = true
  room : L.length * 5 < t.mask * 3
  few : L.length < 300
section
variable {P : Program} {w : World} {A : Around} {E : Value → Shared → Prop} {s : Shared} {h : Heap} {a : Addr} {L : List Kp2} {es : Array (Int × Value)} {ep : Nat} {t : SetTable}
theorem sz_rows (hr : es.toList = L.map (ent w)) : es.size = L.length := by
  rw [← Array.length_toList, hr, List.length_map]
theorem KSet.at_ (R : KSet w h a L es ep t) {i : Nat} {p : Kp2} (hi : L[i]? = some p) : es[i]? = some (ent w p) := by
  rw [← Array.getElem?_toList, R.rows, List.getElem?_map, hi]
  rfl
theorem len_h (L : List Kp2) : (hashesK w L).length = L.length := List.length_map _
theorem fits_of {hs : List Int} (T : TabB t hs) {n : Nat} (hn : hs.length = n) (hm : n ≤ t.mask) : t.fits n = true := by
  unfold SetTable.fits SetTable.fill
  have e : t.dummies.size = 0 := by rw [T.noD]; rfl
  rw [T.sz, hn, e]
  simp
  omega
theorem KSet.fits (R : KSet w h a L es ep t) : t.fits es.size = true := by
  rw [sz_rows R.rows]
  have := R.room
  exact fits_of R.tab (len_h L) (by omega)
end
end Qk
set_option maxRecDepth 100000
set_option maxHeartbeats 4000000
namespace Qk
open PySem PySem.Spec PyProof.Rows L2
theorem KAt.off {h h' : Heap} {k : NestedKey} {x a : Addr} {o : Obj} {es : Array (Int × Value)} {ep : Nat} {t : SetTable} (hx : KAt h k x) (ho : h.get? a = some o) (hd : o.data = .set es ep t) (hs : Heap.SameBut a h h') : KAt h' k x :=
  ⟨NestedIs.at (fun b ob vs n hb hv => (hs.2 b fun e => by
    subst e
    rw [ho] at hb
    cases hb
    rw [hd] at hv
    cases hv).trans hb) _ _ hx.1, hx.2⟩
theorem KAt.keep {h h' : Heap} {k : NestedKey} {x : Addr} (hx : KAt h k x) (hk : ∀ b o, h.get? b = some o → h'.get? b = some o) : KAt h' k x :=
  ⟨NestedIs.at (fun b ob vs n hb hv => hk b ob hb) _ _ hx.1, hx.2⟩
section
variable {P : Program} {w : World} {A : Around} {E : Value → Shared → Prop} {s : Shared} {a : Addr} {L : List Kp2} {es : Array (Int × Value)} {ep : Nat} {t : SetTable}
theorem KSet.keep {h h' : Heap} (R : KSet w h a L es ep t) (ha : ∀ o, h.get? a = some o → h'.get? a = some o) : KSet w h' a L es ep t := by
  obtain ⟨o, ho, r⟩ := R.ob
  exact ⟨⟨o, ha o ho, r⟩, R.rows, R.tab, R.nd, R.led, R.room, R.few⟩
end
end Qk
set_option maxRecDepth 100000
set_option maxHeartbeats 4000000
set_option maxRecDepth 100000
set_option maxHeartbeats 4000000
namespace Qk
open PySem PySem.Spec PyProof.Rows L2
def keyS (x : Str) : NestedKey := .text x
def nkQ (q : Qd) : NestedKey := .tup [.tup (q.1.map keyS), .text q.2]
theorem depth_keyS : ∀ xs : List Str, NestedKey.depthAll (xs.map keyS) = 0
  | [] => rfl
  | _ :: xs => by
    rw [List.map_cons, NestedKey.depthAll, depth_keyS xs]
    rfl
theorem depth_keyQ (q : Qd) : (nkQ q).depth ≤ 8 := by
  unfold nkQ
  simp only [NestedKey.depth, NestedKey.depthAll, depth_keyS]
  decide
theorem all_keyS {h : Heap} : ∀ {us : List Value} {xs : List Str}, PyProof.Rows.StrsAre us xs → NestedAll h (xs.map keyS) us
  | _, _, .nil => .nil
  | _, _, .cons x t r => .cons (.text x t) (all_keyS r)
theorem IsQ.key {h : Heap} {a : Addr} {q : Qd} (x : IsQ h (.ref a) q) : KAt h (nkQ q) a := by
  obtain ⟨a', c, o, oc, t, us, n, m, e, ho, hc, hd, hoc, hcc, hdc, hs⟩ := x
  cases e
  exact ⟨.tup ho hc hd (.cons (.tup hoc hcc hdc (by simpa using all_keyS hs)) (.cons (.text _ _) .nil)), depth_keyQ q⟩
end Qk
set_option maxRecDepth 100000
set_option maxHeartbeats 4000000
namespace Qk
open PySem PySem.Spec PyProof.Rows L2
/-- what is behind place i -/
theorem cut_behind (i : Nat) (xs : List V) : cutV xs (some ((i : Int) + 1)) none = xs.drop (i + 1) := by
  have e1 : ((i : Int) + 1) = ((i + 1 : Nat) : Int) := by omega
  rw [e1]
  unfold cutV
  rw [HT.sIx_none, HT.sIx_nat]
  by_cases h : i + 1 ≤ xs.length
  · rw [Nat.min_eq_left h]
    exact List.take_of_length_le (by rw [List.length_drop]; omega)
  · rw [Nat.min_eq_right (by omega), List.drop_of_length_le (Nat.le_refl _), List.drop_of_length_le (by omega)]
    simp
end Qk
set_option maxRecDepth 100000
set_option maxHeartbeats 4000000
set_option maxRecDepth 100000
set_option maxHeartbeats 4000000
namespace PySem.W
open PySem PyProof.Rows
end PySem.W
set_option maxRecDepth 100000
set_option maxHeartbeats 4000000
namespace Qk
open PySem PySem.Spec PyProof.Rows L2
/-- a column, as a text -/
def colS (z : Str) : Bool := (decide (1 ≤ z.cps.size) && decide (z.cps.size ≤ 8)) && z.cps.toList.all fun c => decide (97 ≤ c) && decide (c ≤ 122)
theorem ascii_tab : ((List.range 128).all fun c => (Unicode.isAlpha c == (decide (65 ≤ c) && decide (c ≤ 90) || decide (97 ≤ c) && decide (c ≤ 122))) && (Unicode.isLower c == (decide (97 ≤ c) && decide (c ≤ 122))) &&
    ((Unicode.isUpper c || Unicode.isTitle c) == (decide (65 ≤ c) && decide (c ≤ 90)))) = true := by decide +kernel
theorem ascii_facts {c : Nat} (h : c < 128) : Unicode.isAlpha c = (decide (65 ≤ c) && decide (c ≤ 90) || decide (97 ≤ c) && decide (c ≤ 122)) ∧ Unicode.isLower c = (decide (97 ≤ c) && decide (c ≤ 122)) ∧
    (Unicode.isUpper c || Unicode.isTitle c) = (decide (65 ≤ c) && decide (c ≤ 90)) := by
  have := List.all_eq_true.mp ascii_tab c (List.mem_range.mpr h)
  simp only [Bool.and_eq_true, beq_iff_eq] at this
  exact ⟨this.1.1, this.1.2, this.2⟩
/-- s.isascii() and s.isalpha() and s.islower(): all signs are a to z, and there is one -/
theorem low_iff (z : Str) (h : 1 ≤ z.cps.size) : (Txt.isascii z && (Txt.isalpha z && Txt.islower z)) = z.cps.toList.all fun c => decide (97 ≤ c) && decide (c ≤ 122) := by
  have e1 : Txt.isascii z = z.cps.toList.all fun c => decide (c < 128) := by
    show z.cps.all (· < 128) = _
    rw [← Array.all_toList]
  have e2 : Txt.isalpha z = z.cps.toList.all Unicode.isAlpha := by
    show (decide (z.length > 0) && z.cps.all Unicode.isAlpha) = _
    rw [decide_eq_true (show z.length > 0 from h), Bool.true_and, ← Array.all_toList]
  have e3 : Txt.islower z = (z.cps.toList.any Unicode.isLower && !z.cps.toList.any fun c => Unicode.isUpper c || Unicode.isTitle c) := by
    show (z.cps.any Unicode.isLower && !z.cps.any fun c => Unicode.isUpper c || Unicode.isTitle c) = _
    rw [← Array.any_toList, ← Array.any_toList]
  rw [e1, e2, e3]
  have hl : z.cps.toList ≠ [] := by
    intro q
    have : z.cps.toList.length = 0 := by rw [q]; rfl
    rw [Array.length_toList] at this
    omega
  generalize z.cps.toList = l at hl
  rw [Bool.eq_iff_iff]
  simp only [Bool.and_eq_true, List.all_eq_true, List.any_eq_true, Bool.not_eq_true', List.any_eq_false, decide_eq_true_eq]
  constructor
  · rintro ⟨ha, hb, ⟨d, hd, hdl⟩, hc⟩ c hcm
    obtain ⟨f1, f2, f3⟩ := ascii_facts (ha c hcm)
    have h1 := hb c hcm
    have h2 := hc c hcm
    rw [f3] at h2
    rw [f1] at h1
    simp only [Bool.or_eq_true, Bool.and_eq_true, decide_eq_true_eq] at h1 h2
    rcases h1 with h1 | h1
    · exact absurd h1 h2
    · exact h1
  · intro ha
    have lt : ∀ c ∈ l, c < 128 := fun c hc => by
      have := ha c hc
      omega
    refine ⟨lt, fun c hc => ?_, ?_, fun c hc => ?_⟩
    · rw [(ascii_facts (lt c hc)).1]
      have := ha c hc
      simp only [Bool.or_eq_true, Bool.and_eq_true, decide_eq_true_eq]
      exact .inr this
    · obtain ⟨c, hc⟩ := List.exists_mem_of_ne_nil l hl
      refine ⟨c, hc, ?_⟩
      rw [(ascii_facts (lt c hc)).2.1]
      have := ha c hc
      simp only [Bool.and_eq_true, decide_eq_true_eq]
      exact this
    · rw [(ascii_facts (lt c hc)).2.2]
      have := ha c hc
      simp only [Bool.and_eq_true, decide_eq_true_eq]
      omega
end Qk
set_option maxRecDepth 100000
set_option maxHeartbeats 4000000
namespace Qk
open PySem PySem.Spec PyProof.Rows L2
/-- a question as k13 has it -/
structure QZ (cols : List Str) (e : Str) : Prop where
  m : QM cols e
  ne : e ∉ cols
  le : cols.length + (if e = "" then 0 else 1) ≤ 12
theorem QZ.strOk {cols : List Str} {e : Str} (h : QZ cols e) : ∀ c ∈ cols, PyData.strOk c = true := fun c hc => menu_ok _ (h.m.sub _ hc)
end Qk
set_option maxRecDepth 100000
set_option maxHeartbeats 4000000
set_option maxRecDepth 100000
set_option maxHeartbeats 4000000
set_option maxRecDepth 100000
set_option maxHeartbeats 4000000
namespace Qk
open PySem PySem.Spec PyProof.Rows L2 ItX
/-- an instance of C whose list f stands at l and has xs -/
def HasL (H : Hp) (C a : Addr) (f : Str) (l : Addr) (xs : List V) : Prop := ∃ (dx : Addr) (fs : List (Str × V)), H a = some (.ins C dx fs) ∧ fs.lookup f = some (.ref l) ∧ H l = some (.lst xs)
section
variable {X : Cx} {pins : List (Addr × Obj)} {σ : L2.St} {H : Hp} {s : Shared} {A1 : Around} {C a l fi fl : Addr} {f : Str} {fdI fdL : FuncData} {n : Nat} {xs : List V}
theorem HasL.off {q : Addr} {o : HO} (h : HasL H C a f l xs) (hq : H q = none) : HasL (upd H q o) C a f l xs := by
  obtain ⟨dx, fs, ha, hl, hx⟩ := h
  exact ⟨dx, fs, by rw [upd_ne (ne_of_none ha hq)]; exact ha, hl, by rw [upd_ne (ne_of_none hx hq)]; exact hx⟩
end
end Qk
set_option maxRecDepth 100000
set_option maxHeartbeats 4000000
namespace Qk
open PySem PySem.Spec PyProof.Rows L2
def TL (H : Hp) (vs : List V) (rs : List (List Str)) : Prop := Paired (fun (x : V) (r : List Str) => ∃ t, x = .ref t ∧ H t = some (.tup (r.map V.str))) vs rs
theorem TL.len {H : Hp} {vs : List V} {rs : List (List Str)} (h : TL H vs rs) : vs.length = rs.length := Paired.length h
theorem TL.same {H H' : Hp} {vs : List V} {rs : List (List Str)} (s : Same H H') (h : TL H vs rs) : TL H' vs rs := Paired.mapP h fun x r ⟨t, e, z⟩ => ⟨t, e, s _ _ z⟩
theorem TL.off {H : Hp} {p : Addr} {xs zs : List V} {vs : List V} {rs : List (List Str)} (hp : H p = some (.lst xs)) (h : TL H vs rs) : TL (upd H p (.lst zs)) vs rs := Paired.mapP h fun x r ⟨t, e, z⟩ => ⟨t, e, by
  rw [upd_ne fun g => by rw [g, hp] at z; cases z]
  exact z⟩
theorem TL.at_ {H : Hp} {vs : List V} {rs : List (List Str)} (h : TL H vs rs) {i : Nat} {x : V} (hi : vs[i]? = some x) : ∃ (t : Addr) (r : List Str), x = .ref t ∧ rs[i]? = some r ∧ H t = some (.tup (r.map V.str)) := by
  induction h generalizing i with
  | nil => simp at hi
  | @cons x0 r0 vs' rs' h1 _ ih =>
    cases i with
    | zero =>
      simp only [List.getElem?_cons_zero, Option.some.injEq] at hi
      subst hi
      obtain ⟨t, e, z⟩ := h1
      exact ⟨t, r0, e, rfl, z⟩
    | succ i => exact ih hi
theorem QL.off {H : Hp} {p : Addr} {xs zs : List V} {vs : List V} {qs : List Qd} (hp : H p = some (.lst xs)) (h : QL H vs qs) : QL (upd H p (.lst zs)) vs qs := Paired.mapP h fun x r ⟨t, e, c, z1, z2⟩ => ⟨t, e, c, by
  rw [upd_ne fun g => by rw [g, hp] at z1; cases z1]
  exact z1, by
  rw [upd_ne fun g => by rw [g, hp] at z2; cases z2]
  exact z2⟩
theorem QL.at_ {H : Hp} {xs : List V} {qs : List Qd} (h : QL H xs qs) {i : Nat} {x : V} (hi : xs[i]? = some x) : ∃ (t : Addr) (q : Qd), x = .ref t ∧ qs[i]? = some q ∧ QAt H t q.1 q.2 := by
  induction h generalizing i with
  | nil => simp at hi
  | @cons x0 q0 xs' qs' h1 _ ih =>
    cases i with
    | zero =>
      simp only [List.getElem?_cons_zero, Option.some.injEq] at hi
      subst hi
      obtain ⟨t, e, z⟩ := h1
      exact ⟨t, q0, e, rfl, z⟩
    | succ i => exact ih hi
end Qk
set_option maxRecDepth 100000
set_option maxHeartbeats 4000000
set_option maxRecDepth 100000
set_option maxHeartbeats 4000000
namespace Qk
open PySem PySem.Spec PyProof.Rows L2
section
variable {P : Program} {w : World} {A : Around} {R : Result → Shared → Prop} {s : Shared} {elt t0 i0 t1 i1 : Expr} {scope : Scope} {pos : Pos} {it acc : Value} {env : Env}
/-- nothing is raised -/
abbrev wF {α : Type} (P : Program) (w : World) (A : Around) (t : Sem α) (Q : α → Shared → Prop) (s : Shared) : Prop := wpAny (model P w) A t Q (fun _ _ => False) s
theorem wF.any {α : Type} {t : Sem α} {Q Q' : α → Shared → Prop} {E : Value → Shared → Prop} (h : wF P w A t Q s) (k : ∀ a s, Q a s → Q' a s) : wpAny (model P w) A t Q' E s := wpAny_mono h k fun _ _ z => False.elim z
end
end Qk
set_option maxRecDepth 100000
set_option maxHeartbeats 4000000
namespace Qk
open PySem PySem.Spec PyProof.Rows L2
/-- a loop over J: Done behind it; each turn from a drawn value has to come to the word that is handed to it -/
def Loop (J : It) (Done : Hp → Prop) (Body : V → Hp → (Hp → Prop) → Prop) (H : Hp) : Prop :=
  ∃ W : Nat → Nat → Hp → Prop, (∃ m, W 0 m H) ∧ ∀ i m G, W i m G → (J.stop i G ∧ Done G) ∨ (J.go i G ∧ ∃ Nx : Hp → Prop, (∀ G', Nx G' → ∃ m', m' < m ∧ W (i + 1) m' G') ∧ ∀ x G', J.yld i G x G' → Body x G' Nx)
theorem Loop.list {K : PySem.W.Frag} {a : Addr} {xs : List V} {Done : Hp → Prop} {Body : V → Hp → (Hp → Prop) → Prop} {H : Hp} (Pv : Nat → Hp → Prop) (h0 : Pv 0 H) (hl : ∀ i G, i ≤ xs.length → Pv i G → SqL K G a xs)
    (one : ∀ i x G, xs[i]? = some x → Pv i G → Body x G (Pv (i + 1))) (end_ : ∀ G, Pv xs.length G → Done G) : Loop (Itl K a) Done Body H := by
  refine ⟨fun i m G => m + i = xs.length ∧ Pv i G, ⟨xs.length, rfl, h0⟩, fun i m G hw => ?_⟩
  obtain ⟨hm, p⟩ := hw
  have q := hl i G (by omega) p
  rcases Nat.lt_or_ge i xs.length with lt | ge
  · have g : xs[i]? = some xs[i] := List.getElem?_eq_getElem lt
    refine .inr ⟨⟨xs, xs[i], q, g⟩, Pv (i + 1), fun G' p' => ⟨m - 1, by omega, by omega, p'⟩, fun x G' y => ?_⟩
    obtain ⟨rfl, y⟩ := y
    exact one i x _ (y xs q) p
  · have e : i = xs.length := by omega
    exact .inl ⟨⟨xs, q, ge⟩, end_ G (e ▸ p)⟩
theorem Loop.tup {K : PySem.W.Frag} {a : Addr} {xs : List V} {Done : Hp → Prop} {Body : V → Hp → (Hp → Prop) → Prop} {H : Hp} (Pv : Nat → Hp → Prop) (h0 : Pv 0 H) (hl : ∀ i G, i ≤ xs.length → Pv i G → SqT K G a xs)
    (one : ∀ i x G, xs[i]? = some x → Pv i G → Body x G (Pv (i + 1))) (end_ : ∀ G, Pv xs.length G → Done G) : Loop (Itt K a) Done Body H := by
  refine ⟨fun i m G => m + i = xs.length ∧ Pv i G, ⟨xs.length, rfl, h0⟩, fun i m G hw => ?_⟩
  obtain ⟨hm, p⟩ := hw
  have q := hl i G (by omega) p
  rcases Nat.lt_or_ge i xs.length with lt | ge
  · have g : xs[i]? = some xs[i] := List.getElem?_eq_getElem lt
    refine .inr ⟨⟨xs, xs[i], q, g⟩, Pv (i + 1), fun G' p' => ⟨m - 1, by omega, by omega, p'⟩, fun x G' y => ?_⟩
    obtain ⟨rfl, y⟩ := y
    exact one i x _ (y xs q) p
  · have e : i = xs.length := by omega
    exact .inl ⟨⟨xs, q, ge⟩, end_ G (e ▸ p)⟩
end Qk
set_option maxRecDepth 100000
set_option maxHeartbeats 4000000
set_option maxRecDepth 100000
set_option maxHeartbeats 4000000
namespace Qk
open PySem PySem.Spec PyProof.Rows L2
/-- the row of a text -/
def RowT (P : Program) (w : World) (e : Int × Value) (x : Str) : Prop := e.1 = (strKind P w).hash x ∧ ∃ tk, e.2 = Value.str x tk
structure Txts (P : Program) (w : World) (h : Heap) (a : Addr) (xs : List Str) (o : Obj) (es : Array (Int × Value)) (ep : Nat) (t : SetTable) : Prop where
  ob : h.get? a = some o
  ex : o.ExactSet
  da : o.data = .set es ep t
  rows : Paired (RowT P w) es.toList xs
  nd : xs.Nodup
  few : es.size < scanBound
  fit : t.fits es.size = true
  ris : Ris t.place.toList
  led : w.params.followText "set-order" = true ∨ t.led = true
def TxtSet (P : Program) (w : World) (h : Heap) (a : Addr) (xs : List Str) : Prop := ∃ o es ep t, Txts P w h a xs o es ep t
section
variable {P : Program} {w : World} {h : Heap} {a : Addr} {xs : List Str} {o : Obj} {es : Array (Int × Value)} {ep : Nat} {t : SetTable}
theorem TxtSet.keep {h' : Heap} (R : TxtSet P w h a xs) (k : ∀ u, h.get? a = some u → h'.get? a = some u) : TxtSet P w h' a xs := by
  obtain ⟨o, es, ep, t, r⟩ := R
  exact ⟨o, es, ep, t, { r with ob := k _ r.ob }⟩
theorem TxtSet.fresh (w : World) (hh : h.get? a = some { cls := .type "set", dict := none, data := .set #[] 0 (.fresh 0 0 (!w.params.followText "set-order")) }) : TxtSet P w h a [] := by
  refine ⟨_, #[], 0, _, hh, ⟨rfl, rfl, rfl⟩, rfl, .nil, .nil, by decide, by rfl, .nil, ?_⟩
  show w.params.followText "set-order" = true ∨ (!w.params.followText "set-order") = true
  cases w.params.followText "set-order"
  · exact .inr rfl
  · exact .inl rfl
end
end Qk
set_option maxRecDepth 100000
set_option maxHeartbeats 4000000
set_option maxRecDepth 100000
set_option maxHeartbeats 4000000
set_option maxRecDepth 100000
set_option maxHeartbeats 4000000
set_option maxRecDepth 100000
set_option maxHeartbeats 4000000
namespace Qk
open PySem PySem.Spec PyProof.Rows L2
/-- an error of the class at C stands at a -/
def Er (H : Hp) (a C : Addr) : Prop := H a = some (exo a C none) ∨ ∃ d fs, H a = some (exo a C (some d)) ∧ H d = some (exd d fs)
theorem Er.same {H H' : Hp} {a C : Addr} (s : Same H H') (h : Er H a C) : Er H' a C := by
  rcases h with h | ⟨d, fs, h, hd⟩
  · exact .inl (s _ _ h)
  · exact .inr ⟨d, fs, s _ _ h, s _ _ hd⟩
end Qk
set_option maxRecDepth 100000
set_option maxHeartbeats 4000000
namespace Qk
open PySem PySem.Spec PyProof.Rows L2
mutual
inductive D1 (H : Hp) : V → PyData → Prop
  | non : D1 H .non .none
  | bl (b : Bool) : D1 H (.bl b) (.bool b)
  | int (i : Int) : D1 H (.int i) (.int i)
  | str (x : Str) : D1 H (.str x) (.str x)
  | lst {a : Addr} {xs : List V} {ds : List PyData} : H a = some (.lst xs) → a ≠ sysModules → D1A H xs ds → D1 H (.ref a) (.list ds)
  | tup {a : Addr} {xs : List V} {ds : List PyData} : H a = some (.tup xs) → D1A H xs ds → D1 H (.ref a) (.tuple ds)
inductive D1A (H : Hp) : List V → List PyData → Prop
  | nil : D1A H [] []
  | cons {v : V} {vs : List V} {d : PyData} {ds : List PyData} : D1 H v d → D1A H vs ds → D1A H (v :: vs) (d :: ds)
end
def kD : Key → PyData
  | .inl i => .int i
  | .inr x => .str x
inductive D2K (H : Hp) : List (Key × V) → List (PyData × PyData) → Prop
  | nil : D2K H [] []
  | cons {k : Key} {v : V} {d : PyData} {kvs : List (Key × V)} {D : List (PyData × PyData)} : D1 H v d → D2K H kvs D → D2K H ((k, v) :: kvs) ((kD k, d) :: D)
def D2 (H : Hp) (v : V) (d : PyData) : Prop := D1 H v d ∨ ∃ a kvs D, v = .ref a ∧ H a = some (.dK kvs) ∧ D2K H kvs D ∧ d = .dict D
section
variable {X : Cx} {pins : List (Addr × Obj)} {σ : L2.St} {H : Hp} {s : Shared}
mutual
theorem D1.reads (I : Inv X pins σ H s) : ∀ (d : PyData) (v : V) (u : Value), D1 H v d → RelV v u → ∃ as, Reads s.heap u d as ∧ sysModules ∉ as
  | .none, _, _, h, r => by
    cases h
    cases r
    exact ⟨_, Reads.none, by simp⟩
  | .bool b, _, _, h, r => by
    cases h
    cases r
    exact ⟨_, Reads.bool b, by simp⟩
  | .int i, _, _, h, r => by
    cases h
    obtain ⟨t, rfl⟩ := r
    exact ⟨_, Reads.int i t, by simp⟩
  | .str x, _, _, h, r => by
    cases h
    obtain ⟨t, rfl⟩ := r
    exact ⟨_, Reads.str x t, by simp⟩
  | .list ds, _, _, h, r => by
    cases h with
    | lst hs hn ha =>
      cases r
      obtain ⟨its, rv, ⟨o, n, ho, hc, _, hd⟩, _⟩ := I.list (SqL.of hs)
      obtain ⟨as, hr, ns⟩ := D1.readsAll I ds _ its ha rv
      refine ⟨_, Reads.list ho hc hd hr, fun z => ?_⟩
      rcases List.mem_cons.mp z with e | e
      · exact hn e.symm
      · exact ns e
  | .tuple ds, _, _, h, r => by
    cases h with
    | tup hs ha =>
      cases r
      obtain ⟨its, rv, ⟨o, ho, hc, n, hd⟩, _⟩ := I.tuple (SqT.of hs)
      obtain ⟨as, hr, ns⟩ := D1.readsAll I ds _ its ha rv
      exact ⟨_, Reads.tuple ho hc hd hr, ns⟩
  | .dict _, _, _, h, _ => by cases h
theorem D1.readsAll (I : Inv X pins σ H s) : ∀ (ds : List PyData) (vs : List V) (us : List Value), D1A H vs ds → Vals vs us → ∃ as, ReadsAll s.heap us ds as ∧ sysModules ∉ as
  | [], _, _, h, r => by
    cases h
    cases r
    exact ⟨_, ReadsAll.nil, by simp⟩
  | d :: ds, _, _, h, r => by
    cases h with
    | cons h1 h2 =>
      cases r with
      | cons r1 r2 =>
        obtain ⟨as, q1, n1⟩ := D1.reads I d _ _ h1 r1
        obtain ⟨bs, q2, n2⟩ := D1.readsAll I ds _ _ h2 r2
        refine ⟨_, ReadsAll.cons q1 q2, fun z => ?_⟩
        rcases List.mem_append.mp z with e | e
        · exact n1 e
        · exact n2 e
end
theorem D2K.reads (I : Inv X pins σ H s) {kvs : List (Key × V)} {D : List (PyData × PyData)} (h : D2K H kvs D) : ∀ (vs : List (Key × Value)) (es : List DictEntry), KV kvs vs → Pairs (mixKind X.prog X.w) es vs →
    ∃ as bs, ReadsAll s.heap (es.map (·.key)) (D.map (·.1)) as ∧ ReadsAll s.heap (es.map (·.val)) (D.map (·.2)) bs ∧ sysModules ∉ as ∧ sysModules ∉ bs := by
  induction h with
  | nil =>
    intro vs es r p
    cases r
    cases p
    exact ⟨_, _, ReadsAll.nil, ReadsAll.nil, by simp, by simp⟩
  | @cons k v d kvs D h1 h2 ih =>
    intro vs es r p
    cases r with
    | @cons _ q _ vs' r1 r2 =>
      cases p with
      | @cons e _ es' _ p1 p2 p3 =>
        obtain ⟨as, bs, q1, q2, n1, n2⟩ := ih _ _ r2 p3
        obtain ⟨cs, q3, n3⟩ := D1.reads I d v e.val h1 (by rw [p2]; exact r1.2)
        have hk : ∃ ds, Reads s.heap e.key (kD k) ds ∧ sysModules ∉ ds := by
          have e1 : k = q.1 := r1.1
          rw [← e1] at p1
          rcases keyIs_shape (show keyIs k e.key = true from p1) with ⟨i, t, rfl, e2⟩ | ⟨x, t, rfl, e2⟩
          · rw [e2]
            exact ⟨_, Reads.int i t, by simp⟩
          · rw [e2]
            exact ⟨_, Reads.str x t, by simp⟩
        obtain ⟨ds, q4, n4⟩ := hk
        refine ⟨_, _, ReadsAll.cons q4 q1, ReadsAll.cons q3 q2, fun z => ?_, fun z => ?_⟩
        · rcases List.mem_append.mp z with e | e
          · exact n4 e
          · exact n1 e
        · rcases List.mem_append.mp z with e | e
          · exact n3 e
          · exact n2 e
theorem D2.reads (I : Inv X pins σ H s) {v : V} {d : PyData} {u : Value} (h : D2 H v d) (r : RelV v u) : ∃ as, Reads s.heap u d as ∧ sysModules ∉ as := by
  rcases h with h | ⟨a, kvs, D, rfl, ha, hk, rfl⟩
  · exact D1.reads I d v u h r
  · cases r
    obtain ⟨z, hd, vs, rel, ⟨o, es, ep, h1, h2, h3, h4, h5, h6⟩⟩ := dk_of I.hok ha
    obtain ⟨as, bs, q1, q2, n1, n2⟩ := hk.reads I vs es.toList rel h5
    refine ⟨_, Reads.dict h1 h2.1 h3 q1 q2, fun z => ?_⟩
    rcases List.mem_append.mp z with e | e
    · rcases List.mem_cons.mp e with e | e
      · rw [← e] at hd
        simp at hd
      · exact n1 e
    · exact n2 e
end
section
variable {X : Cx}
def tLstN (t : TA) : TE := fun σ H Q => t σ H fun xs H1 => xs.length ≤ sizeLine ∧ ∀ p, H1 p = none → p ≠ sysModules → Q (.ref p) (upd H1 p (.lst xs))
theorem pe_lstN {es : List Expr} {t : TA} {pos : Pos} (h : PA X es t) : PE X (.List es pos) (tLstN t) := by
  refine ⟨fun pins s σ H Q I hq => ?_⟩
  refine wpAny_List_spliced (thn (h.run pos pins s σ H _ I hq) fun us s1 ⟨xs, H1, I1, r, z, q⟩ => ⟨by rw [← r.length]; exact z, ?_⟩)
  have hf : H1 s1.heap.objs.size = none := I1.hok.fresh (Nat.le_refl _)
  refine ⟨.ref s1.heap.objs.size, upd H1 s1.heap.objs.size (.lst xs), I1.laid (t' := s1.toks) (fun b u e => Heap.get?_push_of_some _ e) (Nat.le_refl _) ?_, rfl, q _ hf (Nat.ne_of_gt I1.big)⟩
  exact ⟨z, us, 0, r, Heap.get?_push_size _ rfl⟩
end
end Qk
set_option maxRecDepth 100000
set_option maxHeartbeats 4000000
namespace Qk
open PySem PySem.Spec PyProof.Rows L2
/-- an error with its one field -/
def ErF (H : Hp) (a C : Addr) (f : Str) (x : V) : Prop := ∃ d, H a = some (exo a C (some d)) ∧ H d = some (exd d [(f, x)])
theorem ErF.same {H H' : Hp} {a C : Addr} {f : Str} {x : V} (s : Same H H') (h : ErF H a C f x) : ErF H' a C f x := by
  obtain ⟨d, h1, h2⟩ := h
  exact ⟨d, s _ _ h1, s _ _ h2⟩
mutual
theorem D1.same {H H' : Hp} (s : Same H H') : ∀ (d : PyData) (v : V), D1 H v d → D1 H' v d
  | .none, _, h => by
    cases h
    exact .non
  | .bool b, _, h => by
    cases h
    exact .bl b
  | .int i, _, h => by
    cases h
    exact .int i
  | .str x, _, h => by
    cases h
    exact .str x
  | .list ds, _, h => by
    cases h with
    | lst a b c => exact .lst (s _ _ a) b (D1.sameAll s ds _ c)
  | .tuple ds, _, h => by
    cases h with
    | tup a c => exact .tup (s _ _ a) (D1.sameAll s ds _ c)
  | .dict _, _, h => by cases h
theorem D1.sameAll {H H' : Hp} (s : Same H H') : ∀ (ds : List PyData) (vs : List V), D1A H vs ds → D1A H' vs ds
  | [], _, h => by
    cases h
    exact .nil
  | d :: ds, _, h => by
    cases h with
    | cons a b => exact .cons (D1.same s d _ a) (D1.sameAll s ds _ b)
end
def tyD : PyData → String
  | .none => "NoneType"
  | .bool _ => "bool"
  | .int _ => "int"
  | .str _ => "str"
  | .list _ => "list"
  | .tuple _ => "tuple"
  | .dict _ => "dict"
theorem D1.ty {K : PySem.W.Frag} {H : Hp} {v : V} {d : PyData} (h : D1 H v d) : TyX K H v (.type (tyD d)) := by
  cases h with
  | non => exact .base .non
  | bl b => exact .base (.bl b)
  | int i => exact .base (.int i)
  | str x => exact .base (.str x)
  | lst a b c => exact .base (.lst a)
  | tup a c => exact .base (.tup a)
theorem ErF.off {H : Hp} {a b C : Addr} {f : Str} {x : V} {o u : HO} (h : ErF H a C f x) (hb : H b = some o) (ho : ∀ φ, o ≠ .ext φ) : ErF (L2.upd H b u) a C f x := by
  obtain ⟨d, h1, h2⟩ := h
  refine ⟨d, ?_, ?_⟩
  · rw [upd_ne (ne_of h1 hb fun z => ho _ z.symm)]
    exact h1
  · rw [upd_ne (ne_of h2 hb fun z => ho _ z.symm)]
    exact h2
theorem D2K.same {H H' : Hp} (s : Same H H') {kvs : List (Key × V)} {D : List (PyData × PyData)} (h : D2K H kvs D) : D2K H' kvs D := by
  induction h with
  | nil => exact .nil
  | cons h1 _ ih => exact .cons (D1.same s _ _ h1) ih
theorem D2.same {H H' : Hp} (s : Same H H') {v : V} {d : PyData} (h : D2 H v d) : D2 H' v d := by
  rcases h with h | ⟨a, kvs, D, rfl, ha, hk, rfl⟩
  · exact .inl (D1.same s _ _ h)
  · exact .inr ⟨a, kvs, D, rfl, s _ _ ha, hk.same s, rfl⟩
end Qk
set_option maxRecDepth 100000
set_option maxHeartbeats 4000000
namespace Qk
open PySem PySem.Spec PyProof.Rows L2
/-- a row as data -/
def dR (r : List Str) : PyData := .tuple (r.map PyData.str)
theorem TL.dp {K : PySem.W.Frag} {H : Hp} : ∀ {xs : List V} {rs : List (List Str)}, TL H xs rs → DpAll K H xs (rs.map dR)
  | _, _, .nil => .nil
  | _, _, .cons ⟨t, e, z⟩ r => by
    subst e
    exact .cons (.tup (SqT.of z) (dp_strs _)) (TL.dp r)
theorem TL.kp {H H' : Hp} {b l : Addr} {xs : List V} {rs : List (List Str)} (B : Bag H b l) (s : Kp b H H') (h : TL H xs rs) : TL H' xs rs :=
  Paired.mapP h fun x r ⟨t, e, z⟩ => ⟨t, e, s _ _ z (B.ne_tup z)⟩
theorem TL.mem {H : Hp} {xs : List V} {rs : List (List Str)} (h : TL H xs rs) : ∀ x ∈ xs, ∃ (t : Addr) (r : List Str), x = .ref t ∧ r ∈ rs ∧ H t = some (.tup (r.map V.str)) := fun x hx => by
  obtain ⟨i, hi⟩ := List.mem_iff_getElem?.mp hx
  obtain ⟨t, r, e, h1, h2⟩ := h.at_ hi
  exact ⟨t, r, e, List.mem_of_getElem? h1, h2⟩
end Qk
set_option maxRecDepth 100000
set_option maxHeartbeats 4000000
set_option maxRecDepth 100000
set_option maxHeartbeats 4000000
set_option maxRecDepth 100000
set_option maxHeartbeats 4000000
namespace Qk
open PySem PySem.Spec PyProof.Rows L2
/-- an error that was raised: its class and its dict -/
def erx (a : Addr) (cls : Value) (d : Option Addr) : HO := .ext fun h => ∃ (oe : Obj) (vs : Array Value), h.get? a = some oe ∧ Zc cls d oe ∧ oe.data = .fields vs
end Qk
set_option maxRecDepth 100000
set_option maxHeartbeats 4000000
namespace Qk
open PySem PySem.Spec PyProof.Rows L2
section
variable {X : Cx} {pins : List (Addr × Obj)} {σ : L2.St} {H : Hp} {s : Shared}
/-- an error of the class C that was raised, its fields -/
def Erx (H : Hp) (a C d : Addr) (fs : List (Str × V)) : Prop := H a = some (erx a (.ref C) (some d)) ∧ H d = some (.xd fs)
theorem Erx.same {H H' : Hp} {a C d : Addr} {fs : List (Str × V)} (s : Same H H') (h : Erx H a C d fs) : Erx H' a C d fs := ⟨s _ _ h.1, s _ _ h.2⟩
end
end Qk
set_option maxRecDepth 100000
set_option maxHeartbeats 4000000
set_option maxRecDepth 100000
set_option maxHeartbeats 4000000
set_option maxRecDepth 100000
set_option maxHeartbeats 4000000
namespace Qk
open PySem PySem.Spec PyProof.Rows L2
section
variable {X : Cx}
/-- set(xs), xs a list of texts -/
def rSetL (K : PySem.W.Frag) (P : Program) (w : World) : List V → Hp → VK → Prop := fun vs H Q => ∃ (l : Addr) (xs : List Str), vs = [.ref l] ∧ SqL K H l (xs.map V.str) ∧ xs.length ≤ 1000 ∧
  ∀ (p : Addr) (n : Nat), H p = none → n ≤ xs.length → (n = xs.length ↔ xs.Nodup) → Q (.ref p) (upd H p (SetX P w p (fun z => decide (z ∈ xs)) n))
/-- xs != [], whatever xs holds -/
def rNeNil (K : PySem.W.Frag) : R2 := fun x y H Q => ∃ (a b : Addr) (xs : List V), x = .ref a ∧ y = .ref b ∧ SqL K H a xs ∧ SqL K H b [] ∧ Q (.bl (!decide (xs = []))) H
theorem op_neNil (hu : X.A.units + 64 < cLine) : OpR X (compareOp .NotEq) (rNeNil X.K) := by
  intro pins s σ H x y v u Q I rx ry h
  obtain ⟨a, b, xs, rfl, rfl, ha, hb, q⟩ := h
  cases rx
  cases ry
  by_cases hx : xs = []
  · subst hx
    exact op_neD hu pins s σ H (.ref a) (.ref b) (.ref a) (.ref b) Q I rfl rfl ⟨.list [], .list [], .lst ha .nil, .lst hb .nil, rfl, rfl, q⟩
  · obtain ⟨its, rv, pl, _⟩ := I.list ha
    obtain ⟨jts, rv2, pl2, _⟩ := I.list hb
    have l1 : its.length = xs.length := rv.length.symm
    have l2 : jts.length = 0 := rv2.length.symm
    have ne : xs.length ≠ 0 := fun e => hx (List.eq_nil_of_length_eq_zero e)
    rw [decide_eq_false hx] at q
    refine PySem.SeqAt.RcNeAt.lists_lengths pl.isList pl2.isList (by simp [l1, l2, ne]) (by omega) X.prog X.w X.xe _ ⟨.bl true, H, I, rfl, q⟩
end
end Qk
set_option maxRecDepth 100000
set_option maxHeartbeats 4000000
namespace Qk
open PySem PySem.Spec PyProof.Rows L2
/-- a flat value: a text is of signs as they are written, where it is short -/
def Flat (H : Hp) (A : Addr → Prop) (x : V) : Prop := x = .non ∨ (∃ b, x = .bl b) ∨ (∃ i, x = .int i) ∨ (∃ z : Str, x = .str z ∧ z.cps.size ≤ 10000 ∧ (z.cps.size ≤ 8 → PyData.strOk z = true)) ∨ ∃ a kvs, x = .ref a ∧ ¬ A a ∧ H a = some (.dK kvs)
/-- a value whose lists and tuples lie at most n deep, none of them at an address of A -/
def VA (mx : Nat) (H : Hp) (A : Addr → Prop) : Nat → V → Prop
  | 0, x => Flat H A x
  | n + 1, x => Flat H A x ∨ ∃ a xs, x = .ref a ∧ ¬ A a ∧ (H a = some (.lst xs) ∨ H a = some (.tup xs)) ∧ xs.length ≤ mx ∧ ∀ y ∈ xs, VA mx H A n y
section
variable {mx : Nat} {H H' : Hp} {A A' : Addr → Prop}
theorem Flat.keep {x : V} (k : ∀ c o, H c = some o → ¬ A c → H' c = some o ∧ ¬ A' c) (h : Flat H A x) : Flat H' A' x := by
  rcases h with h | h | h | h | ⟨a, kvs, e, na, ha⟩
  · exact .inl h
  · exact .inr (.inl h)
  · exact .inr (.inr (.inl h))
  · exact .inr (.inr (.inr (.inl h)))
  · exact .inr (.inr (.inr (.inr ⟨a, kvs, e, (k _ _ ha na).2, (k _ _ ha na).1⟩)))
theorem VA.keep : ∀ {n : Nat} {x : V}, (∀ c o, H c = some o → ¬ A c → H' c = some o ∧ ¬ A' c) → VA mx H A n x → VA mx H' A' n x
  | 0, x, k, h => Flat.keep k h
  | n + 1, x, k, h => by
    rcases h with h | ⟨a, xs, e, na, ha, hl, hx⟩
    · exact .inl (Flat.keep k h)
    · refine .inr ⟨a, xs, e, ?_, ?_, hl, fun y hy => VA.keep k (hx y hy)⟩
      · rcases ha with ha | ha
        · exact (k _ _ ha na).2
        · exact (k _ _ ha na).2
      · rcases ha with ha | ha
        · exact .inl (k _ _ ha na).1
        · exact .inr (k _ _ ha na).1
theorem VA.same {n : Nat} {x : V} (s : Same H H') (h : VA mx H A n x) : VA mx H' A n x := VA.keep (fun c o e na => ⟨s c o e, na⟩) h
theorem VA.up : ∀ {n : Nat} {x : V}, VA mx H A n x → VA mx H A (n + 1) x
  | 0, _, h => .inl h
  | n + 1, _, h => by
    rcases h with h | ⟨a, xs, e, na, ha, hl, hx⟩
    · exact .inl h
    · exact .inr ⟨a, xs, e, na, ha, hl, fun y hy => VA.up (hx y hy)⟩
theorem VA.le {n m : Nat} (h : n ≤ m) {x : V} (v : VA mx H A n x) : VA mx H A m x := by
  obtain ⟨k, rfl⟩ := Nat.le.dest h
  clear h
  induction k with
  | zero => exact v
  | succ k ih => exact ih.up
end
/-- new values: all that they are made of is newer than H0 -/
def old (H0 : Hp) : Addr → Prop := fun c => ∃ o, H0 c = some o
theorem VA.fresh {mx n : Nat} {H : Hp} {A : Addr → Prop} {x : V} {p : Addr} {o : HO} (hp : H p = none) (h : VA mx H A n x) : VA mx (upd H p o) (fun c => A c ∨ c = p) n x :=
  VA.keep (fun c u e na => ⟨by rw [upd_ne (ne_of_none e hp)]; exact e, fun ha => ha.elim na fun ec => ne_of_none e hp ec⟩) h
section
variable {X : Cx} {mx : Nat}
theorem PE.imp {e : Expr} {t t' : TE} (h : PE X e t) (hi : ∀ σ H Q, t' σ H Q → t σ H Q) : PE X e t' := ⟨fun pins s σ H Q I q => h.run pins s σ H Q I (hi σ H Q q)⟩
theorem PA.imp {es : List Expr} {t t' : TA} (h : PA X es t) (hi : ∀ σ H Q, t' σ H Q → t σ H Q) : PA X es t' := ⟨fun pos pins s σ H Q I q => h.run pos pins s σ H Q I (hi σ H Q q)⟩
theorem fold_size (z : Array Nat) : ∀ (k : Nat) (acc : Array Nat), ((List.replicate k z).foldl (· ++ ·) acc).size = acc.size + k * z.size
  | 0, acc => by simp
  | k + 1, acc => by
    rw [List.replicate_succ, List.foldl_cons, fold_size z k, Array.size_append, Nat.succ_mul]
    omega
end
end Qk
set_option maxRecDepth 100000
set_option maxHeartbeats 4000000
set_option maxRecDepth 100000
set_option maxHeartbeats 4000000
namespace Qk
open PySem PySem.Spec PyProof.Rows L2
mutual
inductive D3 (H : Hp) : V → PyData → Prop
  | non : D3 H .non .none
  | bl (b : Bool) : D3 H (.bl b) (.bool b)
  | int (i : Int) : D3 H (.int i) (.int i)
  | str (x : Str) : D3 H (.str x) (.str x)
  | lst {a : Addr} {xs : List V} {ds : List PyData} : H a = some (.lst xs) → a ≠ sysModules → D3A H xs ds → D3 H (.ref a) (.list ds)
  | tup {a : Addr} {xs : List V} {ds : List PyData} : H a = some (.tup xs) → D3A H xs ds → D3 H (.ref a) (.tuple ds)
  | dic {a : Addr} {kvs : List (Key × V)} {D : List (PyData × PyData)} : H a = some (.dK kvs) → D2K H kvs D → D3 H (.ref a) (.dict D)
inductive D3A (H : Hp) : List V → List PyData → Prop
  | nil : D3A H [] []
  | cons {v : V} {vs : List V} {d : PyData} {ds : List PyData} : D3 H v d → D3A H vs ds → D3A H (v :: vs) (d :: ds)
end
section
variable {X : Cx} {pins : List (Addr × Obj)} {σ : L2.St} {H H' : Hp} {s : Shared}
theorem D2.dic_reads (I : Inv X pins σ H s) {a : Addr} {kvs : List (Key × V)} {D : List (PyData × PyData)} (ha : H a = some (.dK kvs)) (hk : D2K H kvs D) {u : Value} (r : RelV (.ref a) u) : ∃ as, Reads s.heap u (.dict D) as ∧ sysModules ∉ as :=
  D2.reads I (.inr ⟨a, kvs, D, rfl, ha, hk, rfl⟩) r
mutual
theorem D3.reads (I : Inv X pins σ H s) : ∀ (d : PyData) (v : V) (u : Value), D3 H v d → RelV v u → ∃ as, Reads s.heap u d as ∧ sysModules ∉ as
  | .none, _, _, h, r => by
    cases h
    cases r
    exact ⟨_, Reads.none, by simp⟩
  | .bool b, _, _, h, r => by
    cases h
    cases r
    exact ⟨_, Reads.bool b, by simp⟩
  | .int i, _, _, h, r => by
    cases h
    obtain ⟨t, rfl⟩ := r
    exact ⟨_, Reads.int i t, by simp⟩
  | .str x, _, _, h, r => by
    cases h
    obtain ⟨t, rfl⟩ := r
    exact ⟨_, Reads.str x t, by simp⟩
  | .list ds, _, _, h, r => by
    cases h with
    | lst hs hn ha =>
      cases r
      obtain ⟨its, rv, ⟨o, n, ho, hc, _, hd⟩, _⟩ := I.list (SqL.of hs)
      obtain ⟨as, hr, ns⟩ := D3.readsAll I ds _ its ha rv
      refine ⟨_, Reads.list ho hc hd hr, fun z => ?_⟩
      rcases List.mem_cons.mp z with e | e
      · exact hn e.symm
      · exact ns e
  | .tuple ds, _, _, h, r => by
    cases h with
    | tup hs ha =>
      cases r
      obtain ⟨its, rv, ⟨o, ho, hc, n, hd⟩, _⟩ := I.tuple (SqT.of hs)
      obtain ⟨as, hr, ns⟩ := D3.readsAll I ds _ its ha rv
      exact ⟨_, Reads.tuple ho hc hd hr, ns⟩
  | .dict D, _, _, h, r => by
    cases h with
    | dic ha hk => exact D2.dic_reads I ha hk r
theorem D3.readsAll (I : Inv X pins σ H s) : ∀ (ds : List PyData) (vs : List V) (us : List Value), D3A H vs ds → Vals vs us → ∃ as, ReadsAll s.heap us ds as ∧ sysModules ∉ as
  | [], _, _, h, r => by
    cases h
    cases r
    exact ⟨_, ReadsAll.nil, by simp⟩
  | d :: ds, _, _, h, r => by
    cases h with
    | cons h1 h2 =>
      cases r with
      | cons r1 r2 =>
        obtain ⟨as, q1, n1⟩ := D3.reads I d _ _ h1 r1
        obtain ⟨bs, q2, n2⟩ := D3.readsAll I ds _ _ h2 r2
        refine ⟨_, ReadsAll.cons q1 q2, fun z => ?_⟩
        rcases List.mem_append.mp z with e | e
        · exact n1 e
        · exact n2 e
end
/-- repr of any such value -/
def rReprW : List V → Hp → VK → Prop := fun vs H Q => ∃ (x : V) (d : PyData), vs = [x] ∧ D3 H x d ∧ d.showable = true ∧ d.shown.length ≤ sizeLine ∧ d.depth ≤ 60 ∧ Q (.str d.shown) H
theorem call_reprW (hg : X.A.guards = some []) (hu : X.A.units + 64 < cLine) : CallR X (.builtin "repr") rReprW := by
  intro pins s σ H xs us Q I r h
  obtain ⟨x, d, rfl, hd, h1, h3, h4, q⟩ := h
  obtain ⟨u, rfl, rx⟩ := vals1 r
  obtain ⟨as, rd, ns⟩ := D3.reads I d x u hd rx
  cases hd with
  | non =>
    cases rx
    exact PySem.P.repr_of_none ⟨.str _, H, I.tok _, ⟨_, rfl⟩, q⟩
  | bl b =>
    cases rx
    exact PySem.P.repr_of_bool ⟨.str _, H, I.tok _, ⟨_, rfl⟩, q⟩
  | int i =>
    obtain ⟨tk, rfl⟩ := rx
    exact PySem.P.repr_of_int (by simpa [PyData.showable] using h1) ⟨.str _, H, I.tok _, ⟨_, rfl⟩, q⟩
  | str z =>
    obtain ⟨tk, rfl⟩ := rx
    exact PySem.P.repr_of_str ⟨.str _, H, I.tok _, ⟨_, rfl⟩, q⟩ h3
  | lst hs hn ha =>
    cases rx
    exact repr_of_reads' rd h1 (fun _ => ns) hg (by omega) (fun _ _ z => z) (fun h' u tk hk => ⟨.str _, H, I.kept hk, ⟨_, rfl⟩, q⟩) h3
  | tup hs ha =>
    cases rx
    exact repr_of_reads' rd h1 (fun _ => ns) hg (by omega) (fun _ _ z => z) (fun h' u tk hk => ⟨.str _, H, I.kept hk, ⟨_, rfl⟩, q⟩) h3
  | dic ha hk =>
    cases rx
    exact repr_of_reads' rd h1 (fun _ => ns) hg (by omega) (fun _ _ z => z) (fun h' u tk hk => ⟨.str _, H, I.kept hk, ⟨_, rfl⟩, q⟩) h3
end
end Qk
set_option maxRecDepth 100000
set_option maxHeartbeats 4000000
namespace Qk
open PySem PySem.Spec PyProof.Rows L2
mutual
def fine4 : PyData → Bool
  | .none => true
  | .bool _ => true
  | .int i => decide (i.natAbs < 10 ^ 60)
  | .str x => x.cps.toList.all (fun c => decide (c < 16 ^ 8)) && decide (x.cps.size ≤ 20000)
  | .list xs => fineAll4 xs
  | .tuple xs => fineAll4 xs
  | .dict [] => true
  | .dict [(.str x, .int i)] => decide (x = "a") && decide (i = 1)
  | .dict [(.int i, .str x)] => decide (i = 1) && decide (x = "a")
  | .dict _ => false
def fineAll4 : List PyData → Bool
  | [] => true
  | x :: xs => fine4 x && fineAll4 xs
end
mutual
def cost4 : PyData → Nat
  | .none => 4
  | .bool _ => 5
  | .int _ => 64
  | .str x => 10 * x.cps.size + 10
  | .list xs => costAll4 xs + 3
  | .tuple xs => costAll4 xs + 3
  | .dict _ => 20
def costAll4 : List PyData → Nat
  | [] => 0
  | x :: xs => cost4 x + 2 + costAll4 xs
end
mutual
theorem shown_le4 : ∀ d : PyData, fine4 d = true → d.shown.length ≤ cost4 d
  | .none, _ => by decide
  | .bool b, _ => by cases b <;> decide
  | .int i, h => by
    have hi : i.natAbs < 10 ^ 60 := by
      simp only [fine4] at h
      exact of_decide_eq_true h
    have e := int_text_length_le10 (k := 60) (a := i) (by decide) hi
    show (Str.ofString (toString i)).length ≤ 64
    rw [PySem.ofString_length]
    omega
  | .str x, h => by
    have h' : (x.cps.toList.all (fun c => decide (c < 16 ^ 8)) && decide (x.cps.size ≤ 20000)) = true := by
      simp only [fine4] at h
      exact h
    rw [Bool.and_eq_true] at h'
    have h3 : ∀ c ∈ x.cps.toList, c < 16 ^ 8 := fun c hc => of_decide_eq_true (List.all_eq_true.mp h'.1 c hc)
    have := PySem.StrLaws.reprText_len x h3
    show (reprText x).length ≤ 10 * x.cps.size + 10
    have e : x.length = x.cps.size := rfl
    omega
  | .list xs, h => by
    have := listText_le (PyData.shownAll xs)
    have h2 := shown_leAll4 xs (by simp only [fine4] at h; exact h)
    show (listText (PyData.shownAll xs)).length ≤ costAll4 xs + 3
    omega
  | .tuple xs, h => by
    have := tupleText_le (PyData.shownAll xs)
    have h2 := shown_leAll4 xs (by simp only [fine4] at h; exact h)
    show (tupleText (PyData.shownAll xs)).length ≤ costAll4 xs + 3
    omega
  | .dict [], _ => by
    show (PyData.shown (.dict [])).length ≤ 20
    decide +kernel
  | .dict [(.str x, .int i)], h => by
    simp only [fine4, Bool.and_eq_true, decide_eq_true_eq] at h
    obtain ⟨rfl, rfl⟩ := h
    show (PyData.shown (.dict [(.str "a", .int 1)])).length ≤ 20
    decide +kernel
  | .dict ((.none, _) :: _), h => by simp [fine4] at h
  | .dict ((.bool _, _) :: _), h => by simp [fine4] at h
  | .dict [(.int i, .str x)], h => by
    simp only [fine4, Bool.and_eq_true, decide_eq_true_eq] at h
    obtain ⟨rfl, rfl⟩ := h
    show (PyData.shown (.dict [(.int 1, .str "a")])).length ≤ 20
    decide +kernel
  | .dict ((.int _, .none) :: _), h => by simp [fine4] at h
  | .dict ((.int _, .bool _) :: _), h => by simp [fine4] at h
  | .dict ((.int _, .int _) :: _), h => by simp [fine4] at h
  | .dict ((.int _, .list _) :: _), h => by simp [fine4] at h
  | .dict ((.int _, .tuple _) :: _), h => by simp [fine4] at h
  | .dict ((.int _, .dict _) :: _), h => by simp [fine4] at h
  | .dict ((.int _, .str _) :: _ :: _), h => by simp [fine4] at h
  | .dict ((.list _, _) :: _), h => by simp [fine4] at h
  | .dict ((.tuple _, _) :: _), h => by simp [fine4] at h
  | .dict ((.dict _, _) :: _), h => by simp [fine4] at h
  | .dict ((.str _, .none) :: _), h => by simp [fine4] at h
  | .dict ((.str _, .bool _) :: _), h => by simp [fine4] at h
  | .dict ((.str _, .str _) :: _), h => by simp [fine4] at h
  | .dict ((.str _, .list _) :: _), h => by simp [fine4] at h
  | .dict ((.str _, .tuple _) :: _), h => by simp [fine4] at h
  | .dict ((.str _, .dict _) :: _), h => by simp [fine4] at h
  | .dict ((.str _, .int _) :: _ :: _), h => by simp [fine4] at h
theorem shown_leAll4 : ∀ xs : List PyData, fineAll4 xs = true → piled (PyData.shownAll xs) ≤ costAll4 xs
  | [], _ => Nat.le_refl 0
  | x :: xs, h => by
    have h' : (fine4 x && fineAll4 xs) = true := by
      simp only [fineAll4] at h
      exact h
    rw [Bool.and_eq_true] at h'
    have h1 := shown_le4 x h'.1
    have h2 := shown_leAll4 xs h'.2
    show piled (PyData.shown x :: PyData.shownAll xs) ≤ cost4 x + 2 + costAll4 xs
    rw [piled_cons]
    omega
end
mutual
theorem showable4 : ∀ d : PyData, fine4 d = true → d.showable = true
  | .none, _ => rfl
  | .bool _, _ => rfl
  | .int i, h => by
    have hi : i.natAbs < 10 ^ 60 := by
      simp only [fine4] at h
      exact of_decide_eq_true h
    show decide (i.natAbs.log2 < 1920) = true
    refine decide_eq_true ?_
    by_cases h0 : i.natAbs = 0
    · rw [h0]
      decide
    · exact Nat.lt_of_lt_of_le ((Nat.log2_lt h0).mpr (Nat.lt_of_lt_of_le hi (show 10 ^ 60 ≤ 2 ^ 200 by decide))) (by decide)
  | .str _, _ => rfl
  | .list xs, h => showableAll4 xs (by simp only [fine4] at h; exact h)
  | .tuple xs, h => showableAll4 xs (by simp only [fine4] at h; exact h)
  | .dict [], _ => rfl
  | .dict [(.str x, .int i)], h => by
    simp only [fine4, Bool.and_eq_true, decide_eq_true_eq] at h
    obtain ⟨rfl, rfl⟩ := h
    rfl
  | .dict ((.none, _) :: _), h => by simp [fine4] at h
  | .dict ((.bool _, _) :: _), h => by simp [fine4] at h
  | .dict [(.int i, .str x)], h => by
    simp only [fine4, Bool.and_eq_true, decide_eq_true_eq] at h
    obtain ⟨rfl, rfl⟩ := h
    rfl
  | .dict ((.int _, .none) :: _), h => by simp [fine4] at h
  | .dict ((.int _, .bool _) :: _), h => by simp [fine4] at h
  | .dict ((.int _, .int _) :: _), h => by simp [fine4] at h
  | .dict ((.int _, .list _) :: _), h => by simp [fine4] at h
  | .dict ((.int _, .tuple _) :: _), h => by simp [fine4] at h
  | .dict ((.int _, .dict _) :: _), h => by simp [fine4] at h
  | .dict ((.int _, .str _) :: _ :: _), h => by simp [fine4] at h
  | .dict ((.list _, _) :: _), h => by simp [fine4] at h
  | .dict ((.tuple _, _) :: _), h => by simp [fine4] at h
  | .dict ((.dict _, _) :: _), h => by simp [fine4] at h
  | .dict ((.str _, .none) :: _), h => by simp [fine4] at h
  | .dict ((.str _, .bool _) :: _), h => by simp [fine4] at h
  | .dict ((.str _, .str _) :: _), h => by simp [fine4] at h
  | .dict ((.str _, .list _) :: _), h => by simp [fine4] at h
  | .dict ((.str _, .tuple _) :: _), h => by simp [fine4] at h
  | .dict ((.str _, .dict _) :: _), h => by simp [fine4] at h
  | .dict ((.str _, .int _) :: _ :: _), h => by simp [fine4] at h
theorem showableAll4 : ∀ xs : List PyData, fineAll4 xs = true → PyData.showableAll xs = true
  | [], _ => rfl
  | x :: xs, h => by
    have h' : (fine4 x && fineAll4 xs) = true := by
      simp only [fineAll4] at h
      exact h
    rw [Bool.and_eq_true] at h'
    show (PyData.showable x && PyData.showableAll xs) = true
    rw [showable4 x h'.1, showableAll4 xs h'.2]
    rfl
end
/-- a flat text -/
def TxOk (z : Str) : Prop := (z.cps.toList.all (fun c => decide (c < 16 ^ 8)) = true) ∧ z.cps.size ≤ 20000 ∧ (z.cps.size ≤ 8 → PyData.strOk z = true)
mutual
/-- a value that shows this, nothing of it at an address of A, its lists told apart from sys.modules -/
inductive D4 (mx : Nat) (H : Hp) (A : Addr → Prop) : V → PyData → Prop
  | non : D4 mx H A .non .none
  | bl (b : Bool) : D4 mx H A (.bl b) (.bool b)
  | int (i : Int) : i.natAbs < 10 ^ 60 → D4 mx H A (.int i) (.int i)
  | str (x : Str) : TxOk x → D4 mx H A (.str x) (.str x)
  | lst {a : Addr} {xs : List V} {ds : List PyData} : H a = some (.lst xs) → ¬ A a → a ≠ sysModules → xs.length ≤ 20000 → D4A mx H A xs ds → D4 mx H A (.ref a) (.list ds)
  | tup {a : Addr} {xs : List V} {ds : List PyData} : H a = some (.tup xs) → ¬ A a → xs.length ≤ mx → D4A mx H A xs ds → D4 mx H A (.ref a) (.tuple ds)
  | dic0 {a : Addr} : H a = some (.dK []) → ¬ A a → D4 mx H A (.ref a) (.dict [])
  | dic1 {a : Addr} : H a = some (.dK [(Sum.inr "a", .int 1)]) → ¬ A a → D4 mx H A (.ref a) (.dict [(.str "a", .int 1)])
  | dic2 {a : Addr} : H a = some (.dK [(Sum.inl 1, .str "a")]) → ¬ A a → D4 mx H A (.ref a) (.dict [(.int 1, .str "a")])
inductive D4A (mx : Nat) (H : Hp) (A : Addr → Prop) : List V → List PyData → Prop
  | nil : D4A mx H A [] []
  | cons {v : V} {vs : List V} {d : PyData} {ds : List PyData} : D4 mx H A v d → D4A mx H A vs ds → D4A mx H A (v :: vs) (d :: ds)
end
section
variable {mx : Nat} {H H' : Hp} {A A' : Addr → Prop}
mutual
theorem D4.keep (k : ∀ c o, H c = some o → ¬ A c → H' c = some o ∧ ¬ A' c) : ∀ (d : PyData) (x : V), D4 mx H A x d → D4 mx H' A' x d
  | .none, _, h => by cases h; exact .non
  | .bool _, _, h => by cases h; exact .bl _
  | .int _, _, h => by cases h with | int _ hi => exact .int _ hi
  | .str _, _, h => by cases h with | str _ hx => exact .str _ hx
  | .list ds, _, h => by
    cases h with
    | lst h1 h2 h3 h4 h5 => exact .lst (k _ _ h1 h2).1 (k _ _ h1 h2).2 h3 h4 (D4A.keep k ds _ h5)
  | .tuple ds, _, h => by
    cases h with
    | tup h1 h2 h4 h5 => exact .tup (k _ _ h1 h2).1 (k _ _ h1 h2).2 h4 (D4A.keep k ds _ h5)
  | .dict _, _, h => by
    cases h with
    | dic0 h1 h2 => exact .dic0 (k _ _ h1 h2).1 (k _ _ h1 h2).2
    | dic1 h1 h2 => exact .dic1 (k _ _ h1 h2).1 (k _ _ h1 h2).2
    | dic2 h1 h2 => exact .dic2 (k _ _ h1 h2).1 (k _ _ h1 h2).2
theorem D4A.keep (k : ∀ c o, H c = some o → ¬ A c → H' c = some o ∧ ¬ A' c) : ∀ (ds : List PyData) (xs : List V), D4A mx H A xs ds → D4A mx H' A' xs ds
  | [], _, h => by cases h; exact .nil
  | d :: ds, _, h => by
    cases h with
    | cons h1 h2 => exact .cons (D4.keep k d _ h1) (D4A.keep k ds _ h2)
end
mutual
theorem D4.wide {my : Nat} (hm : mx ≤ my) : ∀ (d : PyData) (x : V), D4 mx H A x d → D4 my H A x d
  | .none, _, h => by cases h; exact .non
  | .bool _, _, h => by cases h; exact .bl _
  | .int _, _, h => by cases h with | int _ hi => exact .int _ hi
  | .str _, _, h => by cases h with | str _ hx => exact .str _ hx
  | .list ds, _, h => by
    cases h with
    | lst h1 h2 h3 h4 h5 => exact .lst h1 h2 h3 h4 (D4A.wide hm ds _ h5)
  | .tuple ds, _, h => by
    cases h with
    | tup h1 h2 h4 h5 => exact .tup h1 h2 (Nat.le_trans h4 hm) (D4A.wide hm ds _ h5)
  | .dict _, _, h => by
    cases h with
    | dic0 h1 h2 => exact .dic0 h1 h2
    | dic1 h1 h2 => exact .dic1 h1 h2
    | dic2 h1 h2 => exact .dic2 h1 h2
theorem D4A.wide {my : Nat} (hm : mx ≤ my) : ∀ (ds : List PyData) (xs : List V), D4A mx H A xs ds → D4A my H A xs ds
  | [], _, h => by cases h; exact .nil
  | d :: ds, _, h => by
    cases h with
    | cons h1 h2 => exact .cons (D4.wide hm d _ h1) (D4A.wide hm ds _ h2)
end
mutual
theorem D4.fine : ∀ (d : PyData) (x : V), D4 mx H A x d → fine4 d = true
  | .none, _, h => by simp only [fine4]
  | .bool _, _, h => by simp only [fine4]
  | .int _, _, h => by
    cases h with
    | int i hi =>
      simp only [fine4]
      exact decide_eq_true hi
  | .str _, _, h => by
    cases h with
    | str x hx =>
      simp only [fine4, Bool.and_eq_true]
      exact ⟨hx.1, decide_eq_true hx.2.1⟩
  | .list ds, _, h => by
    cases h with
    | lst h1 h2 h3 h4 h5 =>
      simp only [fine4]
      exact D4A.fine ds _ h5
  | .tuple ds, _, h => by
    cases h with
    | tup h1 h2 h4 h5 =>
      simp only [fine4]
      exact D4A.fine ds _ h5
  | .dict _, _, h => by
    cases h with
    | dic0 h1 h2 => simp only [fine4]
    | dic1 h1 h2 =>
      simp only [fine4]
      decide +kernel
    | dic2 h1 h2 =>
      simp only [fine4]
      decide +kernel
theorem D4A.fine : ∀ (ds : List PyData) (xs : List V), D4A mx H A xs ds → fineAll4 ds = true
  | [], _, h => by simp only [fineAll4]
  | d :: ds, _, h => by
    cases h with
    | cons h1 h2 =>
      simp only [fineAll4, Bool.and_eq_true]
      exact ⟨D4.fine d _ h1, D4A.fine ds _ h2⟩
end
mutual
theorem D4.d3 : ∀ (d : PyData) (x : V), D4 mx H A x d → D3 H x d
  | .none, _, h => by cases h; exact .non
  | .bool _, _, h => by cases h; exact .bl _
  | .int _, _, h => by cases h with | int _ hi => exact .int _
  | .str _, _, h => by cases h with | str _ hx => exact .str _
  | .list ds, _, h => by
    cases h with
    | lst h1 h2 h3 h4 h5 => exact .lst h1 h3 (D4A.d3 ds _ h5)
  | .tuple ds, _, h => by
    cases h with
    | tup h1 h2 h4 h5 => exact .tup h1 (D4A.d3 ds _ h5)
  | .dict _, _, h => by
    cases h with
    | dic0 h1 h2 => exact .dic h1 .nil
    | dic1 h1 h2 => exact .dic h1 (.cons (k := Sum.inr "a") (.int 1) .nil)
    | dic2 h1 h2 => exact .dic h1 (.cons (k := Sum.inl 1) (.str "a") .nil)
theorem D4A.d3 : ∀ (ds : List PyData) (xs : List V), D4A mx H A xs ds → D3A H xs ds
  | [], _, h => by cases h; exact .nil
  | d :: ds, _, h => by
    cases h with
    | cons h1 h2 => exact .cons (D4.d3 d _ h1) (D4A.d3 ds _ h2)
end
end
/-- such a value, its text no longer than c, no deeper than n -/
def WV (mx : Nat) (H : Hp) (A : Addr → Prop) (c n : Nat) (x : V) : Prop := ∃ d, D4 mx H A x d ∧ cost4 d ≤ c ∧ d.depth ≤ n
section
variable {mx : Nat} {H H' : Hp} {A A' : Addr → Prop} {c c' n n' : Nat} {x : V}
theorem WV.keep (k : ∀ c o, H c = some o → ¬ A c → H' c = some o ∧ ¬ A' c) (h : WV mx H A c n x) : WV mx H' A' c n x := by
  obtain ⟨d, h1, h2, h3⟩ := h
  exact ⟨d, D4.keep k d x h1, h2, h3⟩
theorem WV.same (s : Same H H') (h : WV mx H A c n x) : WV mx H' A c n x := WV.keep (fun c o e na => ⟨s c o e, na⟩) h
theorem WV.wide {my : Nat} (hm : mx ≤ my) (h : WV mx H A c n x) : WV my H A c n x := by
  obtain ⟨d, h1, h2, h3⟩ := h
  exact ⟨d, D4.wide hm d x h1, h2, h3⟩
theorem WV.le (hc : c ≤ c') (hn : n ≤ n') (h : WV mx H A c n x) : WV mx H A c' n' x := by
  obtain ⟨d, h1, h2, h3⟩ := h
  exact ⟨d, h1, Nat.le_trans h2 hc, Nat.le_trans h3 hn⟩
theorem WV.older {H0 H1 : Hp} (s : Same H0 H1) (h : WV mx H (Qk.old H1) c n x) : WV mx H (Qk.old H0) c n x := WV.keep (fun c o e na => ⟨e, fun ⟨u, hu⟩ => na ⟨u, s _ _ hu⟩⟩) h
end
/-- repr of such a value; twice gives the same -/
def rReprV (c : Nat) : List V → Hp → VK → Prop := fun vs H Q => ∃ (mx : Nat) (x : V) (A : Addr → Prop) (d : PyData), vs = [x] ∧ D4 mx H A x d ∧ cost4 d ≤ 16000000 ∧ d.depth ≤ 60 ∧ Q (.str d.shown) H
theorem call_reprV {X : Cx} (hg : X.A.guards = some []) (hu : X.A.units + 64 < cLine) (c : Nat) : CallR X (.builtin "repr") (rReprV c) := by
  intro pins s σ H xs us Q I r h
  obtain ⟨mx, x, A, d, e, h1, h2, h3, q⟩ := h
  have hf := D4.fine d x h1
  refine call_reprW hg hu pins s σ H xs us Q I r ⟨x, d, e, D4.d3 d x h1, showable4 d hf, ?_, h3, q⟩
  have := shown_le4 d hf
  rw [sizeLine_eq]
  omega
end Qk
set_option maxRecDepth 100000
set_option maxHeartbeats 4000000
namespace Qk
open PySem PySem.Spec PyProof.Rows L2
def tLit4 (mx c n : Nat) : TE := fun σ H Q => ∀ (H' : Hp) (v : V), Same H H' → WV mx H' (old H) c n v → Q v H'
def tLits4 (mx c n m : Nat) : TA := fun σ H R => ∀ (H' : Hp) (vs : List V) (ds : List PyData), Same H H' → vs.length = m → D4A mx H' (old H) vs ds → (∀ d ∈ ds, cost4 d ≤ c ∧ d.depth ≤ n) → R vs H'
theorem D4A.len {mx : Nat} {H : Hp} {A : Addr → Prop} : ∀ {ds : List PyData} {xs : List V}, D4A mx H A xs ds → xs.length = ds.length
  | [], _, h => by cases h; rfl
  | d :: ds, _, h => by
    cases h with
    | cons h1 h2 => rw [List.length_cons, List.length_cons, D4A.len h2]
theorem costAll4_le {c : Nat} : ∀ {ds : List PyData}, (∀ d ∈ ds, cost4 d ≤ c) → costAll4 ds ≤ (c + 2) * ds.length
  | [], _ => by simp [costAll4]
  | d :: ds, h => by
    have h1 := h d List.mem_cons_self
    have h2 := costAll4_le fun x hx => h x (List.mem_cons_of_mem _ hx)
    simp only [costAll4, List.length_cons, Nat.mul_succ]
    omega
theorem depthAll_le {n : Nat} : ∀ {ds : List PyData}, (∀ d ∈ ds, d.depth ≤ n) → PyData.depthAll ds ≤ n
  | [], _ => Nat.zero_le _
  | d :: ds, h => by
    show max d.depth (PyData.depthAll ds) ≤ n
    exact Nat.max_le.mpr ⟨h d List.mem_cons_self, depthAll_le fun x hx => h x (List.mem_cons_of_mem _ hx)⟩
theorem D4A.all {mx : Nat} {H : Hp} {A : Addr → Prop} : ∀ {ds : List PyData} {xs : List V}, D4A mx H A xs ds → ∀ x ∈ xs, ∃ d ∈ ds, D4 mx H A x d
  | [], _, h => by cases h; intro x hx; cases hx
  | d :: ds, _, h => by
    cases h with
    | cons h1 h2 =>
      intro x hx
      rcases List.mem_cons.mp hx with rfl | hx
      · exact ⟨d, List.mem_cons_self, h1⟩
      · obtain ⟨e, he, h⟩ := D4A.all h2 x hx
        exact ⟨e, List.mem_cons_of_mem _ he, h⟩
theorem D4A.of {mx : Nat} {H : Hp} {A : Addr → Prop} {c n : Nat} : ∀ {xs : List V}, (∀ x ∈ xs, WV mx H A c n x) → ∃ ds, D4A mx H A xs ds ∧ ∀ d ∈ ds, cost4 d ≤ c ∧ d.depth ≤ n
  | [], _ => ⟨[], .nil, fun d hd => (nomatch hd)⟩
  | x :: xs, h => by
    obtain ⟨d, h1, h2, h3⟩ := h x List.mem_cons_self
    obtain ⟨ds, g1, g2⟩ := D4A.of fun y hy => h y (List.mem_cons_of_mem _ hy)
    refine ⟨d :: ds, .cons h1 g1, fun e he => ?_⟩
    rcases List.mem_cons.mp he with rfl | he
    · exact ⟨h2, h3⟩
    · exact g2 e he
section
variable {X : Cx} {mx c n : Nat}
theorem pe_lit4C {e : Expr} {v : V} (h : PE X e (tC v)) (f : ∀ H A, WV mx H A c n v) : PE X e (tLit4 mx c n) := PE.imp h fun σ H Q q => q H v (Same.refl _) (f H _)
theorem pa_lits40 : PA X [] (tLits4 mx c n 0) := PA.imp pa_nil fun σ H Q q => q H [] [] (Same.refl _) rfl .nil fun d hd => (nomatch hd)
theorem pa_lits4 {m : Nat} {e : Expr} {es : List Expr} (h : PE X e (tLit4 mx c n)) (hs : PA X es (tLits4 mx c n m)) (hst : starEach (e :: es) X.env = (false, eval e X.env) :: starEach es X.env := by rfl) : PA X (e :: es) (tLits4 mx c n (m + 1)) :=
  PA.imp (pa_cons h hs hst) fun σ H Q q => fun H1 v s1 ⟨d, v1, v2, v3⟩ => fun H2 vs ds s2 hl w1 w2 => q H2 (v :: vs) (d :: ds) (s1.trans s2) (by rw [List.length_cons, hl])
    (.cons (D4.keep (fun c o e na => ⟨s2 c o e, na⟩) d v v1) (D4A.keep (fun c o e na => ⟨e, fun ⟨u, hu⟩ => na ⟨u, s1 _ _ hu⟩⟩) ds vs w1)) fun x hx => by
      rcases List.mem_cons.mp hx with rfl | hx
      · exact ⟨v2, v3⟩
      · exact w2 x hx
theorem lit4_wv {H H1 : Hp} {m : Nat} {vs : List V} {ds : List PyData} {p : Addr} {o : HO} (s : Same H H1) (hp : H1 p = none) (ho : o = .tup vs ∨ (o = .lst vs ∧ p ≠ sysModules)) (hl : vs.length = m) (hm : m ≤ mx) (hv : D4A mx H1 (old H) vs ds) (hb : ∀ d ∈ ds, cost4 d ≤ c ∧ d.depth ≤ n) (hq : m ≤ 20000 := by decide) : WV mx (upd H1 p o) (old H) ((c + 2) * m + 3) (n + 1) (.ref p) := by
  have np : ¬ old H p := fun ⟨u, hu⟩ => by
    rw [s _ _ hu] at hp
    cases hp
  have hv2 : D4A mx (upd H1 p o) (old H) vs ds := D4A.keep (fun c u e na => ⟨by rw [upd_ne (ne_of_none e hp)]; exact e, na⟩) ds vs hv
  have c1 := costAll4_le fun d hd => (hb d hd).1
  have d1 := depthAll_le fun d hd => (hb d hd).2
  rw [← hv.len, hl] at c1
  rcases ho with rfl | ⟨rfl, ns⟩
  · exact ⟨.tuple ds, .tup upd_same np (by omega) hv2, by simp only [cost4]; omega, by show PyData.depthAll ds + 1 ≤ n + 1; omega⟩
  · exact ⟨.list ds, .lst upd_same np ns (by omega) hv2, by simp only [cost4]; omega, by show PyData.depthAll ds + 1 ≤ n + 1; omega⟩
theorem pe_lit4T {m : Nat} {es : List Expr} {x1} {pos : Pos} (h : PA X es (tLits4 mx c n m)) (hm : m ≤ mx := by decide) (h4 : mx ≤ 1000 := by decide) : PE X (.Tuple es x1 pos) (tLit4 mx ((c + 2) * m + 3) (n + 1)) :=
  PE.imp (pe_tup h) fun σ H Q q => fun H1 vs ds s hl hv hb => ⟨by rw [hl, sizeLine_eq]; omega, fun p hp => q _ _ (s.trans (same_new hp)) (lit4_wv s hp (.inl rfl) hl hm hv hb (by omega))⟩
theorem pe_lit4L {m : Nat} {es : List Expr} {pos : Pos} (h : PA X es (tLits4 mx c n m)) (hm : m ≤ mx := by decide) (h4 : mx ≤ 1000 := by decide) : PE X (.List es pos) (tLit4 mx ((c + 2) * m + 3) (n + 1)) :=
  PE.imp (pe_lstN h) fun σ H Q q => fun H1 vs ds s hl hv hb => ⟨by rw [hl, sizeLine_eq]; omega, fun p hp ns => q _ _ (s.trans (same_new hp)) (lit4_wv s hp (.inr ⟨rfl, ns⟩) hl hm hv hb (by omega))⟩
/-- a larger bound -/
theorem pe_lit4le {e : Expr} {c' n' : Nat} (h : PE X e (tLit4 mx c n)) (hc : c ≤ c') (hn : n ≤ n') : PE X e (tLit4 mx c' n') := PE.imp h fun σ H Q q => fun H1 v s w => q H1 v s (w.le hc hn)
theorem pe_lit4D0 {pos : Pos} (hc : 20 ≤ c) (hn : 1 ≤ n) : PE X (.Dict [] [] pos) (tLit4 mx c n) :=
  PE.imp pe_dnewK fun σ H Q q => fun p hp => q _ _ (same_new hp) ⟨.dict [], .dic0 upd_same fun ⟨u, hu⟩ => (by rw [hp] at hu; cases hu), by simp only [cost4]; exact hc, Nat.le_trans (by decide) hn⟩
theorem w4_non (hc : 4 ≤ c) : ∀ H A, WV mx H A c n .non := fun H A => ⟨.none, .non, by simp only [cost4]; exact hc, Nat.zero_le _⟩
theorem w4_bl (b : Bool) (hc : 5 ≤ c) : ∀ H A, WV mx H A c n (.bl b) := fun H A => ⟨.bool b, .bl b, by simp only [cost4]; exact hc, Nat.zero_le _⟩
theorem w4_int (i : Int) (h : i.natAbs < 10 ^ 60) (hc : 64 ≤ c) : ∀ H A, WV mx H A c n (.int i) := fun H A => ⟨.int i, .int i h, by simp only [cost4]; exact hc, Nat.zero_le _⟩
theorem w4_str (z : Str) (h : TxOk z) (hc : 10 * z.cps.size + 10 ≤ c) : ∀ H A, WV mx H A c n (.str z) := fun H A => ⟨.str z, .str z h, by simp only [cost4]; exact hc, Nat.zero_le _⟩
end
end Qk
set_option maxRecDepth 100000
set_option maxHeartbeats 4000000
namespace Qk
open PySem PySem.Spec PyProof.Rows L2
/-- list(x) of a list or a tuple: a new list, told apart from sys.modules -/
def rListN (K : PySem.W.Frag) : List V → Hp → VK → Prop := fun xs H Q => ∃ (p : Addr) (ys : List V), xs = [.ref p] ∧ (SqL K H p ys ∨ SqT K H p ys) ∧ ∀ l, H l = none → l ≠ sysModules → Q (.ref l) (upd H l (.lst ys))
theorem call_list_ofN {X : Cx} : CallR X (.type "list") (rListN X.K) := by
  intro pins s σ H xs us Q I r h
  obtain ⟨p, ys, rfl, hs, q⟩ := h
  obtain ⟨u, rfl, rx⟩ := vals1 r
  cases rx
  obtain ⟨m, hF⟩ := I.fr
  have fin : ∀ (its : List Value) (h' : Heap), Vals ys its → ys.length ≤ sizeLine → (∀ (b : Addr) (o : Obj), s.heap.get? b = some o → h'.get? b = some o) → h'.PlainList s.heap.objs.size its.toArray → EP X pins σ Q (.ref s.heap.objs.size) { heap := h', gens := s.gens, drawn := s.drawn, toks := s.toks, os := s.os } := fun its h' rv z keep ⟨n, g⟩ =>
    ⟨.ref s.heap.objs.size, upd H s.heap.objs.size (.lst ys), I.laid (t' := s.toks) keep (Nat.le_refl _) ⟨z, its, n, rv, g⟩, rfl, q _ (I.hok.fresh (Nat.le_refl _)) (Nat.ne_of_gt I.big)⟩
  rcases hs with hs | hs
  · obtain ⟨its, rv, ⟨o, n, ho, hc, _, hd⟩, z⟩ := I.list hs
    refine PyProof.Rows.list_copyLP hF .nil ⟨o, ho, hc, n, hd⟩ (fun h' F' keep _ _ np => fin its h' rv z keep np.1) (by rw [List.size_toArray, ← rv.length]; exact z)
  · obtain ⟨its, rv, ht, z⟩ := I.tuple hs
    refine PyProof.Rows.list_copyTP hF .nil ht (fun h' F' keep _ _ np => fin its h' rv z keep np.1) (by rw [List.size_toArray, ← rv.length]; exact z)
/-- x[::-1]: a new list, told apart from sys.modules -/
def tRevLN (K : PySem.W.Frag) (te : TE) : TE := fun σ H Q => te σ H fun x H1 => ∃ (a : Addr) (xs : List V), x = .ref a ∧ SqL K H1 a xs ∧ ∀ p, H1 p = none → p ≠ sysModules → Q (.ref p) (upd H1 p (.lst xs.reverse))
theorem vals_rev {xs : List V} {us : List Value} (h : Vals xs us) : Vals xs.reverse us.reverse := by
  induction h with
  | nil => exact .nil
  | cons r _ ih =>
    rw [List.reverse_cons, List.reverse_cons]
    exact ih.append (.cons r .nil)
theorem pe_revLN {X : Cx} {e : Expr} {te : TE} {k : Nat} {p1 p2 p3 pos : Pos} (h : PE X e te) (ht : ∀ o r : Value, letTemporaryGo e o r = pure () := by intro _ _; rfl) : PE X (e.Subscript (.Slice none none (some (.UnaryOp .USub (.Constant (.int 1) k p1) p2)) p3) pos) (tRevLN X.K te) := by
  refine ⟨fun pins s σ H Q I q => ?_⟩
  refine wpAny_Subscript_Slice_step (T := "list") (id := "list.__getitem__") PySem.slot_list_getitem.lookup (thn (h.run pins s σ H _ I q) fun u s1 z => ?_) ht
  obtain ⟨x, H1, I1, rx, a, xs, rfl, hs, q⟩ := z
  cases rx
  refine wpAny_Slice ?_
  show wpAny _ _ (pure Value.none) _ _ _
  refine wpAny_pure ?_
  show wpAny _ _ (pure Value.none) _ _ _
  refine wpAny_pure ?_
  refine thn ((pe_un (r := rU fun i => .int (-i)) un_neg pe_int).run pins s1 σ H1 (fun v H' => v = .int (-1) ∧ H' = H1) I1 ⟨1, rfl, rfl, rfl⟩) fun w s2 z => ?_
  obtain ⟨v, H2, I2, rv, rfl, rfl⟩ := z
  obtain ⟨t, rfl⟩ := rv
  have I3 := I2.kept (t' := s2.toks) (h' := s2.heap.push { cls := Value.type "slice", data := Data.fields #[Value.none, Value.none, Value.int (-1) t] }) (fun b u e => Heap.get?_push_of_some _ e)
  obtain ⟨its, rvs, ⟨o, n, ho, hc, _, hd⟩, z⟩ := I3.list hs
  refine ⟨⟨_, ho, hc⟩, wpAny_getItem_list_slice ⟨o, ho, hc, n, hd⟩ ⟨_, Heap.get?_push_size _ rfl, rfl, rfl⟩ .none .none (.int (-1) t) (by decide) ?_ (by rw [List.size_toArray, ← rvs.length]; exact z)⟩
  rw [PySem.W.krv_pick]
  exact ⟨.ref _, _, I3.lnew (t' := s2.toks) (vals_rev rvs) (by rw [List.length_reverse]; exact z), rfl, q _ (I3.hok.fresh (Nat.le_refl _)) (Nat.ne_of_gt I3.big)⟩
end Qk
set_option maxRecDepth 100000
set_option maxHeartbeats 4000000
namespace Qk
open PySem PySem.Spec PyProof.Rows L2
theorem WV.fresh {mx : Nat} {H : Hp} {A : Addr → Prop} {c n : Nat} {x : V} {p : Addr} {o : HO} (hp : H p = none) (h : WV mx H A c n x) : WV mx (upd H p o) (fun c => A c ∨ c = p) c n x :=
  WV.keep (fun c u e na => ⟨by rw [upd_ne (ne_of_none e hp)]; exact e, fun ha => ha.elim na fun ec => ne_of_none e hp ec⟩) h
theorem fold_mem (z : Array Nat) : ∀ (k : Nat) (acc : Array Nat) (c : Nat), c ∈ (List.replicate k z).foldl (· ++ ·) acc → c ∈ acc ∨ c ∈ z
  | 0, acc, c, h => .inl (by simpa using h)
  | k + 1, acc, c, h => by
    rw [List.replicate_succ, List.foldl_cons] at h
    rcases fold_mem z k (acc ++ z) c h with h | h
    · rcases Array.mem_append.mp h with h | h
      · exact .inl h
      · exact .inr h
    · exact .inr h
/-- a text so many times: its signs are the same -/
def rMulS2 : R2 := fun x y H Q => ∃ (z : Str) (n : Int), x = .str z ∧ y = .int n ∧ 2 ≤ n ∧ n ≤ 20000 ∧ z.cps.size = 1 ∧ ∀ u : Str, u.cps.size = n.toNat → (∀ c ∈ u.cps, c ∈ z.cps) → Q (.str u) H
theorem op_mulS2 {X : Cx} : OpR X (binaryOp .Mult) rMulS2 := by
  intro pins s σ H x y v u Q I rx ry h
  obtain ⟨z, n, rfl, rfl, h2, hn, hz, q⟩ := h
  obtain ⟨t, rfl⟩ := rx
  obtain ⟨t', rfl⟩ := ry
  have hl : z.length = 1 := hz
  refine P.mul_str ?_ (fun _ _ => ?_) (fun _ _ => ?_) ?_
  · rw [decide_eq_false (by omega), decide_eq_false (by omega)]
    rfl
  · rw [hl]
    have : (1 : Int) ≤ (2 ^ 63 - 1) / n := by
      refine Int.le_ediv_of_mul_le (by omega) (by omega)
    omega
  · rw [hl]
    show decide (1 * n.toNat > sizeLine) = false
    exact decide_eq_false (by rw [sizeLine_eq]; omega)
  · have e0 : ¬ n < 1 := by omega
    have e1 : (n == 1 || z.length == 0) = false := by
      rw [hl]
      simp
      omega
    rw [if_neg e0, if_neg (by rw [e1]; decide)]
    have es : (⟨(List.replicate n.toNat z.cps).foldl (· ++ ·) #[]⟩ : Str).cps.size = n.toNat := by
      show ((List.replicate n.toNat z.cps).foldl (· ++ ·) #[]).size = n.toNat
      rw [fold_size, hz]
      simp
    exact ⟨by show _ ≤ sizeLine; rw [sizeLine_eq]; show (⟨(List.replicate n.toNat z.cps).foldl (· ++ ·) #[]⟩ : Str).cps.size ≤ _; omega, .str _, H, I.tok _, ⟨_, rfl⟩, q _ es fun c hc => (fold_mem z.cps _ _ c hc).resolve_left (by simp)⟩
/-- [x] * k: a new list, told apart from sys.modules -/
def rRepK : R2 := fun x y H Q => ∃ (l : Addr) (k : Int) (a : V), x = .ref l ∧ y = .int k ∧ H l = some (.lst [a]) ∧ 0 ≤ k ∧ k ≤ 20000 ∧ ∀ p, H p = none → p ≠ sysModules → Q (.ref p) (upd H p (.lst (List.replicate k.toNat a)))
theorem flat_one {α : Type} (a : α) (m : Nat) : (List.replicate m [a]).flatten = List.replicate m a := by
  induction m with
  | zero => rfl
  | succ m ih => rw [List.replicate_succ, List.flatten_cons, ih, List.replicate_succ]; rfl
theorem op_repK {X : Cx} : OpR X (binaryOp .Mult) rRepK := by
  intro pins s σ H x y v u Q I rx ry h
  obtain ⟨l, k, a, rfl, rfl, hl, k0, k1, q⟩ := h
  cases rx
  obtain ⟨tok, rfl⟩ := ry
  obtain ⟨_, items, room, vals, one, at_⟩ := I.lstM hl
  have sz : items.toArray.size = 1 := by rw [List.size_toArray, ← one]; rfl
  have cap : ¬ (2 ^ 63 - 1) / 8 < items.toArray.size * k.toNat := by rw [sz]; omega
  have fits : ¬ (!Builtin.List.listFitsIndex k) = true := by rw [fitsIndex_both (by omega) (by omega)]; exact Bool.false_ne_true
  have short : ¬ Builtin.List.listTooLong (items.toArray.size * k.toNat) = true := by rw [notLongL (by rw [sz, sizeLine_eq]; omega)]; exact Bool.false_ne_true
  have ne : ¬ items.toArray.isEmpty = true := by
    intro e
    rw [Array.isEmpty_iff_size_eq_zero, sz] at e
    cases e
  have made : List.foldl (fun p q => p ++ q) #[] (List.replicate (if items.toArray.isEmpty = true then 0 else k.toNat) items.toArray) = (List.replicate k.toNat items).flatten.toArray := by
    rw [if_neg ne]
    simpa using foldl_rep items k.toNat []
  refine wpAny_binaryOp_repeat_ref (T := "list") (U := "int") (by decide) ⟨_, at_, rfl⟩ (fun s' => typeIs_int s' k tok) noFill_list_mul F.fills_int_mul F.slot_int_rmul repeat_list F.slot_int_index.lookup ?_
  refine call_meets F.slot_int_rmul (typeIs_int s k tok) F.entry_int_rmul (F.args_int_rmul_2 _ _) (int___rmul___int_list k tok l items.toArray room) ⟨at_, rfl, ⟨_, at_, rfl⟩, ?_⟩
  refine call_meets F.slot_list_mul ⟨_, at_, rfl⟩ F.entry_list_mul (F.args_list_mul_2 _ _) (AutoListH.list___mul___list_int_3 l items.toArray room k tok fits cap short) ⟨at_, ?_⟩
  rw [made]
  refine ⟨.ref _, _, I.lnew (t' := s.toks) (vals.rep k.toNat) (by rw [flat_one, List.length_replicate, sizeLine_eq]; omega), rfl, ?_⟩
  rw [flat_one]
  exact q _ I.fresh (Nat.ne_of_gt I.big)
section
variable {X : Cx} {mx c n : Nat}
theorem d4a_rep {H : Hp} {A : Addr → Prop} : ∀ m : Nat, D4A mx H A (List.replicate m V.non) (List.replicate m PyData.none) ∧ costAll4 (List.replicate m PyData.none) = 6 * m ∧ PyData.depthAll (List.replicate m PyData.none) = 0
  | 0 => ⟨.nil, rfl, rfl⟩
  | m + 1 => by
    obtain ⟨h1, h2, h3⟩ := d4a_rep (H := H) (A := A) m
    refine ⟨by rw [List.replicate_succ, List.replicate_succ]; exact .cons .non h1, ?_, ?_⟩
    · rw [List.replicate_succ]
      simp only [costAll4, cost4]
      omega
    · rw [List.replicate_succ]
      show max 0 (PyData.depthAll (List.replicate m PyData.none)) = 0
      rw [h3]
      rfl
/-- [None] * k -/
theorem pe_lit4Rep {e f : Expr} {i : Int} {pos : Pos} (h : PE X e (tLst (tCons (tC .non) tNil))) (g : PE X f (tC (.int i))) (h1 : 0 ≤ i) (h2 : i ≤ 20000) (hc : 6 * i.toNat + 3 ≤ c) (hn : 1 ≤ n) : PE X (.BinOp e .Mult f pos) (tLit4 mx c n) :=
  PE.imp (pe_op op_repK h g) fun σ H Q q => ⟨by show 1 ≤ sizeLine; decide, fun p hp => ⟨p, i, .non, rfl, rfl, upd_same, h1, h2, fun r hr nr => by
    obtain ⟨k1, k2, k3⟩ := d4a_rep (mx := mx) (H := upd (upd H p (.lst [V.non])) r (.lst (List.replicate i.toNat V.non))) (A := old H) i.toNat
    refine q _ _ ((same_new hp).trans (same_new hr)) ⟨.list (List.replicate i.toNat PyData.none), .lst upd_same (fun ⟨u, hu⟩ => ?_) nr (by rw [List.length_replicate]; omega) k1, ?_, ?_⟩
    · rw [same_new (o := .lst [V.non]) hp _ _ hu] at hr
      cases hr
    · simp only [cost4]
      omega
    · show PyData.depthAll (List.replicate i.toNat PyData.none) + 1 ≤ n
      rw [k3]
      exact hn⟩⟩
theorem pe_lit4D2 {k v : Expr} {pos : Pos} (hk : PE X k (tC (.int 1))) (hv : PE X v (tC (.str "a"))) (hc : 20 ≤ c) (hn : 2 ≤ n) : PE X (.Dict [some k] [v] pos) (tLit4 mx c n) :=
  PE.imp (pe_disp (pps_cons hk hv pps_nil) rfl rfl (by simp) (by show 1 ≤ 15; decide)) fun σ H Q q => fun p hp => ⟨upd_same, [(Sum.inl 1, .str "a")], rfl, by show 1 ≤ 15; decide, q _ _ (fun c o hc => by rw [upd_ne (ne_of_none hc hp), upd_ne (ne_of_none hc hp)]; exact hc)
    ⟨.dict [(.int 1, .str "a")], .dic2 upd_same fun ⟨u, hu⟩ => (by rw [hp] at hu; cases hu), by simp only [cost4]; exact hc, Nat.le_trans (by decide) hn⟩⟩
theorem pe_lit4Pow30 {e f : Expr} {pos : Pos} (h : PE X e (tC (.int 10))) (g : PE X f (tC (.int 30))) (hc : 64 ≤ c) : PE X (.BinOp e .Pow f pos) (tLit4 mx c n) :=
  PE.imp (pe_op op_pow h g) fun σ H Q q => ⟨10, 30, rfl, rfl, ⟨by decide, by decide, by decide⟩, q H _ (Same.refl _) (w4_int _ (by decide +kernel) hc H _)⟩
theorem pe_lit4Mul {e f : Expr} {z : Str} {i : Int} {pos : Pos} (h : PE X e (tC (.str z))) (g : PE X f (tC (.int i))) (hz : z.cps.size = 1) (hs : ∀ c ∈ z.cps, c < 16 ^ 8) (h1 : 9 ≤ i) (h2 : i ≤ 20000) (hc : 200010 ≤ c) : PE X (.BinOp e .Mult f pos) (tLit4 mx c n) :=
  PE.imp (pe_op op_mulS2 h g) fun σ H Q q => ⟨z, i, rfl, rfl, by omega, h2, hz, fun u hu hm => q H _ (Same.refl _) (w4_str u ⟨List.all_eq_true.mpr fun c hc => decide_eq_true (hs c (hm c (Array.mem_toList_iff.mp hc))), by omega, fun h => by omega⟩ (by omega) H _)⟩
theorem pe_lit4Neg {e : Expr} {i : Int} {pos : Pos} (h : PE X e (tC (.int i))) (hi : i.natAbs < 10 ^ 60) (hc : 64 ≤ c) : PE X (.UnaryOp .USub e pos) (tLit4 mx c n) :=
  PE.imp (pe_un (r := rU fun i => .int (-i)) un_neg h) fun σ H Q q => ⟨i, rfl, q H _ (Same.refl _) (w4_int _ (by rw [Int.natAbs_neg]; exact hi) hc H _)⟩
theorem pe_lit4Pow {e f : Expr} {pos : Pos} (h : PE X e (tC (.int 10))) (g : PE X f (tC (.int 39))) (hc : 64 ≤ c) : PE X (.BinOp e .Pow f pos) (tLit4 mx c n) :=
  PE.imp (pe_op op_pow h g) fun σ H Q q => ⟨10, 39, rfl, rfl, ⟨by decide, by decide, by decide⟩, q H _ (Same.refl _) (w4_int _ (by decide +kernel) hc H _)⟩
theorem pe_lit4D1 {k v : Expr} {pos : Pos} (hk : PE X k (tC (.str "a"))) (hv : PE X v (tC (.int 1))) (hc : 20 ≤ c) (hn : 2 ≤ n) : PE X (.Dict [some k] [v] pos) (tLit4 mx c n) :=
  PE.imp (pe_disp (pps_cons hk hv pps_nil) rfl rfl (by simp) (by show 1 ≤ 15; decide)) fun σ H Q q => fun p hp => ⟨upd_same, [(Sum.inr "a", .int 1)], rfl, by show 1 ≤ 15; decide, q _ _ (fun c o hc => by rw [upd_ne (ne_of_none hc hp), upd_ne (ne_of_none hc hp)]; exact hc)
    ⟨.dict [(.str "a", .int 1)], .dic1 upd_same fun ⟨u, hu⟩ => (by rw [hp] at hu; cases hu), by simp only [cost4]; exact hc, Nat.le_trans (by decide) hn⟩⟩
end
end Qk
set_option maxRecDepth 100000
set_option maxHeartbeats 4000000
namespace Qk
open PySem PySem.Spec PyProof.Rows L2
section
variable {mx : Nat} {H : Hp} {A : Addr → Prop}
theorem D4A.app : ∀ {ds : List PyData} {xs : List V} {es : List PyData} {ys : List V}, D4A mx H A xs ds → D4A mx H A ys es → D4A mx H A (xs ++ ys) (ds ++ es)
  | [], _, _, _, h, g => by cases h; exact g
  | d :: ds, _, _, _, h, g => by
    cases h with
    | cons h1 h2 => exact .cons h1 (D4A.app h2 g)
theorem D4A.takeD : ∀ {ds : List PyData} {xs : List V} (n : Nat), D4A mx H A xs ds → D4A mx H A (xs.take n) (ds.take n)
  | _, _, 0, _ => by rw [List.take_zero, List.take_zero]; exact .nil
  | [], _, n + 1, h => by cases h; exact .nil
  | d :: ds, _, n + 1, h => by
    cases h with
    | cons h1 h2 => rw [List.take_succ_cons, List.take_succ_cons]; exact .cons h1 (D4A.takeD n h2)
theorem D4A.dropD : ∀ {ds : List PyData} {xs : List V} (n : Nat), D4A mx H A xs ds → D4A mx H A (xs.drop n) (ds.drop n)
  | _, _, 0, h => h
  | [], _, n + 1, h => by cases h; exact .nil
  | d :: ds, _, n + 1, h => by
    cases h with
    | cons h1 h2 => rw [List.drop_succ_cons, List.drop_succ_cons]; exact D4A.dropD n h2
theorem D4A.rev : ∀ {ds : List PyData} {xs : List V}, D4A mx H A xs ds → D4A mx H A xs.reverse ds.reverse
  | [], _, h => by cases h; exact .nil
  | d :: ds, _, h => by
    cases h with
    | cons h1 h2 => rw [List.reverse_cons, List.reverse_cons]; exact D4A.app (D4A.rev h2) (.cons h1 .nil)
theorem D4A.get : ∀ {ds : List PyData} {xs : List V} {q : Nat} {x : V}, D4A mx H A xs ds → xs[q]? = some x → ∃ d, ds[q]? = some d ∧ D4 mx H A x d
  | [], _, q, x, h, hx => by cases h; simp at hx
  | d :: ds, _, 0, x, h, hx => by
    cases h with
    | cons h1 h2 =>
      simp only [List.getElem?_cons_zero] at hx
      injection hx with hx
      exact ⟨d, by simp, hx ▸ h1⟩
  | d :: ds, _, q + 1, x, h, hx => by
    cases h with
    | cons h1 h2 =>
      rw [List.getElem?_cons_succ] at hx
      obtain ⟨e, g1, g2⟩ := D4A.get h2 hx
      exact ⟨e, by rw [List.getElem?_cons_succ]; exact g1, g2⟩
end
theorem costAll4_app : ∀ (ds es : List PyData), costAll4 (ds ++ es) = costAll4 ds + costAll4 es
  | [], es => by simp [costAll4]
  | d :: ds, es => by
    rw [List.cons_append]
    simp only [costAll4]
    rw [costAll4_app ds es]
    omega
theorem costAll4_one (d : PyData) : costAll4 [d] = cost4 d + 2 := by simp only [costAll4]
theorem costAll4_rev : ∀ (ds : List PyData), costAll4 ds.reverse = costAll4 ds
  | [] => rfl
  | d :: ds => by
    rw [List.reverse_cons, costAll4_app, costAll4_rev ds, costAll4_one]
    simp only [costAll4]
    omega
theorem split_at {α : Type} {ds : List α} {q : Nat} {d : α} (h : ds[q]? = some d) : ds = ds.take q ++ d :: ds.drop (q + 1) := by
  obtain ⟨l, e⟩ := List.getElem?_eq_some_iff.mp h
  have := List.drop_eq_getElem_cons l
  rw [e] at this
  rw [← this, List.take_append_drop]
theorem cost4_split {ds : List PyData} {q : Nat} {d : PyData} (h : ds[q]? = some d) : costAll4 ds = costAll4 (ds.take q) + (cost4 d + 2) + costAll4 (ds.drop (q + 1)) := by
  have e := congrArg costAll4 (split_at h)
  rw [costAll4_app] at e
  simp only [costAll4] at e
  omega
theorem depthAll_mem {n : Nat} : ∀ {ds : List PyData}, PyData.depthAll ds ≤ n → ∀ d ∈ ds, d.depth ≤ n
  | [], _ => fun d hd => (nomatch hd)
  | x :: ds, h => by
    have hm : max x.depth (PyData.depthAll ds) ≤ n := h
    intro d hd
    rcases List.mem_cons.mp hd with rfl | hd
    · exact Nat.le_trans (Nat.le_max_left _ _) hm
    · exact depthAll_mem (Nat.le_trans (Nat.le_max_right _ _) hm) d hd
theorem D4.seq {mx : Nat} {H : Hp} {A : Addr → Prop} {a : Addr} {d : PyData} {xs : List V} (h : D4 mx H A (.ref a) d) (ha : H a = some (.lst xs) ∨ H a = some (.tup xs)) : ∃ ds, D4A mx H A xs ds ∧ costAll4 ds + 3 = cost4 d ∧ PyData.depthAll ds + 1 = d.depth := by
  cases h with
  | lst h1 h2 h3 h4 h5 =>
    rcases ha with ha | ha
    · rw [h1] at ha
      injection ha with ha
      injection ha with ha
      subst ha
      exact ⟨_, h5, by simp only [cost4], rfl⟩
    · rw [h1] at ha
      cases ha
  | tup h1 h2 h4 h5 =>
    rcases ha with ha | ha
    · rw [h1] at ha
      cases ha
    · rw [h1] at ha
      injection ha with ha
      injection ha with ha
      subst ha
      exact ⟨_, h5, by simp only [cost4], rfl⟩
  | dic0 h1 h2 => rcases ha with ha | ha <;> (rw [h1] at ha; cases ha)
  | dic1 h1 h2 => rcases ha with ha | ha <;> (rw [h1] at ha; cases ha)
  | dic2 h1 h2 => rcases ha with ha | ha <;> (rw [h1] at ha; cases ha)
end Qk
set_option maxRecDepth 100000
set_option maxHeartbeats 4000000
namespace Qk
open PySem PySem.Spec PyProof.Rows L2
def top (i : Nat) : Stmt := PySem.Challenge.pw_narrowkeys_k11_words_of_any_value.main.body.getD i (.Pass ⟨0, 0, 0, 0⟩)
abbrev sIsInt : Stmt := top 3
abbrev sIsCol : Stmt := top 4
abbrev sAreDiff : Stmt := top 5
abbrev sAreCols : Stmt := top 6
abbrev sAsc : Stmt := top 7
abbrev sIsEmpty : Stmt := top 8
abbrev sIsLast : Stmt := top 9
abbrev sIsQ : Stmt := top 10
abbrev sIsIndex : Stmt := top 11
abbrev sIsWeight : Stmt := top 12
abbrev sBag : Stmt := top 14
abbrev sTake : Stmt := top 15
abbrev sOne : Stmt := top 16
abbrev sMixed : Stmt := top 17
abbrev sNames : Stmt := top 18
abbrev sQuestion : Stmt := top 19
abbrev sIndex : Stmt := top 20
abbrev sOdd : Stmt := top 21
abbrev sWhole : Stmt := top 22
abbrev sIsName : Stmt := top 23
abbrev sAreNames : Stmt := top 24
abbrev sDue : Stmt := top 25
abbrev sLAsked : Stmt := top 26
abbrev sSpelt : Stmt := top 27
abbrev sBent : Stmt := top 28
abbrev sThing : Stmt := top 29
abbrev sAsked : Stmt := top 30
abbrev sLaw : Stmt := top 31
structure Txt (K : PySem.W.Frag) (mg : Str → Option Value) : Prop where
  len : mg "len" = none
  int : mg "int" = none
  abs : mg "abs" = none
  tuple : mg "tuple" = none
  sorted : mg "sorted" = none
  range : mg "range" = none
  repr : mg "repr" = none
  list : mg "list" = none
  set : mg "set" = none
  isinstance : mg "isinstance" = none
  str : mg "str" = none
  all : mg "all" = none
  enumerate : mg "enumerate" = none
  iter : mg "iter" = none
  zip : mg "zip" = none
  bool : mg "bool" = none
  dict : mg "dict" = none
  longest : ∃ t, mg "LONGEST_COLUMN" = some (.int 8 t)
  great : ∃ t, mg "GREATEST_WEIGHT" = some (.int (10 ^ 30) t)
section
variable {P : Program} {w : World} {K : PySem.W.Frag} {mg : Str → Option Value} {base : Heap}
theorem scBag : FnScope ["_law_script", "_law_cell"] ["_law_script"] (defScope sBag) := ⟨rfl, rfl, rfl, by decide +kernel, rfl, by decide +kernel, by decide +kernel⟩
theorem ok_bag {f : Addr} {fd : FuncData} (F : Fun K "_law_bag" "_law_bag" sBag f fd) (T : Txt K mg) : FnOk P w K mg base CX0 1 f fd ["_law_script"] (spBag K) := by
  refine F.ok scBag (fun vs H Q E h => ?_) (fun cdv A outer s H vs Q E hr h => ?_)
  · obtain ⟨a, ns, rfl, _⟩ := h
    rfl
  · obtain ⟨a, ns, rfl, hS, hz, k⟩ := h
    have nd := scBag.nd
    refine ⟨_, pss_one (ps_ret (pe_lst (pa_cons pe_int (pa_cons pe_int (pa_cons pe_int (pa_cons (pe_lc (own := [("_law_cell", 1)]) (g := gName 1) (tt := tYes) rfl nd
      (pi_list (pe_slice sl_list (pv 0) po_none (po_some pe_int))) (blkOk_by (N := ["_law_script", "_law_cell"]) (sc := defScope sBag) (by decide +kernel)) (fun _ _ _ _ _ => pg_name (i := 1) nd rfl (Or.inl rfl)) (fun _ _ _ _ _ => pts_nil)
      (fun _ _ _ _ _ => pe_callB call_abs (by rfl) T.abs (by decide +kernel) (pa_cons (pv 1) pa_nil))) pa_nil)))))), ?_⟩
    refine ⟨_, rfl, _, rfl, a, _, rfl, hS, fun p hp => ⟨p, rfl, ⟨_, SqL.of upd_same⟩, fun D hD => ?_⟩⟩
    have e0 : cutV (ns.map V.int) none (some 63) = (ns.take 63).map V.int := (cut_to 63 _).trans List.map_take.symm
    have npD : p ≠ D := ne_of_none upd_same hD
    have s0 : Same H (upd H p (.lst (cutV (ns.map V.int) none (some 63)))) := same_new hp
    have nD : H D = none := s0.free hD
    refine lc_list (K := K) (a := p) (xs := (ns.take 63).map V.int) (fun i H' => Same H H' ∧ H' p = some (.lst ((ns.take 63).map V.int)) ∧ ∃ ms : List Int, H' D = some (.lst (ms.map V.int)) ∧ ms.length ≤ i ∧ ∀ n ∈ ms, 0 ≤ n)
      ⟨s0.trans (same_new hD), by rw [upd_ne npD, upd_same, e0], [], upd_same, Nat.le_refl _, by simp⟩ (fun i H' _ h => SqL.of h.2.1) ?_ ?_
    · rintro i x H' hi ⟨s1, h1, ms, h2, hl, hm⟩
      rw [List.getElem?_map] at hi
      cases e : (ns.take 63)[i]? with
      | none => rw [e] at hi; cases hi
      | some z =>
        rw [e] at hi
        obtain rfl : V.int z = x := Option.some.inj hi
        have hlt : i < 63 := by
          have := (List.getElem?_eq_some_iff.mp e).1
          rw [List.length_take] at this
          omega
        refine ⟨rfl, Exists.intro _ ⟨rfl, z, rfl, _, h2, by rw [List.length_map, sizeLine_eq]; omega, fun b o q => ?_, ?_, ms ++ [if z < 0 then -z else z], by rw [upd_same]; simp, by simp; omega, ?_⟩⟩
        · have : b ≠ D := ne_of_none q nD
          rw [upd_ne this]
          exact s1 _ _ q
        · rw [upd_ne npD]
          exact h1
        · intro n hn
          rcases List.mem_append.mp hn with hn | hn
          · exact hm n hn
          · obtain rfl := List.mem_singleton.mp hn
            split <;> omega
    · rintro H' ⟨s1, h1, ms, h2, hl, hm⟩
      refine ⟨by show 4 ≤ sizeLine; decide, fun q hq => ?_⟩
      have nDq : D ≠ q := ne_of_none h2 hq
      exact k q D _ (s1.free hq) ⟨0, 1234567891, 0, ms, upd_same, by rw [upd_ne nDq]; exact h2, nDq, by decide, by decide, by decide, hm⟩ (s1.trans (same_new hq))
theorem scTake : FnScope ["_law_bag_here", "_law_many", "_law_cell", "_law_mixed_here", "_law_drawn", "_law_begin", "_law_second"] ["_law_bag_here", "_law_many"] (defScope sTake) := ⟨rfl, rfl, rfl, by decide +kernel, rfl, by decide +kernel, by decide +kernel⟩
theorem ok_take {f : Addr} {fd : FuncData} (F : Fun K "_law_take" "_law_take" sTake f fd) (T : Txt K mg) : FnOk P w K mg base CX0 1 f fd ["_law_bag_here", "_law_many"] spTake := by
  refine F.ok scTake (fun vs H Q E h => ?_) (fun cdv A outer s H vs Q E hr h => ?_)
  · obtain ⟨b, l, n, rfl, _⟩ := h
    rfl
  · obtain ⟨b, l, n, rfl, B, n0, n1, k⟩ := h
    have nd := scTake.nd
    obtain ⟨h, m, p, ns, hb, hl, nlb, h0, m0, m1, hns⟩ := id B
    refine ⟨_, Evl.pss_cut (ps_if (pt_cmpR op_eq (pe_ix ix_list (pv 0) pe_int fun _ _ => rfl) pe_int (nomark _))
        (pss_cons (ps_set (i := 2) nd rfl (Or.inl rfl) pe_int)
        (Evl.pss_cut (ps_if (pt_cmpR op_lt (pe_ix ix_list (pv 0) pe_int fun _ _ => rfl) (pe_callB call_len_seq (by rfl) T.len PySem.boot_len (pa_cons (pe_ix ix_list (pv 0) pe_int fun _ _ => rfl) pa_nil)) (nomark _))
          (pss_one (ps_set (i := 2) nd rfl (Or.inl rfl) (pe_ix ix_list (pe_ix ix_list (pv 0) pe_int fun _ _ => rfl) (pe_ix ix_list (pv 0) pe_int fun _ _ => rfl) fun _ _ => rfl))) pss_nil)
        (pss_cons (ps_augS (pv 0) pe_int get_list pe_int ip_add set_list)
        (Evl.pss_cut (ps_if (pt_cmpR op_ge (pv 2) pe_int (nomark _)) (pss_one (ps_asg (pv 2) (pg_sub (pv 0) pe_int set_list))) pss_nil)
        (pss_cons (ps_set (i := 3) nd rfl (Or.inl rfl) (pe_op op_add (pe_op op_add (pe_op op_mul (pe_ix ix_list (pv 0) pe_int fun _ _ => rfl) pe_int)
            (pe_op op_mod (pe_callTy call_int1 (by rfl) T.int (by decide +kernel) (pa_cons (pv 2) pa_nil)) pe_int)) (pe_op op_mul pe_int (pe_ix ix_list (pv 0) pe_int fun _ _ => rfl))))
        (pss_one (ps_asg (pe_op op_mod (pe_callTy call_int1 (by rfl) T.int (by decide +kernel) (pa_cons (pv 3) pa_nil)) pe_int) (pg_sub (pv 0) pe_int set_list)))))))) pss_nil)
      (Evl.pss_cut (ps_if (pt_cmpR op_gt (pe_ix ix_list (pv 0) pe_int fun _ _ => rfl) pe_int (nomark _))
        (pss_cons (ps_set (i := 4) nd rfl (Or.inl rfl) (pe_op op_mod (pe_callTy call_int1 (by rfl) T.int (by decide +kernel) (pa_cons (pe_ix ix_list (pv 0) pe_int fun _ _ => rfl) pa_nil)) (pv 1)))
        (pss_cons (ps_asg (pe_op op_fdivN (pe_callTy call_int1 (by rfl) T.int (by decide +kernel) (pa_cons (pe_ix ix_list (pv 0) pe_int fun _ _ => rfl) pa_nil)) (pv 1)) (pg_sub (pv 0) pe_int set_list))
        (pss_one (ps_ret (pv 4))))) pss_nil)
      (pss_cons (ps_set (i := 5) nd rfl (Or.inl rfl) (pe_op op_mod (pe_callTy call_int1 (by rfl) T.int (by decide +kernel) (pa_cons (pe_op op_mul (pe_op op_add (pe_ix ix_list (pv 0) pe_int fun _ _ => rfl) pe_int) pe_int) pa_nil)) pe_int))
      (pss_cons (ps_set (i := 6) nd rfl (Or.inl rfl) (pe_op op_mod (pe_callTy call_int1 (by rfl) T.int (by decide +kernel) (pa_cons (pe_op op_mul (pe_op op_mod (pe_callTy call_int1 (by rfl) T.int (by decide +kernel) (pa_cons (pe_op op_mul (pv 5) (pv 5)) pa_nil)) pe_int) pe_int) pa_nil)) pe_int))
      (pss_one (ps_ret (pe_op op_mod (pe_callTy call_int1 (by rfl) T.int (by decide +kernel) (pa_cons (pe_op op_fdiv (pv 6) pe_int) pa_nil)) (pv 1)))))))
      , ?_⟩
    refine ⟨fun σ' H' => ∃ c2 c3, σ' = [some (.ref b), some (.int n), c2, c3, none, none, none] ∧ Bag H' b l ∧ Kp b H H', ?_, ?_⟩
    · refine ⟨_, rfl, b, _, _, _, rfl, rfl, SqL.of hb, rfl, rfl, _, rfl, ?_⟩
      refine ite2 (fun _ => ?_) (fun _ => ⟨_, _, rfl, B, Kp.refl _ _⟩)
      refine ⟨fun σ' H' => ∃ c : Int, 0 ≤ c ∧ σ' = [some (.ref b), some (.int n), some (.int c), none, none, none, none] ∧ H' = H, ?_, ?_⟩
      · refine ⟨_, rfl, b, _, _, _, rfl, rfl, SqL.of hb, rfl, _, rfl, b, _, _, _, rfl, rfl, SqL.of hb, rfl, _, _, rfl, .inl (SqL.of hl), _, _, rfl, rfl, _, rfl, ?_⟩
        refine ite2 (fun hc => ?_) (fun _ => ⟨0, Int.le_refl 0, rfl, rfl⟩)
        have hp : p < ns.length := by
          have := of_decide_eq_true hc
          rw [List.length_map] at this
          omega
        refine ⟨_, rfl, b, _, _, _, rfl, rfl, SqL.of hb, rfl, _, rfl, b, _, _, _, rfl, rfl, SqL.of hb, rfl, l, _, _, .int ns[p], rfl, rfl, SqL.of hl, atI_nat (by rw [List.getElem?_map, List.getElem?_eq_getElem hp]; rfl), ?_⟩
        exact ⟨ns[p], hns _ (List.getElem_mem hp), rfl, rfl⟩
      · rintro σ' H' ⟨c, hc, rfl, rfl⟩
        refine ⟨_, rfl, b, _, 2, _, rfl, rfl, SqL.of hb, rfl, _, _, rfl, rfl, b, _, _, 2, rfl, rfl, hb, rfl, ?_⟩
        have hl1 : (upd H' b (HO.lst [.int h, .int m, .int ((p + 1 : Nat) : Int), .ref l])) l = some (HO.lst (ns.map V.int)) := by rw [upd_ne nlb]; exact hl
        refine ⟨fun σ' H2 => ∃ h' : Int, 0 ≤ h' ∧ σ' = [some (.ref b), some (.int n), some (.int c), none, none, none, none] ∧ H2 b = some (.lst [.int h', .int m, .int ((p + 1 : Nat) : Int), .ref l]) ∧ Kp b H' H2, ?_, ?_⟩
        · refine ⟨_, rfl, _, _, rfl, rfl, _, rfl, ?_⟩
          refine ite2 (fun _ => ?_) (fun _ => ⟨h, h0, rfl, upd_same, Kp.at_ _ _ _⟩)
          refine ⟨_, rfl, _, rfl, b, _, 0, 0, rfl, rfl, upd_same, rfl, ?_⟩
          exact ⟨c, hc, rfl, upd_same, (Kp.at_ _ _ _).trans (Kp.at_ _ _ _)⟩
        · rintro σ' H2 ⟨h', h0', rfl, hb2, k2⟩
          have hl2 : H2 l = some (.lst (ns.map V.int)) := k2 _ _ hl nlb
          refine ⟨_, rfl, b, _, 1, _, rfl, rfl, SqL.of hb2, rfl, _, _, rfl, rfl, .inl ⟨by omega, by omega⟩, _, rfl, .inl ⟨_, rfl, _, _, rfl, rfl, (by show (0 : Int) < 2147483647; decide), _, _, rfl, rfl,
            _, rfl, b, _, 2, _, rfl, rfl, SqL.of hb2, rfl, _, _, rfl, rfl, .inl ⟨by decide, by decide⟩, _, _, rfl, rfl, _, rfl, .inl ⟨_, rfl, _, _, rfl, rfl, (by show (0 : Int) < 2147483647; decide), _, rfl, b, _, 1, 1, rfl, rfl, hb2, rfl, ?_⟩⟩⟩
          exact ⟨_, _, rfl, ⟨h', _, p + 1, ns, upd_same, (by rw [upd_ne nlb]; exact hl2), nlb, h0', Int.emod_nonneg _ (by decide), Int.emod_lt_of_pos _ (by decide), hns⟩, k2.trans (Kp.at_ _ _ _)⟩
    · rintro σ1 H1 ⟨c2, c3, rfl, B1, k1⟩
      clear hb hl hns h0 m0 m1
      obtain ⟨h, m, p, ns, hb, hl, nlb, h0, m0, m1, hns⟩ := id B1
      refine ⟨fun σ' H' => σ' = [some (.ref b), some (.int n), c2, c3, none, none, none] ∧ H' = H1, ?_, ?_⟩
      · refine ⟨_, rfl, b, _, 0, _, rfl, rfl, SqL.of hb, rfl, _, _, rfl, rfl, _, rfl, ?_⟩
        refine ite2 (fun _ => ?_) (fun _ => ⟨rfl, rfl⟩)
        obtain ⟨j, ej, hj⟩ := take_mod (k := h) n0
        refine ⟨_, rfl, b, _, 0, _, rfl, rfl, SqL.of hb, rfl, .inl ⟨_, rfl, _, rfl, _, _, rfl, rfl, n0, _, rfl, b, _, 0, _, rfl, rfl, SqL.of hb, rfl, .inl ⟨_, rfl, _, rfl, _, _, rfl, rfl, ⟨by omega, by omega⟩, _, rfl, b, _, 0, 0, rfl, rfl, hb, rfl, _, rfl, ?_⟩⟩⟩
        show Q (.int (h % n)) _
        rw [ej]
        refine k j _ hj ⟨_, m, p, ns, upd_same, (by rw [upd_ne nlb]; exact hl), nlb, ?_, m0, m1, hns⟩ (k1.trans (Kp.at_ _ _ _))
        show 0 ≤ h.fdiv n
        rw [Int.fdiv_eq_ediv_of_nonneg h (by omega)]
        exact Int.ediv_nonneg h0 (by omega)
      · rintro σ' H' ⟨rfl, rfl⟩
        have q1 : ∀ x : Int, 0 ≤ x % 1000000007 ∧ x % 1000000007 < 1000000007 := fun x => ⟨Int.emod_nonneg _ (by decide), Int.emod_lt_of_pos _ (by decide)⟩
        have q2 : ∀ x : Int, 0 ≤ x % 998244353 ∧ x % 998244353 < 998244353 := fun x => ⟨Int.emod_nonneg _ (by decide), Int.emod_lt_of_pos _ (by decide)⟩
        obtain ⟨u, eu⟩ : ∃ u, u = ((m + 1) * 39373) % 1000000007 := ⟨_, rfl⟩
        have hu := q1 ((m + 1) * 39373)
        rw [← eu] at hu
        obtain ⟨j, ej, hj⟩ := take_mod (k := (u * u % 998244353 * 30011 % 998244353) / 7) n0
        have hv := q2 (u * u)
        refine ⟨_, rfl, b, _, 1, _, rfl, rfl, SqL.of hb, rfl, _, _, rfl, rfl, _, _, rfl, rfl, .inl ⟨by omega, by omega⟩, .inl ⟨_, rfl, _, _, rfl, rfl, (by show (0 : Int) < 1000000007; decide), ?_⟩⟩
        show tSeq _ _ _ [some (.ref b), some (.int n), c2, c3, none, some (.int (((m + 1) * 39373) % 1000000007)), none] _
        rw [← eu]
        refine ⟨_, rfl, _, rfl, _, _, rfl, rfl, .inl ⟨by omega, by omega⟩, .inl ⟨_, rfl, _, _, rfl, rfl, (by show (0 : Int) < 998244353; decide), _, _, rfl, rfl, .inl ⟨by omega, by omega⟩, .inl ⟨_, rfl, _, _, rfl, rfl, (by show (0 : Int) < 998244353; decide), _, rfl, _, _, rfl, rfl, ⟨by decide, by decide⟩, .inl ⟨_, rfl, _, rfl, _, _, rfl, rfl, n0, ?_⟩⟩⟩⟩
        show Q (.int ((u * u % 998244353 * 30011 % 998244353) / 7 % n)) _
        rw [ej]
        exact k j _ hj B1 k1
theorem scOne : FnScope ["_law_bag_here", "_law_some"] ["_law_bag_here", "_law_some"] (defScope sOne) := ⟨rfl, rfl, rfl, by decide +kernel, rfl, by decide +kernel, by decide +kernel⟩
theorem ok_one {f : Addr} {fd : FuncData} (F : Fun K "_law_one" "_law_one" sOne f fd) (T : Txt K mg) (cT : Cal P w K mg base 1 "_law_take" ["_law_bag_here", "_law_many"] spTake) : FnOk P w K mg base CX0 2 f fd ["_law_bag_here", "_law_some"] spOne := by
  refine F.ok scOne (fun vs H Q E h => ?_) (fun cdv A outer s H vs Q E hr h => ?_)
  · obtain ⟨b, l, a, xs, rfl, _⟩ := h
    rfl
  · obtain ⟨b, l, a, xs, rfl, B, nab, ha, hne, hz, k⟩ := h
    refine ⟨_, pss_one (ps_ret (pe_ix ix_list (pv 1) (pe_call cT.G hr rfl cT.m cT.kp cT.b .nil pass0 (pa_cons (pv 0) (pa_cons (pe_callB call_len_seq (by rfl) T.len PySem.boot_len (pa_cons (pv 1) pa_nil)) pa_nil))) fun _ _ => rfl)), ?_⟩
    have hpos : 0 < xs.length := List.length_pos_iff.mpr hne
    refine ⟨_, rfl, _, rfl, _, rfl, _, _, rfl, .inl (SqL.of ha), b, l, _, rfl, B, by omega, by omega, fun j H' hj B' k' => ?_⟩
    have hj' : j < xs.length := by omega
    exact ⟨a, xs, j, xs[j], rfl, rfl, SqL.of (k' _ _ ha nab), atI_nat (List.getElem?_eq_getElem hj'), k _ _ (List.getElem_mem hj') B' k'⟩
theorem scMixed : FnScope ["_law_bag_here", "_law_things", "_law_found", "_law_thing_here"] ["_law_bag_here", "_law_things"] (defScope sMixed) := ⟨rfl, rfl, rfl, by decide +kernel, rfl, by decide +kernel, by decide +kernel⟩
theorem ok_mixed {f : Addr} {fd : FuncData} (F : Fun K "_law_mixed" "_law_mixed" sMixed f fd) (T : Txt K mg) (cT : Cal P w K mg base 1 "_law_take" ["_law_bag_here", "_law_many"] spTake) : FnOk P w K mg base CX0 2 f fd ["_law_bag_here", "_law_things"] spMixed := by
  refine F.ok scMixed (fun vs H Q E h => ?_) (fun cdv A outer s H vs Q E hr h => ?_)
  · obtain ⟨b, l, a, xs, rfl, _⟩ := h
    rfl
  · obtain ⟨b, l, a, xs, rfl, B, nab, ha, hz, k⟩ := h
    have nd := scMixed.nd
    refine ⟨_, pss_cons (ps_set (i := 2) nd rfl (Or.inl rfl) (pe_lst pa_nil)) (pss_cons (ps_for PassesOwn.never rfl (pi_list (pv 1)) (pg_name (i := 3) nd rfl (Or.inl rfl))
      (pss_one (ps_expr (pe_bm PySem.F.plainAttrs_list PySem.F.slot_list_insert PySem.F.type_list_insert mt_insert (pv 2)
        (pa_cons (pe_call cT.G hr rfl cT.m cT.kp cT.b .nil pass0 (pa_cons (pv 0) (pa_cons (pe_op op_add (pe_callB call_len_seq (by rfl) T.len PySem.boot_len (pa_cons (pv 2) pa_nil)) pe_int) pa_nil))) (pa_cons (pv 3) pa_nil))))))
      (pss_one (ps_ret (pv 2)))), ?_⟩
    refine ⟨by decide, fun p hp => ?_⟩
    have npb : p ≠ b := B.ne hp
    have nap : a ≠ p := ne_of_none ha hp
    refine ⟨_, rfl, a, rfl, ⟨_, SqL.of (by rw [upd_ne nap]; exact ha)⟩, for_list (K := K) (a := a) (xs := xs) (fun i σ H' => ∃ (ys : List V) (v : Option V), σ = [some (.ref b), some (.ref a), some (.ref p), v] ∧ ys.Perm (xs.take i) ∧ H' p = some (.lst ys) ∧ Bag H' b l ∧ Kp b H H')
      ⟨[], none, rfl, by simp, upd_same, B.new hp, Kp.new hp⟩ (fun i σ H' _ ⟨_, _, _, _, _, _, k'⟩ => SqL.of (k' _ _ ha nab)) ?_ ?_⟩
    · rintro i x σ H' hi ⟨ys, v, rfl, hp1, h1, B1, k1⟩
      have hil : i < xs.length := (List.getElem?_eq_some_iff.mp hi).1
      have hyl : ys.length = i := by
        rw [hp1.length_eq, List.length_take]
        omega
      refine ⟨_, rfl, .inl ⟨rfl, _, SqL.of h1⟩, _, rfl, _, rfl, _, _, rfl, .inl (SqL.of h1), _, _, rfl, rfl, b, l, _, rfl, B1, by omega, by omega, fun j H2 hj B2 k2 => ?_⟩
      refine ⟨_, rfl, p, ys, (j : Int), x, rfl, rfl, k2 _ _ h1 npb, Nat.lt_of_lt_of_le (show ys.length < 1000 by omega) (by rw [sizeLine_eq]; decide), by omega, by omega, ?_⟩
      refine ⟨ys.take j ++ [x] ++ ys.drop j, _, rfl, ?_, ?_, ?_, ?_⟩
      · have e1 : xs.take (i + 1) = xs.take i ++ [x] := by
          rw [List.take_add_one, hi]
          rfl
        rw [e1]
        have q1 : (ys.take j ++ [x] ++ ys.drop j).Perm (ys ++ [x]) := by
          have q2 : (ys.take j ++ ([x] ++ ys.drop j)).Perm (ys.take j ++ (ys.drop j ++ [x])) := List.Perm.append_left _ List.perm_append_comm
          rw [List.append_assoc]
          refine q2.trans ?_
          rw [← List.append_assoc, List.take_append_drop]
        exact q1.trans (hp1.append_right _)
      · rw [upd_same]
        simp
      · exact B2.upd npb.symm (B.nel hp)
      · intro c o hc ncb
        have : c ≠ p := ne_of_none hc hp
        rw [upd_ne this]
        exact k2 _ _ (k1 _ _ hc ncb) ncb
    · rintro σ H' ⟨ys, v, rfl, hp1, h1, B1, k1⟩
      rw [List.take_length] at hp1
      exact ⟨_, rfl, k ys p H' hp1 hp npb h1 B1 k1⟩
theorem scNames : FnScope ["_law_bag_here", "_law_many", "_law_menu"] ["_law_bag_here", "_law_many"] (defScope sNames) := ⟨rfl, rfl, rfl, by decide +kernel, rfl, by decide +kernel, by decide +kernel⟩
theorem ok_names {f : Addr} {fd : FuncData} (F : Fun K "_law_names" "_law_names" sNames f fd) (T : Txt K mg) (cM : Cal P w K mg base 2 "_law_mixed" ["_law_bag_here", "_law_things"] spMixed) : FnOk P w K mg base CX0 3 f fd ["_law_bag_here", "_law_many"] spNames := by
  refine F.ok scNames (fun vs H Q E h => ?_) (fun cdv A outer s H vs Q E hr h => ?_)
  · obtain ⟨b, l, n, rfl, _⟩ := h
    rfl
  · obtain ⟨b, l, n, rfl, B, k⟩ := h
    have nd := scNames.nd
    refine ⟨_, pss_cons (ps_set (i := 2) nd rfl (Or.inl rfl) (pe_lst (pa_cons pe_str (pa_cons pe_str (pa_cons pe_str (pa_cons pe_str (pa_cons pe_str (pa_cons pe_str (pa_cons pe_str (pa_cons pe_str (pa_cons pe_str (pa_cons pe_str (pa_cons pe_str (pa_cons pe_str pa_nil))))))))))))))
      (pss_one (ps_ret (pe_slice sl_list (pe_call cM.G hr rfl cM.m cM.kp cM.b .nil pass0 (pa_cons (pv 0) (pa_cons (pv 2) pa_nil))) po_none (po_some (pv 1))))), ?_⟩
    refine ⟨by show 12 ≤ sizeLine; decide, fun p hp => ?_⟩
    have npb : p ≠ b := B.ne hp
    refine ⟨_, rfl, _, rfl, b, l, p, menu0.map V.str, rfl, B.new hp, npb, upd_same, by show 12 < 1000; decide, fun ys q H' hp1 hq nqb h1 B1 k1 => ?_⟩
    refine ⟨_, rfl, _, rfl, q, ys, rfl, SqL.of h1, fun r hr => ?_⟩
    have e0 : cutV ys none (some (n : Int)) = ys.take n := cut_to n ys
    rw [e0]
    obtain ⟨zs, rfl, hzs⟩ := perm_strs hp1
    have hsub := (List.take_sublist n zs)
    have nrH : H r = none := by
      cases e : H r with
      | none => rfl
      | some o =>
        have ner : r ≠ p := ne_of_none e hp
        by_cases erb : r = b
        · subst erb
          obtain ⟨o', e'⟩ := B1.at_
          rw [e'] at hr
          cases hr
        · have := k1 r o (by rw [upd_ne ner]; exact e) erb
          rw [this] at hr
          cases hr
    refine k (zs.take n) r _ ⟨(hzs.nodup_iff.mpr menu0_nodup).sublist hsub, fun c hc => menu0_sub _ (hzs.mem_iff.mp (hsub.mem hc)), by rw [List.length_take, hzs.length_eq]; rfl⟩ nrH (B1.ne hr) (by rw [upd_same, List.map_take]) (B1.new hr) ((Kp.new hp).trans (k1.trans (Kp.new hr)))
end
end Qk
set_option maxRecDepth 100000
set_option maxHeartbeats 4000000
namespace Qk
open PySem PySem.Spec PyProof.Rows L2
section
variable {P : Program} {w : World} {K : PySem.W.Frag} {mg : Str → Option Value} {base : Heap}
theorem pw_risingS : ∀ (r : List Str) (p : Str), (p :: r).Pairwise leS → risingS p r = true
  | [], _, _ => rfl
  | x :: r, p, h => by
    obtain ⟨h1, h2⟩ := List.pairwise_cons.mp h
    have h3 : ltCps x.cps.toList p.cps.toList = false := h1 x List.mem_cons_self
    show (!ltCps x.cps.toList p.cps.toList && risingS x r) = true
    rw [h3, pw_risingS r x h2]
    rfl
theorem pw_sortedS {xs : List Str} (h : xs.Pairwise leS) : sortedS xs = true := by
  cases xs with
  | nil => rfl
  | cons x r => exact pw_risingS r x h
/-- a flat text -/
def FlatS (z : Str) : Prop := z.cps.size ≤ 20000 ∧ (z.cps.size ≤ 8 → PyData.strOk z = true)
/-- a text, or what is none -/
def TxV (K : PySem.W.Frag) (H : Hp) (x : V) : Prop := (∃ z, x = .str z ∧ FlatS z) ∨ ((∀ z, x ≠ .str z) ∧ ∃ t : String, TyX K H x (.type t) ∧ kitB t "str" = some false)
theorem D4.tx {mx : Nat} {H : Hp} {A : Addr → Prop} {x : V} {d : PyData} (h : D4 mx H A x d) : TxV K H x := by
  cases h with
  | non => exact .inr ⟨(fun z e => nomatch e), "NoneType", .base .non, by decide +kernel⟩
  | bl b => exact .inr ⟨(fun z e => nomatch e), "bool", .base (.bl b), by decide +kernel⟩
  | int i _ => exact .inr ⟨(fun z e => nomatch e), "int", .base (.int i), by decide +kernel⟩
  | str x hx => exact .inl ⟨x, rfl, hx.2.1, hx.2.2⟩
  | lst h1 _ _ _ _ => exact .inr ⟨(fun z e => nomatch e), "list", .base (.lst h1), by decide +kernel⟩
  | tup h1 _ _ _ => exact .inr ⟨(fun z e => nomatch e), "tuple", .base (.tup h1), by decide +kernel⟩
  | dic0 h1 _ => exact .inr ⟨(fun z e => nomatch e), "dict", .base (.dK h1), by decide +kernel⟩
  | dic1 h1 _ => exact .inr ⟨(fun z e => nomatch e), "dict", .base (.dK h1), by decide +kernel⟩
  | dic2 h1 _ => exact .inr ⟨(fun z e => nomatch e), "dict", .base (.dK h1), by decide +kernel⟩
def colV : V → Bool
  | .str z => colS z
  | _ => false
theorem colV_str {x : V} (h : colV x = true) : ∃ z, x = .str z ∧ colS z = true := by
  cases x with
  | str z => exact ⟨z, rfl, h⟩
  | _ => cases h
theorem texts_of : ∀ {xs : List V}, xs.all colV = true → ∃ zs : List Str, xs = zs.map V.str ∧ ∀ z ∈ zs, colS z = true
  | [], _ => ⟨[], rfl, (fun z h => nomatch h)⟩
  | x :: xs, h => by
    rw [List.all_cons, Bool.and_eq_true] at h
    obtain ⟨z, rfl, hz⟩ := colV_str h.1
    obtain ⟨zs, rfl, hs⟩ := texts_of h.2
    refine ⟨z :: zs, rfl, fun y hy => ?_⟩
    rcases List.mem_cons.mp hy with rfl | hy
    · exact hz
    · exact hs y hy
theorem col_of {z : Str} (h : colS z = true) : 1 ≤ z.cps.size ∧ z.cps.size ≤ 8 := by
  unfold colS at h
  simp only [Bool.and_eq_true, decide_eq_true_eq] at h
  exact ⟨h.1.1, h.1.2⟩
theorem col_ok {z : Str} (h : colS z = true) (f : FlatS z) : PyData.strOk z = true ∧ z.cps.size ≤ 20 := ⟨f.2 (col_of h).2, by have := (col_of h).2; omega⟩
/-- one value in, a truth out, by the text alone -/
def spTx (K : PySem.W.Frag) (f : Str → Bool) : Sp := fun vs H Q _ => ∃ x, vs = [x] ∧ TxV K H x ∧ ∀ (H' : Hp) (r : Bool), Same H H' → ((∀ z, x = .str z → r = f z) ∧ ((∀ z, x ≠ .str z) → r = false)) → Q (.bl r) H'
theorem scIsCol : FnScope ["thing"] ["thing"] (defScope sIsCol) := ⟨rfl, rfl, rfl, by decide +kernel, rfl, by decide +kernel, by decide +kernel⟩
theorem ok_iscolA {f : Addr} {fd : FuncData} (F : Fun K "is_column" "is_column" sIsCol f fd) (T : Txt K mg) : FnOk P w K mg base CX0 1 f fd ["thing"] (spTx K colS) := by
  refine F.ok scIsCol (fun vs H Q E h => ?_) (fun cdv A outer s H vs Q E hr h => ?_)
  · obtain ⟨x, rfl, _⟩ := h
    rfl
  · obtain ⟨x, rfl, hx, k⟩ := h
    have nd := scIsCol.nd
    obtain ⟨tl, hl⟩ := T.longest
    refine ⟨_, pss_cons (ps_if (PW.pt (pw_or (pt_not (pt_val (pe_callB call_isi (by rfl) T.isinstance (by decide +kernel) (pa_cons (pv 0) (pa_cons (pe_bltn (v := .ty "str") (by rfl) T.str (by decide +kernel) rfl) pa_nil)))))
        (pw_or1 (pt_not (pt_chain op_le op_le pe_int (pe_callB call_len_str (by rfl) T.len PySem.boot_len (pa_cons (pv 0) pa_nil)) (pe_glob (v := .int 8) rfl hl ⟨tl, rfl⟩)))))) (pss_one (ps_ret pe_bl)) pss_nil)
      (pss_one (ps_ret (pe_and (pe_m0 PySem.F.slot_str_isascii PySem.F.type_str_isascii mt_isascii (pv 0)) (pe_and (pe_m0 PySem.F.slot_str_isalpha PySem.F.type_str_isalpha mt_isalpha (pv 0))
        (pe_one (pe_m0 PySem.F.slot_str_islower PySem.F.type_str_islower mt_islower (pv 0))))))), ?_⟩
    rcases hx with ⟨z, rfl, hz, hok⟩ | ⟨hne, t, ty, hk⟩
    · refine ⟨_, rfl, _, _, .type "str", .type "str", true, rfl, .ty "str", .base (.str z), kit_ty (by decide +kernel), _, rfl, ?_⟩
      refine iteF ?_
      have hlen : z.length = z.cps.size := rfl
      have kk : Q (.bl (colS z)) H := k H (colS z) (Same.refl _) ⟨fun y e => by injection e with e; rw [e], fun h => absurd rfl (h z)⟩
      unfold colS at kk
      refine ⟨_, rfl, z, rfl, by rw [hlen, sizeLine_eq]; omega, 1, _, rfl, rfl, _, rfl, ?_⟩
      rw [hlen]
      by_cases c1 : 1 ≤ z.cps.size
      · have d1 : decide ((1 : Int) ≤ (z.cps.size : Int)) = true := decide_eq_true (by omega)
        rw [d1]
        refine iteT ?_
        refine ⟨_, 8, rfl, rfl, _, rfl, ?_⟩
        by_cases c2 : z.cps.size ≤ 8
        · have d2 : decide ((z.cps.size : Int) ≤ 8) = true := decide_eq_true (by omega)
          rw [d2]
          refine iteF ?_
          rw [decide_eq_true c1, decide_eq_true c2, ← low_iff z c1, Bool.true_and, Bool.true_and] at kk
          refine ⟨_, rfl, ⟨_, rfl⟩, z, rfl, rfl, True.intro, _, rfl, ?_⟩
          cases h1 : Txt.isascii z with
          | false =>
            rw [h1, Bool.false_and] at kk
            refine iteF ?_
            exact kk
          | true =>
            rw [h1, Bool.true_and] at kk
            refine iteT ?_
            refine ⟨_, rfl, ⟨_, rfl⟩, z, rfl, rfl, True.intro, _, rfl, ?_⟩
            cases h2 : Txt.isalpha z with
            | false =>
              rw [h2, Bool.false_and] at kk
              refine iteF ?_
              exact kk
            | true =>
              rw [h2, Bool.true_and] at kk
              refine iteT ?_
              exact ⟨_, rfl, ⟨_, rfl⟩, z, rfl, rfl, True.intro, kk⟩
        · have d2 : decide ((z.cps.size : Int) ≤ 8) = false := decide_eq_false (by omega)
          rw [d2]
          refine iteT ?_
          rw [decide_eq_false c2, Bool.and_false, Bool.false_and] at kk
          exact kk
      · have d1 : decide ((1 : Int) ≤ (z.cps.size : Int)) = false := decide_eq_false (by omega)
        rw [d1]
        refine iteF ?_
        refine ⟨_, rfl, ?_⟩
        refine iteT ?_
        rw [decide_eq_false c1, Bool.false_and, Bool.false_and] at kk
        exact kk
    · refine ⟨_, rfl, _, _, .type t, .type "str", false, rfl, .ty "str", ty, kit_ty hk, _, rfl, ?_⟩
      refine iteT ?_
      exact k H false (Same.refl _) ⟨fun z e => absurd e (hne z), fun _ => rfl⟩
theorem scIsEmpty : FnScope ["thing"] ["thing"] (defScope sIsEmpty) := ⟨rfl, rfl, rfl, by decide +kernel, rfl, by decide +kernel, by decide +kernel⟩
theorem ok_isemptyA {f : Addr} {fd : FuncData} (F : Fun K "is_empty" "is_empty" sIsEmpty f fd) (T : Txt K mg) : FnOk P w K mg base CX0 1 f fd ["thing"] (spTx K fun z => decide (z = "")) := by
  refine F.ok scIsEmpty (fun vs H Q E h => ?_) (fun cdv A outer s H vs Q E hr h => ?_)
  · obtain ⟨x, rfl, _⟩ := h
    rfl
  · obtain ⟨x, rfl, hx, k⟩ := h
    refine ⟨_, pss_one (ps_ret (pe_and (pe_callB call_isi (by rfl) T.isinstance (by decide +kernel) (pa_cons (pv 0) (pa_cons (pe_bltn (v := .ty "str") (by rfl) T.str (by decide +kernel) rfl) pa_nil))) (pe_one (pe_cmpR op_eq (pv 0) pe_str (nomark _))))), ?_⟩
    rcases hx with ⟨z, rfl, hz⟩ | ⟨hne, t, ty, hk⟩
    · refine ⟨_, rfl, _, _, .type "str", .type "str", true, rfl, .ty "str", .base (.str z), kit_ty (by decide +kernel), _, rfl, ?_⟩
      refine iteT ?_
      refine ⟨_, rfl, rfl, ?_⟩
      have e1 : decide (V.str z = V.str "") = decide (z = "") := decide_eq_decide.mpr ⟨fun h => by injection h, fun h => congrArg V.str h⟩
      rw [e1]
      exact k H _ (Same.refl _) ⟨fun y e => by injection e with e; rw [e], fun h => absurd rfl (h z)⟩
    · refine ⟨_, rfl, _, _, .type t, .type "str", false, rfl, .ty "str", ty, kit_ty hk, _, rfl, ?_⟩
      refine iteF ?_
      exact k H false (Same.refl _) ⟨fun z e => absurd e (hne z), fun _ => rfl⟩
/-- zip(t, t[1:]): each with the next one -/
theorem walk_next {K : PySem.W.Frag} {a b : Addr} {xs : List V} : Walk (RZ.ItzT K a b) (xs.length - 1) (fun H => SqT K H a xs ∧ SqT K H b (xs.drop 1)) (fun i H v H' => ∃ (T : Addr) (x y : V), v = .ref T ∧ H T = none ∧ H' = upd H T (.tup [x, y]) ∧ xs[i]? = some x ∧ xs[i + 1]? = some y) := by
  have nx : ∀ i, (xs.drop 1)[i]? = xs[i + 1]? := fun i => by rw [List.getElem?_drop, Nat.add_comm]
  constructor
  · intro i G lt ⟨qa, qb⟩
    have l2 : i + 1 < xs.length := by omega
    exact ⟨xs, xs.drop 1, xs[i], xs[i + 1], qa, qb, List.getElem?_eq_getElem (by omega), (nx i).trans (List.getElem?_eq_getElem l2)⟩
  · intro G ⟨qa, qb⟩
    exact ⟨xs, xs.drop 1, qa, qb, .inr (by rw [List.length_drop]; exact Nat.le_refl _)⟩
  · intro i G v G' _ ⟨qa, qb⟩ ⟨T, x, y, e1, e2, e3, e4, e5⟩
    exact ⟨T, x, y, e1, e2, e3, e4 xs qa, (nx i).symm.trans (e5 _ qb)⟩
theorem ltCps_dec : ∀ a b : List Nat, ltCps a b = decide (a < b)
  | [], [] => by simp [ltCps]
  | [], _ :: _ => by simp [ltCps]
  | _ :: _, [] => by simp [ltCps]
  | a :: r, b :: t => by
    rw [ltCps, ltCps_dec r t, Bool.eq_iff_iff]
    simp [List.cons_lt_cons_iff]
theorem slice_whole {H1 : Hp} {cols : List Str} {t : Addr} (ht : H1 t = some (.tup (cols.map V.str))) (hw : HT.sIx (cols.map V.str).length 0 (some 1) = 0 ∧ HT.sIx (cols.map V.str).length (cols.map V.str).length none = (cols.map V.str).length) : H1 t = some (.tup ((cols.drop 1).map V.str)) := by
  have e0 : cols = [] := by
    have h1 := hw.1
    rw [show (1 : Int) = ((1 : Nat) : Int) from rfl, HT.sIx_nat] at h1
    rw [List.length_map] at h1
    have : cols.length = 0 := by omega
    exact List.eq_nil_of_length_eq_zero this
  rw [ht, e0]
  rfl
theorem slice_part {H1 : Hp} {cols : List Str} {q : Addr} (hq : H1 q = none) : (upd H1 q (.tup (cutV (cols.map V.str) (some 1) none))) q = some (.tup ((cols.drop 1).map V.str)) := by
  have ec : cutV (cols.map V.str) (some 1) none = (cols.drop 1).map V.str := by
    have := cut_behind 0 (cols.map V.str)
    rw [List.map_drop]
    exact this
  rw [ec]
  exact upd_same
def ltP (a b : Str) : Prop := a.cps.toList < b.cps.toList
def adjL : List Str → List Bool
  | a :: b :: r => decide (a.cps.toList < b.cps.toList) :: adjL (b :: r)
  | _ => []
theorem adj_len : ∀ cols : List Str, (adjL cols).length = cols.length - 1
  | [] => rfl
  | [_] => rfl
  | a :: b :: r => by
    show (adjL (b :: r)).length + 1 = _
    rw [adj_len (b :: r)]
    simp
theorem adj_at : ∀ {cols : List Str} {i : Nat} {c d : Str}, cols[i]? = some c → cols[i + 1]? = some d → (adjL cols)[i]? = some (decide (c.cps.toList < d.cps.toList))
  | [], _, _, _, h, _ => by simp at h
  | [_], i, _, _, _, h => by simp at h
  | a :: b :: r, 0, c, d, h1, h2 => by
    simp at h1 h2
    subst h1 h2
    rfl
  | a :: b :: r, i + 1, c, d, h1, h2 => by
    show (adjL (b :: r))[i]? = _
    exact adj_at (by simpa using h1) (by simpa using h2)
theorem adj_pw : ∀ cols : List Str, (adjL cols).all id = true ↔ cols.Pairwise ltP
  | [] => by simp [adjL]
  | [_] => by simp [adjL]
  | a :: b :: r => by
    have ih := adj_pw (b :: r)
    show (decide (a.cps.toList < b.cps.toList) && (adjL (b :: r)).all id) = true ↔ _
    rw [Bool.and_eq_true, decide_eq_true_eq, ih]
    constructor
    · rintro ⟨h1, h2⟩
      refine .cons (fun y hy => ?_) h2
      rcases List.mem_cons.mp hy with rfl | hy
      · exact h1
      · exact List.lt_trans h1 ((List.pairwise_cons.mp h2).1 y hy)
    · intro h
      obtain ⟨h1, h2⟩ := List.pairwise_cons.mp h
      exact ⟨h1 b List.mem_cons_self, h2⟩
theorem pw_good {cols : List Str} : cols.Pairwise ltP ↔ cols.Nodup ∧ sortedS cols = true := by
  constructor
  · intro h
    refine ⟨h.imp fun {a b} q e => ?_, pw_sortedS (h.imp fun {a b} q => ?_)⟩
    · rw [e] at q
      exact List.lt_irrefl _ q
    · show ltCps b.cps.toList a.cps.toList = false
      rw [ltCps_dec]
      exact decide_eq_false (List.lt_asymm q)
  · rintro ⟨h1, h2⟩
    have pw := sortedS_pw h2
    refine (pw.and h1).imp fun {a b} ⟨q1, q2⟩ => ?_
    have q1' : ltCps b.cps.toList a.cps.toList = false := q1
    rw [ltCps_dec] at q1'
    rcases List.le_iff_lt_or_eq.mp (List.not_lt.mp (of_decide_eq_false q1')) with q | q
    · exact q
    · exact absurd (str_ext q) q2
/-- columns as they stand in a question -/
def ColsV (H : Hp) (x : V) : Prop := ∃ t cols, x = .ref t ∧ H t = some (.tup (cols.map V.str)) ∧ (∀ c ∈ cols, colS c = true) ∧ cols.Nodup ∧ sortedS cols = true
def spAscA : Sp := fun vs H Q _ => ∃ (t : Addr) (cols : List Str), vs = [.ref t] ∧ H t = some (.tup (cols.map V.str)) ∧ cols.length ≤ 40 ∧ ∀ (H' : Hp) (r : Bool), Same H H' → (r = true ↔ cols.Nodup ∧ sortedS cols = true) → Q (.bl r) H'
abbrev nAsc : List Str := ["things", "one", "other"]
theorem scAsc : FnScope nAsc ["things"] (defScope sAsc) := ⟨rfl, rfl, rfl, by decide +kernel, rfl, by decide +kernel, by decide +kernel⟩
theorem ok_ascA {f : Addr} {fd : FuncData} (F : Fun K "is_ascending" "is_ascending" sAsc f fd) (T : Txt K mg) : FnOk P w K mg base CX0 1 f fd ["things"] spAscA := by
  refine F.ok scAsc (fun vs H Q E h => ?_) (fun cdv A outer s H vs Q E hr h => ?_)
  · obtain ⟨t, cols, rfl, _⟩ := h
    rfl
  · obtain ⟨t, cols, rfl, ht, hl, k⟩ := h
    have al := adj_len cols
    have kall : ∀ {G : Hp}, Same H G → Q (.bl ((adjL cols).all id)) G := fun s => k _ _ s ((adj_pw cols).trans pw_good)
    have nd := scAsc.nd
    refine ⟨_, pss_one (ps_ret (pe_callB (cr_all rfl) (by rfl) T.all (by decide +kernel) (pa_cons (pe_lc (own := [("one", 1), ("other", 2)]) (g := gTup K 2 (gCons (gName 1) (gCons (gName 2) gNil))) (tt := tYes) rfl nd (RZ.pi_zipA (by rfl) T.zip (pa_cons (pv 0) (pa_cons (pe_slice sl_tupA (pv 0) (po_some pe_int) po_none) pa_nil)))
        (blkOk_by (N := nAsc) (sc := defScope sAsc) (by decide +kernel)) (fun _ _ _ _ _ => pg_tup (by rfl) (pgs_cons (pg_name (i := 1) nd rfl (by first | exact Or.inl rfl | exact Or.inr rfl)) (pgs_cons (pg_name (i := 2) nd rfl (by first | exact Or.inl rfl | exact Or.inr rfl)) pgs_nil)))
        (fun _ _ _ _ _ => pts_nil) (fun _ _ _ _ _ => pe_cmpR op_lt_str (pv 1) (pv 2) (nomark _))) pa_nil))), ?_⟩
    have ht1 := ht
    refine ⟨_, rfl, _, rfl, 1, rfl, t, _, rfl, SqT.of ht1, fun hw => ?_, fun hw q hq0 => ?_⟩
    · have hq := slice_whole ht1 hw
      refine ⟨t, t, _, _, rfl, .inr ⟨SqT.of (ht1), SqT.of hq, fun D2 hD2 => ?_⟩⟩
      refine lc_it (walk_next (xs := cols.map V.str)) (fun i H' => Same H H' ∧ H' D2 = some (.lst (((adjL cols).take i).map V.bl))) ⟨same_new hD2, upd_same⟩
        (fun i H' _ h => ⟨SqT.of (h.1 _ _ ht1), SqT.of (h.1 _ _ (by rw [← List.map_drop]; exact hq))⟩) ?_ ?_
      · rintro i x H3 H4 hi ⟨s3, hDl3⟩ y
        obtain ⟨T4, x1, y1, rfl, hT, rfl, hx1, hy1⟩ := y
        rw [List.length_map] at hi
        rw [List.getElem?_map] at hx1 hy1
        obtain ⟨c, hc, rfl⟩ := Option.map_eq_some_iff.mp hx1
        obtain ⟨d, hd, rfl⟩ := Option.map_eq_some_iff.mp hy1
        have sT := same_new (o := .tup [V.str c, V.str d]) hT
        refine ⟨T4, _, rfl, SqT.of upd_same, rfl, _, _, rfl, _, _, rfl, rfl, rfl, ?_⟩
        refine ⟨_, rfl, _, rfl, c, d, rfl, rfl, ?_⟩
        have ai := adj_at hc hd
        have ei : (adjL cols).take (i + 1) = (adjL cols).take i ++ [decide (c.cps.toList < d.cps.toList)] := by rw [List.take_add_one, ai]; rfl
        refine ⟨_, sT _ _ hDl3, small1000 (by simp; omega), fun b o hb => ?_, ?_⟩
        · rw [upd_ne (ne_of_none hb hD2)]
          exact sT _ _ (s3 _ _ hb)
        · rw [upd_same, ei, List.map_append]
          rfl
      · rintro H3 ⟨s3, hDl3⟩
        rw [List.take_of_length_le (by rw [List.length_map]; omega)] at hDl3
        refine ⟨D2, _, rfl, SqL.of hDl3, ?_⟩
        exact kall s3
    · have s2 := same_new (o := .tup (cutV (cols.map V.str) (some 1) none)) hq0
      have hq := slice_part (cols := cols) hq0
      generalize upd H q (.tup (cutV (cols.map V.str) (some 1) none)) = H2 at s2 hq ⊢
      refine ⟨t, q, _, _, rfl, .inr ⟨SqT.of (s2 _ _ ht1), SqT.of hq, fun D2 hD2 => ?_⟩⟩
      refine lc_it (walk_next (xs := cols.map V.str)) (fun i H' => Same H2 H' ∧ H' D2 = some (.lst (((adjL cols).take i).map V.bl))) ⟨same_new hD2, upd_same⟩
        (fun i H' _ h => ⟨SqT.of (h.1 _ _ (s2 _ _ ht1)), SqT.of (h.1 _ _ (by rw [← List.map_drop]; exact hq))⟩) ?_ ?_
      · rintro i x H3 H4 hi ⟨s3, hDl3⟩ y
        obtain ⟨T4, x1, y1, rfl, hT, rfl, hx1, hy1⟩ := y
        rw [List.length_map] at hi
        rw [List.getElem?_map] at hx1 hy1
        obtain ⟨c, hc, rfl⟩ := Option.map_eq_some_iff.mp hx1
        obtain ⟨d, hd, rfl⟩ := Option.map_eq_some_iff.mp hy1
        have sT := same_new (o := .tup [V.str c, V.str d]) hT
        refine ⟨T4, _, rfl, SqT.of upd_same, rfl, _, _, rfl, _, _, rfl, rfl, rfl, ?_⟩
        refine ⟨_, rfl, _, rfl, c, d, rfl, rfl, ?_⟩
        have ai := adj_at hc hd
        have ei : (adjL cols).take (i + 1) = (adjL cols).take i ++ [decide (c.cps.toList < d.cps.toList)] := by rw [List.take_add_one, ai]; rfl
        refine ⟨_, sT _ _ hDl3, small1000 (by simp; omega), fun b o hb => ?_, ?_⟩
        · rw [upd_ne (ne_of_none hb hD2)]
          exact sT _ _ (s3 _ _ hb)
        · rw [upd_same, ei, List.map_append]
          rfl
      · rintro H3 ⟨s3, hDl3⟩
        rw [List.take_of_length_le (by rw [List.length_map]; omega)] at hDl3
        refine ⟨D2, _, rfl, SqL.of hDl3, ?_⟩
        exact kall (s2.trans s3)
end
end Qk
set_option maxRecDepth 100000
set_option maxHeartbeats 4000000
namespace Qk
open PySem PySem.Spec PyProof.Rows L2
section
variable {P : Program} {w : World} {K : PySem.W.Frag} {mg : Str → Option Value} {base : Heap}
theorem str_mem {z : Str} {l : List Str} (h : V.str z ∈ l.map V.str) : z ∈ l := by
  obtain ⟨y, hy, e⟩ := List.mem_map.mp h
  injection e with e
  rw [← e]
  exact hy
/-- a value of any kind -/
def SpV (H : Hp) (x : V) : Prop := ∃ A d, D4 40 H A x d
theorem SpV.same {H H' : Hp} {x : V} (s : Same H H') (h : SpV H x) : SpV H' x := by
  obtain ⟨A, d, h⟩ := h
  exact ⟨A, d, D4.keep (fun c o e na => ⟨s c o e, na⟩) d x h⟩
theorem SpV.tx {H : Hp} {x : V} (h : SpV H x) : TxV K H x := by
  obtain ⟨A, d, h⟩ := h
  exact h.tx
theorem SpV.tu {H : Hp} {x : V} (h : SpV H x) : (∃ a xs, x = .ref a ∧ H a = some (.tup xs) ∧ xs.length ≤ 40 ∧ ∀ y ∈ xs, SpV H y) ∨ ((∀ a xs, x = .ref a → H a ≠ some (.tup xs)) ∧ ∃ t : String, TyX K H x (.type t) ∧ kitB t "tuple" = some false) := by
  obtain ⟨A, d, h⟩ := h
  have no : ∀ {a : Addr} {o : HO}, H a = some o → (∀ xs, o ≠ .tup xs) → ∀ a' xs, V.ref a = .ref a' → H a' ≠ some (.tup xs) := fun {a o} h1 h2 a' xs e h3 => by
    injection e with e
    subst e
    rw [h1] at h3
    injection h3 with h3
    exact h2 xs h3
  cases h with
  | non => exact .inr ⟨(fun a xs e => nomatch e), "NoneType", .base .non, by decide +kernel⟩
  | bl b => exact .inr ⟨(fun a xs e => nomatch e), "bool", .base (.bl b), by decide +kernel⟩
  | int i _ => exact .inr ⟨(fun a xs e => nomatch e), "int", .base (.int i), by decide +kernel⟩
  | str x _ => exact .inr ⟨(fun a xs e => nomatch e), "str", .base (.str x), by decide +kernel⟩
  | lst h1 _ _ _ _ => exact .inr ⟨no h1 fun xs e => (nomatch e), "list", .base (.lst h1), by decide +kernel⟩
  | tup h1 h2 h4 h5 =>
    refine .inl ⟨_, _, rfl, h1, h4, fun y hy => ?_⟩
    obtain ⟨d, _, hd⟩ := h5.all y hy
    exact ⟨A, d, hd⟩
  | dic0 h1 _ => exact .inr ⟨no h1 fun xs e => (nomatch e), "dict", .base (.dK h1), by decide +kernel⟩
  | dic1 h1 _ => exact .inr ⟨no h1 fun xs e => (nomatch e), "dict", .base (.dK h1), by decide +kernel⟩
  | dic2 h1 _ => exact .inr ⟨no h1 fun xs e => (nomatch e), "dict", .base (.dK h1), by decide +kernel⟩
theorem ColsV.same {H H' : Hp} {x : V} (s : Same H H') (h : ColsV H x) : ColsV H' x := by
  obtain ⟨t, cols, e, ht, h⟩ := h
  exact ⟨t, cols, e, s _ _ ht, h⟩
theorem ColsV.of {H : Hp} {a : Addr} {xs : List V} (ha : H a = some (.tup xs)) (h : ColsV H (.ref a)) : ∃ cols : List Str, xs = cols.map V.str ∧ (∀ c ∈ cols, colS c = true) ∧ cols.Nodup ∧ sortedS cols = true := by
  obtain ⟨t, cols, e, ht, h⟩ := h
  injection e with e
  subst e
  rw [ha] at ht
  injection ht with ht
  injection ht with ht
  exact ⟨cols, ht, h⟩
theorem strs_ok (K : PySem.W.Frag) {H : Hp} {cols : List Str} (h : ∀ y ∈ cols.map V.str, SpV H y) (hc : ∀ c ∈ cols, colS c = true) : ∀ c ∈ cols, PyData.strOk c = true := fun c m => by
  rcases (h (.str c) (List.mem_map_of_mem m)).tx (K := K) with ⟨z, e, f⟩ | ⟨ne, _⟩
  · injection e with e
    subst e
    exact (col_ok (hc c m) f).1
  · exact absurd rfl (ne c)
theorem all_strs {cols : List Str} : (cols.map V.str).all colV = true ↔ ∀ c ∈ cols, colS c = true := by
  rw [List.all_map, List.all_eq_true]
  exact Iff.rfl
def spCv : Sp := fun vs H Q _ => ∃ x, vs = [x] ∧ SpV H x ∧ ∀ (H' : Hp) (r : Bool), Same H H' → (r = true ↔ ColsV H x) → Q (.bl r) H'
abbrev nAC : List Str := ["thing", "one"]
theorem scAreCols : FnScope nAC ["thing"] (defScope sAreCols) := ⟨rfl, rfl, rfl, by decide +kernel, rfl, by decide +kernel, by decide +kernel⟩
theorem ok_arecolsA {f : Addr} {fd : FuncData} (F : Fun K "are_columns" "are_columns" sAreCols f fd) (T : Txt K mg) (cC : Cal P w K mg base 1 "is_column" ["thing"] (spTx K colS)) (cA : Cal P w K mg base 1 "is_ascending" ["things"] spAscA) : FnOk P w K mg base CX0 2 f fd ["thing"] spCv := by
  refine F.ok scAreCols (fun vs H Q E h => ?_) (fun cdv A outer s H vs Q E hr h => ?_)
  · obtain ⟨x, rfl, _⟩ := h
    rfl
  · obtain ⟨x, rfl, hx, k⟩ := h
    have nd := scAreCols.nd
    refine ⟨_, pss_cons (ps_if (PW.pt (pw_or (pt_not (pt_val (pe_callB call_isi (by rfl) T.isinstance (by decide +kernel) (pa_cons (pv 0) (pa_cons (pe_bltn (v := .ty "tuple") (by rfl) T.tuple (by decide +kernel) rfl) pa_nil)))))
        (pw_or1 (pt_not (pt_val (pe_callB (cr_all rfl) (by rfl) T.all (by decide +kernel) (pa_cons (pe_lc (own := [("one", 1)]) (g := gName 1) (tt := tYes) rfl nd (pi_tup (pv 0)) (blkOk_by (N := nAC) (sc := defScope sAreCols) (by decide +kernel))
          (fun _ _ _ _ _ => pg_name (i := 1) nd rfl (by first | exact Or.inl rfl | exact Or.inr rfl)) (fun _ _ _ _ _ => pts_nil) (fun _ _ _ _ _ => pe_call cC.G hr rfl cC.m cC.kp cC.b .nil pass0 (pa_cons (pv 1) pa_nil))) pa_nil))))))) (pss_one (ps_ret pe_bl)) pss_nil)
      (pss_one (ps_ret (pe_call cA.G hr rfl cA.m cA.kp cA.b .nil pass0 (pa_cons (pv 0) pa_nil)))), ?_⟩
    rcases hx.tu (K := K) with ⟨a, xs, rfl, ha, hl, hv⟩ | ⟨hne, t, ty, hk⟩
    · refine ⟨_, rfl, _, _, .type "tuple", .type "tuple", true, rfl, .ty "tuple", .base (.tup ha), kit_ty (by decide +kernel), _, rfl, ?_⟩
      refine iteF ?_
      refine ⟨_, rfl, a, rfl, ⟨_, SqT.of ha⟩, fun D hD => ?_⟩
      refine lc_tup (K := K) (a := a) (xs := xs) (fun i H' => Same H H' ∧ H' D = some (.lst (((xs.take i).map colV).map V.bl))) ⟨same_new hD, upd_same⟩ (fun i H' _ h => SqT.of (h.1 _ _ ha)) ?_ ?_
      · rintro i x H1 hx ⟨s1, hDl⟩
        have et : xs.take (i + 1) = xs.take i ++ [x] := by rw [List.take_add_one, hx]; rfl
        have hil : i < xs.length := (List.getElem?_eq_some_iff.mp hx).1
        refine ⟨rfl, Exists.intro _ ⟨rfl, x, rfl, ((hv x (List.mem_of_getElem? hx)).same s1).tx, fun H2 r s2 hr2 => ?_⟩⟩
        have er : r = colV x := by
          cases x with
          | str z => exact hr2.1 z rfl
          | _ => exact hr2.2 (fun z e => nomatch e)
        refine ⟨_, s2 _ _ hDl, small1000 (by simp; omega), fun b' o ho => ?_, ?_⟩
        · rw [upd_ne (ne_of_none ho hD)]
          exact s2 _ _ (s1 _ _ ho)
        · rw [upd_same, et, er]
          simp
      · rintro H1 ⟨s1, hDl⟩
        rw [List.take_of_length_le (Nat.le_refl _)] at hDl
        refine ⟨D, _, rfl, SqL.of hDl, _, rfl, ?_⟩
        have eall : (xs.map colV).all id = xs.all colV := by rw [List.all_map]; rfl
        rw [eall]
        cases hc : xs.all colV with
        | false =>
          refine iteT ?_
          refine k H1 false s1 ⟨fun h => (nomatch h), fun h => ?_⟩
          obtain ⟨cols, rfl, h1, _⟩ := ColsV.of ha h
          rw [all_strs.mpr h1] at hc
          cases hc
        | true =>
          refine iteF ?_
          obtain ⟨zs, rfl, hz⟩ := texts_of hc
          refine ⟨_, rfl, a, zs, rfl, s1 _ _ ha, by rw [List.length_map] at hl; exact hl, fun H2 r s2 hr2 => k H2 r (s1.trans s2) (hr2.trans ⟨fun h => ⟨a, zs, rfl, ha, hz, h⟩, fun h => ?_⟩)⟩
          obtain ⟨cols, e, _, h2⟩ := ColsV.of ha h
          have : zs = cols := by
            have inj : ∀ (l m : List Str), l.map V.str = m.map V.str → l = m := fun l => by
              induction l with
              | nil => intro m e; cases m with
                | nil => rfl
                | cons y m => cases e
              | cons x l ih => intro m e; cases m with
                | nil => cases e
                | cons y m =>
                  injection e with e1 e2
                  injection e1 with e1
                  rw [e1, ih m e2]
            exact inj _ _ e
          rw [this]
          exact h2
    · refine ⟨_, rfl, _, _, .type t, .type "tuple", false, rfl, .ty "tuple", ty, kit_ty hk, _, rfl, ?_⟩
      refine iteT ?_
      exact k H false (Same.refl _) ⟨fun h => (nomatch h), fun ⟨a, cols, e, h, _⟩ => absurd h (hne a _ e)⟩
def lastB (x : V) (zs : List Str) : Bool := match x with
  | .str z => decide (z = "") || (colS z && !decide (z ∈ zs))
  | _ => false
theorem lastB_not {x : V} {zs : List Str} (h : ∀ z, x ≠ .str z) : lastB x zs = false := by
  cases x with
  | str z => exact absurd rfl (h z)
  | _ => rfl
def spLastA (K : PySem.W.Frag) : Sp := fun vs H Q _ => ∃ (x : V) (t : Addr) (zs : List Str), vs = [x, .ref t] ∧ H t = some (.tup (zs.map V.str)) ∧ SpV H x ∧ ∀ H', Same H H' → Q (.bl (lastB x zs)) H'
theorem scIsLast : FnScope ["thing", "columns"] ["thing", "columns"] (defScope sIsLast) := ⟨rfl, rfl, rfl, by decide +kernel, rfl, by decide +kernel, by decide +kernel⟩
theorem ok_islastA {f : Addr} {fd : FuncData} (F : Fun K "is_last" "is_last" sIsLast f fd) (T : Txt K mg) (cC : Cal P w K mg base 1 "is_column" ["thing"] (spTx K colS)) (cE : Cal P w K mg base 1 "is_empty" ["thing"] (spTx K fun z => decide (z = ""))) :
    FnOk P w K mg base CX0 2 f fd ["thing", "columns"] (spLastA K) := by
  refine F.ok scIsLast (fun vs H Q E h => ?_) (fun cdv A outer s H vs Q E hr h => ?_)
  · obtain ⟨x, t, zs, rfl, _⟩ := h
    rfl
  · obtain ⟨x, t, zs, rfl, ht, hx, k⟩ := h
    refine ⟨_, pss_one (ps_ret (pe_or (pe_call cE.G hr rfl cE.m cE.kp cE.b .nil pass0 (pa_cons (pv 0) pa_nil)) (pe_one (pe_and (pe_call cC.G hr rfl cC.m cC.kp cC.b .nil pass0 (pa_cons (pv 0) pa_nil))
      (pe_one (pe_cmpR op_notIn_seq (pv 0) (pv 1) (by rfl))))))), ?_⟩
    refine ⟨_, rfl, x, rfl, hx.tx, fun H1 r s1 hr1 => ⟨_, rfl, ?_⟩⟩
    rcases hx.tx (K := K) with ⟨z, rfl, hz⟩ | ⟨hne, _⟩
    · have e1 := hr1.1 z rfl
      subst e1
      have kk : ∀ H', Same H H' → Q (.bl (decide (z = "") || (colS z && !decide (z ∈ zs)))) H' := k
      show if decide (z = "") = true then _ else _
      by_cases he : z = ""
      · rw [decide_eq_true he] at kk ⊢
        refine iteT ?_
        exact kk H1 s1
      · rw [decide_eq_false he] at kk ⊢
        refine iteF ?_
        refine ⟨_, rfl, _, rfl, (hx.same s1).tx, fun H2 r2 s2 hr2 => ⟨_, rfl, ?_⟩⟩
        have e2 := hr2.1 z rfl
        subst e2
        have s3 := s1.trans s2
        cases hc : colS z with
        | false =>
          refine iteF ?_
          have := kk H2 s3
          rw [hc] at this
          exact this
        | true =>
          refine iteT ?_
          refine ⟨_, rfl, _, rfl, t, _, rfl, .inr (SqT.of (s3 _ _ ht)), rfl, flat_strs _, ?_⟩
          have := kk H2 s3
          rw [hc] at this
          show Q (.bl (!inV (.str z) (zs.map V.str))) H2
          rw [inV_strs]
          exact this
    · have e1 := hr1.2 hne
      subst e1
      refine iteF ?_
      refine ⟨_, rfl, _, rfl, (hx.same s1).tx, fun H2 r2 s2 hr2 => ⟨_, rfl, ?_⟩⟩
      have e2 := hr2.2 hne
      subst e2
      refine iteF ?_
      have := k H2 (s1.trans s2)
      rw [lastB_not hne] at this
      exact this
/-- a question, whatever its columns are -/
structure QC (q : Qd) : Prop where
  col : ∀ c ∈ q.1, colS c = true
  nd : q.1.Nodup
  srt : sortedS q.1 = true
  last : q.2 = "" ∨ (colS q.2 = true ∧ q.2 ∉ q.1)
  some : q.2 = "" → q.1 ≠ []
def IsQv (H : Hp) (x : V) : Prop := ∃ t q, x = .ref t ∧ QAt H t q.1 q.2 ∧ QC q
def spQv : Sp := fun vs H Q _ => ∃ x, vs = [x] ∧ SpV H x ∧ ∀ (H' : Hp) (r : Bool), Same H H' → (r = true ↔ IsQv H x) → Q (.bl r) H'
theorem IsQv.of {H : Hp} {a : Addr} {xs : List V} (ha : H a = some (.tup xs)) (h : IsQv H (.ref a)) : ∃ c q, xs = [.ref c, .str q.2] ∧ H c = some (.tup (q.1.map V.str)) ∧ QC q := by
  obtain ⟨t, q, e, ⟨c, h1, h2⟩, hq⟩ := h
  injection e with e
  subst e
  rw [ha] at h1
  injection h1 with h1
  injection h1 with h1
  exact ⟨c, q, h1, h2, hq⟩
theorem lastB_iff {x : V} {zs : List Str} : lastB x zs = true ↔ ∃ z, x = .str z ∧ (z = "" ∨ (colS z = true ∧ z ∉ zs)) := by
  cases x with
  | str z =>
    show (decide (z = "") || (colS z && !decide (z ∈ zs))) = true ↔ _
    simp
  | _ => exact ⟨fun h => (nomatch h), fun ⟨z, e, _⟩ => (nomatch e)⟩
theorem scIsQ : FnScope ["thing", "columns", "last"] ["thing"] (defScope sIsQ) := ⟨rfl, rfl, rfl, by decide +kernel, rfl, by decide +kernel, by decide +kernel⟩
theorem ok_isqA {f : Addr} {fd : FuncData} (F : Fun K "is_question" "is_question" sIsQ f fd) (T : Txt K mg) (cA : Cal P w K mg base 2 "are_columns" ["thing"] spCv) (cL : Cal P w K mg base 2 "is_last" ["thing", "columns"] (spLastA K)) : FnOk P w K mg base CX0 3 f fd ["thing"] spQv := by
  refine F.ok scIsQ (fun vs H Q E h => ?_) (fun cdv A outer s H vs Q E hr h => ?_)
  · obtain ⟨x, rfl, _⟩ := h
    rfl
  · obtain ⟨x, rfl, hx, k⟩ := h
    have nd := scIsQ.nd
    refine ⟨_, pss_cons (ps_if (PW.pt (pw_or (pt_not (pt_val (pe_callB call_isi (by rfl) T.isinstance (by decide +kernel) (pa_cons (pv 0) (pa_cons (pe_bltn (v := .ty "tuple") (by rfl) T.tuple (by decide +kernel) rfl) pa_nil)))))
        (pw_or1 (pt_cmpR op_ne (pe_callB call_len_seq (by rfl) T.len PySem.boot_len (pa_cons (pv 0) pa_nil)) pe_int (nomark _))))) (pss_one (ps_ret pe_bl)) pss_nil)
      (pss_cons (ps_asg (pv 0) (pg_tup (by rfl) (pgs_cons (pg_name (i := 1) nd rfl (Or.inl rfl)) (pgs_cons (pg_name (i := 2) nd rfl (Or.inl rfl)) pgs_nil))))
      (pss_cons (ps_if (PW.pt (pw_or (pt_not (pt_val (pe_call cA.G hr rfl cA.m cA.kp cA.b .nil pass0 (pa_cons (pv 1) pa_nil))))
        (pw_or1 (pt_not (pt_val (pe_call cL.G hr rfl cL.m cL.kp cL.b .nil pass0 (pa_cons (pv 2) (pa_cons (pv 1) pa_nil)))))))) (pss_one (ps_ret pe_bl)) pss_nil)
      (pss_one (ps_ret (pe_or (pe_cmpR (op_neD hr.units) (pv 1) (pe_tup pa_nil) (nomark _)) (pe_one (pe_cmpR op_ne (pv 2) pe_str (nomark _)))))))), ?_⟩
    rcases hx.tu (K := K) with ⟨a, xs, rfl, ha, hl, hv⟩ | ⟨hne, t, ty, hk⟩
    · refine ⟨_, rfl, _, _, .type "tuple", .type "tuple", true, rfl, .ty "tuple", .base (.tup ha), kit_ty (by decide +kernel), _, rfl, ?_⟩
      refine iteF ?_
      refine ⟨_, rfl, _, _, rfl, .inr (SqT.of ha), rfl, _, rfl, ?_⟩
      show if (!decide (V.int (xs.length : Int) = V.int 2)) = true then _ else _
      by_cases h2 : xs.length = 2
      · rw [decide_eq_true (by rw [h2]; rfl)]
        refine iteF ?_
        match xs, h2, hv, ha with
        | [u, v], _, hv, ha =>
        have hu := hv u List.mem_cons_self
        have hvv := hv v (List.mem_cons_of_mem _ List.mem_cons_self)
        refine ⟨_, rfl, a, _, rfl, SqT.of ha, rfl, _, _, rfl, _, _, rfl, rfl, ?_⟩
        refine ⟨_, rfl, u, rfl, hu, fun H1 r s1 hr1 => ⟨_, rfl, ?_⟩⟩
        cases r with
        | false =>
          refine iteT ?_
          refine k H1 false s1 ⟨fun h => (nomatch h), fun h => ?_⟩
          obtain ⟨c, q, e, hc, hq⟩ := IsQv.of ha h
          injection e with e1 e2
          exact absurd (hr1.mpr ⟨c, q.1, e1, hc, hq.col, hq.nd, hq.srt⟩) (by decide)
        | true =>
          refine iteF ?_
          obtain ⟨c, cols, rfl, hc, h1, h3, h4⟩ := hr1.mp rfl
          have cok : ∀ c ∈ cols, PyData.strOk c = true := by
            rcases hu.tu (K := K) with ⟨c', xs', e, hc', _, hvs⟩ | ⟨hne, _⟩
            · injection e with e
              subst e
              rw [hc] at hc'
              injection hc' with hc'
              injection hc' with hc'
              subst hc'
              exact strs_ok K hvs h1
            · exact absurd hc (hne c _ rfl)
          refine ⟨_, rfl, _, rfl, v, c, cols, rfl, s1 _ _ hc, hvv.same s1, fun H2 s2 => ⟨_, rfl, ?_⟩⟩
          have s12 := s1.trans s2
          cases hlb : lastB v cols with
          | false =>
            refine iteT ?_
            refine k H2 false s12 ⟨fun h => (nomatch h), fun h => ?_⟩
            obtain ⟨c', q, e, hc', hq⟩ := IsQv.of ha h
            injection e with e1 e2
            injection e2 with e2 _
            injection e1 with e1
            subst e1
            rw [hc] at hc'
            injection hc' with hc'
            injection hc' with hc'
            have : lastB v cols = true := lastB_iff.mpr ⟨q.2, e2, hq.last.imp id fun ⟨g1, g2⟩ => ⟨g1, fun hm => g2 (str_mem (by rw [← hc']; exact List.mem_map_of_mem hm))⟩⟩
            rw [hlb] at this
            cases this
          | true =>
            refine iteF ?_
            obtain ⟨z, rfl, hz⟩ := lastB_iff.mp hlb
            refine ⟨_, rfl, by show 0 ≤ sizeLine; decide, fun e0 he0 => ?_⟩
            have s3 := same_new (o := .tup []) he0
            refine ⟨.tuple (cols.map PyData.str), .tuple (([] : List Str).map PyData.str), .tup (SqT.of (s3 _ _ (s12 _ _ hc))) (dp_strs _), .tup (SqT.of upd_same) (dp_strs []), shaped_tuple cok, shaped_tuple (fun c hc => nomatch hc), _, rfl, ?_⟩
            show if (!PyData.eqv (.tuple (cols.map PyData.str)) (.tuple (([] : List Str).map PyData.str))) = true then _ else _
            rw [PyData.eqv, eqv_strs]
            have sA := s12.trans s3
            by_cases hn : cols = []
            · rw [decide_eq_true hn]
              refine iteF ?_
              refine ⟨_, rfl, rfl, ?_⟩
              show Q (V.bl (!decide (V.str z = V.str ""))) _
              refine k _ _ sA ?_
              by_cases he : z = ""
              · rw [decide_eq_true (congrArg V.str he)]
                refine ⟨fun h => (nomatch h), fun h => ?_⟩
                obtain ⟨c', q, e, hc', hq⟩ := IsQv.of ha h
                injection e with e1 e2
                injection e2 with e2 _
                injection e2 with e2
                injection e1 with e1
                subst e1
                rw [hc] at hc'
                injection hc' with hc'
                injection hc' with hc'
                rw [hn] at hc'
                exact absurd (List.map_eq_nil_iff.mp hc'.symm) (hq.some (e2.symm.trans he))
              · rw [decide_eq_false (fun h => he (by injection h))]
                exact ⟨fun _ => ⟨a, (cols, z), rfl, ⟨c, ha, hc⟩, ⟨h1, h3, h4, hz, fun h => absurd h he⟩⟩, fun _ => rfl⟩
            · rw [decide_eq_false hn]
              refine iteT ?_
              exact k _ true sA ⟨fun _ => ⟨a, (cols, z), rfl, ⟨c, ha, hc⟩, ⟨h1, h3, h4, hz, fun _ => hn⟩⟩, fun _ => rfl⟩
      · rw [decide_eq_false (fun h => h2 (by injection h with h; omega))]
        refine iteT ?_
        refine k H false (Same.refl _) ⟨fun h => (nomatch h), fun h => ?_⟩
        obtain ⟨c, q, e, _⟩ := IsQv.of ha h
        rw [e] at h2
        exact absurd rfl h2
    · refine ⟨_, rfl, _, _, .type t, .type "tuple", false, rfl, .ty "tuple", ty, kit_ty hk, _, rfl, ?_⟩
      refine iteT ?_
      exact k H false (Same.refl _) ⟨fun h => (nomatch h), fun ⟨a, q, e, ⟨c, h, _⟩, _⟩ => absurd h (hne a _ e)⟩
end
end Qk
set_option maxRecDepth 100000
set_option maxHeartbeats 4000000
namespace Qk
open PySem PySem.Spec PyProof.Rows L2
section
variable {P : Program} {w : World} {K : PySem.W.Frag} {mg : Str → Option Value} {base : Heap}
theorem map_str_inj : ∀ {l m : List Str}, l.map V.str = m.map V.str → l = m
  | [], [], _ => rfl
  | [], _ :: _, e => nomatch e
  | _ :: _, [], e => nomatch e
  | x :: l, y :: m, e => by
    injection e with e1 e2
    injection e1 with e1
    rw [e1, map_str_inj e2]
/-- different columns in a tuple of any values -/
def DiffV (xs : List V) : Prop := ∃ cols : List Str, xs = cols.map V.str ∧ (∀ c ∈ cols, colS c = true) ∧ cols.Nodup
def spDiffA : Sp := fun vs H Q _ => ∃ (a : Addr) (xs : List V), vs = [.ref a] ∧ H a = some (.tup xs) ∧ xs.length ≤ 40 ∧ (∀ x ∈ xs, SpV H x) ∧ ∀ (H' : Hp) (r : Bool), Same H H' → (r = true ↔ DiffV xs) → Q (.bl r) H'
abbrev nAD : List Str := ["things", "thing"]
theorem scAreDiff : FnScope nAD ["things"] (defScope sAreDiff) := ⟨rfl, rfl, rfl, by decide +kernel, rfl, by decide +kernel, by decide +kernel⟩
theorem ok_arediffA {f : Addr} {fd : FuncData} (F : Fun K "are_different_columns" "are_different_columns" sAreDiff f fd) (T : Txt K mg) (cC : Cal P w K mg base 1 "is_column" ["thing"] (spTx K colS)) : FnOk P w K mg base CX0 2 f fd ["things"] spDiffA := by
  refine F.ok scAreDiff (fun vs H Q E h => ?_) (fun cdv A outer s H vs Q E hr h => ?_)
  · obtain ⟨a, xs, rfl, _⟩ := h
    rfl
  · obtain ⟨a, xs, rfl, ha, hl, hv, k⟩ := h
    have nd := scAreDiff.nd
    refine ⟨_, pss_one (ps_ret (pe_and (pe_callB (cr_all rfl) (by rfl) T.all (by decide +kernel) (pa_cons (pe_lc (own := [("thing", 1)]) (g := gName 1) (tt := tYes) rfl nd (pi_tup (pv 0)) (blkOk_by (N := nAD) (sc := defScope sAreDiff) (by decide +kernel))
          (fun _ _ _ _ _ => pg_name (i := 1) nd rfl (by first | exact Or.inl rfl | exact Or.inr rfl)) (fun _ _ _ _ _ => pts_nil) (fun _ _ _ _ _ => pe_call cC.G hr rfl cC.m cC.kp cC.b .nil pass0 (pa_cons (pv 1) pa_nil))) pa_nil))
        (pe_one (pe_cmpR op_eq (pe_callB (r := rLenX P w) cr_lenX (by rfl) T.len PySem.boot_len (pa_cons (pe_callTy (r := rSetY K P w) (cr_setY rfl) (by rfl) T.set (by decide +kernel) (pa_cons (pv 0) pa_nil)) pa_nil)) (pe_callB call_len_seq (by rfl) T.len PySem.boot_len (pa_cons (pv 0) pa_nil)) (nomark _))))), ?_⟩
    refine ⟨_, rfl, a, rfl, ⟨_, SqT.of ha⟩, fun D hD => ?_⟩
    refine lc_tup (K := K) (a := a) (xs := xs) (fun i H' => Same H H' ∧ H' D = some (.lst (((xs.take i).map colV).map V.bl))) ⟨same_new hD, upd_same⟩ (fun i H' _ h => SqT.of (h.1 _ _ ha)) ?_ ?_
    · rintro i x H1 hx ⟨s1, hDl⟩
      have et : xs.take (i + 1) = xs.take i ++ [x] := by rw [List.take_add_one, hx]; rfl
      have hil : i < xs.length := (List.getElem?_eq_some_iff.mp hx).1
      refine ⟨rfl, Exists.intro _ ⟨rfl, x, rfl, ((hv x (List.mem_of_getElem? hx)).same s1).tx, fun H2 r s2 hr2 => ?_⟩⟩
      have er : r = colV x := by
        cases x with
        | str z => exact hr2.1 z rfl
        | _ => exact hr2.2 (fun z e => nomatch e)
      refine ⟨_, s2 _ _ hDl, small1000 (by simp; omega), fun b' o ho => ?_, ?_⟩
      · rw [upd_ne (ne_of_none ho hD)]
        exact s2 _ _ (s1 _ _ ho)
      · rw [upd_same, et, er]
        simp
    · rintro H1 ⟨s1, hDl⟩
      rw [List.take_of_length_le (Nat.le_refl _)] at hDl
      refine ⟨D, _, rfl, SqL.of hDl, _, rfl, ?_⟩
      have eall : (xs.map colV).all id = xs.all colV := by rw [List.all_map]; rfl
      rw [eall]
      cases hc : xs.all colV with
      | false =>
        refine iteF ?_
        refine k H1 false s1 ⟨fun h => (nomatch h), fun ⟨cols, e, h1, _⟩ => ?_⟩
        rw [e, all_strs.mpr h1] at hc
        cases hc
      | true =>
        refine iteT ?_
        obtain ⟨zs, rfl, hz⟩ := texts_of hc
        have ht1 := s1 _ _ ha
        rw [List.length_map] at hl
        refine ⟨_, rfl, a, zs, rfl, SqT.of ht1, by omega, fun p n hp hn he => ⟨p, _, n, rfl, upd_same, ?_⟩⟩
        have s2 := same_new (o := SetX P w p (fun z => decide (z ∈ zs)) n) hp
        refine ⟨_, rfl, a, _, rfl, .inr (SqT.of (s2 _ _ ht1)), rfl, ?_⟩
        show Q (V.bl (decide (V.int (n : Int) = V.int ((zs.map V.str).length : Int)))) _
        refine k _ _ (s1.trans s2) ⟨fun h => ⟨zs, rfl, hz, ?_⟩, fun ⟨cols, e, _, h2⟩ => ?_⟩
        · have := of_decide_eq_true h
          injection this with this
          rw [List.length_map] at this
          exact he.mp (by omega)
        · have e' : zs = cols := map_str_inj e
          refine decide_eq_true ?_
          rw [he.mpr (e' ▸ h2), List.length_map]
theorem scIsIndex : FnScope ["thing"] ["thing"] (defScope sIsIndex) := ⟨rfl, rfl, rfl, by decide +kernel, rfl, by decide +kernel, by decide +kernel⟩
/-- an index, whatever its columns are -/
def IsIxV (H : Hp) (x : V) : Prop := ∃ t cols, x = .ref t ∧ H t = some (.tup (cols.map V.str)) ∧ (∀ c ∈ cols, colS c = true) ∧ cols.Nodup ∧ cols ≠ []
def spIxV : Sp := fun vs H Q _ => ∃ x, vs = [x] ∧ SpV H x ∧ ∀ (H' : Hp) (r : Bool), Same H H' → (r = true ↔ IsIxV H x) → Q (.bl r) H'
theorem ok_isindexA {f : Addr} {fd : FuncData} (F : Fun K "is_index" "is_index" sIsIndex f fd) (T : Txt K mg) (cD : Cal P w K mg base 2 "are_different_columns" ["things"] spDiffA) : FnOk P w K mg base CX0 3 f fd ["thing"] spIxV := by
  refine F.ok scIsIndex (fun vs H Q E h => ?_) (fun cdv A outer s H vs Q E hr h => ?_)
  · obtain ⟨x, rfl, _⟩ := h
    rfl
  · obtain ⟨x, rfl, hx, k⟩ := h
    have nd := scIsIndex.nd
    refine ⟨_, pss_one (ps_ret (pe_and (pe_callB call_isi (by rfl) T.isinstance (by decide +kernel) (pa_cons (pv 0) (pa_cons (pe_bltn (v := .ty "tuple") (by rfl) T.tuple (by decide +kernel) rfl) pa_nil)))
      (pe_and (pe_cmpR op_gt (pe_callB call_len_seq (by rfl) T.len PySem.boot_len (pa_cons (pv 0) pa_nil)) pe_int (nomark _)) (pe_one (pe_call cD.G hr rfl cD.m cD.kp cD.b .nil pass0 (pa_cons (pv 0) pa_nil)))))), ?_⟩
    rcases hx.tu (K := K) with ⟨a, xs, rfl, ha, hl, hv⟩ | ⟨hne, t, ty, hk⟩
    · have inv : IsIxV H (.ref a) ↔ xs ≠ [] ∧ DiffV xs := by
        constructor
        · rintro ⟨t, cols, e, ht, h1, h2, h3⟩
          injection e with e
          subst e
          rw [ha] at ht
          injection ht with ht
          injection ht with ht
          exact ⟨fun e => h3 (List.map_eq_nil_iff.mp (ht ▸ e)), cols, ht, h1, h2⟩
        · rintro ⟨h0, cols, e, h1, h2⟩
          exact ⟨a, cols, rfl, e ▸ ha, h1, h2, fun e' => h0 (by rw [e, e']; rfl)⟩
      refine ⟨_, rfl, _, _, .type "tuple", .type "tuple", true, rfl, .ty "tuple", .base (.tup ha), kit_ty (by decide +kernel), _, rfl, ?_⟩
      refine iteT ?_
      refine ⟨_, rfl, _, _, rfl, .inr (SqT.of ha), _, _, rfl, rfl, _, rfl, ?_⟩
      by_cases h0 : xs = []
      · rw [decide_eq_false (by rw [h0]; decide)]
        refine iteF ?_
        exact k H false (Same.refl _) ⟨fun h => (nomatch h), fun h => absurd h0 (inv.mp h).1⟩
      · rw [decide_eq_true (by have := List.length_pos_iff.mpr h0; omega)]
        refine iteT ?_
        exact ⟨_, rfl, a, xs, rfl, ha, hl, hv, fun H' r s hr => k H' r s (hr.trans ⟨fun h => inv.mpr ⟨h0, h⟩, fun h => (inv.mp h).2⟩)⟩
    · refine ⟨_, rfl, _, _, .type t, .type "tuple", false, rfl, .ty "tuple", ty, kit_ty hk, _, rfl, ?_⟩
      refine iteF ?_
      exact k H false (Same.refl _) ⟨fun h => (nomatch h), fun ⟨a, cols, e, h, _⟩ => absurd h (hne a _ e)⟩
/-- a value that is a whole number, a truth, or neither -/
def IntV (K : PySem.W.Frag) (H : Hp) (x : V) : Prop := (∃ i, x = .int i) ∨ (∃ b, x = .bl b) ∨ ((∀ i, x ≠ .int i) ∧ ∃ tv, TyX K H x tv ∧ PySem.W.kitOne K tv (.type "int") = some false)
/-- the whole number that a value is -/
def wholeV : V → Option Int
  | .int i => some i
  | _ => none
theorem wholeV_none {x : V} (h : ∀ i, x ≠ .int i) : wholeV x = none := by
  cases x <;> first | rfl | exact absurd rfl (h _)
theorem SpV.iv {H : Hp} {x : V} (h : SpV H x) : IntV K H x := by
  obtain ⟨A, d, h⟩ := h
  cases h with
  | non => exact .inr (.inr ⟨fun i e => (nomatch e), _, .base .non, kit_ty (by decide +kernel)⟩)
  | bl b => exact .inr (.inl ⟨b, rfl⟩)
  | int i _ => exact .inl ⟨i, rfl⟩
  | str z _ => exact .inr (.inr ⟨fun i e => (nomatch e), _, .base (.str z), kit_ty (by decide +kernel)⟩)
  | lst h1 _ _ _ _ => exact .inr (.inr ⟨fun i e => (nomatch e), _, .base (.lst h1), kit_ty (by decide +kernel)⟩)
  | tup h1 _ _ _ => exact .inr (.inr ⟨fun i e => (nomatch e), _, .base (.tup h1), kit_ty (by decide +kernel)⟩)
  | dic0 h1 _ => exact .inr (.inr ⟨fun i e => (nomatch e), _, .base (.dK h1), kit_ty (by decide +kernel)⟩)
  | dic1 h1 _ => exact .inr (.inr ⟨fun i e => (nomatch e), _, .base (.dK h1), kit_ty (by decide +kernel)⟩)
  | dic2 h1 _ => exact .inr (.inr ⟨fun i e => (nomatch e), _, .base (.dK h1), kit_ty (by decide +kernel)⟩)
theorem scIsInt : FnScope ["thing"] ["thing"] (defScope sIsInt) := ⟨rfl, rfl, rfl, by decide +kernel, rfl, by decide +kernel, by decide +kernel⟩
def spIsIntV (K : PySem.W.Frag) : Sp := fun vs H Q _ => ∃ x : V, vs = [x] ∧ IntV K H x ∧ Q (.bl (wholeV x).isSome) H
theorem ok_isint {f : Addr} {fd : FuncData} (F : Fun K "is_integer" "is_integer" sIsInt f fd) (T : Txt K mg) : FnOk P w K mg base CX0 1 f fd ["thing"] (spIsIntV K) := by
  refine F.ok scIsInt (fun vs H Q E h => ?_) (fun cdv A outer s H vs Q E hr h => ?_)
  · obtain ⟨i, rfl, _⟩ := h
    rfl
  · obtain ⟨x, rfl, hx, k⟩ := h
    refine ⟨_, pss_one (ps_ret (pe_and (pe_callB (r := rIsi K) call_isi (by rfl) T.isinstance (by decide +kernel) (pa_cons (pv 0) (pa_cons (pe_bltn (v := .ty "int") (by rfl) T.int (by decide +kernel) rfl) pa_nil))) (pe_one (pe_not (pe_callB (r := rIsi K) call_isi (by rfl) T.isinstance (by decide +kernel) (pa_cons (pv 0) (pa_cons (pe_bltn (v := .ty "bool") (by rfl) T.bool (by decide +kernel) rfl) pa_nil))))))), ?_⟩
    rcases hx with ⟨i, rfl⟩ | ⟨b, rfl⟩ | ⟨hne, tv, ty, kt⟩
    · refine ⟨_, rfl, .int i, .ty "int", .type "int", .type "int", true, rfl, .ty _, .base (.int i), rfl, _, rfl, ?_⟩
      refine iteT ?_
      refine ⟨_, rfl, .int i, .ty "bool", .type "int", .type "bool", false, rfl, .ty _, .base (.int i), rfl, ?_⟩
      exact ⟨_, rfl, k⟩
    · refine ⟨_, rfl, .bl b, .ty "int", .type "bool", .type "int", true, rfl, .ty _, .base (.bl b), kit_ty (by decide +kernel), _, rfl, ?_⟩
      refine iteT ?_
      refine ⟨_, rfl, .bl b, .ty "bool", .type "bool", .type "bool", true, rfl, .ty _, .base (.bl b), kit_ty (by decide +kernel), ?_⟩
      exact ⟨_, rfl, k⟩
    · refine ⟨_, rfl, x, .ty "int", tv, .type "int", false, rfl, .ty _, ty, kt, _, rfl, ?_⟩
      refine iteF ?_
      rw [wholeV_none hne] at k
      exact k
/-- a whole number within the bounds -/
def wtV (x : V) : Bool := match wholeV x with
  | some i => decide (1 ≤ i ∧ i ≤ 10 ^ 30)
  | none => false
def spWt (K : PySem.W.Frag) : Sp := fun vs H Q _ => ∃ x : V, vs = [x] ∧ IntV K H x ∧ Q (.bl (wtV x)) H
theorem scIsWeight : FnScope ["thing"] ["thing"] (defScope sIsWeight) := ⟨rfl, rfl, rfl, by decide +kernel, rfl, by decide +kernel, by decide +kernel⟩
theorem ok_isweight {f : Addr} {fd : FuncData} (F : Fun K "is_weight" "is_weight" sIsWeight f fd) (T : Txt K mg) (cI : Cal P w K mg base 1 "is_integer" ["thing"] (spIsIntV K)) : FnOk P w K mg base CX0 2 f fd ["thing"] (spWt K) := by
  refine F.ok scIsWeight (fun vs H Q E h => ?_) (fun cdv A outer s H vs Q E hr h => ?_)
  · obtain ⟨x, rfl, _⟩ := h
    rfl
  · obtain ⟨x, rfl, hx, k⟩ := h
    obtain ⟨tg, hg⟩ := T.great
    refine ⟨_, pss_one (ps_ret (pe_and (pe_call cI.G hr rfl cI.m cI.kp cI.b .nil pass0 (pa_cons (pv 0) pa_nil)) (pe_one (pe_chain op_le op_le pe_int (pv 0) (pe_glob (v := .int (10 ^ 30)) rfl hg ⟨tg, rfl⟩))))), ?_⟩
    refine ⟨_, rfl, x, rfl, hx, _, rfl, ?_⟩
    have hc : (∃ i, x = .int i) ∨ wholeV x = none := by
      cases x <;> first | exact .inl ⟨_, rfl⟩ | exact .inr rfl
    rcases hc with ⟨i, rfl⟩ | hn
    · refine iteT ?_
      refine ⟨_, rfl, 1, i, rfl, rfl, _, rfl, ?_⟩
      have e : wtV (.int i) = decide (1 ≤ i ∧ i ≤ 10 ^ 30) := rfl
      rw [e] at k
      by_cases h0 : 1 ≤ i
      · rw [decide_eq_true h0]
        refine iteT ?_
        refine ⟨i, 10 ^ 30, rfl, rfl, ?_⟩
        have e2 : decide (1 ≤ i ∧ i ≤ 10 ^ 30) = decide (i ≤ 10 ^ 30) := decide_eq_decide.mpr ⟨fun h => h.2, fun h => ⟨h0, h⟩⟩
        rw [e2] at k
        exact k
      · rw [decide_eq_false h0]
        refine iteF ?_
        rw [decide_eq_false fun h => h0 h.1] at k
        exact k
    · have e2 : (wholeV x).isSome = false := by rw [hn]; rfl
      have e3 : wtV x = false := by unfold wtV; rw [hn]
      rw [e3] at k
      show if (wholeV x).isSome = true then _ else _
      rw [e2]
      refine iteF ?_
      exact k
end
end Qk
set_option maxRecDepth 100000
set_option maxHeartbeats 4000000
namespace Qk
open PySem PySem.Spec PyProof.Rows L2
section
variable {P : Program} {w : World} {K : PySem.W.Frag} {mg : Str → Option Value} {base : Heap}
theorem scIsName : FnScope ["_law_thing_here", "_law_letter"] ["_law_thing_here"] (defScope sIsName) := ⟨rfl, rfl, rfl, by decide +kernel, rfl, by decide +kernel, by decide +kernel⟩
theorem abc_mem (c : Nat) : decide (c ∈ ("abcdefghijklmnopqrstuvwxyz" : Str).cps.toList) = (decide (97 ≤ c) && decide (c ≤ 122)) := by
  have e : ("abcdefghijklmnopqrstuvwxyz" : Str).cps.toList = (List.range 26).map (· + 97) := by decide +kernel
  rw [e, Bool.eq_iff_iff]
  simp only [decide_eq_true_eq, List.mem_map, List.mem_range, Bool.and_eq_true]
  constructor
  · rintro ⟨a, h1, h2⟩
    omega
  · intro h
    exact ⟨c - 97, by omega, by omega⟩
theorem ok_isname {f : Addr} {fd : FuncData} (F : Fun K "_law_is_name" "_law_is_name" sIsName f fd) (T : Txt K mg) : FnOk P w K mg base CX0 1 f fd ["_law_thing_here"] (spTx K colS) := by
  refine F.ok scIsName (fun vs H Q E h => ?_) (fun cdv A outer s H vs Q E hr h => ?_)
  · obtain ⟨x, rfl, _⟩ := h
    rfl
  · obtain ⟨x, rfl, hx, k0⟩ := h
    have nd := scIsName.nd
    refine ⟨_, pss_cons (ps_if (PW.pt (pw_or (pt_not (pt_val (pe_callB call_isi (by rfl) T.isinstance (by decide +kernel) (pa_cons (pv 0) (pa_cons (pe_bltn (v := .ty "str") (by rfl) T.str (by decide +kernel) rfl) pa_nil)))))
        (pw_or1 (pt_not (pt_chain op_lt op_lt pe_int (pe_callB call_len_str (by rfl) T.len PySem.boot_len (pa_cons (pv 0) pa_nil)) pe_int))))) (pss_one (ps_ret pe_bl)) pss_nil)
      (pss_one (ps_ret (pe_cmpR (op_eqD hr.units) (pe_lc (own := [("_law_letter", 1)]) (g := gName 1) rfl nd (pi_str (pv 0)) (blkOk_by (N := ["_law_thing_here", "_law_letter"]) (sc := defScope sIsName) (by decide +kernel))
        (fun _ _ _ _ _ => pg_name (i := 1) nd rfl (Or.inl rfl)) (fun _ _ _ _ _ => pts_one (pt_cmpR op_notIn_sign (pv 1) pe_str (by rfl))) (fun _ _ _ _ _ => pv 1)) (pe_lst pa_nil) (nomark _)))), ?_⟩
    rcases hx with ⟨z, rfl, hz, hok0⟩ | ⟨hne, t, ty, hk⟩
    · refine ⟨_, rfl, _, _, .type "str", .type "str", true, rfl, .ty "str", .base (.str z), kit_ty (by decide +kernel), _, rfl, ?_⟩
      refine iteF ?_
      have hlen : z.length = z.cps.size := rfl
      have kk : ∀ H', Same H H' → Q (.bl (colS z)) H' := fun H' s' => k0 H' _ s' ⟨fun y e => by injection e with e; rw [e], fun h => absurd rfl (h z)⟩
      unfold colS at kk
      refine ⟨_, rfl, z, rfl, by rw [hlen, sizeLine_eq]; omega, 0, _, rfl, rfl, _, rfl, ?_⟩
      rw [hlen]
      by_cases c1 : 1 ≤ z.cps.size
      · have d1 : decide ((0 : Int) < (z.cps.size : Int)) = true := decide_eq_true (by omega)
        rw [d1]
        refine iteT ?_
        refine ⟨_, 9, rfl, rfl, _, rfl, ?_⟩
        by_cases c2 : z.cps.size ≤ 8
        · have d2 : decide ((z.cps.size : Int) < 9) = true := decide_eq_true (by omega)
          rw [d2]
          refine iteF ?_
          rw [decide_eq_true c1, decide_eq_true c2] at kk
          have hok := hok0 c2
          refine ⟨_, rfl, z, rfl, fun D hD => ?_⟩
          have ltr : ∀ (l : List Nat), (l.map fun c => (⟨#[c]⟩ : Str)).map V.str = l.map fun c => V.str ⟨#[c]⟩ := fun l => by rw [List.map_map]; rfl
          refine lc_it (walk_str (z := z)) (fun i H' => Same H H' ∧ H' D = some (.lst (((((z.cps.toList.take i).filter fun c => !(decide (97 ≤ c) && decide (c ≤ 122))).map fun c => (⟨#[c]⟩ : Str))).map V.str))) ⟨same_new hD, upd_same⟩ (fun _ _ _ _ => True.intro) ?_ ?_
          · rintro i x H1 H2 hi ⟨s1, hDl⟩ ⟨rfl, c, hc, rfl⟩
            have et : z.cps.toList.take (i + 1) = z.cps.toList.take i ++ [c] := by rw [List.take_add_one, Array.getElem?_toList, hc]; rfl
            refine ⟨rfl, ?_⟩
            refine ⟨_, rfl, c, _, rfl, rfl, _, rfl, ?_⟩
            rw [abc_mem]
            by_cases q : (decide (97 ≤ c) && decide (c ≤ 122)) = true
            · rw [q]
              refine iteF ?_
              refine ⟨s1, ?_⟩
              have e7 : ([c].filter fun c => !(decide (97 ≤ c) && decide (c ≤ 122))) = [] := by
                rw [List.filter_cons, List.filter_nil, q]
                rfl
              rw [hDl, et, List.filter_append, e7, List.append_nil]
            · have qf : (decide (97 ≤ c) && decide (c ≤ 122)) = false := by simpa using q
              rw [qf]
              refine iteT ?_
              refine ⟨_, rfl, _, hDl, small1000 ?_, fun b' o ho => ?_, ?_⟩
              · have := List.length_filter_le (fun c => !(decide (97 ≤ c) && decide (c ≤ 122))) (z.cps.toList.take i)
                rw [List.length_take] at this
                rw [List.length_map, List.length_map]
                omega
              · rw [upd_ne (ne_of_none ho hD)]
                exact s1 _ _ ho
              · have e7 : ([c].filter fun c => !(decide (97 ≤ c) && decide (c ≤ 122))) = [c] := by
                  rw [List.filter_cons, List.filter_nil, qf]
                  rfl
                rw [upd_same, et, List.filter_append, e7, List.map_append, List.map_append]
                rfl
          · rintro H1 ⟨s1, hDl⟩
            rw [List.take_of_length_le (by rw [Array.length_toList]; exact Nat.le_refl _)] at hDl
            refine ⟨by show 0 ≤ sizeLine; decide, fun p hp => ?_⟩
            have oks : ∀ y ∈ ((z.cps.toList.filter fun c => !(decide (97 ≤ c) && decide (c ≤ 122))).map fun c => (⟨#[c]⟩ : Str)), PyData.strOk y = true := fun y hy => by
              obtain ⟨c, hc, rfl⟩ := List.mem_map.mp hy
              have hc2 := (List.mem_filter.mp hc).1
              unfold PyData.strOk at hok ⊢
              rw [← Array.all_toList, List.all_eq_true] at hok
              simpa using hok c hc2
            refine ⟨.list (((z.cps.toList.filter fun c => !(decide (97 ≤ c) && decide (c ≤ 122))).map fun c => (⟨#[c]⟩ : Str)).map PyData.str), .list (([] : List Str).map PyData.str), .lst (SqL.of (same_new hp _ _ hDl)) (dp_strs _), .lst (SqL.of upd_same) (dp_strs []), shaped_list oks, shaped_list (fun c hc => by cases hc), ?_⟩
            rw [PyData.eqv, eqv_strs]
            have e5 : decide (((z.cps.toList.filter fun c => !(decide (97 ≤ c) && decide (c ≤ 122))).map fun c => (⟨#[c]⟩ : Str)) = []) = z.cps.toList.all fun c => decide (97 ≤ c) && decide (c ≤ 122) := by
              rw [Bool.eq_iff_iff, decide_eq_true_eq, List.map_eq_nil_iff, List.filter_eq_nil_iff, List.all_eq_true]
              exact ⟨fun h c hc => by simpa using h c hc, fun h c hc => by simpa using h c hc⟩
            rw [e5]
            have := kk _ (s1.trans (same_new (o := .lst []) hp))
            exact this
        · have d2 : decide ((z.cps.size : Int) < 9) = false := decide_eq_false (by omega)
          rw [d2]
          refine iteT ?_
          have := kk H (Same.refl _)
          rw [decide_eq_false c2, Bool.and_false, Bool.false_and] at this
          exact this
      · have d1 : decide ((0 : Int) < (z.cps.size : Int)) = false := decide_eq_false (by omega)
        rw [d1]
        refine iteF ?_
        refine ⟨_, rfl, ?_⟩
        refine iteT ?_
        have := kk H (Same.refl _)
        rw [decide_eq_false c1, Bool.false_and, Bool.false_and] at this
        exact this
    · refine ⟨_, rfl, _, _, .type t, .type "str", false, rfl, .ty "str", ty, kit_ty hk, _, rfl, ?_⟩
      refine iteT ?_
      exact k0 H false (Same.refl _) ⟨fun z e => absurd e (hne z), fun _ => rfl⟩
theorem scWhole : FnScope ["_law_thing_here"] ["_law_thing_here"] (defScope sWhole) := ⟨rfl, rfl, rfl, by decide +kernel, rfl, by decide +kernel, by decide +kernel⟩
theorem ok_whole {f : Addr} {fd : FuncData} (F : Fun K "_law_is_whole" "_law_is_whole" sWhole f fd) (T : Txt K mg) : FnOk P w K mg base CX0 1 f fd ["_law_thing_here"] (spIsIntV K) := by
  refine F.ok scWhole (fun vs H Q E h => ?_) (fun cdv A outer s H vs Q E hr h => ?_)
  · obtain ⟨i, rfl, _⟩ := h
    rfl
  · obtain ⟨x, rfl, hx, k⟩ := h
    refine ⟨_, pss_one (ps_ret (pe_and (pe_callB (r := rIsi K) call_isi (by rfl) T.isinstance (by decide +kernel) (pa_cons (pv 0) (pa_cons (pe_bltn (v := .ty "int") (by rfl) T.int (by decide +kernel) rfl) pa_nil))) (pe_one (pe_not (pe_callB (r := rIsi K) call_isi (by rfl) T.isinstance (by decide +kernel) (pa_cons (pv 0) (pa_cons (pe_bltn (v := .ty "bool") (by rfl) T.bool (by decide +kernel) rfl) pa_nil))))))), ?_⟩
    rcases hx with ⟨i, rfl⟩ | ⟨b, rfl⟩ | ⟨hne, tv, ty, kt⟩
    · refine ⟨_, rfl, .int i, .ty "int", .type "int", .type "int", true, rfl, .ty _, .base (.int i), rfl, _, rfl, ?_⟩
      refine iteT ?_
      refine ⟨_, rfl, .int i, .ty "bool", .type "int", .type "bool", false, rfl, .ty _, .base (.int i), rfl, ?_⟩
      exact ⟨_, rfl, k⟩
    · refine ⟨_, rfl, .bl b, .ty "int", .type "bool", .type "int", true, rfl, .ty _, .base (.bl b), kit_ty (by decide +kernel), _, rfl, ?_⟩
      refine iteT ?_
      refine ⟨_, rfl, .bl b, .ty "bool", .type "bool", .type "bool", true, rfl, .ty _, .base (.bl b), kit_ty (by decide +kernel), ?_⟩
      exact ⟨_, rfl, k⟩
    · refine ⟨_, rfl, x, .ty "int", tv, .type "int", false, rfl, .ty _, ty, kt, _, rfl, ?_⟩
      refine iteF ?_
      rw [wholeV_none hne] at k
      exact k
theorem filt_nil {xs : List V} : xs.filter (fun x => !colV x) = [] ↔ xs.all colV = true := by
  rw [List.filter_eq_nil_iff, List.all_eq_true]
  constructor
  · intro h x hx
    have := h x hx
    cases hc : colV x with
    | true => rfl
    | false => rw [hc] at this; exact absurd rfl this
  · intro h x hx
    rw [h x hx]
    decide
/-- different names in a tuple -/
def NmV (H : Hp) (x : V) : Prop := ∃ (t : Addr) (cols : List Str), x = .ref t ∧ H t = some (.tup (cols.map V.str)) ∧ (∀ c ∈ cols, colS c = true) ∧ cols.Nodup
def spNmV : Sp := fun vs H Q _ => ∃ x, vs = [x] ∧ SpV H x ∧ ∀ (H' : Hp) (r : Bool), Same H H' → (r = true ↔ NmV H x) → Q (.bl r) H'
abbrev nAN : List Str := ["_law_thing_here", "_law_part"]
theorem scAreNames : FnScope nAN ["_law_thing_here"] (defScope sAreNames) := ⟨rfl, rfl, rfl, by decide +kernel, rfl, by decide +kernel, by decide +kernel⟩
theorem ok_arenames {f : Addr} {fd : FuncData} (F : Fun K "_law_are_names" "_law_are_names" sAreNames f fd) (T : Txt K mg) (cC : Cal P w K mg base 1 "_law_is_name" ["_law_thing_here"] (spTx K colS)) : FnOk P w K mg base CX0 2 f fd ["_law_thing_here"] spNmV := by
  refine F.ok scAreNames (fun vs H Q E h => ?_) (fun cdv A outer s H vs Q E hr h => ?_)
  · obtain ⟨x, rfl, _⟩ := h
    rfl
  · obtain ⟨x, rfl, hx, k⟩ := h
    have nd := scAreNames.nd
    have hu64 : A.units + 3 + 64 < cLine := by
      have := hr.un
      have e : (A.deeper (envOfC "_law_are_names" (defScope sAreNames) s.heap.objs.size f cdv)).units = A.units + 3 := rfl
      omega
    refine ⟨_, pss_cons (ps_if (PW.pt (pw_or (pt_not (pt_val (pe_callB call_isi (by rfl) T.isinstance (by decide +kernel) (pa_cons (pv 0) (pa_cons (pe_bltn (v := .ty "tuple") (by rfl) T.tuple (by decide +kernel) rfl) pa_nil)))))
        (pw_or1 (pt_cmpR (op_neNil hu64) (pe_lc (own := [("_law_part", 1)]) (g := gName 1) rfl nd (pi_tup (pv 0)) (blkOk_by (N := nAN) (sc := defScope sAreNames) (by decide +kernel))
          (fun _ _ _ _ _ => pg_name (i := 1) nd rfl (by first | exact Or.inl rfl | exact Or.inr rfl)) (fun _ _ _ _ _ => pts_one (pt_not (pt_val (pe_call cC.G hr rfl cC.m cC.kp cC.b .nil pass0 (pa_cons (pv 1) pa_nil))))) (fun _ _ _ _ _ => pv 1)) (pe_lst pa_nil) (nomark _))))) (pss_one (ps_ret pe_bl)) pss_nil)
      (pss_one (ps_ret (pe_cmpR op_eq (pe_callB (r := rLenX P w) cr_lenX (by rfl) T.len PySem.boot_len (pa_cons (pe_callTy (r := rSetY K P w) (cr_setY rfl) (by rfl) T.set (by decide +kernel) (pa_cons (pv 0) pa_nil)) pa_nil)) (pe_callB call_len_seq (by rfl) T.len PySem.boot_len (pa_cons (pv 0) pa_nil)) (nomark _)))), ?_⟩
    rcases hx.tu (K := K) with ⟨a, xs, rfl, ha, hl, hv⟩ | ⟨hne, t, ty, hk⟩
    · have inv : NmV H (.ref a) ↔ DiffV xs := by
        constructor
        · rintro ⟨t, cols, e, ht, h1, h2⟩
          injection e with e
          subst e
          rw [ha] at ht
          injection ht with ht
          injection ht with ht
          exact ⟨cols, ht, h1, h2⟩
        · rintro ⟨cols, e, h1, h2⟩
          exact ⟨a, cols, rfl, e ▸ ha, h1, h2⟩
      refine ⟨_, rfl, _, _, .type "tuple", .type "tuple", true, rfl, .ty "tuple", .base (.tup ha), kit_ty (by decide +kernel), _, rfl, ?_⟩
      refine iteF ?_
      refine ⟨_, rfl, a, rfl, ⟨_, SqT.of ha⟩, fun D hD => ?_⟩
      refine lc_tup (K := K) (a := a) (xs := xs) (fun i H' => Same H H' ∧ H' D = some (.lst ((xs.take i).filter fun x => !colV x))) ⟨same_new hD, upd_same⟩ (fun i H' _ h => SqT.of (h.1 _ _ ha)) ?_ ?_
      · rintro i x H1 hx ⟨s1, hDl⟩
        have et : xs.take (i + 1) = xs.take i ++ [x] := by rw [List.take_add_one, hx]; rfl
        have hil : i < xs.length := (List.getElem?_eq_some_iff.mp hx).1
        refine ⟨rfl, Exists.intro _ ⟨rfl, x, rfl, ((hv x (List.mem_of_getElem? hx)).same s1).tx, fun H2 r s2 hr2 => ⟨_, rfl, ?_⟩⟩⟩
        have er : r = colV x := by
          cases x with
          | str z => exact hr2.1 z rfl
          | _ => exact hr2.2 (fun z e => nomatch e)
        subst er
        rw [et, List.filter_append]
        cases hc : colV x with
        | true =>
          refine iteF ?_
          have e7 : [x].filter (fun x => !colV x) = [] := by rw [List.filter_cons, hc]; rfl
          rw [e7, List.append_nil]
          exact ⟨s1.trans s2, s2 _ _ hDl⟩
        | false =>
          refine iteT ?_
          have e7 : [x].filter (fun x => !colV x) = [x] := by rw [List.filter_cons, hc]; rfl
          rw [e7]
          refine ⟨_, rfl, _, s2 _ _ hDl, small1000 ?_, fun b' o ho => ?_, upd_same⟩
          · have := List.length_filter_le (fun x => !colV x) (xs.take i)
            rw [List.length_take] at this
            omega
          · rw [upd_ne (ne_of_none ho hD)]
            exact s2 _ _ (s1 _ _ ho)
      · rintro H1 ⟨s1, hDl⟩
        rw [List.take_of_length_le (Nat.le_refl _)] at hDl
        refine ⟨by decide, fun p hp => ?_⟩
        have s2 := same_new (o := .lst []) hp
        refine ⟨D, p, _, rfl, rfl, SqL.of (s2 _ _ hDl), SqL.of upd_same, _, rfl, ?_⟩
        by_cases hf : xs.filter (fun x => !colV x) = []
        · rw [decide_eq_true hf]
          refine iteF ?_
          obtain ⟨cols, rfl, hz⟩ := texts_of (filt_nil.mp hf)
          have s12 := s1.trans s2
          rw [List.length_map] at hl
          have ht1 := s12 _ _ ha
          refine ⟨_, rfl, a, cols, rfl, SqT.of ht1, by omega, fun p n hp hn he => ⟨p, _, n, rfl, upd_same, ?_⟩⟩
          have s3 := same_new (o := SetX P w p (fun z => decide (z ∈ cols)) n) hp
          refine ⟨_, rfl, a, _, rfl, .inr (SqT.of (s3 _ _ ht1)), rfl, ?_⟩
          show Q (V.bl (decide (V.int (n : Int) = V.int ((cols.map V.str).length : Int)))) _
          refine k _ _ (s12.trans s3) (Iff.trans ⟨fun h => ⟨cols, rfl, hz, ?_⟩, fun ⟨cols', e, _, h2⟩ => ?_⟩ inv.symm)
          · have := of_decide_eq_true h
            injection this with this
            rw [List.length_map] at this
            exact he.mp (by omega)
          · have e' : cols = cols' := map_str_inj e
            refine decide_eq_true ?_
            rw [he.mpr (e' ▸ h2), List.length_map]
        · rw [decide_eq_false hf]
          refine iteT ?_
          refine k _ false (s1.trans s2) ⟨fun h => (nomatch h), fun h => ?_⟩
          obtain ⟨cols, e, h1, _⟩ := inv.mp h
          rw [e] at hf
          exact absurd (filt_nil.mpr (all_strs.mpr h1)) hf
    · refine ⟨_, rfl, _, _, .type t, .type "tuple", false, rfl, .ty "tuple", ty, kit_ty hk, _, rfl, ?_⟩
      refine iteT ?_
      exact k H false (Same.refl _) ⟨fun h => (nomatch h), fun ⟨a, cols, e, h, _⟩ => absurd h (hne a _ e)⟩
end
end Qk
set_option maxRecDepth 100000
set_option maxHeartbeats 4000000
namespace Qk
open PySem PySem.Spec PyProof.Rows L2
section
variable {P : Program} {w : World} {K : PySem.W.Frag} {mg : Str → Option Value} {base : Heap}
theorem eq_sorted {cols ys ws : List Str} (nd : ys.Nodup) (hm : ∀ z, z ∈ ys ↔ z ∈ cols) (hp : ws.Perm ys) (hs : sortedS ws = true) : cols = ws ↔ cols.Nodup ∧ sortedS cols = true := by
  constructor
  · rintro rfl
    exact ⟨hp.nodup_iff.mpr nd, hs⟩
  · rintro ⟨h1, h2⟩
    have p : cols.Perm ws := ((List.perm_ext_iff_of_nodup h1 nd).mpr fun z => (hm z).symm).trans hp.symm
    exact perm_sorted p (sortedS_pw h2) (sortedS_pw hs)
theorem scLAsked : FnScope ["_law_thing_here"] ["_law_thing_here"] (defScope sLAsked) := ⟨rfl, rfl, rfl, by decide +kernel, rfl, by decide +kernel, by decide +kernel⟩
theorem ok_lasked {f : Addr} {fd : FuncData} (F : Fun K "_law_is_asked" "_law_is_asked" sLAsked f fd) (T : Txt K mg) (cC : Cal P w K mg base 1 "_law_is_name" ["_law_thing_here"] (spTx K colS)) (cA : Cal P w K mg base 2 "_law_are_names" ["_law_thing_here"] spNmV) : FnOk P w K mg base CX0 3 f fd ["_law_thing_here"] spQv := by
  refine F.ok scLAsked (fun vs H Q E h => ?_) (fun cdv A outer s H vs Q E hr h => ?_)
  · obtain ⟨x, rfl, _⟩ := h
    rfl
  · obtain ⟨x, rfl, hx, k⟩ := h
    have nd := scLAsked.nd
    have hr1 : Room 2 _ := hr.mono (by decide)
    refine ⟨_, pss_cons (ps_if (PW.pt (pw_or (pt_not (pt_val (pe_callB call_isi (by rfl) T.isinstance (by decide +kernel) (pa_cons (pv 0) (pa_cons (pe_bltn (v := .ty "tuple") (by rfl) T.tuple (by decide +kernel) rfl) pa_nil)))))
        (pw_or (pt_cmpR op_ne (pe_callB call_len_seq (by rfl) T.len PySem.boot_len (pa_cons (pv 0) pa_nil)) pe_int (nomark _))
        (pw_or1 (pt_not (pt_val (pe_call cA.G hr rfl cA.m cA.kp cA.b .nil pass0 (pa_cons (pe_ix ix_tup (pv 0) pe_int fun _ _ => rfl) pa_nil)))))))) (pss_one (ps_ret pe_bl)) pss_nil)
      (pss_cons (ps_if (PW.pt (pw_or (pt_cmpR (op_neD hr.units) (pe_callTy call_list_of (by rfl) T.list (by decide +kernel) (pa_cons (pe_ix ix_tup (pv 0) pe_int fun _ _ => rfl) pa_nil)) (pe_callB cr_sortedST (by rfl) T.sorted (by decide +kernel) (pa_cons (pe_ix ix_tup (pv 0) pe_int fun _ _ => rfl) pa_nil)) (nomark _))
        (pw_or1 (pt_not (pt_val (pe_callB call_isi (by rfl) T.isinstance (by decide +kernel) (pa_cons (pe_ix ix_tup (pv 0) pe_int fun _ _ => rfl) (pa_cons (pe_bltn (v := .ty "str") (by rfl) T.str (by decide +kernel) rfl) pa_nil)))))))) (pss_one (ps_ret pe_bl)) pss_nil)
      (pss_cons (ps_if (pt_cmpR op_eq (pe_ix ix_tup (pv 0) pe_int fun _ _ => rfl) pe_str (nomark _)) (pss_one (ps_ret (pe_cmpR op_gt (pe_callB call_len_seq (by rfl) T.len PySem.boot_len (pa_cons (pe_ix ix_tup (pv 0) pe_int fun _ _ => rfl) pa_nil)) pe_int (nomark _)))) pss_nil)
      (pss_one (ps_ret (pe_and (pe_call cC.G (hr.mono (by decide)) rfl cC.m cC.kp cC.b .nil pass0 (pa_cons (pe_ix ix_tup (pv 0) pe_int fun _ _ => rfl) pa_nil)) (pe_one (pe_cmpR op_notIn_seq (pe_ix ix_tup (pv 0) pe_int fun _ _ => rfl) (pe_ix ix_tup (pv 0) pe_int fun _ _ => rfl) (by rfl)))))))), ?_⟩
    rcases hx.tu (K := K) with ⟨a, xs, rfl, ha, hl, hv⟩ | ⟨hne, t, ty, hk⟩
    · refine ⟨_, rfl, _, _, .type "tuple", .type "tuple", true, rfl, .ty "tuple", .base (.tup ha), kit_ty (by decide +kernel), _, rfl, ?_⟩
      refine iteF ?_
      refine ⟨_, rfl, _, _, rfl, .inr (SqT.of ha), rfl, _, rfl, ?_⟩
      show if (!decide (V.int (xs.length : Int) = V.int 2)) = true then _ else _
      by_cases h2 : xs.length = 2
      · rw [decide_eq_true (by rw [h2]; rfl)]
        refine iteF ?_
        match xs, h2, hv, ha with
        | [u, v], _, hv, ha =>
        have hu := hv u List.mem_cons_self
        have hvv := hv v (List.mem_cons_of_mem _ List.mem_cons_self)
        refine ⟨_, rfl, a, _, 0, _, rfl, rfl, SqT.of ha, rfl, ?_⟩
        refine ⟨u, rfl, hu, fun H1 r s1 hr1 => ⟨_, rfl, ?_⟩⟩
        have ha1 := s1 _ _ ha
        cases r with
        | false =>
          refine iteT ?_
          refine k H1 false s1 ⟨fun h => (nomatch h), fun h => ?_⟩
          obtain ⟨c, q, e, hc, hq⟩ := IsQv.of ha h
          injection e with e1 e2
          exact absurd (hr1.mpr ⟨c, q.1, e1, hc, hq.col, hq.nd⟩) (by decide)
        | true =>
          refine iteF ?_
          obtain ⟨c, cols, rfl, hc, h1, h3⟩ := hr1.mp rfl
          have cok : ∀ c ∈ cols, PyData.strOk c = true := by
            rcases hu.tu (K := K) with ⟨c', xs', e, hc', _, hvs⟩ | ⟨hne, _⟩
            · injection e with e
              subst e
              rw [hc] at hc'
              injection hc' with hc'
              injection hc' with hc'
              subst hc'
              exact strs_ok K hvs h1
            · exact absurd hc (hne c _ rfl)
          have isq : IsQv H (.ref a) → sortedS cols = true ∧ ∃ z, v = .str z ∧ (z = "" ∨ (colS z = true ∧ z ∉ cols)) ∧ (z = "" → cols ≠ []) := fun h => by
            obtain ⟨c', q, e, hc', hq⟩ := IsQv.of ha h
            injection e with e1 e2
            injection e2 with e2 _
            injection e1 with e1
            subst e1
            rw [hc] at hc'
            injection hc' with hc'
            injection hc' with hc'
            have ec : cols = q.1 := map_str_inj hc'
            exact ⟨by rw [ec]; exact hq.srt, q.2, e2, by rw [ec]; exact hq.last, by rw [ec]; exact hq.some⟩
          have cl40 : cols.length ≤ 40 := by
            rcases hu.tu (K := K) with ⟨c', xs', e, hc', hl', hvs⟩ | ⟨hne, _⟩
            · injection e with e
              subst e
              rw [hc] at hc'
              injection hc' with hc'
              injection hc' with hc'
              rw [← hc', List.length_map] at hl'
              exact hl'
            · exact absurd hc (hne c _ rfl)
          refine ⟨_, rfl, a, _, 0, _, rfl, rfl, SqT.of ha1, rfl, c, _, rfl, .inr (SqT.of (s1 _ _ hc)), fun d1 hd1 => ?_⟩
          have n1 := same_new (o := .lst (cols.map V.str)) hd1
          refine ⟨_, rfl, a, _, 0, _, rfl, rfl, SqT.of (n1 _ _ ha1), rfl, c, cols, rfl, .inr (SqT.of (n1 _ _ (s1 _ _ hc))), by omega, fun ws d2 hw hs hd2 => ?_⟩
          have n2 := same_new (o := .lst (ws.map V.str)) hd2
          have n12 := n1.trans n2
          have wok : ∀ c ∈ ws, PyData.strOk c = true := fun c hc => cok c (hw.mem_iff.mp hc)
          refine ⟨.list (cols.map PyData.str), .list (ws.map PyData.str), .lst (SqL.of (n2 _ _ upd_same)) (dp_strs _), .lst (SqL.of upd_same) (dp_strs _), shaped_list cok, shaped_list wok, _, rfl, ?_⟩
          rw [PyData.eqv, eqv_strs]
          have eqs := eq_sorted (cols := cols) h3 (fun _ => Iff.rfl) hw hs
          have s1b := s1.trans n12
          have ha1b := n12 _ _ ha1
          generalize upd (upd H1 d1 (.lst (cols.map V.str))) d2 (.lst (ws.map V.str)) = H1b at s1b ha1b ⊢
          by_cases hns : ¬ cols = ws
          · rw [decide_eq_false hns]
            refine iteT ?_
            exact k H1b false s1b ⟨fun h => (nomatch h), fun h => absurd (eqs.mpr ⟨h3, (isq h).1⟩) hns⟩
          have hsrt : cols = ws := Classical.not_not.mp hns
          rw [decide_eq_true hsrt]
          refine iteF ?_
          have h4 := (eqs.mp hsrt).2
          clear hns hsrt eqs wok hw hs hd2 hd1 n1 n2 n12 ha1
          have isq2 : ∀ z, v = .str z → (z = "" ∨ (colS z = true ∧ z ∉ cols)) → (z = "" → cols ≠ []) → IsQv H (.ref a) := fun z e g1 g2 => ⟨a, (cols, z), rfl, ⟨c, by rw [ha, e], hc⟩, ⟨h1, h3, h4, g1, g2⟩⟩
          rcases (hvv.same s1b).tx (K := K) with ⟨z, rfl, hz⟩ | ⟨hne, t2, ty2, hk2⟩
          · refine ⟨_, rfl, a, _, 1, _, rfl, rfl, SqT.of ha1b, rfl, _, _, .type "str", .type "str", true, rfl, .ty "str", .base (.str z), kit_ty (by decide +kernel), _, rfl, ?_⟩
            refine iteF ?_
            refine ⟨_, rfl, a, _, 1, _, rfl, rfl, SqT.of ha1b, rfl, rfl, _, rfl, ?_⟩
            by_cases he : z = ""
            · rw [decide_eq_true (congrArg V.str he)]
              refine iteT ?_
              refine ⟨_, rfl, a, _, 0, _, rfl, rfl, SqT.of ha1b, rfl, c, _, rfl, .inr (SqT.of (s1b _ _ hc)), _, 0, rfl, rfl, ?_⟩
              refine k _ _ s1b ?_
              by_cases hn : cols = []
              · rw [decide_eq_false (by rw [hn]; decide)]
                refine ⟨fun h => (nomatch h), fun h => ?_⟩
                obtain ⟨_, y, e, _, g⟩ := isq h
                injection e with e
                exact absurd hn (g (by rw [← e]; exact he))
              · rw [decide_eq_true (by have := List.length_pos_iff.mpr hn; rw [List.length_map]; omega)]
                exact ⟨fun _ => isq2 z rfl (.inl he) fun _ => hn, fun _ => rfl⟩
            · rw [decide_eq_false (fun h => he (by injection h))]
              refine iteF ?_
              refine ⟨_, rfl, a, _, 1, _, rfl, rfl, SqT.of ha1b, rfl, ?_⟩
              refine ⟨.str z, rfl, (hvv.same s1b).tx, fun H2 r2 s2 hr2 => ⟨_, rfl, ?_⟩⟩
              have e2 := hr2.1 z rfl
              subst e2
              have ha2 := s2 _ _ ha1b
              have s1b2 := s1b.trans s2
              cases hcz : colS z with
              | false =>
                refine iteF ?_
                refine k H2 false s1b2 ⟨fun h => (nomatch h), fun h => ?_⟩
                obtain ⟨_, y, e, g, _⟩ := isq h
                injection e with e
                subst e
                rcases g with g | ⟨g, _⟩
                · exact absurd g he
                · rw [hcz] at g; cases g
              | true =>
                refine iteT ?_
                refine ⟨_, rfl, a, _, 1, _, rfl, rfl, SqT.of ha2, rfl, _, rfl, a, _, 0, _, rfl, rfl, SqT.of ha2, rfl, c, _, rfl, .inr (SqT.of (s1b2 _ _ hc)), rfl, flat_strs _, ?_⟩
                show Q (.bl (!inV (.str z) (cols.map V.str))) H2
                rw [inV_strs]
                refine k H2 _ s1b2 ?_
                by_cases hm : z ∈ cols
                · rw [decide_eq_true hm]
                  refine ⟨fun h => (nomatch h), fun h => ?_⟩
                  obtain ⟨_, y, e, g, _⟩ := isq h
                  injection e with e
                  subst e
                  exact absurd hm (g.resolve_left he).2
                · rw [decide_eq_false hm]
                  exact ⟨fun _ => isq2 z rfl (.inr ⟨hcz, hm⟩) fun h => absurd h he, fun _ => rfl⟩
          · refine ⟨_, rfl, a, _, 1, _, rfl, rfl, SqT.of ha1b, rfl, _, _, .type t2, .type "str", false, rfl, .ty "str", ty2, kit_ty hk2, _, rfl, ?_⟩
            refine iteT ?_
            refine k H1b false s1b ⟨fun h => (nomatch h), fun h => ?_⟩
            obtain ⟨_, y, e, _⟩ := isq h
            exact absurd e (hne y)
      · rw [decide_eq_false (fun h => h2 (by injection h with h; omega))]
        refine iteT ?_
        refine k H false (Same.refl _) ⟨fun h => (nomatch h), fun h => ?_⟩
        obtain ⟨c, q, e, _⟩ := IsQv.of ha h
        rw [e] at h2
        exact absurd rfl h2
    · refine ⟨_, rfl, _, _, .type t, .type "tuple", false, rfl, .ty "tuple", ty, kit_ty hk, _, rfl, ?_⟩
      refine iteT ?_
      exact k H false (Same.refl _) ⟨fun h => (nomatch h), fun ⟨a, q, e, ⟨c, h, _⟩, _⟩ => absurd h (hne a _ e)⟩
end
end Qk
set_option maxRecDepth 100000
set_option maxHeartbeats 4000000
namespace Qk
open PySem PySem.Spec PyProof.Rows L2
section
variable {P : Program} {w : World} {K : PySem.W.Frag} {mg : Str → Option Value} {base : Heap}
/-- what is said of a value: a whole number, a column, columns, a question, an index, a weight -/
structure Six (H : Hp) (x : V) (bs : List Bool) : Prop where
  len : bs.length = 6
  b0 : bs[0]? = some (wholeV x).isSome
  b1 : ∃ r, bs[1]? = some r ∧ (∀ z, x = .str z → r = colS z) ∧ ((∀ z, x ≠ .str z) → r = false)
  b2 : ∃ r, bs[2]? = some r ∧ (r = true ↔ ColsV H x)
  b3 : ∃ r, bs[3]? = some r ∧ (r = true ↔ IsQv H x)
  b4 : ∃ r, bs[4]? = some r ∧ (r = true ↔ IsIxV H x)
  b5 : bs[5]? = some (wtV x)
theorem spv_at {G G' : Hp} {t : Addr} {xs : List V} (s : Same G G') (h : SpV G (.ref t)) (ht : G' t = some (.tup xs)) : G t = some (.tup xs) ∧ ∀ y ∈ xs, SpV G y := by
  rcases h.tu (K := []) with ⟨a, ys, e, ha, _, hy⟩ | ⟨hn, _⟩
  · injection e with e
    subst e
    have := s _ _ ha
    rw [ht] at this
    injection this with this
    injection this with this
    subst this
    exact ⟨ha, hy⟩
  · obtain ⟨A, d, h⟩ := h
    cases h with
    | lst h1 _ _ _ _ => rw [s _ _ h1] at ht; cases ht
    | tup h1 _ _ _ => exact absurd h1 (hn t _ rfl)
    | dic0 h1 _ => rw [s _ _ h1] at ht; cases ht
    | dic1 h1 _ => rw [s _ _ h1] at ht; cases ht
    | dic2 h1 _ => rw [s _ _ h1] at ht; cases ht
theorem ColsV.back {H H' : Hp} {x : V} (s : Same H H') (e : SpV H x) : ColsV H' x ↔ ColsV H x := by
  refine ⟨fun ⟨t, cols, g, ht, k⟩ => ?_, fun h => h.same s⟩
  subst g
  exact ⟨t, cols, rfl, (spv_at s e ht).1, k⟩
theorem IsIxV.back {H H' : Hp} {x : V} (s : Same H H') (e : SpV H x) : IsIxV H' x ↔ IsIxV H x := by
  refine ⟨fun ⟨t, cols, g, ht, k⟩ => ?_, fun ⟨t, cols, g, ht, k⟩ => ⟨t, cols, g, s _ _ ht, k⟩⟩
  subst g
  exact ⟨t, cols, rfl, (spv_at s e ht).1, k⟩
theorem IsQv.back {H H' : Hp} {x : V} (s : Same H H') (e : SpV H x) : IsQv H' x ↔ IsQv H x := by
  refine ⟨fun ⟨t, q, g, ⟨c, h1, h2⟩, k⟩ => ?_, fun ⟨t, q, g, h, k⟩ => ⟨t, q, g, h.same s, k⟩⟩
  subst g
  obtain ⟨g1, g2⟩ := spv_at s e h1
  exact ⟨t, q, rfl, ⟨c, g1, (spv_at s (g2 _ List.mem_cons_self) h2).1⟩, k⟩
theorem Six.uniq {H H' : Hp} {x : V} {bs cs : List Bool} (s : Same H H') (e : SpV H x) (h : Six H x bs) (h' : Six H' x cs) : bs = cs := by
  have iff2 : ∀ {P Q : Prop} {a b : Bool}, (P ↔ Q) → (a = true ↔ Q) → (b = true ↔ P) → a = b := fun {P Q a b} h h1 h2 => by
    rw [Bool.eq_iff_iff, h1, h2]
    exact h.symm
  have l1 := h.len
  have l2 := h'.len
  obtain ⟨r1, e1, f1, g1⟩ := h.b1
  obtain ⟨r1', e1', f1', g1'⟩ := h'.b1
  obtain ⟨r2, e2, f2⟩ := h.b2
  obtain ⟨r2', e2', f2'⟩ := h'.b2
  obtain ⟨r3, e3, f3⟩ := h.b3
  obtain ⟨r3', e3', f3'⟩ := h'.b3
  obtain ⟨r4, e4, f4⟩ := h.b4
  obtain ⟨r4', e4', f4'⟩ := h'.b4
  have q1 : r1 = r1' := by
    by_cases hz : ∃ z, x = .str z
    · obtain ⟨z, rfl⟩ := hz
      rw [f1 z rfl, f1' z rfl]
    · have hz : ∀ z, x ≠ .str z := fun z e => hz ⟨z, e⟩
      rw [g1 hz, g1' hz]
  have q2 : r2 = r2' := iff2 (ColsV.back s e) f2 f2'
  have q3 : r3 = r3' := iff2 (IsQv.back s e) f3 f3'
  have q4 : r4 = r4' := iff2 (IsIxV.back s e) f4 f4'
  apply List.ext_getElem?
  intro j
  match j with
  | 0 => rw [h.b0, h'.b0]
  | 1 => rw [e1, e1', q1]
  | 2 => rw [e2, e2', q2]
  | 3 => rw [e3, e3', q3]
  | 4 => rw [e4, e4', q4]
  | 5 => rw [h.b5, h'.b5]
  | j + 6 => rw [List.getElem?_eq_none (by omega), List.getElem?_eq_none (by omega)]
def spSix : Sp := fun vs H Q _ => ∃ x, vs = [x] ∧ SpV H x ∧ ∀ (H' : Hp) (p : Addr) (bs : List Bool), Same H H' → H' p = some (.lst (bs.map V.bl)) → Six H x bs → Q (.ref p) H'
theorem scAsked : FnScope ["_law_thing_here", "_law_found"] ["_law_thing_here"] (defScope sAsked) := ⟨rfl, rfl, rfl, by decide +kernel, rfl, by decide +kernel, by decide +kernel⟩
theorem ok_asked {f : Addr} {fd : FuncData} (F : Fun K "_law_asked" "_law_asked" sAsked f fd) (T : Txt K mg) (cI : Cal P w K mg base 1 "is_integer" ["thing"] (spIsIntV K)) (cC : Cal P w K mg base 1 "is_column" ["thing"] (spTx K colS)) (cA : Cal P w K mg base 2 "are_columns" ["thing"] spCv)
    (cQ : Cal P w K mg base 3 "is_question" ["thing"] spQv) (cX : Cal P w K mg base 3 "is_index" ["thing"] spIxV) (cW : Cal P w K mg base 2 "is_weight" ["thing"] (spWt K)) : FnOk P w K mg base CX0 4 f fd ["_law_thing_here"] spSix := by
  refine F.ok scAsked (fun vs H Q E h => ?_) (fun cdv A outer s H vs Q E hr h => ?_)
  · obtain ⟨x, rfl, _⟩ := h
    rfl
  · obtain ⟨x, rfl, hx, k⟩ := h
    have nd := scAsked.nd
    have hr1 : Room 1 _ := hr.mono (by decide)
    have hr2 : Room 2 _ := hr.mono (by decide)
    refine ⟨_, pss_cons (ps_set (i := 1) nd rfl (Or.inl rfl) (pe_lst (pa_cons (pe_call cI.G hr1 rfl cI.m cI.kp cI.b .nil pass0 (pa_cons (pv 0) pa_nil)) (pa_cons (pe_call cC.G hr1 rfl cC.m cC.kp cC.b .nil pass0 (pa_cons (pv 0) pa_nil)) (pa_cons (pe_call cA.G hr2 rfl cA.m cA.kp cA.b .nil pass0 (pa_cons (pv 0) pa_nil)) pa_nil)))))
      (pss_one (ps_ret (pe_op op_cat (pv 1) (pe_lst (pa_cons (pe_call cQ.G hr rfl cQ.m cQ.kp cQ.b .nil pass0 (pa_cons (pv 0) pa_nil)) (pa_cons (pe_call cX.G hr rfl cX.m cX.kp cX.b .nil pass0 (pa_cons (pv 0) pa_nil)) (pa_cons (pe_call cW.G hr2 rfl cW.m cW.kp cW.b .nil pass0 (pa_cons (pv 0) pa_nil)) pa_nil))))))), ?_⟩
    refine ⟨_, rfl, x, rfl, hx.iv, _, rfl, x, rfl, hx.tx, fun H1 r1 s1 h1 => ⟨_, rfl, x, rfl, hx.same s1, fun H2 r2 s2 h2 => ⟨by show 3 ≤ sizeLine; decide, fun p1 hp1 => ?_⟩⟩⟩
    have s12 := s1.trans s2
    have n1 := same_new (o := .lst [V.bl (wholeV x).isSome, V.bl r1, V.bl r2]) hp1
    have s3 := s12.trans n1
    refine ⟨_, rfl, _, rfl, x, rfl, hx.same s3, fun H3 r3 s4 h3 => ⟨_, rfl, x, rfl, hx.same (s3.trans s4), fun H4 r4 s5 h4 => ⟨_, rfl, x, rfl, (hx.same (s3.trans (s4.trans s5))).iv, by show 3 ≤ sizeLine; decide, fun p2 hp2 => ?_⟩⟩⟩
    have s6 := s4.trans s5
    have n2 := same_new (o := .lst [V.bl r3, V.bl r4, V.bl (wtV x)]) hp2
    refine ⟨p1, p2, _, _, rfl, rfl, n2 _ _ (s6 _ _ upd_same), upd_same, by show 3 + 3 ≤ sizeLine; decide, fun p3 hp3 => ?_⟩
    have n3 := same_new (o := .lst ([V.bl (wholeV x).isSome, V.bl r1, V.bl r2] ++ [V.bl r3, V.bl r4, V.bl (wtV x)])) hp3
    refine k _ p3 [(wholeV x).isSome, r1, r2, r3, r4, wtV x] (s3.trans (s6.trans (n2.trans n3))) upd_same ⟨rfl, rfl, ⟨r1, rfl, h1⟩, ⟨r2, rfl, h2.trans (ColsV.back s1 hx)⟩, ⟨r3, rfl, h3.trans (IsQv.back s3 hx)⟩, ⟨r4, rfl, h4.trans (IsIxV.back (s3.trans s4) hx)⟩, rfl⟩
theorem scDue : FnScope ["_law_thing_here", "_law_good", "_law_found"] ["_law_thing_here"] (defScope sDue) := ⟨rfl, rfl, rfl, by decide +kernel, rfl, by decide +kernel, by decide +kernel⟩
theorem ok_due {f : Addr} {fd : FuncData} (F : Fun K "_law_due" "_law_due" sDue f fd) (T : Txt K mg) (cA : Cal P w K mg base 2 "_law_are_names" ["_law_thing_here"] spNmV) (cW : Cal P w K mg base 1 "_law_is_whole" ["_law_thing_here"] (spIsIntV K)) (cC : Cal P w K mg base 1 "_law_is_name" ["_law_thing_here"] (spTx K colS))
    (cQ : Cal P w K mg base 3 "_law_is_asked" ["_law_thing_here"] spQv) : FnOk P w K mg base CX0 4 f fd ["_law_thing_here"] spSix := by
  refine F.ok scDue (fun vs H Q E h => ?_) (fun cdv A outer s H vs Q E hr h => ?_)
  · obtain ⟨x, rfl, _⟩ := h
    rfl
  · obtain ⟨x, rfl, hx, k⟩ := h
    have nd := scDue.nd
    have hr1 : Room 1 _ := hr.mono (by decide)
    have hr2 : Room 2 _ := hr.mono (by decide)
    refine ⟨_, pss_cons (ps_set (i := 1) nd rfl (Or.inl rfl) (pe_call cA.G hr2 rfl cA.m cA.kp cA.b .nil pass0 (pa_cons (pv 0) pa_nil)))
      (Evl.pss_cut (ps_set (i := 2) nd rfl (Or.inl rfl) (pe_lst (pa_cons (pe_call cW.G hr1 rfl cW.m cW.kp cW.b .nil pass0 (pa_cons (pv 0) pa_nil)) (pa_cons (pe_call cC.G hr1 rfl cC.m cC.kp cC.b .nil pass0 (pa_cons (pv 0) pa_nil))
        (pa_cons (pe_and (pv 1) (pe_one (pe_cmpR (op_eqD hr.units) (pe_callTy call_list_of (by rfl) T.list (by decide +kernel) (pa_cons (pv 0) pa_nil)) (pe_callB cr_sortedST (by rfl) T.sorted (by decide +kernel) (pa_cons (pv 0) pa_nil)) (nomark _)))) pa_nil)))))
      (pss_cons (ps_expr (pe_bm PySem.F.plainAttrs_list PySem.F.slot_list_append PySem.F.type_list_append mt_append (pv 2) (pa_cons (pe_call cQ.G hr rfl cQ.m cQ.kp cQ.b .nil pass0 (pa_cons (pv 0) pa_nil)) pa_nil)))
      (pss_one (ps_ret (pe_op op_cat (pv 2) (pe_lst (pa_cons (pe_and (pv 1) (pe_one (pe_cmpR op_gt (pe_callB call_len_seq (by rfl) T.len PySem.boot_len (pa_cons (pv 0) pa_nil)) pe_int (nomark _))))
        (pa_cons (pe_and (pe_call cW.G hr1 rfl cW.m cW.kp cW.b .nil pass0 (pa_cons (pv 0) pa_nil)) (pe_one (pe_chain op_lt op_lt pe_int (pv 0) (pe_op op_add (pe_op op_pow pe_int pe_int) pe_int)))) pa_nil)))))))), ?_⟩
    refine ⟨_, rfl, x, rfl, hx, fun H1 g s1 hg => ?_⟩
    refine ⟨fun σ' G => ∃ (p : Addr) (r1 r2 : Bool), σ' = [some x, some (.bl g), some (.ref p)] ∧ Same H1 G ∧ H1 p = none ∧ G p = some (.lst [V.bl (wholeV x).isSome, V.bl r1, V.bl r2]) ∧ ((∀ z, x = .str z → r1 = colS z) ∧ ((∀ z, x ≠ .str z) → r1 = false)) ∧ (r2 = true ↔ ColsV H x), ?_, ?_⟩
    · refine ⟨_, rfl, x, rfl, (hx.same s1).iv, _, rfl, x, rfl, (hx.same s1).tx, fun H2 r1 s2 h1 => ?_⟩
      have newp : ∀ {G : Hp} {q : Addr}, Same H1 G → G q = none → H1 q = none := fun {G q} s hq => by
        cases e : H1 q with
        | none => rfl
        | some u => rw [s _ _ e] at hq; cases hq
      cases g with
      | false =>
        refine ⟨_, rfl, _, rfl, ?_⟩
        refine iteF ?_
        refine ⟨by show 3 ≤ sizeLine; decide, fun p hp => ?_⟩
        refine ⟨p, r1, false, rfl, s2.trans (same_new hp), newp s2 hp, upd_same, h1, ⟨fun h => (nomatch h), fun ⟨t, cols, e, ht, c1, c2, _⟩ => absurd (hg.mpr ⟨t, cols, e, ht, c1, c2⟩) (by decide)⟩⟩
      | true =>
        refine ⟨_, rfl, _, rfl, ?_⟩
        refine iteT ?_
        obtain ⟨t, cols, rfl, ht, c1, c2⟩ := hg.mp rfl
        obtain ⟨_, hy⟩ := spv_at (Same.refl _) hx ht
        have cok := strs_ok K hy c1
        have cl : cols.length ≤ 40 := by
          rcases hx.tu (K := K) with ⟨a', xs', e, ha', hl', _⟩ | ⟨hne, _⟩
          · injection e with e
            subst e
            rw [ht] at ha'
            injection ha' with ha'
            injection ha' with ha'
            rw [← ha', List.length_map] at hl'
            exact hl'
          · exact absurd ht (hne t _ rfl)
        have s12 := s1.trans s2
        refine ⟨_, rfl, t, _, rfl, .inr (SqT.of (s12 _ _ ht)), fun d1 hd1 => ?_⟩
        have n1 := same_new (o := .lst (cols.map V.str)) hd1
        refine ⟨_, rfl, t, cols, rfl, .inr (SqT.of (n1 _ _ (s12 _ _ ht))), by omega, fun ws d2 hw hs hd2 => ?_⟩
        have n2 := same_new (o := .lst (ws.map V.str)) hd2
        refine ⟨.list (cols.map PyData.str), .list (ws.map PyData.str), .lst (SqL.of (n2 _ _ upd_same)) (dp_strs _), .lst (SqL.of upd_same) (dp_strs _), shaped_list cok, shaped_list (fun c hc => cok c (hw.mem_iff.mp hc)), ?_⟩
        rw [PyData.eqv, eqv_strs]
        refine ⟨by show 3 ≤ sizeLine; decide, fun p hp => ?_⟩
        have s3 := s2.trans (n1.trans n2)
        refine ⟨p, r1, decide (cols = ws), rfl, s3.trans (same_new hp), newp s3 hp, upd_same, h1, ?_⟩
        rw [decide_eq_true_iff, eq_sorted c2 (fun _ => Iff.rfl) hw hs]
        exact ⟨fun h => ⟨t, cols, rfl, ht, c1, c2, h.2⟩, fun ⟨t', cols', e, ht', _, _, h⟩ => by
          injection e with e
          subst e
          rw [ht] at ht'
          injection ht' with ht'
          injection ht' with ht'
          rw [map_str_inj ht']
          exact ⟨by rw [← map_str_inj ht']; exact c2, h⟩⟩
    rintro σ' G ⟨p, r1, r2, rfl, sG, np, hp, h1, h2⟩
    have s1G := s1.trans sG
    refine ⟨_, rfl, .inl ⟨rfl, _, SqL.of hp⟩, _, rfl, x, rfl, hx.same s1G, fun H3 r3 s3 hr3 => ?_⟩
    have h3 := hr3.trans (IsQv.back s1G hx)
    refine ⟨p, _, _, rfl, rfl, s3 _ _ hp, by show 3 < sizeLine; decide, ?_⟩
    have s4 : Same H (upd H3 p (.lst ([V.bl (wholeV x).isSome, V.bl r1, V.bl r2] ++ [V.bl r3]))) := fun b o hb => by
      rw [upd_ne fun e => by rw [e] at hb; rw [s1 _ _ hb] at np; cases np]
      exact s3 _ _ (s1G _ _ hb)
    have hp4 : (upd H3 p (.lst ([V.bl (wholeV x).isSome, V.bl r1, V.bl r2] ++ [V.bl r3]))) p = some (.lst [V.bl (wholeV x).isSome, V.bl r1, V.bl r2, V.bl r3]) := upd_same
    clear s3 hr3 hp sG np s1G
    generalize upd H3 p (.lst ([V.bl (wholeV x).isSome, V.bl r1, V.bl r2] ++ [V.bl r3])) = G4 at s4 hp4 ⊢
    have hwh : (∃ i, x = .int i) ∨ wholeV x = none := by
      cases x <;> first | exact .inl ⟨_, rfl⟩ | exact .inr rfl
    cases g with
    | false =>
      refine ⟨_, rfl, _, rfl, _, rfl, ?_⟩
      refine iteF ?_
      have h5 : false = true ↔ IsIxV H x := ⟨fun h => (nomatch h), fun ⟨t, cols, e, ht, c1, c2, _⟩ => absurd (hg.mpr ⟨t, cols, e, ht, c1, c2⟩) (by decide)⟩
      refine ⟨_, rfl, x, rfl, (hx.same s4).iv, _, rfl, ?_⟩
      rcases hwh with ⟨i, rfl⟩ | hn
      · refine iteT ?_
        refine ⟨_, rfl, 0, i, rfl, rfl, _, rfl, ?_⟩
        by_cases h0 : (0 : Int) < i
        · rw [decide_eq_true h0]
          refine iteT ?_
          refine ⟨10, 30, rfl, rfl, ⟨by decide, by decide, by decide⟩, _, _, rfl, rfl, i, _, rfl, rfl, ?_⟩
          have e5 : wtV (.int i) = decide (i < (10 ^ (30 : Int).toNat : Int) + 1) := by
            show decide (1 ≤ i ∧ i ≤ 10 ^ 30) = _
            exact decide_eq_decide.mpr ⟨fun h => by have := h.2; show i < 10 ^ 30 + 1; omega, fun h => ⟨by omega, by have h : i < 10 ^ 30 + 1 := h; omega⟩⟩
          refine ⟨by show 2 ≤ sizeLine; decide, fun p2 hp2 => ?_⟩
          have n2 := same_new (o := .lst [V.bl (false), V.bl (decide (i < (10 ^ (30 : Int).toNat : Int) + 1))]) hp2
          refine ⟨p, p2, _, _, rfl, rfl, n2 _ _ hp4, upd_same, by show 4 + 2 ≤ sizeLine; decide, fun p3 hp3 => ?_⟩
          have n3 := same_new (o := .lst ([V.bl (wholeV (.int i)).isSome, V.bl r1, V.bl r2, V.bl r3] ++ [V.bl (false), V.bl (decide (i < (10 ^ (30 : Int).toNat : Int) + 1))])) hp3
          exact k _ p3 [(wholeV (.int i)).isSome, r1, r2, r3, false, decide (i < (10 ^ (30 : Int).toNat : Int) + 1)] (s4.trans (n2.trans n3)) upd_same ⟨rfl, rfl, ⟨r1, rfl, h1⟩, ⟨r2, rfl, h2⟩, ⟨r3, rfl, h3⟩, ⟨_, rfl, h5⟩, by show some _ = some _; rw [e5]⟩
        · rw [decide_eq_false h0]
          refine iteF ?_
          have e5 : wtV (.int i) = false := by
            show decide (1 ≤ i ∧ i ≤ 10 ^ 30) = _
            exact decide_eq_false fun h => h0 (by have := h.1; omega)
          refine ⟨by show 2 ≤ sizeLine; decide, fun p2 hp2 => ?_⟩
          have n2 := same_new (o := .lst [V.bl (false), V.bl (false)]) hp2
          refine ⟨p, p2, _, _, rfl, rfl, n2 _ _ hp4, upd_same, by show 4 + 2 ≤ sizeLine; decide, fun p3 hp3 => ?_⟩
          have n3 := same_new (o := .lst ([V.bl (wholeV (.int i)).isSome, V.bl r1, V.bl r2, V.bl r3] ++ [V.bl (false), V.bl (false)])) hp3
          exact k _ p3 [(wholeV (.int i)).isSome, r1, r2, r3, false, false] (s4.trans (n2.trans n3)) upd_same ⟨rfl, rfl, ⟨r1, rfl, h1⟩, ⟨r2, rfl, h2⟩, ⟨r3, rfl, h3⟩, ⟨_, rfl, h5⟩, by show some _ = some _; rw [e5]⟩
      · have e2 : (wholeV x).isSome = false := by rw [hn]; rfl
        have e5 : wtV x = false := by unfold wtV; rw [hn]
        show if (wholeV x).isSome = true then _ else _
        rw [e2]
        refine iteF ?_
        rw [e2] at hp4
        refine ⟨by show 2 ≤ sizeLine; decide, fun p2 hp2 => ?_⟩
        have n2 := same_new (o := .lst [V.bl (false), V.bl (false)]) hp2
        refine ⟨p, p2, _, _, rfl, rfl, n2 _ _ hp4, upd_same, by show 4 + 2 ≤ sizeLine; decide, fun p3 hp3 => ?_⟩
        have n3 := same_new (o := .lst ([V.bl false, V.bl r1, V.bl r2, V.bl r3] ++ [V.bl (false), V.bl (false)])) hp3
        exact k _ p3 [false, r1, r2, r3, false, false] (s4.trans (n2.trans n3)) upd_same ⟨rfl, by rw [e2]; rfl, ⟨r1, rfl, h1⟩, ⟨r2, rfl, h2⟩, ⟨r3, rfl, h3⟩, ⟨_, rfl, h5⟩, by show some _ = some _; rw [e5]⟩
    | true =>
      obtain ⟨t, cols, rfl, ht, c1, c2⟩ := hg.mp rfl
      refine ⟨_, rfl, _, rfl, _, rfl, ?_⟩
      refine iteT ?_
      refine ⟨_, rfl, t, _, rfl, .inr (SqT.of (s4 _ _ ht)), _, 0, rfl, rfl, ?_⟩
      have h5 : decide ((0 : Int) < ((cols.map V.str).length : Int)) = true ↔ IsIxV H (.ref t) := by
        rw [decide_eq_true_iff, List.length_map]
        refine ⟨fun h => ⟨t, cols, rfl, ht, c1, c2, fun e => by rw [e] at h; exact absurd h (by decide)⟩, fun ⟨t', cols', e, ht', _, _, h⟩ => ?_⟩
        injection e with e
        subst e
        rw [ht] at ht'
        injection ht' with ht'
        injection ht' with ht'
        rw [map_str_inj ht']
        have := List.length_pos_iff.mpr h
        omega
      refine ⟨_, rfl, .ref t, rfl, (hx.same s4).iv, _, rfl, ?_⟩
      refine iteF ?_
      refine ⟨by show 2 ≤ sizeLine; decide, fun p2 hp2 => ?_⟩
      have n2 := same_new (o := .lst [V.bl (decide ((0 : Int) < ((cols.map V.str).length : Int))), V.bl (false)]) hp2
      refine ⟨p, p2, _, _, rfl, rfl, n2 _ _ hp4, upd_same, by show 4 + 2 ≤ sizeLine; decide, fun p3 hp3 => ?_⟩
      have n3 := same_new (o := .lst ([V.bl (wholeV (.ref t)).isSome, V.bl r1, V.bl r2, V.bl r3] ++ [V.bl (decide ((0 : Int) < ((cols.map V.str).length : Int))), V.bl (false)])) hp3
      exact k _ p3 [(wholeV (.ref t)).isSome, r1, r2, r3, decide ((0 : Int) < ((cols.map V.str).length : Int)), false] (s4.trans (n2.trans n3)) upd_same ⟨rfl, rfl, ⟨r1, rfl, h1⟩, ⟨r2, rfl, h2⟩, ⟨r3, rfl, h3⟩, ⟨_, rfl, h5⟩, by show some _ = some _; rw [show wtV (.ref t) = false from rfl]⟩
end
end Qk
set_option maxRecDepth 100000
set_option maxHeartbeats 4000000
namespace Qk
open PySem PySem.Spec PyProof.Rows L2
section
variable {P : Program} {w : World} {K : PySem.W.Frag} {mg : Str → Option Value} {base : Heap}
def spOdd11 : Sp := fun vs H Q _ => ∃ (b l : Addr), vs = [.ref b] ∧ Bag H b l ∧ ∀ (H' : Hp) (v : V), WV 12 H' (old H) 1300000 31 v → Bag H' b l → Kp b H H' → Q v H'
abbrev nOdd : List Str := ["_law_bag_here", "_law_deep", "_law_k", "_law_some"]
theorem scOdd : FnScope nOdd ["_law_bag_here"] (defScope sOdd) := ⟨rfl, rfl, rfl, by decide +kernel, rfl, by decide +kernel, by decide +kernel⟩
theorem ok_odd {f : Addr} {fd : FuncData} (F : Fun K "_law_odd" "_law_odd" sOdd f fd) (T : Txt K mg) (cO : Cal P w K mg base 2 "_law_one" ["_law_bag_here", "_law_some"] spOne) : FnOk P w K mg base CX0 3 f fd ["_law_bag_here"] spOdd11 := by
  refine F.ok scOdd (fun vs H Q E h => ?_) (fun cdv A outer s H vs Q E hr h => ?_)
  · obtain ⟨b, l, rfl, _⟩ := h
    rfl
  · obtain ⟨b, l, rfl, B, k⟩ := h
    have nd := scOdd.nd
    refine ⟨_, (pss_cons (ps_set (i := 1) nd rfl (by first | exact Or.inl rfl | exact Or.inr rfl) (pe_lstN pa_nil))
      (pss_cons (ps_for PassesOwn.never rfl (pi_range1 (by rfl) T.range (pa_cons pe_int pa_nil)) (pg_name (i := 2) nd rfl (by first | exact Or.inl rfl | exact Or.inr rfl)) (pss_one (ps_set (i := 1) nd rfl (by first | exact Or.inl rfl | exact Or.inr rfl) (pe_lstN (pa_cons (pv 1) pa_nil)))))
      (pss_cons (ps_set (i := 3) nd rfl (by first | exact Or.inl rfl | exact Or.inr rfl) (pe_lst (show PA _ _ (tLits4 12 1300000 2 16) from (pa_lits4 (pe_lit4C pe_non (w4_non (by decide))) (pa_lits4 (pe_lit4C pe_bl (w4_bl _ (by decide))) (pa_lits4 (pe_lit4C pe_bl (w4_bl _ (by decide))) (pa_lits4 (pe_lit4C pe_int (w4_int _ (by decide +kernel) (by decide))) (pa_lits4 (pe_lit4C pe_int (w4_int _ (by decide +kernel) (by decide))) (pa_lits4 (pe_lit4Neg pe_int (by decide +kernel) (by decide)) (pa_lits4 (pe_lit4C pe_int (w4_int _ (by decide +kernel) (by decide))) (pa_lits4 (pe_lit4Pow30 pe_int pe_int (by decide)) (pa_lits4 (pe_lit4Pow pe_int pe_int (by decide)) (pa_lits4 (pe_lit4C pe_str (w4_str _ ⟨by decide +kernel, by decide, fun _ => by decide +kernel⟩ (by decide))) (pa_lits4 (pe_lit4C pe_str (w4_str _ ⟨by decide +kernel, by decide, fun _ => by decide +kernel⟩ (by decide))) (pa_lits4 (pe_lit4C pe_str (w4_str _ ⟨by decide +kernel, by decide, fun _ => by decide +kernel⟩ (by decide))) (pa_lits4 (pe_lit4C pe_str (w4_str _ ⟨by decide +kernel, by decide, fun _ => by decide +kernel⟩ (by decide))) (pa_lits4 (pe_lit4C pe_str (w4_str _ ⟨by decide +kernel, by decide, fun _ => by decide +kernel⟩ (by decide))) (pa_lits4 (pe_lit4C pe_str (w4_str _ ⟨by decide +kernel, by decide, fun _ => by decide +kernel⟩ (by decide))) (pa_lits4 (pe_lit4Mul pe_str pe_int (by decide) (by decide) (by decide) (by decide) (by decide)) pa_lits40)))))))))))))))))))
      (pss_cons (ps_set (i := 3) nd rfl (by first | exact Or.inl rfl | exact Or.inr rfl) (pe_op op_cat (pv 3) (pe_lst (show PA _ _ (tLits4 12 1300000 2 10) from (pa_lits4 (pe_lit4le (c := 3) (n := 2) (pe_lit4T (c := 400050) (n := 1) (m := 0) pa_lits40) (by decide) (by decide)) (pa_lits4 (pe_lit4le (c := 3) (n := 2) (pe_lit4L (c := 400050) (n := 1) (m := 0) pa_lits40) (by decide) (by decide)) (pa_lits4 (pe_lit4D0 (by decide) (by decide)) (pa_lits4 (pe_lit4le (c := 400055) (n := 2) (pe_lit4T (c := 400050) (n := 1) (m := 1) (pa_lits4 (pe_lit4C pe_str (w4_str _ ⟨by decide +kernel, by decide, fun _ => by decide +kernel⟩ (by decide))) pa_lits40)) (by decide) (by decide)) (pa_lits4 (pe_lit4le (c := 400055) (n := 2) (pe_lit4L (c := 400050) (n := 1) (m := 1) (pa_lits4 (pe_lit4C pe_str (w4_str _ ⟨by decide +kernel, by decide, fun _ => by decide +kernel⟩ (by decide))) pa_lits40)) (by decide) (by decide)) (pa_lits4 (pe_lit4le (c := 800107) (n := 2) (pe_lit4T (c := 400050) (n := 1) (m := 2) (pa_lits4 (pe_lit4C pe_str (w4_str _ ⟨by decide +kernel, by decide, fun _ => by decide +kernel⟩ (by decide))) (pa_lits4 (pe_lit4C pe_str (w4_str _ ⟨by decide +kernel, by decide, fun _ => by decide +kernel⟩ (by decide))) pa_lits40))) (by decide) (by decide)) (pa_lits4 (pe_lit4le (c := 800107) (n := 2) (pe_lit4T (c := 400050) (n := 1) (m := 2) (pa_lits4 (pe_lit4C pe_str (w4_str _ ⟨by decide +kernel, by decide, fun _ => by decide +kernel⟩ (by decide))) (pa_lits4 (pe_lit4C pe_str (w4_str _ ⟨by decide +kernel, by decide, fun _ => by decide +kernel⟩ (by decide))) pa_lits40))) (by decide) (by decide)) (pa_lits4 (pe_lit4le (c := 800107) (n := 2) (pe_lit4T (c := 400050) (n := 1) (m := 2) (pa_lits4 (pe_lit4C pe_str (w4_str _ ⟨by decide +kernel, by decide, fun _ => by decide +kernel⟩ (by decide))) (pa_lits4 (pe_lit4C pe_str (w4_str _ ⟨by decide +kernel, by decide, fun _ => by decide +kernel⟩ (by decide))) pa_lits40))) (by decide) (by decide)) (pa_lits4 (pe_lit4le (c := 800107) (n := 2) (pe_lit4T (c := 400050) (n := 1) (m := 2) (pa_lits4 (pe_lit4le (c := 100015) (n := 1) (pe_lit4T (c := 100010) (n := 0) (m := 1) (pa_lits4 (pe_lit4C pe_str (w4_str _ ⟨by decide +kernel, by decide, fun _ => by decide +kernel⟩ (by decide))) pa_lits40)) (by decide) (by decide)) (pa_lits4 (pe_lit4C pe_str (w4_str _ ⟨by decide +kernel, by decide, fun _ => by decide +kernel⟩ (by decide))) pa_lits40))) (by decide) (by decide)) (pa_lits4 (pe_lit4le (c := 800107) (n := 2) (pe_lit4T (c := 400050) (n := 1) (m := 2) (pa_lits4 (pe_lit4le (c := 3) (n := 1) (pe_lit4T (c := 100010) (n := 0) (m := 0) pa_lits40) (by decide) (by decide)) (pa_lits4 (pe_lit4C pe_str (w4_str _ ⟨by decide +kernel, by decide, fun _ => by decide +kernel⟩ (by decide))) pa_lits40))) (by decide) (by decide)) pa_lits40))))))))))))))
      (pss_cons (ps_set (i := 3) nd rfl (by first | exact Or.inl rfl | exact Or.inr rfl) (pe_op op_cat (pv 3) (pe_lst (show PA _ _ (tLits4 12 1300000 2 7) from (pa_lits4 (pe_lit4le (c := 800107) (n := 2) (pe_lit4T (c := 400050) (n := 1) (m := 2) (pa_lits4 (pe_lit4le (c := 100015) (n := 1) (pe_lit4T (c := 100010) (n := 0) (m := 1) (pa_lits4 (pe_lit4C pe_str (w4_str _ ⟨by decide +kernel, by decide, fun _ => by decide +kernel⟩ (by decide))) pa_lits40)) (by decide) (by decide)) (pa_lits4 (pe_lit4C pe_str (w4_str _ ⟨by decide +kernel, by decide, fun _ => by decide +kernel⟩ (by decide))) pa_lits40))) (by decide) (by decide)) (pa_lits4 (pe_lit4le (c := 800107) (n := 2) (pe_lit4T (c := 400050) (n := 1) (m := 2) (pa_lits4 (pe_lit4le (c := 3) (n := 1) (pe_lit4T (c := 100010) (n := 0) (m := 0) pa_lits40) (by decide) (by decide)) (pa_lits4 (pe_lit4C pe_str (w4_str _ ⟨by decide +kernel, by decide, fun _ => by decide +kernel⟩ (by decide))) pa_lits40))) (by decide) (by decide)) (pa_lits4 (pe_lit4le (c := 800107) (n := 2) (pe_lit4T (c := 400050) (n := 1) (m := 2) (pa_lits4 (pe_lit4le (c := 100015) (n := 1) (pe_lit4T (c := 100010) (n := 0) (m := 1) (pa_lits4 (pe_lit4C pe_str (w4_str _ ⟨by decide +kernel, by decide, fun _ => by decide +kernel⟩ (by decide))) pa_lits40)) (by decide) (by decide)) (pa_lits4 (pe_lit4C pe_str (w4_str _ ⟨by decide +kernel, by decide, fun _ => by decide +kernel⟩ (by decide))) pa_lits40))) (by decide) (by decide)) (pa_lits4 (pe_lit4le (c := 800107) (n := 2) (pe_lit4T (c := 400050) (n := 1) (m := 2) (pa_lits4 (pe_lit4le (c := 200027) (n := 1) (pe_lit4T (c := 100010) (n := 0) (m := 2) (pa_lits4 (pe_lit4C pe_str (w4_str _ ⟨by decide +kernel, by decide, fun _ => by decide +kernel⟩ (by decide))) (pa_lits4 (pe_lit4C pe_str (w4_str _ ⟨by decide +kernel, by decide, fun _ => by decide +kernel⟩ (by decide))) pa_lits40))) (by decide) (by decide)) (pa_lits4 (pe_lit4C pe_str (w4_str _ ⟨by decide +kernel, by decide, fun _ => by decide +kernel⟩ (by decide))) pa_lits40))) (by decide) (by decide)) (pa_lits4 (pe_lit4le (c := 800107) (n := 2) (pe_lit4T (c := 400050) (n := 1) (m := 2) (pa_lits4 (pe_lit4le (c := 100015) (n := 1) (pe_lit4L (c := 100010) (n := 0) (m := 1) (pa_lits4 (pe_lit4C pe_str (w4_str _ ⟨by decide +kernel, by decide, fun _ => by decide +kernel⟩ (by decide))) pa_lits40)) (by decide) (by decide)) (pa_lits4 (pe_lit4C pe_str (w4_str _ ⟨by decide +kernel, by decide, fun _ => by decide +kernel⟩ (by decide))) pa_lits40))) (by decide) (by decide)) (pa_lits4 (pe_lit4le (c := 800107) (n := 2) (pe_lit4L (c := 400050) (n := 1) (m := 2) (pa_lits4 (pe_lit4le (c := 100015) (n := 1) (pe_lit4T (c := 100010) (n := 0) (m := 1) (pa_lits4 (pe_lit4C pe_str (w4_str _ ⟨by decide +kernel, by decide, fun _ => by decide +kernel⟩ (by decide))) pa_lits40)) (by decide) (by decide)) (pa_lits4 (pe_lit4C pe_str (w4_str _ ⟨by decide +kernel, by decide, fun _ => by decide +kernel⟩ (by decide))) pa_lits40))) (by decide) (by decide)) (pa_lits4 (pe_lit4le (c := 800107) (n := 2) (pe_lit4T (c := 400050) (n := 1) (m := 2) (pa_lits4 (pe_lit4le (c := 100015) (n := 1) (pe_lit4T (c := 100010) (n := 0) (m := 1) (pa_lits4 (pe_lit4C pe_str (w4_str _ ⟨by decide +kernel, by decide, fun _ => by decide +kernel⟩ (by decide))) pa_lits40)) (by decide) (by decide)) (pa_lits4 (pe_lit4C pe_non (w4_non (by decide))) pa_lits40))) (by decide) (by decide)) pa_lits40)))))))))))
      (pss_cons (ps_set (i := 3) nd rfl (by first | exact Or.inl rfl | exact Or.inr rfl) (pe_op op_cat (pv 3) (pe_lst (pa_cons (show PE _ _ (tLit4 12 1300000 2) from (pe_lit4le (c := 800107) (n := 2) (pe_lit4T (c := 400050) (n := 1) (m := 2) (pa_lits4 (pe_lit4C pe_str (w4_str _ ⟨by decide +kernel, by decide, fun _ => by decide +kernel⟩ (by decide))) (pa_lits4 (pe_lit4C pe_str (w4_str _ ⟨by decide +kernel, by decide, fun _ => by decide +kernel⟩ (by decide))) pa_lits40))) (by decide) (by decide))) (pa_cons (show PE _ _ (tLit4 12 1300000 2) from (pe_lit4le (c := 1200159) (n := 2) (pe_lit4T (c := 400050) (n := 1) (m := 3) (pa_lits4 (pe_lit4le (c := 100015) (n := 1) (pe_lit4T (c := 100010) (n := 0) (m := 1) (pa_lits4 (pe_lit4C pe_str (w4_str _ ⟨by decide +kernel, by decide, fun _ => by decide +kernel⟩ (by decide))) pa_lits40)) (by decide) (by decide)) (pa_lits4 (pe_lit4C pe_str (w4_str _ ⟨by decide +kernel, by decide, fun _ => by decide +kernel⟩ (by decide))) (pa_lits4 (pe_lit4C pe_str (w4_str _ ⟨by decide +kernel, by decide, fun _ => by decide +kernel⟩ (by decide))) pa_lits40)))) (by decide) (by decide))) (pa_cons (show PE _ _ (tLit4 12 1300000 2) from (pe_lit4le (c := 800107) (n := 2) (pe_lit4T (c := 400050) (n := 1) (m := 2) (pa_lits4 (pe_lit4le (c := 200027) (n := 1) (pe_lit4T (c := 100010) (n := 0) (m := 2) (pa_lits4 (pe_lit4C pe_str (w4_str _ ⟨by decide +kernel, by decide, fun _ => by decide +kernel⟩ (by decide))) (pa_lits4 (pe_lit4C pe_int (w4_int _ (by decide +kernel) (by decide))) pa_lits40))) (by decide) (by decide)) (pa_lits4 (pe_lit4C pe_str (w4_str _ ⟨by decide +kernel, by decide, fun _ => by decide +kernel⟩ (by decide))) pa_lits40))) (by decide) (by decide))) (pa_cons (show PE _ _ (tLit4 12 1300000 2) from (pe_lit4D1 pe_str pe_int (by decide) (by decide))) (pa_cons (show PE _ _ (tLit4 12 1300000 2) from (pe_lit4D2 pe_int pe_str (by decide) (by decide))) (pa_cons (show PE _ _ (tLit4 12 1300000 2) from (pe_lit4Rep (pe_lst (pa_cons pe_non pa_nil)) pe_int (by decide) (by decide) (by decide) (by decide))) (pa_cons (pv 1) (pa_cons (show PE _ _ (tLit4 12 1300000 2) from (pe_lit4le (c := 400055) (n := 2) (pe_lit4T (c := 400050) (n := 1) (m := 1) (pa_lits4 (pe_lit4le (c := 100015) (n := 1) (pe_lit4T (c := 100010) (n := 0) (m := 1) (pa_lits4 (pe_lit4C pe_str (w4_str _ ⟨by decide +kernel, by decide, fun _ => by decide +kernel⟩ (by decide))) pa_lits40)) (by decide) (by decide)) pa_lits40)) (by decide) (by decide))) pa_nil)))))))))))
      (pss_one (ps_ret (pe_call cO.G hr rfl cO.m cO.kp cO.b .nil pass0 (pa_cons (pv 0) (pa_cons (pv 3) pa_nil))))))))))), ?_⟩
    refine ⟨by show 0 ≤ sizeLine; decide, fun p0 hp0 ns0 => ⟨30, rfl, by decide, by decide, ?_⟩⟩
    have n0 := same_new (o := .lst []) hp0
    have w0 : WV 12 (upd H p0 (.lst [])) (old H) 8 1 (.ref p0) := ⟨.list [], .lst upd_same (fun ⟨u, hu⟩ => by rw [hp0] at hu; cases hu) ns0 (by decide) .nil, by decide, by decide⟩
    refine for_range (lo := 0) (n := 30) (fun i σ H' => ∃ v2 x, σ = [some (.ref b), some x, v2, none] ∧ Same H H' ∧ WV 12 H' (old H) (8 + 5 * i) (i + 1) x) ⟨_, _, rfl, n0, w0⟩ ?_ ?_
    · rintro i σ H1 hi ⟨v2, x, rfl, s1, wx⟩
      refine ⟨_, rfl, by show 1 ≤ sizeLine; decide, fun u hu nsu => ?_⟩
      have nu := same_new (o := .lst [x]) hu
      obtain ⟨d, g1, g2, g3⟩ := WV.same nu wx
      refine ⟨_, _, rfl, s1.trans nu, .list [d], .lst upd_same (fun ⟨o', h'⟩ => by rw [s1 _ _ h'] at hu; cases hu) nsu (by show 1 ≤ 20000; decide) (.cons g1 .nil), by simp only [cost4, costAll4]; omega, ?_⟩
      show max d.depth 0 + 1 ≤ i + 1 + 1
      have := Nat.max_le.mpr ⟨g3, Nat.zero_le (i + 1)⟩
      omega
    rintro σ H0 ⟨v2, xd, rfl, s0, wd⟩
    refine fun H1 v1 dd1 s1 l1 dw1 bw1 => ⟨by rw [l1, sizeLine_eq]; decide, fun p1 hp1 => ?_⟩
    have w1 : ∀ v ∈ v1, WV 12 H1 (old H) 1300000 31 v := fun v hv => by
      obtain ⟨d, hd, h⟩ := dw1.all v hv
      exact WV.older s0 (WV.le (Nat.le_refl _) (by decide) ⟨d, h, bw1 d hd⟩)
    have t1 := s0.trans (s1.trans (same_new (o := .lst v1) hp1))
    refine ⟨_, rfl, fun H2 v2' dd2 s2 l2 dw2 bw2 => ⟨by rw [l2, sizeLine_eq]; decide, fun p2 hp2 => ?_⟩⟩
    have w2 : ∀ v ∈ v2', WV 12 H2 (old H) 1300000 31 v := fun v hv => by
      obtain ⟨d, hd, h⟩ := dw2.all v hv
      exact WV.older t1 (WV.le (Nat.le_refl _) (by decide) ⟨d, h, bw2 d hd⟩)
    have n2 := same_new (o := .lst v2') hp2
    have a1 := n2 _ _ (s2 _ _ (upd_same (H := H1) (a := p1) (o := .lst v1)))
    refine ⟨p1, p2, v1, v2', rfl, rfl, a1, upd_same, by rw [l1, l2, sizeLine_eq]; decide, fun p3 hp3 => ?_⟩
    have n3 := same_new (o := .lst (v1 ++ v2')) hp3
    have t3 := t1.trans (s2.trans (n2.trans n3))
    have q3 : ∀ v ∈ v1 ++ v2', WV 12 (upd (upd H2 p2 (.lst v2')) p3 (.lst (v1 ++ v2'))) (old H) 1300000 31 v := fun v hv => by
      rcases List.mem_append.mp hv with h | h
      · exact WV.same ((same_new hp1).trans (s2.trans (n2.trans n3))) (w1 v h)
      · exact WV.same (n2.trans n3) (w2 v h)
    have d3 : WV 12 (upd (upd H2 p2 (.lst v2')) p3 (.lst (v1 ++ v2'))) (old H) 1300000 31 xd := WV.le (by decide) (Nat.le_refl _) (WV.same (s1.trans ((same_new hp1).trans (s2.trans (n2.trans n3)))) wd)
    have a3 : (upd (upd H2 p2 (.lst v2')) p3 (.lst (v1 ++ v2'))) p3 = some (.lst (v1 ++ v2')) := upd_same
    have l3 : (v1 ++ v2').length = 16 + 10 := by rw [List.length_append, l1, l2]
    generalize upd (upd H2 p2 (.lst v2')) p3 (.lst (v1 ++ v2')) = H3 at t3 q3 a3 d3 ⊢
    generalize v1 ++ v2' = v3 at q3 a3 l3 ⊢
    refine ⟨_, rfl, fun H4 v4 dd4 s4 l4 dw4 bw4 => ⟨by rw [l4, sizeLine_eq]; decide, fun p4 hp4 => ?_⟩⟩
    have w4 : ∀ v ∈ v4, WV 12 H4 (old H) 1300000 31 v := fun v hv => by
      obtain ⟨d, hd, h⟩ := dw4.all v hv
      exact WV.older t3 (WV.le (Nat.le_refl _) (by decide) ⟨d, h, bw4 d hd⟩)
    have n4 := same_new (o := .lst v4) hp4
    refine ⟨p3, p4, v3, v4, rfl, rfl, n4 _ _ (s4 _ _ a3), upd_same, by rw [l3, l4, sizeLine_eq]; decide, fun p5 hp5 => ?_⟩
    have n5 := same_new (o := .lst (v3 ++ v4)) hp5
    have t5 := t3.trans (s4.trans (n4.trans n5))
    have q5 : ∀ v ∈ v3 ++ v4, WV 12 (upd (upd H4 p4 (.lst v4)) p5 (.lst (v3 ++ v4))) (old H) 1300000 31 v := fun v hv => by
      rcases List.mem_append.mp hv with h | h
      · exact WV.same (s4.trans (n4.trans n5)) (q3 v h)
      · exact WV.same (n4.trans n5) (w4 v h)
    have d5 := WV.same (s4.trans (n4.trans n5)) d3
    have a5 : (upd (upd H4 p4 (.lst v4)) p5 (.lst (v3 ++ v4))) p5 = some (.lst (v3 ++ v4)) := upd_same
    have l5 : (v3 ++ v4).length = 16 + 10 + 7 := by rw [List.length_append, l3, l4]
    generalize upd (upd H4 p4 (.lst v4)) p5 (.lst (v3 ++ v4)) = H5 at t5 q5 a5 d5 ⊢
    generalize v3 ++ v4 = v5 at q5 a5 l5 ⊢
    refine ⟨_, rfl, fun Ga xa sa wa => fun Gb xb sb wb => fun Gc xc sc wc => fun Gd xe sd we => fun Ge xf se wf => fun Gf xg sf wg => ⟨_, rfl, fun Gg xh sg wh => ⟨by show 8 ≤ sizeLine; decide, fun p6 hp6 => ?_⟩⟩⟩
    have sab := sa.trans sb
    have sac := sab.trans sc
    have sad := sac.trans sd
    have sae := sad.trans se
    have saf := sae.trans sf
    have sag := saf.trans sg
    have up : ∀ {G G' : Hp} {x : V}, Same H G → Same G G' → ∀ {G0 : Hp}, Same G' G0 → WV 12 G' (old G) 1300000 2 x → WV 12 G0 (old H) 1300000 31 x := fun {G G' x} h1 h2 {G0} h3 h => WV.older h1 (WV.le (Nat.le_refl _) (by decide) (WV.same h3 h))
    have w6 : ∀ v ∈ [xa, xb, xc, xe, xf, xg, xd, xh], WV 12 Gg (old H) 1300000 31 v := fun v hv => by
      rcases List.mem_cons.mp hv with rfl | hv
      · exact up t5 sa (sb.trans (sc.trans (sd.trans (se.trans (sf.trans sg))))) wa
      rcases List.mem_cons.mp hv with rfl | hv
      · exact up (t5.trans sa) sb (sc.trans (sd.trans (se.trans (sf.trans sg)))) wb
      rcases List.mem_cons.mp hv with rfl | hv
      · exact up (t5.trans sab) sc (sd.trans (se.trans (sf.trans sg))) wc
      rcases List.mem_cons.mp hv with rfl | hv
      · exact up (t5.trans sac) sd (se.trans (sf.trans sg)) we
      rcases List.mem_cons.mp hv with rfl | hv
      · exact up (t5.trans sad) se (sf.trans sg) wf
      rcases List.mem_cons.mp hv with rfl | hv
      · exact up (t5.trans sae) sf sg wg
      rcases List.mem_cons.mp hv with rfl | hv
      · exact WV.same sag d5
      · rw [List.mem_singleton.mp hv]
        exact up (t5.trans saf) sg (Same.refl _) wh
    have n6 := same_new (o := .lst [xa, xb, xc, xe, xf, xg, xd, xh]) hp6
    refine ⟨p5, p6, v5, _, rfl, rfl, n6 _ _ (sag _ _ a5), upd_same, by rw [l5, sizeLine_eq]; show _ + 8 ≤ _; decide, fun z hz => ?_⟩
    have nz := same_new (o := .lst (v5 ++ [xa, xb, xc, xe, xf, xg, xd, xh])) hz
    have s13 := t5.trans (sag.trans (n6.trans nz))
    have zb : z ≠ b := by
      obtain ⟨o, e⟩ := B.at_
      exact fun ez => by rw [ez, n6 _ _ (sag _ _ (t5 _ _ e))] at hz; cases hz
    refine ⟨_, rfl, _, rfl, b, l, z, _, rfl, B.same s13, zb, upd_same, by intro e; have := congrArg List.length e; rw [List.length_append] at this; simp at this, by rw [List.length_append, l5]; show _ + 8 < _; decide, fun v H14 hv B14 k14 => ?_⟩
    refine k H14 v ?_ B14 ((Kp.of s13).trans k14)
    have wv : WV 12 (upd (upd Gg p6 (.lst [xa, xb, xc, xe, xf, xg, xd, xh])) z (.lst (v5 ++ [xa, xb, xc, xe, xf, xg, xd, xh]))) (old H) 1300000 31 v := by
      refine WV.same (n6.trans nz) ?_
      rcases List.mem_append.mp hv with h | h
      · exact WV.same sag (q5 v h)
      · exact w6 v h
    refine WV.keep (fun c o e na => ?_) wv
    refine ⟨k14 _ _ e fun ec => ?_, na⟩
    obtain ⟨o', e'⟩ := B.at_
    exact na ⟨o', by rw [ec]; exact e'⟩
end
end Qk
set_option maxRecDepth 100000
set_option maxHeartbeats 4000000
namespace Qk
open PySem PySem.Spec PyProof.Rows L2
section
variable {P : Program} {w : World} {K : PySem.W.Frag} {mg : Str → Option Value} {base : Heap}
/-- a short text of signs below 200 -/
def ShortS (z : Str) : Prop := z.cps.size ≤ 20 ∧ ∀ c ∈ z.cps.toList, c < 200
theorem ShortS.tx {z : Str} (h : ShortS z) : TxOk z := by
  refine ⟨List.all_eq_true.mpr fun c hc => decide_eq_true (Nat.lt_of_lt_of_le (h.2 c hc) (by decide)), Nat.le_trans h.1 (by decide), fun _ => ?_⟩
  unfold PyData.strOk
  rw [← Array.all_toList, List.all_eq_true]
  exact fun c hc => decide_eq_true (Nat.lt_of_lt_of_le (h.2 c hc) (by decide))
theorem join_short {ys : List Str} (h : ∀ y ∈ ys, ∃ c, y = ⟨#[c]⟩ ∧ c < 200) (hl : ys.length ≤ 20) : ShortS (Txt.join "" ys) := by
  refine ⟨?_, fun c hc => ?_⟩
  · have := PySem.W.KT.join_ones ys fun y hy => by
      obtain ⟨c, rfl, _⟩ := h y hy
      rfl
    show (Txt.join "" ys).length ≤ 20
    rw [show (Txt.join "" ys).length = ys.length from this]
    exact hl
  · rw [TL.join_eq, PyProof.Rows.mem_join] at hc
    rcases hc with ⟨y, hy, hc⟩ | ⟨_, hc⟩
    · obtain ⟨c', rfl, h'⟩ := h y hy
      have : c = c' := by simpa using hc
      rw [this]
      exact h'
    · rw [show (Str.ofString "").cps.toList = [] from rfl] at hc
      cases hc
def spSpelt : Sp := fun vs H Q _ => ∃ (b l : Addr), vs = [.ref b] ∧ Bag H b l ∧ ∀ (H' : Hp) (z : Str), ShortS z → Bag H' b l → Kp b H H' → Q (.str z) H'
abbrev nSpelt : List Str := ["_law_bag_here", "_law_marks", "_law_k"]
theorem scSpelt : FnScope nSpelt ["_law_bag_here"] (defScope sSpelt) := ⟨rfl, rfl, rfl, by decide +kernel, rfl, by decide +kernel, by decide +kernel⟩
theorem ok_spelt {f : Addr} {fd : FuncData} (F : Fun K "_law_spelt" "_law_spelt" sSpelt f fd) (T : Txt K mg) (cT : Cal P w K mg base 1 "_law_take" ["_law_bag_here", "_law_many"] spTake) : FnOk P w K mg base CX0 2 f fd ["_law_bag_here"] spSpelt := by
  refine F.ok scSpelt (fun vs H Q E h => ?_) (fun cdv A outer s H vs Q E hr h => ?_)
  · obtain ⟨b, l, rfl, _⟩ := h
    rfl
  · obtain ⟨b, l, rfl, B, k⟩ := h
    have nd := scSpelt.nd
    refine ⟨_, (pss_cons (ps_set (i := 1) nd rfl (by first | exact Or.inl rfl | exact Or.inr rfl) pe_str)
      (Evl.pss_cut (ps_if (pt_cmpR op_eq (pe_call cT.G hr rfl cT.m cT.kp cT.b .nil pass0 (pa_cons (pv 0) (pa_cons pe_int pa_nil))) pe_int (nomark _)) (pss_one (ps_set (i := 1) nd rfl (by first | exact Or.inl rfl | exact Or.inr rfl) (pe_op op_add_str (pv 1) pe_str))) pss_nil)
      (pss_one (ps_ret (pe_join pe_str (pe_lc (own := [("_law_k", 2)]) (g := gName 2) (tt := tYes) rfl nd (pi_range1 (by rfl) T.range (pa_cons (pe_call cT.G hr rfl cT.m cT.kp cT.b .nil pass0 (pa_cons (pv 0) (pa_cons pe_int pa_nil))) pa_nil)) (blkOk_by (N := nSpelt) (sc := defScope sSpelt) (by decide +kernel)) (fun _ _ _ _ _ => (pg_name (i := 2) nd rfl (by first | exact Or.inl rfl | exact Or.inr rfl))) (fun _ _ _ _ _ => pts_nil) (fun _ _ _ _ _ => (pe_ix ix_str (pv 1) (pe_call cT.G hr rfl cT.m cT.kp cT.b .nil pass0 (pa_cons (pv 0) (pa_cons (pe_callB call_len_str (by rfl) T.len PySem.boot_len (pa_cons (pv 1) pa_nil)) pa_nil))) fun _ _ => rfl)))))))), ?_⟩
    refine ⟨fun σ G => ∃ z : Str, σ = [some (.ref b), some (.str z), none] ∧ Bag G b l ∧ Kp b H G ∧ 1 ≤ z.cps.size ∧ z.cps.size ≤ 100 ∧ ∀ c ∈ z.cps.toList, c < 200, ?_, ?_⟩
    · refine ⟨_, rfl, b, l, 2, rfl, B, by decide, by decide, fun j H1 hj B1 k1 => ?_⟩
      refine ⟨rfl, _, rfl, ?_⟩
      refine ite2 (fun _ => ?_) (fun _ => ?_)
      · refine ⟨_, rfl, _, _, rfl, rfl, by decide +kernel, ?_⟩
        exact ⟨_, rfl, B1, k1, by decide +kernel, by decide +kernel, by decide +kernel⟩
      · exact ⟨_, rfl, B1, k1, by decide +kernel, by decide +kernel, by decide +kernel⟩
    rintro σ G ⟨z, rfl, BG, kG, z1, z2, z3⟩
    refine ⟨⟨_, rfl⟩, ?_⟩
    refine ⟨_, rfl, b, l, 11, rfl, BG, by decide, by decide, fun n H1 hn B1 k1 => ⟨(n : Int), rfl, by omega, by omega, fun D hD => ?_⟩⟩
    have Db := B1.ne hD
    have lD := B1.nel hD
    have kH := kG.trans k1
    have D0 : H D = none := by
      cases e : H D with
      | none => rfl
      | some o => rw [kH _ _ e Db] at hD; cases hD
    refine lc_range (lo := 0) (n := n) (fun i H' => Bag H' b l ∧ Kp b H H' ∧ ∃ ys : List Str, H' D = some (.lst (ys.map V.str)) ∧ ys.length = i ∧ ∀ y ∈ ys, ∃ c, y = ⟨#[c]⟩ ∧ c < 200) ⟨B1.new hD, kH.trans (Kp.new hD), [], upd_same, rfl, fun y hy => (nomatch hy)⟩ ?_ ?_
    · rintro i H2 hi ⟨B2, k2, ys, hDl, hy, hc⟩
      refine ⟨rfl, Exists.intro _ ⟨rfl, Exists.intro _ ⟨rfl, _, rfl, z, rfl, by show z.cps.size ≤ sizeLine; rw [sizeLine_eq]; omega, b, l, _, rfl, B2, by show (0 : Int) < (z.cps.size : Int); omega, by show (z.cps.size : Int) < 1000000; omega, fun j H3 hj B3 k3 => ?_⟩⟩⟩
      have hj' : j < z.cps.size := by
        have : (j : Int) < (z.cps.size : Int) := hj
        omega
      have hD3 := k3 _ _ hDl Db
      refine ⟨z, (j : Int), z.cps[j], rfl, rfl, by show z.cps.size ≤ sizeLine; rw [sizeLine_eq]; omega, atI_nat (by rw [Array.getElem?_toList, Array.getElem?_eq_getElem hj']), ?_⟩
      refine ⟨_, hD3, small1000 (by rw [List.length_map]; omega), B3.upd Db.symm lD, fun c o hc' ncb => ?_, ys ++ [⟨#[z.cps[j]]⟩], by rw [upd_same, List.map_append]; rfl, by rw [List.length_append, hy]; rfl, fun y hy' => ?_⟩
      · rw [upd_ne (ne_of_none hc' D0)]
        exact k3 _ _ (k2 _ _ hc' ncb) ncb
      · rcases List.mem_append.mp hy' with h | h
        · exact hc y h
        · rw [List.mem_singleton.mp h]
          exact ⟨_, rfl, z3 _ (by simp)⟩
    · rintro H2 ⟨B2, k2, ys, hDl, hy, hc⟩
      have sum : (ys.map fun y : Str => y.length).sum = ys.length := by
        clear hDl hy
        induction ys with
        | nil => rfl
        | cons y ys ih =>
          obtain ⟨c, rfl, _⟩ := hc y List.mem_cons_self
          rw [List.map_cons, List.sum_cons, ih fun y h => hc y (List.mem_cons_of_mem _ h), List.length_cons]
          show 1 + _ = _
          omega
      refine ⟨_, D, ys, rfl, rfl, .inl (SqL.of hDl), by rw [sum]; show ys.length + ys.length * 0 ≤ _; omega, ?_⟩
      exact k H2 _ (join_short hc (by omega)) B2 k2
end
end Qk
set_option maxRecDepth 100000
set_option maxHeartbeats 4000000
namespace Qk
open PySem PySem.Spec PyProof.Rows L2
section
variable {P : Program} {w : World} {K : PySem.W.Frag} {mg : Str → Option Value} {base : Heap}
/-- one to twelve short texts -/
structure NX (xs : List Str) : Prop where
  pos : 0 < xs.length
  le : xs.length ≤ 12
  sh : ∀ x ∈ xs, ShortS x
theorem NX.row {xs : List Str} (h0 : 0 < xs.length) (h : xs.length ≤ 12) (hs : ∀ c ∈ xs, c ∈ menu) : NX xs := ⟨h0, h, fun x hx => by
  have : ∀ c ∈ menu, c.cps.size ≤ 20 ∧ ∀ d ∈ c.cps.toList, d < 200 := by decide +kernel
  exact this x (hs x hx)⟩
theorem ShortS.nil : ShortS "" := ⟨by decide, by decide⟩
theorem d4_texts {mx : Nat} {H : Hp} {A : Addr → Prop} : ∀ {zs : List Str}, (∀ z ∈ zs, ShortS z) → D4A mx H A (zs.map V.str) (zs.map PyData.str)
  | [], _ => .nil
  | z :: zs, h => .cons (.str z (h z List.mem_cons_self).tx) (d4_texts fun y hy => h y (List.mem_cons_of_mem _ hy))
theorem cost_texts : ∀ {zs : List Str}, (∀ z ∈ zs, ShortS z) → costAll4 (zs.map PyData.str) ≤ 212 * zs.length
  | [], _ => Nat.le_refl 0
  | z :: zs, h => by
    have h1 := (h z List.mem_cons_self).1
    have h2 := cost_texts fun y hy => h y (List.mem_cons_of_mem _ hy)
    simp only [List.map_cons, costAll4, cost4, List.length_cons]
    omega
/-- a tuple of at most twelve things, nothing of it at b -/
def TpV (b : Addr) (H : Hp) (p : Addr) : Prop := ∃ (ys : List V) (ds : List PyData), H p = some (.tup ys) ∧ p ≠ b ∧ D4A 12 H (fun c => c = b) ys ds ∧ ys.length ≤ 12 ∧ costAll4 ds ≤ 3000 ∧ PyData.depthAll ds ≤ 1
def spTup11 : Sp := fun vs H Q _ => ∃ (b l a : Addr) (xs : List Str), vs = [.ref b, .ref a] ∧ Bag H b l ∧ a ≠ b ∧ H a = some (.lst (xs.map V.str)) ∧ NX xs ∧ ∀ (p : Addr) (H' : Hp), TpV b H' p → Bag H' b l → Kp b H H' → Q (.ref p) H'
theorem scIndex : FnScope ["_law_bag_here", "_law_names_here"] ["_law_bag_here", "_law_names_here"] (defScope sIndex) := ⟨rfl, rfl, rfl, by decide +kernel, rfl, by decide +kernel, by decide +kernel⟩
theorem ok_index {f : Addr} {fd : FuncData} (F : Fun K "_law_index" "_law_index" sIndex f fd) (T : Txt K mg) (cT : Cal P w K mg base 1 "_law_take" ["_law_bag_here", "_law_many"] spTake) (cM : Cal P w K mg base 2 "_law_mixed" ["_law_bag_here", "_law_things"] spMixed) : FnOk P w K mg base CX0 3 f fd ["_law_bag_here", "_law_names_here"] spTup11 := by
  refine F.ok scIndex (fun vs H Q E h => ?_) (fun cdv A outer s H vs Q E hr h => ?_)
  · obtain ⟨b, l, a, xs, rfl, _⟩ := h
    rfl
  · obtain ⟨b, l, a, xs, rfl, B, nab, ha, R, k⟩ := h
    have nd := scIndex.nd
    have hr1 : Room 1 _ := hr.mono (by decide)
    refine ⟨_, pss_one (ps_ret (pe_callTy call_tuple_of (by rfl) T.tuple (by decide +kernel) (pa_cons (pe_slice sl_list (pe_call cM.G hr rfl cM.m cM.kp cM.b .nil pass0 (pa_cons (pv 0) (pa_cons (pv 1) pa_nil))) po_none
        (po_some (pe_op op_add pe_int (pe_call cT.G hr1 rfl cT.m cT.kp cT.b .nil pass0 (pa_cons (pv 0) (pa_cons (pe_callB call_len_seq (by rfl) T.len PySem.boot_len (pa_cons (pv 1) pa_nil)) pa_nil)))))) pa_nil))), ?_⟩
    have hl := R.le
    have hpos := R.pos
    refine ⟨_, rfl, _, rfl, b, l, a, _, rfl, B, nab, ha, by rw [List.length_map]; omega, fun ys0 p H1 hp0 hp hpb h1 B1 k1 => ?_⟩
    obtain ⟨ys, rfl, hy⟩ := perm_strs hp0
    have ha1 := k1 _ _ ha nab
    refine ⟨_, rfl, _, rfl, _, _, rfl, .inl (SqL.of ha1), b, l, _, rfl, B1, by rw [List.length_map]; omega, by rw [List.length_map]; omega, fun j H2 hj B2 k2 => ?_⟩
    rw [List.length_map] at hj
    refine ⟨_, _, rfl, rfl, _, rfl, p, _, rfl, SqL.of (k2 _ _ h1 hpb), fun r hr => ⟨r, _, rfl, .inl ⟨SqL.of upd_same, fun t ht => ?_⟩⟩⟩
    have ec : cutV (ys.map V.str) none (some (1 + (j : Int))) = (ys.take (j + 1)).map V.str := by
      have e1 : (1 + (j : Int)) = ((j + 1 : Nat) : Int) := by omega
      rw [e1, cut_to, List.map_take]
    rw [ec] at ht
    rw [ec]
    have hyl := hy.length_eq
    have sl := List.take_sublist (j + 1) ys
    have s2 : Same H2 _ := (same_new (o := .lst ((ys.take (j + 1)).map V.str)) hr).trans (same_new (o := .tup ((ys.take (j + 1)).map V.str)) ht)
    have hsh : ∀ c ∈ ys.take (j + 1), ShortS c := fun c hc => R.sh c (hy.mem_iff.mp (sl.mem hc))
    have ll : (ys.take (j + 1)).length ≤ 12 := by rw [List.length_take]; omega
    have B3 : Bag _ b l := B2.same s2
    have htb : t ≠ b := (B2.new hr (o := .lst ((ys.take (j + 1)).map V.str))).ne ht
    refine k t _ ⟨_, _, upd_same, htb, d4_texts hsh, by rw [List.length_map]; exact ll, Nat.le_trans (cost_texts hsh) (by omega), by rw [depth_strs]; decide⟩ B3 (k1.trans (k2.trans (Kp.of s2)))
theorem scQuestion : FnScope ["_law_bag_here", "_law_names_here", "_law_some", "_law_end"] ["_law_bag_here", "_law_names_here"] (defScope sQuestion) := ⟨rfl, rfl, rfl, by decide +kernel, rfl, by decide +kernel, by decide +kernel⟩
theorem ok_question {f : Addr} {fd : FuncData} (F : Fun K "_law_question" "_law_question" sQuestion f fd) (T : Txt K mg) (cT : Cal P w K mg base 1 "_law_take" ["_law_bag_here", "_law_many"] spTake) (cM : Cal P w K mg base 2 "_law_mixed" ["_law_bag_here", "_law_things"] spMixed) : FnOk P w K mg base CX0 3 f fd ["_law_bag_here", "_law_names_here"] spTup11 := by
  refine F.ok scQuestion (fun vs H Q E h => ?_) (fun cdv A outer s H vs Q E hr h => ?_)
  · obtain ⟨b, l, a, xs, rfl, _⟩ := h
    rfl
  · obtain ⟨b, l, a, xs, rfl, B, nab, ha, R, k⟩ := h
    have nd := scQuestion.nd
    have hr1 : Room 1 _ := hr.mono (by decide)
    refine ⟨_, pss_cons (ps_set (i := 2) nd rfl (Or.inl rfl) (pe_slice sl_list (pe_call cM.G hr rfl cM.m cM.kp cM.b .nil pass0 (pa_cons (pv 0) (pa_cons (pv 1) pa_nil))) po_none
        (po_some (pe_op op_add pe_int (pe_call cT.G hr1 rfl cT.m cT.kp cT.b .nil pass0 (pa_cons (pv 0) (pa_cons (pe_callB call_len_seq (by rfl) T.len PySem.boot_len (pa_cons (pv 1) pa_nil)) pa_nil)))))))
      (Evl.pss_cut (ps_set (i := 3) nd rfl (Or.inl rfl) (pe_ifExp (pt_cmpR op_eq (pe_call cT.G hr1 rfl cT.m cT.kp cT.b .nil pass0 (pa_cons (pv 0) (pa_cons pe_int pa_nil))) pe_int (nomark _))
        (pe_bm0 PySem.F.plainAttrs_list PySem.F.slot_list_pop PySem.F.type_list_pop mt_pop (pv 2)) pe_str))
      (pss_one (ps_ret (pe_tup (pa_cons (pe_callTy call_tuple_of (by rfl) T.tuple (by decide +kernel) (pa_cons (pe_callB cr_sortedST (by rfl) T.sorted (by decide +kernel) (pa_cons (pv 2) pa_nil)) pa_nil)) (pa_cons (pv 3) pa_nil)))))), ?_⟩
    have hl := R.le
    have hpos := R.pos
    refine ⟨_, rfl, _, rfl, b, l, a, _, rfl, B, nab, ha, by rw [List.length_map]; omega, fun ys0 p H1 hp0 hp hpb h1 B1 k1 => ?_⟩
    obtain ⟨ys, rfl, hy⟩ := perm_strs hp0
    have ha1 := k1 _ _ ha nab
    refine ⟨_, rfl, _, rfl, _, _, rfl, .inl (SqL.of ha1), b, l, _, rfl, B1, by rw [List.length_map]; omega, by rw [List.length_map]; omega, fun j H2 hj B2 k2 => ?_⟩
    rw [List.length_map] at hj
    refine ⟨_, _, rfl, rfl, _, rfl, p, _, rfl, SqL.of (k2 _ _ h1 hpb), fun r hr => ?_⟩
    have ec : cutV (ys.map V.str) none (some (1 + (j : Int))) = (ys.take (j + 1)).map V.str := by
      have e1 : (1 + (j : Int)) = ((j + 1 : Nat) : Int) := by omega
      rw [e1, cut_to, List.map_take]
    rw [ec]
    have hrb : r ≠ b := B2.ne hr
    have hyl := hy.length_eq
    have hsh : ∀ c ∈ ys, ShortS c := fun c hc => R.sh c (hy.mem_iff.mp hc)
    refine ⟨fun σ' H' => ∃ (zs : List Str) (e : Str), σ' = [some (.ref b), some (.ref a), some (.ref r), some (.str e)] ∧ H' r = some (.lst (zs.map V.str)) ∧ zs.length ≤ 12 ∧ (∀ z ∈ zs, ShortS z) ∧ ShortS e ∧ Bag H' b l ∧ Kp b H H', ?_, ?_⟩
    · refine ⟨_, rfl, b, l, 2, rfl, B2.new hr, by decide, by decide, fun j2 H3 hj2 B3 k3 => ?_⟩
      have kH3 : Kp b H H3 := k1.trans (k2.trans ((Kp.new hr).trans k3))
      have hr3 := k3 _ _ upd_same hrb
      refine ⟨rfl, _, rfl, ?_⟩
      refine ite2 (fun _ => ?_) (fun _ => ?_)
      · have hlt : j < ys.length := by omega
        have el : ((ys.take (j + 1)).map V.str)[((ys.take (j + 1)).map V.str).length - 1]? = some (V.str ys[j]) := by
          rw [List.length_map, List.length_take, Nat.min_eq_left (by omega), Nat.add_sub_cancel, List.getElem?_map, List.getElem?_take_of_lt (by omega), List.getElem?_eq_getElem hlt]
          rfl
        refine ⟨_, rfl, .inl ⟨rfl, _, SqL.of hr3⟩, r, _, _, rfl, rfl, hr3, el, ?_⟩
        have ed : ((ys.take (j + 1)).map V.str).dropLast = (ys.take j).map V.str := by
          rw [← List.map_dropLast, List.take_add_one, List.getElem?_eq_getElem hlt, Option.toList_some, List.dropLast_concat]
        rw [ed]
        refine ⟨ys.take j, ys[j], rfl, upd_same, by rw [List.length_take]; omega, fun z hz => hsh z (List.mem_of_mem_take hz), hsh _ (List.getElem_mem hlt), B3.upd hrb.symm (B2.nel hr), fun c o hc ncb => ?_⟩
        have ncr : c ≠ r := ne_of_none (k2 _ _ (k1 _ _ hc ncb) ncb) hr
        rw [upd_ne ncr]
        exact kH3 _ _ hc ncb
      · exact ⟨ys.take (j + 1), "", rfl, hr3, by rw [List.length_take]; omega, fun z hz => hsh z (List.mem_of_mem_take hz), ShortS.nil, B3, kH3⟩
    · rintro σ' H' ⟨zs, e, rfl, h2, hz, hq, he, B4, k4⟩
      refine ⟨_, rfl, r, zs, rfl, .inl (SqL.of h2), by omega, fun ws p1 hw hs hp1 => ⟨p1, _, rfl, .inl ⟨SqL.of upd_same, fun p2 hp2 => ⟨_, rfl, by show 2 ≤ sizeLine; decide, fun p3 hp3 => ?_⟩⟩⟩⟩
      have sa := same_new (o := .lst (ws.map V.str)) hp1
      have sb := same_new (o := .tup (ws.map V.str)) hp2
      have sc := same_new (o := .tup [.ref p2, .str e]) hp3
      have s3 : Same H' _ := sa.trans (sb.trans sc)
      have hws : ∀ z ∈ ws, ShortS z := fun z hz' => hq z (hw.mem_iff.mp hz')
      have lw : ws.length ≤ 12 := by rw [hw.length_eq]; exact hz
      have p2b : p2 ≠ b := (B4.same sa).ne hp2
      have p3b : p3 ≠ b := (B4.same (sa.trans sb)).ne hp3
      refine k p3 _ ⟨[.ref p2, .str e], [.tuple (ws.map PyData.str), .str e], upd_same, p3b, .cons (.tup (sc _ _ upd_same) p2b (by rw [List.length_map]; exact lw) (d4_texts hws)) (.cons (.str e he.tx) .nil), by show 2 ≤ 12; decide, ?_, ?_⟩ (B4.same s3) (k4.trans (Kp.of s3))
      · have c1 := cost_texts hws
        have c2 := he.1
        simp only [costAll4, cost4]
        omega
      · show max (PyData.depthAll (ws.map PyData.str) + 1) (max 0 0) ≤ 1
        rw [depth_strs]
        decide
end
end Qk
set_option maxRecDepth 100000
set_option maxHeartbeats 4000000
namespace Qk
open PySem PySem.Spec PyProof.Rows L2
section
variable {P : Program} {w : World} {K : PySem.W.Frag} {mg : Str → Option Value} {base : Heap}
theorem cut_from0 (i : Nat) (xs : List V) : cutV xs (some (i : Int)) none = xs.drop i := by
  unfold cutV
  rw [show HT.sIx xs.length 0 (some (i : Int)) = min i xs.length from HT.sIx_nat xs.length 0 i, HT.sIx_none]
  rcases Nat.le_total i xs.length with h | h
  · rw [Nat.min_eq_left h, List.take_of_length_le (by simp)]
  · rw [Nat.min_eq_right h, List.drop_eq_nil_of_le (Nat.le_refl _), List.drop_eq_nil_of_le h]
    simp
def spBent11 : Sp := fun vs H Q _ => ∃ (b l a : Addr), vs = [.ref b, .ref a] ∧ Bag H b l ∧ TpV b H a ∧ ∀ (H' : Hp) (v : V), WV 13 H' (fun c => c = b) 3000000 34 v → Bag H' b l → Kp b H H' → Q v H'
abbrev nBent : List Str := ["_law_bag_here", "_law_thing_here", "_law_parts", "_law_way", "_law_at"]
theorem scBent : FnScope nBent ["_law_bag_here", "_law_thing_here"] (defScope sBent) := ⟨rfl, rfl, rfl, by decide +kernel, rfl, by decide +kernel, by decide +kernel⟩
theorem ok_bent {f : Addr} {fd : FuncData} (F : Fun K "_law_bent" "_law_bent" sBent f fd) (T : Txt K mg) (cT : Cal P w K mg base 1 "_law_take" ["_law_bag_here", "_law_many"] spTake) (c1 : Cal P w K mg base 2 "_law_one" ["_law_bag_here", "_law_some"] spOne) (cO : Cal P w K mg base 3 "_law_odd" ["_law_bag_here"] spOdd11) : FnOk P w K mg base CX0 4 f fd ["_law_bag_here", "_law_thing_here"] spBent11 := by
  refine F.ok scBent (fun vs H Q E h => ?_) (fun cdv AA outer s H vs Q E hr h => ?_)
  · obtain ⟨b, l, a, rfl, _⟩ := h
    rfl
  · obtain ⟨b, l, a, rfl, B, ⟨ys, ds, ha, nab, hd, hl, hc, hn⟩, k⟩ := h
    have nd := scBent.nd
    have hr1 : Room 1 _ := hr.mono (by decide)
    have hr2 : Room 2 _ := hr.mono (by decide)
    refine ⟨_, (pss_cons (ps_par (i := 2) (j := 3) rfl nd rfl rfl (by decide) rfl rfl (pa_cons (pe_callTy call_list_ofN (by rfl) T.list (by decide +kernel) (pa_cons (pv 1) pa_nil)) (pa_cons (pe_call cT.G hr1 rfl cT.m cT.kp cT.b .nil pass0 (pa_cons (pv 0) (pa_cons pe_int pa_nil))) pa_nil)) rfl)
      (pss_cons (ps_set (i := 4) nd rfl (by first | exact Or.inl rfl | exact Or.inr rfl) (pe_call cT.G hr1 rfl cT.m cT.kp cT.b .nil pass0 (pa_cons (pv 0) (pa_cons (pe_op op_add (pe_callB call_len_seq (by rfl) T.len PySem.boot_len (pa_cons (pv 2) pa_nil)) pe_int) pa_nil))))
      (pss_cons (ps_if (pt_cmpR op_eq (pv 3) pe_int (nomark _)) (pss_one (ps_ret (pv 2))) pss_nil)
      (pss_cons (ps_if (pt_cmpR op_eq (pv 3) pe_int (nomark _)) (pss_one (ps_ret (pe_callTy call_tuple_of (by rfl) T.tuple (by decide +kernel) (pa_cons (pe_revLN (pv 2)) pa_nil)))) pss_nil)
      (pss_cons (ps_if (pt_cmpR op_eq (pv 3) pe_int (nomark _)) (pss_one (ps_ret (pe_callTy call_tuple_of (by rfl) T.tuple (by decide +kernel) (pa_cons (pe_op op_cat (pe_slice sl_list (pv 2) po_none (po_some (pv 4))) (pe_slice sl_list (pv 2) (po_some (pe_op op_add (pv 4) pe_int)) po_none)) pa_nil)))) pss_nil)
      (pss_cons (ps_if (pt_cmpR op_eq (pv 3) pe_int (nomark _)) (pss_one (ps_ret (pe_callTy call_tuple_of (by rfl) T.tuple (by decide +kernel) (pa_cons (pe_op op_cat (pe_op op_cat (pe_slice sl_list (pv 2) po_none (po_some (pv 4))) (pe_lst (pa_cons (pe_call c1.G hr2 rfl c1.m c1.kp c1.b .nil pass0 (pa_cons (pv 0) (pa_cons (pe_op op_cat (pv 2) (pe_lst (pa_cons pe_str (pa_cons pe_str (pa_cons pe_non (pa_cons pe_int (pa_cons (pe_tup (pa_cons pe_str pa_nil)) pa_nil))))))) pa_nil))) pa_nil))) (pe_slice sl_list (pv 2) (po_some (pv 4)) po_none)) pa_nil)))) pss_nil)
      (pss_cons (ps_if (PW.pt (pw_and (pt_cmpR op_eq (pv 3) pe_int (nomark _)) (pw_and1 (pt_cmpR op_lt (pv 4) (pe_callB call_len_seq (by rfl) T.len PySem.boot_len (pa_cons (pv 2) pa_nil)) (nomark _))))) (pss_one (ps_ret (pe_callTy call_tuple_of (by rfl) T.tuple (by decide +kernel) (pa_cons (pe_op op_cat (pe_op op_cat (pe_slice sl_list (pv 2) po_none (po_some (pv 4))) (pe_lst (pa_cons (pe_call cO.G hr rfl cO.m cO.kp cO.b .nil pass0 (pa_cons (pv 0) pa_nil)) pa_nil))) (pe_slice sl_list (pv 2) (po_some (pe_op op_add (pv 4) pe_int)) po_none)) pa_nil)))) pss_nil)
      (pss_one (ps_ret (pe_callTy call_tuple_of (by rfl) T.tuple (by decide +kernel) (pa_cons (pv 2) pa_nil))))))))))), ?_⟩
    refine ⟨_, rfl, a, ys, rfl, .inr (SqT.of ha), fun p hp nsp => ?_⟩
    have s1 := same_new (o := .lst ys) hp
    have npb : p ≠ b := B.ne hp
    refine ⟨_, rfl, b, l, 6, rfl, B.same s1, by decide, by decide, fun j H1 hj B1 k1 => ?_⟩
    refine ⟨_, _, rfl, ?_⟩
    have hp1 := k1 _ _ upd_same npb
    have k01 : Kp b H H1 := (Kp.of s1).trans k1
    have hd1 : D4A 13 H1 (fun c => c = b) ys ds := D4A.wide (by decide) ds ys (D4A.keep (fun c o e na => ⟨k01 _ _ e na, na⟩) ds ys hd)
    refine ⟨_, rfl, _, rfl, p, ys, rfl, .inl (SqL.of hp1), _, _, rfl, rfl, b, l, _, rfl, B1, by omega, by omega, fun q G hq BG k2 => ?_⟩
    have hq' : q ≤ ys.length := by omega
    have hpG := k2 _ _ hp1 npb
    have kG : Kp b H G := k01.trans k2
    have hdG : D4A 13 G (fun c => c = b) ys ds := D4A.keep (fun c o e na => ⟨k2 _ _ e na, na⟩) ds ys hd1
    have lds := hdG.len
    have hdep : ∀ d ∈ ds, d.depth ≤ 1 := fun d h => depthAll_mem hn d h
    clear hd1 hp1 s1 k1 k2 k01 B1 hd
    -- a new tuple
    have fin : ∀ (G' : Hp) (vs : List V) (es : List PyData), Bag G' b l → Kp b H G' → D4A 13 G' (fun c => c = b) vs es → vs.length ≤ 13 → costAll4 es ≤ 2990000 → (∀ d ∈ es, d.depth ≤ 31) → ∀ r, G' r = none → Q (.ref r) (upd G' r (.tup vs)) := fun G' vs es B' k' h1 h2 h3 h4 r hr => by
      have hrb : r ≠ b := B'.ne hr
      refine k _ _ ⟨.tuple es, .tup upd_same hrb h2 (D4A.keep (fun c o e na => ⟨same_new (o := .tup vs) hr c o e, na⟩) es vs h1), by simp only [cost4]; omega, ?_⟩ (B'.new hr) (k'.trans (Kp.new hr))
      show PyData.depthAll es + 1 ≤ 34
      have := depthAll_le h4
      omega
    have csplit : costAll4 ds = costAll4 (ds.take q) + costAll4 (ds.drop q) := by rw [← costAll4_app, List.take_append_drop]
    have csplit1 : costAll4 (ds.drop (q + 1)) ≤ costAll4 (ds.drop q) := by
      cases e : ds.drop q with
      | nil => 
        have : ds.drop (q + 1) = [] := List.drop_eq_nil_of_le (by have := List.drop_eq_nil_iff.mp e; omega)
        rw [this]
        exact Nat.le_refl _
      | cons d es =>
        have : ds.drop (q + 1) = es := by rw [← List.drop_drop, e]; rfl
        rw [this]
        simp only [costAll4]
        omega
    have eca : ∀ G : Hp, cutV ys none (some (q : Int)) = ys.take q := fun _ => cut_to q ys
    refine ⟨_, rfl, rfl, _, rfl, ?_⟩
    refine ite2 (fun _ => ?_) (fun _ => ?_)
    · refine ⟨_, rfl, k G (.ref p) ⟨.list ds, .lst hpG npb nsp (by omega) hdG, by simp only [cost4]; omega, by show PyData.depthAll ds + 1 ≤ 34; omega⟩ BG kG⟩
    refine ⟨_, rfl, rfl, _, rfl, ?_⟩
    refine ite2 (fun _ => ?_) (fun _ => ?_)
    · refine ⟨_, rfl, p, ys, rfl, SqL.of hpG, fun r hr nsr => ⟨r, ys.reverse, rfl, .inl ⟨SqL.of upd_same, fun t ht => ?_⟩⟩⟩
      have s2 := same_new (o := .lst ys.reverse) hr
      exact fin _ ys.reverse ds.reverse (BG.same s2) (kG.trans (Kp.of s2)) (D4A.keep (fun c o e na => ⟨s2 _ _ e, na⟩) _ _ hdG.rev) (by rw [List.length_reverse]; omega) (by rw [costAll4_rev]; omega) (fun d h => Nat.le_trans (hdep d (List.mem_reverse.mp h)) (by decide)) t ht
    refine ⟨_, rfl, rfl, _, rfl, ?_⟩
    refine ite2 (fun _ => ?_) (fun _ => ?_)
    · refine ⟨_, rfl, _, rfl, _, rfl, p, ys, rfl, SqL.of hpG, fun r1 hr1 => ?_⟩
      rw [cut_to]
      have s2 := same_new (o := .lst (ys.take q)) hr1
      refine ⟨_, rfl, _, rfl, _, _, rfl, rfl, _, rfl, p, ys, rfl, SqL.of (s2 _ _ hpG), fun r2 hr2 => ?_⟩
      rw [cut_behind]
      have s3 := same_new (o := .lst (ys.drop (q + 1))) hr2
      refine ⟨r1, r2, _, _, rfl, rfl, s3 _ _ upd_same, upd_same, ?_, fun r3 hr3 => ⟨r3, _, rfl, .inl ⟨SqL.of upd_same, fun t ht => ?_⟩⟩⟩
      · rw [List.length_take, List.length_drop, sizeLine_eq]; omega
      exact fin _ _ (ds.take q ++ ds.drop (q + 1)) (BG.same (s2.trans (s3.trans (same_new hr3)))) (kG.trans (Kp.of (s2.trans (s3.trans (same_new hr3))))) (D4A.keep (fun c o e na => ⟨(s2.trans (s3.trans (same_new hr3))) _ _ e, na⟩) _ _ ((hdG.takeD q).app (hdG.dropD (q + 1)))) (by rw [List.length_append, List.length_take, List.length_drop]; omega) (by rw [costAll4_app]; omega) (fun d h => by
        rcases List.mem_append.mp h with h | h
        · exact Nat.le_trans (hdep d (List.mem_of_mem_take h)) (by decide)
        · exact Nat.le_trans (hdep d (List.mem_of_mem_drop h)) (by decide)) t ht
    refine ⟨_, rfl, rfl, _, rfl, ?_⟩
    refine ite2 (fun _ => ?_) (fun _ => ?_)
    · refine ⟨_, rfl, _, rfl, _, rfl, p, ys, rfl, SqL.of hpG, fun r1 hr1 => ?_⟩
      rw [cut_to]
      have s1 := same_new (o := .lst (ys.take q)) hr1
      refine ⟨_, rfl, _, rfl, by show 1 ≤ sizeLine; decide, fun tp htp => ⟨by show 5 ≤ sizeLine; decide, fun lp hlp => ?_⟩⟩
      have s2 := same_new (o := .tup [.str "a"]) htp
      have s3 := same_new (o := .lst [.str "a", .str "", .non, .int 1, .ref tp]) hlp
      have B2 := (BG.same s1).ne htp
      refine ⟨p, lp, ys, _, rfl, rfl, s3 _ _ (s2 _ _ (s1 _ _ hpG)), upd_same, by show ys.length + 5 ≤ _; rw [sizeLine_eq]; omega, fun cp hcp => ?_⟩
      have s4 := same_new (o := .lst (ys ++ [.str "a", .str "", .non, .int 1, .ref tp])) hcp
      have sa := s1.trans (s2.trans (s3.trans s4))
      have cpb : cp ≠ b := (BG.same (s1.trans (s2.trans s3))).ne hcp
      refine ⟨b, l, cp, _, rfl, BG.same sa, cpb, upd_same, by intro e; have := congrArg List.length e; rw [List.length_append] at this; simp at this, by show (ys ++ [V.str "a", V.str "", V.non, V.int 1, V.ref tp]).length < 1000; rw [List.length_append]; show _ + 5 < _; omega, fun x H2 hx B3 k3 => ?_⟩
      have ta : TxOk "a" := ⟨by decide +kernel, by decide, fun _ => by decide +kernel⟩
      have te : TxOk "" := ⟨by decide +kernel, by decide, fun _ => by decide +kernel⟩
      have k4 : Kp b G H2 := (Kp.of sa).trans k3
      have hx2 : ∃ d, D4 13 H2 (fun c => c = b) x d ∧ cost4 d ≤ 3000 ∧ d.depth ≤ 31 := by
        rcases List.mem_append.mp hx with h | h
        · obtain ⟨d, hd, h⟩ := hdG.all x h
          refine ⟨d, D4.keep (fun c o e na => ⟨k4 _ _ e na, na⟩) d x h, ?_, Nat.le_trans (hdep d hd) (by decide)⟩
          obtain ⟨i, hi⟩ := List.getElem?_of_mem hd
          have := cost4_split hi
          omega
        rcases List.mem_cons.mp h with rfl | h
        · exact ⟨_, .str _ ta, by decide, by decide⟩
        rcases List.mem_cons.mp h with rfl | h
        · exact ⟨_, .str _ te, by decide, by decide⟩
        rcases List.mem_cons.mp h with rfl | h
        · exact ⟨_, .non, by decide, by decide⟩
        rcases List.mem_cons.mp h with rfl | h
        · exact ⟨_, .int 1 (by decide), by decide, by decide⟩
        · rw [List.mem_singleton.mp h]
          exact ⟨.tuple [.str "a"], .tup (k3 _ _ (s4 _ _ (s3 _ _ upd_same)) B2) B2 (by show 1 ≤ 13; decide) (.cons (.str _ ta) .nil), by decide, by decide⟩
      have hpH := k4 _ _ hpG npb
      have hr1b : r1 ≠ b := BG.ne hr1
      have hr1H : H2 r1 = some (.lst (ys.take q)) := k3 _ _ (s4 _ _ (s3 _ _ (s2 _ _ upd_same))) hr1b
      have dH : D4A 13 H2 (fun c => c = b) ys ds := D4A.keep (fun c o e na => ⟨k4 _ _ e na, na⟩) ds ys hdG
      have kH := kG.trans k4
      clear hdG hx hpG sa s1 s2 s3 s4 k3 k4
      obtain ⟨dx, hdx, hcx, hnx⟩ := hx2
      refine ⟨by show 1 ≤ sizeLine; decide, fun xp hxp => ?_⟩
      have n1 := same_new (o := .lst [x]) hxp
      refine ⟨r1, xp, _, _, rfl, rfl, n1 _ _ hr1H, upd_same, by rw [List.length_take, sizeLine_eq]; show _ + 1 ≤ _; omega, fun c1 hc1 => ?_⟩
      have n2 := same_new (o := .lst (ys.take q ++ [x])) hc1
      refine ⟨_, rfl, _, rfl, _, rfl, p, ys, rfl, SqL.of (n2 _ _ (n1 _ _ hpH)), fun r2 hr2 => ?_⟩
      rw [cut_from0]
      have n3 := same_new (o := .lst (ys.drop q)) hr2
      refine ⟨c1, r2, _, _, rfl, rfl, n3 _ _ upd_same, upd_same, by rw [List.length_append, List.length_take, List.length_drop, sizeLine_eq]; show _ + 1 + _ ≤ _; omega, fun r3 hr3 => ⟨r3, _, rfl, .inl ⟨SqL.of upd_same, fun t ht => ?_⟩⟩⟩
      have n4 := same_new (o := .lst (ys.take q ++ [x] ++ ys.drop q)) hr3
      have nn := n1.trans (n2.trans (n3.trans n4))
      refine fin _ _ (ds.take q ++ [dx] ++ ds.drop q) (B3.same nn) (kH.trans (Kp.of nn)) (D4A.keep (fun c o e na => ⟨nn _ _ e, na⟩) _ _ (((dH.takeD q).app (.cons hdx .nil)).app (dH.dropD q))) ?_ ?_ ?_ t ht
      · rw [List.length_append, List.length_append, List.length_take, List.length_drop]
        show _ + 1 + _ ≤ _
        omega
      · rw [costAll4_app, costAll4_app]
        simp only [costAll4]
        omega
      · intro d h
        rcases List.mem_append.mp h with h | h
        · rcases List.mem_append.mp h with h | h
          · exact Nat.le_trans (hdep d (List.mem_of_mem_take h)) (by decide)
          · rw [List.mem_singleton.mp h]
            exact hnx
        · exact Nat.le_trans (hdep d (List.mem_of_mem_drop h)) (by decide)
    have last : (∃ r : Addr, True) := ⟨0, trivial⟩
    have fin2 : ∀ t, G t = none → Q (.ref t) (upd G t (.tup ys)) := fun t ht => fin G ys ds BG kG hdG (by omega) (by omega) (fun d h => Nat.le_trans (hdep d h) (by decide)) t ht
    refine ⟨_, rfl, rfl, _, rfl, ?_⟩
    refine ite2 (fun _ => ?_) (fun _ => ?_)
    · refine ⟨_, rfl, _, rfl, p, ys, rfl, .inl (SqL.of hpG), _, _, rfl, rfl, _, rfl, ?_⟩
      refine ite2 (fun hlt => ?_) (fun _ => ?_)
      · have hlt' : q < ys.length := by
          have := of_decide_eq_true hlt
          omega
        refine ⟨_, rfl, _, rfl, _, rfl, p, ys, rfl, SqL.of hpG, fun r1 hr1 => ?_⟩
        rw [cut_to]
        have s1 := same_new (o := .lst (ys.take q)) hr1
        have hr1b : r1 ≠ b := BG.ne hr1
        refine ⟨_, rfl, b, l, rfl, BG.same s1, fun H2 x wx B3 k3 => ?_⟩
        have k4 : Kp b G H2 := (Kp.of s1).trans k3
        have hx2 : ∃ d, D4 13 H2 (fun c => c = b) x d ∧ cost4 d ≤ 1300000 ∧ d.depth ≤ 31 := by
          obtain ⟨d, h1, h2, h3⟩ := wx
          refine ⟨d, D4.wide (by decide) d x (D4.keep (fun c o e na => ⟨e, fun ec => na ?_⟩) d x h1), h2, h3⟩
          obtain ⟨o', e'⟩ := BG.at_
          exact ⟨o', by rw [ec]; exact s1 _ _ e'⟩
        have hpH := k4 _ _ hpG npb
        have hr1H : H2 r1 = some (.lst (ys.take q)) := k3 _ _ upd_same hr1b
        have dH : D4A 13 H2 (fun c => c = b) ys ds := D4A.keep (fun c o e na => ⟨k4 _ _ e na, na⟩) ds ys hdG
        have kH := kG.trans k4
        clear hdG hpG s1 k3 k4 fin2
        obtain ⟨dx, hdx, hcx, hnx⟩ := hx2
        refine ⟨by show 1 ≤ sizeLine; decide, fun xp hxp => ?_⟩
        have n1 := same_new (o := .lst [x]) hxp
        refine ⟨r1, xp, _, _, rfl, rfl, n1 _ _ hr1H, upd_same, by rw [List.length_take, sizeLine_eq]; show _ + 1 ≤ _; omega, fun c1 hc1 => ?_⟩
        have n2 := same_new (o := .lst (ys.take q ++ [x])) hc1
        refine ⟨_, rfl, _, rfl, _, _, rfl, rfl, _, rfl, p, ys, rfl, SqL.of (n2 _ _ (n1 _ _ hpH)), fun r2 hr2 => ?_⟩
        rw [cut_behind]
        have n3 := same_new (o := .lst (ys.drop (q + 1))) hr2
        refine ⟨c1, r2, _, _, rfl, rfl, n3 _ _ upd_same, upd_same, by rw [List.length_append, List.length_take, List.length_drop, sizeLine_eq]; show _ + 1 + _ ≤ _; omega, fun r3 hr3 => ⟨r3, _, rfl, .inl ⟨SqL.of upd_same, fun t ht => ?_⟩⟩⟩
        have n4 := same_new (o := .lst (ys.take q ++ [x] ++ ys.drop (q + 1))) hr3
        have nn := n1.trans (n2.trans (n3.trans n4))
        refine fin _ _ (ds.take q ++ [dx] ++ ds.drop (q + 1)) (B3.same nn) (kH.trans (Kp.of nn)) (D4A.keep (fun c o e na => ⟨nn _ _ e, na⟩) _ _ (((dH.takeD q).app (.cons hdx .nil)).app (dH.dropD (q + 1)))) ?_ ?_ ?_ t ht
        · rw [List.length_append, List.length_append, List.length_take, List.length_drop]
          show _ + 1 + _ ≤ _
          omega
        · rw [costAll4_app, costAll4_app]
          simp only [costAll4]
          omega
        · intro d h
          rcases List.mem_append.mp h with h | h
          · rcases List.mem_append.mp h with h | h
            · exact Nat.le_trans (hdep d (List.mem_of_mem_take h)) (by decide)
            · rw [List.mem_singleton.mp h]
              exact hnx
          · exact Nat.le_trans (hdep d (List.mem_of_mem_drop h)) (by decide)
      · exact ⟨_, rfl, p, ys, rfl, .inl ⟨SqL.of hpG, fin2⟩⟩
    · exact ⟨_, rfl, p, ys, rfl, .inl ⟨SqL.of hpG, fin2⟩⟩
end
end Qk
set_option maxRecDepth 100000
set_option maxHeartbeats 4000000
namespace Qk
open PySem PySem.Spec PyProof.Rows L2
section
variable {P : Program} {w : World} {K : PySem.W.Frag} {mg : Str → Option Value} {base : Heap}
theorem pe_p30 {X : Cx} {pos p1 p2 : Pos} {k1 k2 : Nat} : PE X (.BinOp (.Constant (.int 10) k1 p1) .Pow (.Constant (.int 30) k2 p2) pos) (tC (.int (10 ^ 30))) :=
  PE.imp (pe_op op_pow pe_int pe_int) fun σ H Q q => ⟨10, 30, rfl, rfl, ⟨by decide, by decide, by decide⟩, q⟩
def spThing11 : Sp := fun vs H Q _ => ∃ (b l : Addr), vs = [.ref b] ∧ Bag H b l ∧ ∀ (H' : Hp) (v : V), WV 13 H' (fun c => c = b) 3000000 34 v → Bag H' b l → Kp b H H' → Q v H'
abbrev nThing : List Str := ["_law_bag_here", "_law_names_here", "_law_way", "_law_thing_here"]
theorem scThing : FnScope nThing ["_law_bag_here"] (defScope sThing) := ⟨rfl, rfl, rfl, by decide +kernel, rfl, by decide +kernel, by decide +kernel⟩
theorem ok_thing {f : Addr} {fd : FuncData} (F : Fun K "_law_thing" "_law_thing" sThing f fd) (T : Txt K mg) (cT : Cal P w K mg base 1 "_law_take" ["_law_bag_here", "_law_many"] spTake) (c1 : Cal P w K mg base 2 "_law_one" ["_law_bag_here", "_law_some"] spOne) (cN : Cal P w K mg base 3 "_law_names" ["_law_bag_here", "_law_many"] spNames) (cS : Cal P w K mg base 2 "_law_spelt" ["_law_bag_here"] spSpelt) (cO : Cal P w K mg base 3 "_law_odd" ["_law_bag_here"] spOdd11) (cQ : Cal P w K mg base 3 "_law_question" ["_law_bag_here", "_law_names_here"] spTup11) (cX : Cal P w K mg base 3 "_law_index" ["_law_bag_here", "_law_names_here"] spTup11) (cB : Cal P w K mg base 4 "_law_bent" ["_law_bag_here", "_law_thing_here"] spBent11) : FnOk P w K mg base CX0 5 f fd ["_law_bag_here"] spThing11 := by
  refine F.ok scThing (fun vs H Q E h => ?_) (fun cdv AA outer s H vs Q E hr h => ?_)
  · obtain ⟨b, l, rfl, _⟩ := h
    rfl
  · obtain ⟨b, l, rfl, B, k⟩ := h
    have nd := scThing.nd
    have hr1 : Room 1 _ := hr.mono (by decide)
    have hr2 : Room 2 _ := hr.mono (by decide)
    have hr3 : Room 3 _ := hr.mono (by decide)
    refine ⟨_, (pss_cons (ps_par (i := 1) (j := 2) rfl nd rfl rfl (by decide) rfl rfl (pa_cons (pe_call cN.G hr3 rfl cN.m cN.kp cN.b .nil pass0 (pa_cons (pv 0) (pa_cons (pe_op op_add pe_int (pe_call cT.G hr1 rfl cT.m cT.kp cT.b .nil pass0 (pa_cons (pv 0) (pa_cons (pe_call c1.G hr2 rfl c1.m c1.kp c1.b .nil pass0 (pa_cons (pv 0) (pa_cons (pe_lst (pa_cons pe_int (pa_cons pe_int (pa_cons pe_int pa_nil)))) pa_nil))) pa_nil)))) pa_nil))) (pa_cons (pe_call cT.G hr1 rfl cT.m cT.kp cT.b .nil pass0 (pa_cons (pv 0) (pa_cons pe_int pa_nil))) pa_nil)) rfl)
      (Evl.pss_cut (ps_if (pt_cmpR op_eq (pe_call cT.G hr1 rfl cT.m cT.kp cT.b .nil pass0 (pa_cons (pv 0) (pa_cons pe_int pa_nil))) pe_int (nomark _)) (pss_one (ps_asg (pe_call cS.G hr2 rfl cS.m cS.kp cS.b .nil pass0 (pa_cons (pv 0) pa_nil)) (pg_sub (pv 1) pe_int set_list))) pss_nil)
      (pss_cons (ps_if (pt_cmpR op_eq (pv 2) pe_int (nomark _)) (pss_one (ps_ret (pe_call cO.G hr3 rfl cO.m cO.kp cO.b .nil pass0 (pa_cons (pv 0) pa_nil)))) pss_nil)
      (pss_cons (ps_if (pt_cmpR op_eq (pv 2) pe_int (nomark _)) (pss_one (ps_ret (pe_call cS.G hr2 rfl cS.m cS.kp cS.b .nil pass0 (pa_cons (pv 0) pa_nil)))) pss_nil)
      (pss_cons (ps_if (pt_cmpR op_eq (pv 2) pe_int (nomark _)) (pss_one (ps_ret (pe_call c1.G hr2 rfl c1.m c1.kp c1.b .nil pass0 (pa_cons (pv 0) (pa_cons (pe_lst (pa_cons pe_p30 (pa_cons (pe_op op_add pe_p30 pe_int) (pa_cons pe_int (pa_cons pe_int (pa_cons (pe_op op_sub pe_p30 pe_int) (pa_cons (pe_un (r := rU fun i => .int (-i)) un_neg pe_p30) (pa_cons (pe_call cT.G hr1 rfl cT.m cT.kp cT.b .nil pass0 (pa_cons (pv 0) (pa_cons pe_int pa_nil))) pa_nil)))))))) pa_nil))))) pss_nil)
      (pss_cons (ps_set (i := 3) nd rfl (by first | exact Or.inl rfl | exact Or.inr rfl) (pe_ifExp (pt_cmpR op_lt (pv 2) pe_int (nomark _)) (pe_call cQ.G hr3 rfl cQ.m cQ.kp cQ.b .nil pass0 (pa_cons (pv 0) (pa_cons (pv 1) pa_nil))) (pe_call cX.G hr3 rfl cX.m cX.kp cX.b .nil pass0 (pa_cons (pv 0) (pa_cons (pv 1) pa_nil)))))
      (pss_one (ps_ret (pe_ifExp (pt_cmpR op_eq (pe_call cT.G hr1 rfl cT.m cT.kp cT.b .nil pass0 (pa_cons (pv 0) (pa_cons pe_int pa_nil))) pe_int (nomark _)) (pe_call cB.G hr rfl cB.m cB.kp cB.b .nil pass0 (pa_cons (pv 0) (pa_cons (pv 3) pa_nil))) (pv 3)))))))))), ?_⟩
    refine ⟨_, rfl, _, rfl, _, rfl, by show 3 ≤ sizeLine; decide, fun p hp => ?_⟩
    have s1 := same_new (o := .lst [.int 5, .int 5, .int 12]) hp
    have npb : p ≠ b := B.ne hp
    refine ⟨b, l, p, _, rfl, B.same s1, npb, upd_same, by simp, by show 3 < 1000; decide, fun x H1 hx B1 k1 => ?_⟩
    have hx' : ∃ n : Nat, x = .int (n : Int) ∧ 0 < n ∧ n ≤ 12 := by
      rcases List.mem_cons.mp hx with rfl | h
      · exact ⟨5, rfl, by decide, by decide⟩
      rcases List.mem_cons.mp h with rfl | h
      · exact ⟨5, rfl, by decide, by decide⟩
      · rw [List.mem_singleton.mp h]
        exact ⟨12, rfl, by decide, by decide⟩
    obtain ⟨n, rfl, n0, n12⟩ := hx'
    refine ⟨b, l, _, rfl, B1, by omega, by omega, fun j H2 hj B2 k2 => ?_⟩
    have e1 : (1 + (j : Int)) = ((1 + j : Nat) : Int) := by omega
    refine ⟨_, _, rfl, rfl, b, l, 1 + j, by show [V.ref b, V.int (1 + (j : Int))] = _; rw [e1], B2, fun xs a H3 N hn nab ha B3 k3 => ?_⟩
    refine ⟨_, rfl, b, l, 8, rfl, B3, by decide, by decide, fun wy H4 hw B4 k4 => ?_⟩
    refine ⟨_, _, rfl, ?_⟩
    have NX0 : NX xs := NX.row (by rw [N.len]; omega) (by rw [N.len]; omega) N.sub
    have ha4 := k4 _ _ ha nab
    have kH4 : Kp b H H4 := (Kp.of s1).trans (k1.trans (k2.trans (k3.trans k4)))
    have naH : H a = none := by
      cases e : H a with
      | none => rfl
      | some o => 
        have := k2 _ _ (k1 _ _ (s1 _ _ e) nab) nab
        rw [hn] at this
        cases this
    clear s1 k1 k2 k3 k4 B1 B2 B3 hx N hn ha
    refine ⟨fun σ G => ∃ ys : List Str, σ = [some (.ref b), some (.ref a), some (.int (wy : Int)), none] ∧ NX ys ∧ G a = some (.lst (ys.map V.str)) ∧ Bag G b l ∧ Kp b H G, ?_, ?_⟩
    · refine ⟨_, rfl, b, l, 3, rfl, B4, by decide, by decide, fun c H5 hc B5 k5 => ?_⟩
      refine ⟨rfl, _, rfl, ?_⟩
      refine ite2 (fun _ => ?_) (fun _ => ?_)
      · refine ⟨_, rfl, b, l, rfl, B5, fun H6 z hz B6 k6 => ?_⟩
        have ha6 := k6 _ _ (k5 _ _ ha4 nab) nab
        refine ⟨_, rfl, ?_⟩
        refine setIx 0 ha6 (by rw [List.length_map]; exact NX0.pos) ?_
        refine ⟨xs.set 0 z, rfl, ⟨by rw [List.length_set]; exact NX0.pos, by rw [List.length_set]; exact NX0.le, fun y hy => ?_⟩, by rw [upd_same, ← List.map_set], B6.upd nab.symm ?_, fun c o hc ncb => ?_⟩
        · rcases List.mem_or_eq_of_mem_set hy with h | rfl
          · exact NX0.sh _ h
          · exact hz
        · exact B.nel naH
        · have nca : c ≠ a := ne_of_none hc naH
          rw [upd_ne nca]
          exact (kH4.trans (k5.trans k6)) _ _ hc ncb
      · exact ⟨xs, rfl, NX0, k5 _ _ ha4 nab, B5, kH4.trans k5⟩
    rintro σ G ⟨ys, rfl, NY, hG, BG, kG⟩
    have odd : spOdd11 [.ref b] G Q E0 := ⟨b, l, rfl, BG, fun H' v wv B' k' => k H' v (by
      refine WV.wide (by decide) (WV.le (by decide) (by decide) (WV.keep (fun c o e na => ⟨e, fun ec => na ?_⟩) wv))
      obtain ⟨o', e'⟩ := BG.at_
      exact ⟨o', by rw [ec]; exact e'⟩) B' (kG.trans k')⟩
    refine ⟨_, rfl, rfl, _, rfl, ?_⟩
    refine ite2 (fun _ => ?_) (fun _ => ?_)
    · exact ⟨_, rfl, odd⟩
    refine ⟨_, rfl, rfl, _, rfl, ?_⟩
    refine ite2 (fun _ => ?_) (fun _ => ?_)
    · refine ⟨_, rfl, b, l, rfl, BG, fun H' z hz B' k' => k H' _ ⟨.str z, .str z hz.tx, ?_, Nat.zero_le _⟩ B' (kG.trans k')⟩
      have := hz.1
      simp only [cost4]
      omega
    refine ⟨_, rfl, rfl, _, rfl, ?_⟩
    refine ite2 (fun _ => ?_) (fun _ => ?_)
    · refine ⟨_, rfl, ?_⟩
      refine ⟨_, _, rfl, rfl, _, _, rfl, rfl, _, rfl, _, rfl, b, l, 9, rfl, BG, by decide, by decide, fun u H5 hu B5 k5 => ⟨by show 7 ≤ sizeLine; decide, fun p hp => ?_⟩⟩
      have s1 := same_new (o := .lst [.int (10 ^ 30), .int (10 ^ 30 + 1), .int 1, .int 0, .int (10 ^ 30 - 1), .int (-(10 ^ 30)), .int (u : Int)]) hp
      have npb := B5.ne hp
      refine ⟨b, l, p, _, rfl, B5.same s1, npb, upd_same, by simp, by show 7 < 1000; decide, fun x H6 hx B6 k6 => k H6 x ?_ B6 (kG.trans (k5.trans ((Kp.of s1).trans k6)))⟩
      have hi : ∃ i : Int, x = .int i ∧ i.natAbs < 10 ^ 60 := by
        rcases List.mem_cons.mp hx with rfl | h
        · exact ⟨_, rfl, by decide +kernel⟩
        rcases List.mem_cons.mp h with rfl | h
        · exact ⟨_, rfl, by decide +kernel⟩
        rcases List.mem_cons.mp h with rfl | h
        · exact ⟨_, rfl, by decide +kernel⟩
        rcases List.mem_cons.mp h with rfl | h
        · exact ⟨_, rfl, by decide +kernel⟩
        rcases List.mem_cons.mp h with rfl | h
        · exact ⟨_, rfl, by decide +kernel⟩
        rcases List.mem_cons.mp h with rfl | h
        · exact ⟨_, rfl, by decide +kernel⟩
        · rw [List.mem_singleton.mp h]
          exact ⟨_, rfl, Nat.lt_of_lt_of_le (show (u : Int).natAbs < 9 by omega) (by decide)⟩
      obtain ⟨i, rfl, hi⟩ := hi
      exact ⟨.int i, .int i hi, by simp only [cost4]; omega, Nat.zero_le _⟩
    refine ⟨_, rfl, _, _, rfl, rfl, _, rfl, ?_⟩
    refine ite2 (fun _ => ?_) (fun _ => ?_)
    · refine ⟨_, rfl, _, rfl, b, l, a, ys, rfl, BG, nab, hG, NY, fun p H5 tp B5 k5 => ?_⟩
      refine ⟨_, rfl, b, l, 2, rfl, B5, by decide, by decide, fun c H6 hc B6 k6 => ?_⟩
      obtain ⟨zs, ds, e1, e2, e3, e4, e5, e6⟩ := tp
      have tp6 : TpV b H6 p := ⟨zs, ds, k6 _ _ e1 e2, e2, D4A.keep (fun c o e na => ⟨k6 _ _ e na, na⟩) ds zs e3, e4, e5, e6⟩
      refine ⟨rfl, _, rfl, ?_⟩
      refine ite2 (fun _ => ?_) (fun _ => ?_)
      · exact ⟨_, rfl, _, rfl, b, l, p, rfl, B6, tp6, fun H' v wv B' k' => k H' v wv B' (kG.trans (k5.trans (k6.trans k')))⟩
      · obtain ⟨zs, ds, e1, e2, e3, e4, e5, e6⟩ := tp6
        exact ⟨_, rfl, k H6 _ ⟨.tuple ds, .tup e1 e2 (by omega) (D4A.wide (by decide) ds zs e3), by simp only [cost4]; omega, by show PyData.depthAll ds + 1 ≤ 34; omega⟩ B6 (kG.trans (k5.trans k6))⟩
    · refine ⟨_, rfl, _, rfl, b, l, a, ys, rfl, BG, nab, hG, NY, fun p H5 tp B5 k5 => ?_⟩
      refine ⟨_, rfl, b, l, 2, rfl, B5, by decide, by decide, fun c H6 hc B6 k6 => ?_⟩
      obtain ⟨zs, ds, e1, e2, e3, e4, e5, e6⟩ := tp
      have tp6 : TpV b H6 p := ⟨zs, ds, k6 _ _ e1 e2, e2, D4A.keep (fun c o e na => ⟨k6 _ _ e na, na⟩) ds zs e3, e4, e5, e6⟩
      refine ⟨rfl, _, rfl, ?_⟩
      refine ite2 (fun _ => ?_) (fun _ => ?_)
      · exact ⟨_, rfl, _, rfl, b, l, p, rfl, B6, tp6, fun H' v wv B' k' => k H' v wv B' (kG.trans (k5.trans (k6.trans k')))⟩
      · obtain ⟨zs, ds, e1, e2, e3, e4, e5, e6⟩ := tp6
        exact ⟨_, rfl, k H6 _ ⟨.tuple ds, .tup e1 e2 (by omega) (D4A.wide (by decide) ds zs e3), by simp only [cost4]; omega, by show PyData.depthAll ds + 1 ≤ 34; omega⟩ B6 (kG.trans (k5.trans k6))⟩
end
end Qk
set_option maxRecDepth 100000
set_option maxHeartbeats 4000000
set_option maxRecDepth 100000
set_option maxHeartbeats 4000000
set_option maxRecDepth 100000
set_option maxHeartbeats 4000000
set_option maxRecDepth 100000
set_option maxHeartbeats 4000000
namespace Qk
open PySem PySem.Spec PyProof.Rows L2
def signsV (z : Str) : List V := z.cps.toList.map fun c => V.str ⟨#[c]⟩
def rTupS : List V → Hp → VK → Prop := fun xs H Q => ∃ z : Str, xs = [.str z] ∧ z.cps.size ≤ 1000 ∧ ∀ l, H l = none → Q (.ref l) (upd H l (.tup (signsV z)))
theorem relV_list : ∀ {acc : List Value} {ns : List Nat}, acc.length = ns.length → (∀ (j : Nat) (v : Value), acc[j]? = some v → ∃ c u, ns[j]? = some c ∧ v = .str ⟨#[c]⟩ u) → Vals (ns.map fun c => V.str ⟨#[c]⟩) acc
  | [], [], _, _ => .nil
  | v :: acc, n :: ns, h, g => by
    refine .cons ?_ (relV_list (by simpa using h) fun j u hj => g (j + 1) u (by simpa using hj))
    obtain ⟨c, u, hc, rfl⟩ := g 0 v rfl
    simp at hc
    subst hc
    exact ⟨_, rfl⟩
  | [], n :: ns, h, _ => by simp at h
  | v :: acc, [], h, _ => by simp at h
theorem call_tupS {X : Cx} (hc : X.calm = true) : CallR X (.type "tuple") rTupS := by
  intro pins s σ H xs us Q I r h
  obtain ⟨z, rfl, hz, q⟩ := h
  obtain ⟨u, rfl, rx⟩ := vals1 r
  obtain ⟨t, rfl⟩ := rx
  refine call_tuple_str (I.ok.hd hc) z t (fun h' tk acc hk hacc => ?_) (by rw [sizeLine_eq]; omega)
  have I1 : Inv X pins σ H { s with heap := h', toks := tk } := I.kept hk
  have rel : Vals (signsV z) acc.toList := relV_list (by rw [Array.length_toList, Array.length_toList]; exact hacc.1) fun j v hj => by
    obtain ⟨c, u, h1, h2⟩ := hacc.2 j v (by simpa using hj)
    exact ⟨c, u, by simpa using h1, h2⟩
  have I2 : Inv X pins σ (upd H h'.objs.size (.tup (signsV z))) { s with heap := h'.push { cls := .type "tuple", data := .seq acc }, toks := tk } :=
    I1.laid (t' := tk) (fun b o e => Heap.get?_push_of_some _ e) (Nat.le_refl _) (show ObjOk X.prog X.w _ _ _ (.tup (signsV z)) from ⟨by rw [rel.length, Array.length_toList, hacc.1, sizeLine_eq]; omega, acc.toList, rel, by simpa using IsTup.new h' acc⟩)
  exact ⟨.ref h'.objs.size, _, I2, rfl, q _ (I1.hok.fresh (Nat.le_refl _))⟩
end Qk
set_option maxRecDepth 100000
set_option maxHeartbeats 4000000
namespace Qk
open PySem PySem.Spec PyProof.Rows L2
section
variable {P : Program} {w : World} {K : PySem.W.Frag} {mg : Str → Option Value} {base : Heap}
abbrev nLaw : List Str := ["_law_script", "_law_bag_here", "_law_turn", "_law_thing_here", "_law_due_here", "_law_shown", "_law_wide"]
theorem scLaw : FnScope nLaw ["_law_script"] (defScope sLaw) := ⟨rfl, rfl, rfl, by decide +kernel, rfl, by decide +kernel, by decide +kernel⟩
def spLaw (K : PySem.W.Frag) : Sp := fun vs H Q _ => ∃ (a : Addr) (ns : List Int), vs = [.ref a] ∧ SqL K H a (ns.map V.int) ∧ ns.length ≤ 63 ∧ ∀ H', Q (.bl true) H'
def bd (bs : List Bool) : PyData := .list (bs.map PyData.bool)
theorem fine_bools : ∀ bs : List Bool, fineAll (bs.map PyData.bool) = true
  | [] => rfl
  | b :: bs => by
    show (fine (.bool b) && fineAll (bs.map PyData.bool)) = true
    rw [fine_bools bs]
    rfl
theorem cost_bools : ∀ bs : List Bool, costAll (bs.map PyData.bool) ≤ 100 * bs.length
  | [] => Nat.le_refl 0
  | b :: bs => by
    have := cost_bools bs
    have e : cost (.bool b) ≤ 98 := by cases b <;> decide
    show cost (.bool b) + 2 + costAll (bs.map PyData.bool) ≤ 100 * (bs.length + 1)
    omega
theorem depth_bools : ∀ bs : List Bool, PyData.depthAll (bs.map PyData.bool) = 0
  | [] => rfl
  | b :: bs => by
    show max (PyData.depth (.bool b)) (PyData.depthAll (bs.map PyData.bool)) = 0
    rw [depth_bools bs]
    rfl
theorem dok_bd {bs : List Bool} (h : bs.length = 6) : DOk (bd bs) := by
  have := cost_bools bs
  exact ⟨fine_bools bs, by show PyData.depthAll _ + 1 ≤ 50; rw [depth_bools]; decide, by show costAll _ + 3 ≤ _; omega⟩
theorem dok_bd2 {bs : List Bool} (h : bs.length = 6) : DOk (.list [bd bs, bd bs]) := by
  have := cost_bools bs
  refine ⟨?_, ?_, ?_⟩
  · show (fineAll (bs.map PyData.bool) && (fineAll (bs.map PyData.bool) && true)) = true
    rw [fine_bools bs]
    rfl
  · show max (PyData.depthAll (bs.map PyData.bool) + 1) (max (PyData.depthAll (bs.map PyData.bool) + 1) 0) + 1 ≤ 50
    rw [depth_bools]
    decide
  · show (costAll (bs.map PyData.bool) + 3) + 2 + ((costAll (bs.map PyData.bool) + 3) + 2 + 0) + 3 ≤ 1000000
    omega
theorem dp_bools {H : Hp} : ∀ bs : List Bool, DpAll K H (bs.map V.bl) (bs.map PyData.bool)
  | [] => .nil
  | b :: bs => .cons (.bl b) (dp_bools bs)
/-- the twenty-six letters -/
def letters : List Str := ("abcdefghijklmnopqrstuvwxyz" : Str).cps.toList.map fun c => ⟨#[c]⟩
theorem letters_v : signsV "abcdefghijklmnopqrstuvwxyz" = letters.map V.str := by
  unfold signsV letters
  rw [List.map_map]
  rfl
theorem letters_ok : (∀ c ∈ letters, c.cps.size ≤ 20 ∧ ∀ d ∈ c.cps.toList, d < 200) ∧ letters.length = 26 := by decide +kernel
theorem letters_sp {G : Hp} {t : Addr} {zs : List Str} (h : G t = some (.tup (zs.map V.str))) (hl : zs.length ≤ 40) (hz : ∀ z ∈ zs, ShortS z) : D4 40 G (fun _ => False) (.ref t) (.tuple (zs.map PyData.str)) := .tup h id (by rw [List.length_map]; exact hl) (d4_texts hz)
theorem pair_sp {G G' : Hp} {t c : Addr} {z : Str} {d : PyData} (s : Same G G') (h : G' t = some (.tup [.ref c, .str z])) (hz : ShortS z) (hc : D4 40 G (fun _ => False) (.ref c) d) : SpV G' (.ref t) :=
  ⟨fun _ => False, _, .tup h id (by show 2 ≤ 40; decide) (.cons (D4.keep (fun c o e na => ⟨s c o e, na⟩) _ _ hc) (.cons (.str z hz.tx) .nil))⟩
theorem ok_law {f : Addr} {fd : FuncData} (F : Fun K "law" "law" sLaw f fd) (T : Txt K mg) (cB : Cal P w K mg base 1 "_law_bag" ["_law_script"] (spBag K)) (cTh : Cal P w K mg base 5 "_law_thing" ["_law_bag_here"] spThing11) (cDu : Cal P w K mg base 4 "_law_due" ["_law_thing_here"] spSix) (cAs : Cal P w K mg base 4 "_law_asked" ["_law_thing_here"] spSix) : FnG P w K mg base 6 f fd ["_law_script"] (spLaw K) := by
  refine okG F scLaw (fun vs H Q E h => ?_) (fun cdv AA outer s H vs Q E hr hg h => ?_)
  · obtain ⟨a, ns, rfl, _⟩ := h
    rfl
  · obtain ⟨a, ns, rfl, hS, hlen, k⟩ := h
    have nd := scLaw.nd
    have hr1 : Room 1 _ := hr.mono (by decide)
    have hr4 : Room 4 _ := hr.mono (by decide)
    have hr5 : Room 5 _ := hr.mono (by decide)
    have ee : (AA.deeper (envOfC "law" (defScope sLaw) s.heap.objs.size f cdv)).units = AA.units + 3 := rfl
    have hu64 : AA.units + 3 + 64 < cLine := by
      have := hr.un
      omega
    refine ⟨_, (pss_cons (ps_set (i := 1) nd rfl (by first | exact Or.inl rfl | exact Or.inr rfl) (pe_call cB.G hr1 rfl cB.m cB.kp cB.b .nil pass0 (pa_cons (pv 0) pa_nil)))
      (pss_cons (ps_for PassesOwn.never rfl (pi_range1 (by rfl) T.range (pa_cons pe_int pa_nil)) (pg_name (i := 2) nd rfl (by first | exact Or.inl rfl | exact Or.inr rfl)) (pss_cons (ps_set (i := 3) nd rfl (by first | exact Or.inl rfl | exact Or.inr rfl) (pe_call cTh.G hr5 rfl cTh.m cTh.kp cTh.b .nil pass0 (pa_cons (pv 1) pa_nil)))
      (pss_cons (ps_par (i := 4) (j := 5) rfl nd rfl rfl (by decide) rfl rfl (pa_cons (pe_call cDu.G hr4 rfl cDu.m cDu.kp cDu.b .nil pass0 (pa_cons (pv 3) pa_nil)) (pa_cons (pe_callB (r := rReprV 0) (call_reprV hg hu64 0) (by rfl) T.repr (by decide +kernel) (pa_cons (pv 3) pa_nil)) pa_nil)) rfl)
      (pss_one (ps_if (PW.pt (pw_or (pt_cmpR op_ne (pe_callB (call_reprD hg hu64) (by rfl) T.repr (by decide +kernel) (pa_cons (pe_lst (pa_cons (pe_call cAs.G hr4 rfl cAs.m cAs.kp cAs.b .nil pass0 (pa_cons (pv 3) pa_nil)) (pa_cons (pe_call cAs.G hr4 rfl cAs.m cAs.kp cAs.b .nil pass0 (pa_cons (pv 3) pa_nil)) pa_nil))) pa_nil)) (pe_callB (call_reprD hg hu64) (by rfl) T.repr (by decide +kernel) (pa_cons (pe_lst (pa_cons (pv 4) (pa_cons (pv 4) pa_nil))) pa_nil)) (nomark _)) (pw_or1 (pt_cmpR op_ne (pe_callB (r := rReprV 0) (call_reprV hg hu64 0) (by rfl) T.repr (by decide +kernel) (pa_cons (pv 3) pa_nil)) (pv 5) (nomark _))))) (pss_one (ps_ret pe_bl)) pss_nil)))))
      (pss_cons (ps_set (i := 6) nd rfl (by first | exact Or.inl rfl | exact Or.inr rfl) (pe_callTy (call_tupS rfl) (by rfl) T.tuple (by decide +kernel) (pa_cons pe_str pa_nil)))
      (pss_cons (ps_for PassesOwn.never rfl (pi_tup (pe_tup (pa_cons (pv 6) (pa_cons (pe_tup (pa_cons (pv 6) (pa_cons pe_str pa_nil))) (pa_cons (pe_tup (pa_cons (pe_slice sl_tupA (pv 6) (po_some pe_int) po_none) (pa_cons pe_str pa_nil))) (pa_cons (pe_tup (pa_cons (pv 6) (pa_cons pe_str pa_nil))) (pa_cons (pe_op op_catT (pv 6) (pe_tup (pa_cons pe_str pa_nil))) pa_nil))))))) (pg_name (i := 3) nd rfl (by first | exact Or.inl rfl | exact Or.inr rfl)) (pss_one (ps_if (pt_cmpR op_ne (pe_callB (call_reprD hg hu64) (by rfl) T.repr (by decide +kernel) (pa_cons (pe_call cAs.G hr4 rfl cAs.m cAs.kp cAs.b .nil pass0 (pa_cons (pv 3) pa_nil)) pa_nil)) (pe_callB (call_reprD hg hu64) (by rfl) T.repr (by decide +kernel) (pa_cons (pe_call cDu.G hr4 rfl cDu.m cDu.kp cDu.b .nil pass0 (pa_cons (pv 3) pa_nil)) pa_nil)) (nomark _)) (pss_one (ps_ret pe_bl)) pss_nil)))
      (pss_one (ps_ret pe_bl)))))), ?_⟩
    refine ⟨_, rfl, a, ns, rfl, hS, hlen, fun b l H1 hb B1 s1 => ?_⟩
    refine ⟨40, rfl, by decide, by decide, ?_⟩
    refine for_range (lo := 0) (n := 40) (fun i σ H' => Bag H' b l ∧ ∃ (v2 v3 v4 v5 : Option V), σ = [some (.ref a), some (.ref b), v2, v3, v4, v5, none])
      ⟨B1, none, none, none, none, rfl⟩ ?_ ?_
    · rintro i σ H2 hi ⟨B2, v2, v3, v4, v5, rfl⟩
      refine ⟨_, rfl, b, l, rfl, B2, fun H3 x wx B3 k3 => ?_⟩
      obtain ⟨d, g1, g2, g3⟩ := wx
      have sp : SpV H3 x := ⟨_, d, D4.wide (by decide) d x g1⟩
      refine ⟨_, rfl, x, rfl, sp, fun H4 p ds s4 hp six4 => ?_⟩
      refine ⟨_, rfl, 13, x, _, d, rfl, D4.keep (fun c o e na => ⟨s4 c o e, na⟩) d x g1, by omega, by omega, ?_⟩
      refine ⟨_, _, rfl, ?_⟩
      refine ⟨_, rfl, x, rfl, sp.same s4, fun H5 a1 bs1 s5 h5 six5 => ?_⟩
      refine ⟨_, rfl, x, rfl, (sp.same s4).same s5, fun H6 a2 bs2 s6 h6 six6 => ?_⟩
      have e1 : ds = bs1 := Six.uniq s4 sp six4 six5
      have e2 : ds = bs2 := Six.uniq (s4.trans s5) sp six4 six6
      subst e1
      subst e2
      have l6 := six4.len
      have ff := dok_bd2 l6
      clear six4 six5 six6
      refine ⟨by show 2 ≤ sizeLine; decide, fun lp hlp => ?_⟩
      have n1 := same_new (o := .lst [.ref a1, .ref a2]) hlp
      refine ⟨.ref lp, .list [bd ds, bd ds], rfl, .lst (SqL.of upd_same) (.cons (.lst (SqL.of (n1 _ _ (s6 _ _ h5))) (dp_bools ds)) (.cons (.lst (SqL.of (n1 _ _ h6)) (dp_bools ds)) .nil)), (fine_lay _ ff.f).2.1, (fine_lay _ ff.f).2.2, ff.len, Nat.le_trans ff.dp (by decide), ?_⟩
      have s46 := s5.trans (s6.trans n1)
      refine ⟨_, rfl, _, rfl, by show 2 ≤ sizeLine; decide, fun lq hlq => ?_⟩
      have n2 := same_new (o := .lst [.ref p, .ref p]) hlq
      have hpq := n2 _ _ (s46 _ _ hp)
      refine ⟨.ref lq, .list [bd ds, bd ds], rfl, .lst (SqL.of upd_same) (.cons (.lst (SqL.of hpq) (dp_bools ds)) (.cons (.lst (SqL.of hpq) (dp_bools ds)) .nil)), (fine_lay _ ff.f).2.1, (fine_lay _ ff.f).2.2, ff.len, Nat.le_trans ff.dp (by decide), ?_⟩
      refine ⟨rfl, _, rfl, ?_⟩
      show if (!decide (V.str (PyData.list [bd ds, bd ds]).shown = V.str (PyData.list [bd ds, bd ds]).shown)) = true then _ else _
      rw [decide_eq_true rfl]
      refine iteF ?_
      have s7 := s4.trans (s46.trans n2)
      refine ⟨_, rfl, 13, x, _, d, rfl, D4.keep (fun c o e na => ⟨s7 c o e, na⟩) d x g1, by omega, by omega, _, rfl, rfl, _, rfl, ?_⟩
      show if (!decide (V.str d.shown = V.str d.shown)) = true then _ else _
      rw [decide_eq_true rfl]
      refine iteF ?_
      exact ⟨B3.same s7, _, _, _, _, rfl⟩
    · rintro σ H2 ⟨B2, v2, v3, v4, v5, rfl⟩
      refine ⟨"abcdefghijklmnopqrstuvwxyz", rfl, by decide, fun wp hwp => ?_⟩
      rw [letters_v]
      obtain ⟨lo1, lo2⟩ := letters_ok
      have lo3 : ∀ z ∈ letters, ShortS z := fun z hz => lo1 z hz
      have sa : ShortS "a" := ⟨by decide, by decide⟩
      have n1 := same_new (o := .tup (letters.map V.str)) hwp
      have hw3 : (upd H2 wp (.tup (letters.map V.str))) wp = some (.tup (letters.map V.str)) := upd_same
      have B3 := B2.same n1
      clear n1 hwp
      generalize upd H2 wp (.tup (letters.map V.str)) = H3 at hw3 B3 ⊢
      have dw := letters_sp hw3 (by omega) lo3
      refine ⟨_, rfl, _, rfl, by show 2 ≤ sizeLine; decide, fun t1 ht1 => ?_⟩
      have n1 := same_new (o := .tup [.ref wp, .str ""]) ht1
      have q1 : SpV _ (.ref t1) := pair_sp n1 upd_same ShortS.nil dw
      have ec : cutV (letters.map V.str) (some 1) none = (letters.drop 1).map V.str := (cut_from0 1 (letters.map V.str)).trans List.map_drop.symm
      refine ⟨_, rfl, 1, rfl, wp, letters.map V.str, rfl, SqT.of (n1 _ _ hw3), fun hw => ?_, fun _ r3 hr3 => ?_⟩
      · have := hw.1
        rw [show HT.sIx (letters.map V.str).length 0 (some 1) = min 1 (letters.map V.str).length from HT.sIx_nat _ 0 1, List.length_map, lo2] at this
        exact absurd this (by decide)
      rw [ec]
      have s4 := same_new (o := .tup ((letters.drop 1).map V.str)) hr3
      have h4 : (upd (upd H3 t1 (.tup [.ref wp, .str ""])) r3 (.tup ((letters.drop 1).map V.str))) r3 = some (.tup ((letters.drop 1).map V.str)) := upd_same
      generalize upd (upd H3 t1 (.tup [.ref wp, .str ""])) r3 (.tup ((letters.drop 1).map V.str)) = H4 at s4 h4 ⊢
      have n4 := n1.trans s4
      have dr := letters_sp h4 (by rw [List.length_drop]; omega) fun z hz => lo3 z (List.mem_of_mem_drop hz)
      refine ⟨by show 2 ≤ sizeLine; decide, fun t2 ht2 => ?_⟩
      have n2 := same_new (o := .tup [.ref r3, .str "a"]) ht2
      have q2 : SpV _ (.ref t2) := pair_sp n2 upd_same sa dr
      refine ⟨_, rfl, by show 2 ≤ sizeLine; decide, fun t3 ht3 => ?_⟩
      have n3 := same_new (o := .tup [.ref wp, .str "a"]) ht3
      have n14 := n4.trans n2
      have dw2 : D4 40 _ (fun _ => False) (.ref wp) _ := D4.keep (fun c o e na => ⟨n14 c o e, na⟩) _ _ dw
      have q3 : SpV _ (.ref t3) := pair_sp n3 upd_same sa dw2
      have n5 := n14.trans n3
      refine ⟨_, rfl, by show 1 ≤ sizeLine; decide, fun t4 ht4 => ?_⟩
      have n6 := same_new (o := .tup [.str "a"]) ht4
      have hw6 := n6 _ _ (n5 _ _ hw3)
      refine ⟨wp, t4, _, _, rfl, rfl, SqT.of hw6, SqT.of upd_same, ?_, ?_, fun e => (nomatch e), fun _ t5 ht5 => ?_⟩
      · intro e
        have := congrArg List.length e
        rw [List.length_map, lo2] at this
        cases this
      · rw [List.length_map, lo2]
        show 26 + 1 ≤ sizeLine
        decide
      have n7 := same_new (o := .tup (letters.map V.str ++ [.str "a"])) ht5
      refine ⟨by show 5 ≤ sizeLine; decide, fun tt htt => ?_⟩
      have n8 := same_new (o := .tup [.ref wp, .ref t1, .ref t2, .ref t3, .ref t5]) htt
      have sps : ∀ y ∈ [V.ref wp, V.ref t1, V.ref t2, V.ref t3, V.ref t5], SpV _ y := fun y hy => by
        rcases List.mem_cons.mp hy with rfl | hy
        · exact SpV.same (n5.trans (n6.trans (n7.trans n8))) ⟨_, _, dw⟩
        rcases List.mem_cons.mp hy with rfl | hy
        · exact SpV.same (s4.trans (n2.trans (n3.trans (n6.trans (n7.trans n8))))) q1
        rcases List.mem_cons.mp hy with rfl | hy
        · exact SpV.same (n3.trans (n6.trans (n7.trans n8))) q2
        rcases List.mem_cons.mp hy with rfl | hy
        · exact SpV.same (n6.trans (n7.trans n8)) q3
        · rw [List.mem_singleton.mp hy]
          refine SpV.same n8 ⟨fun _ => False, .tuple (letters.map PyData.str ++ [.str "a"]), .tup upd_same id ?_ ?_⟩
          · rw [List.length_append, List.length_map, lo2]
            decide
          · exact (d4_texts lo3).app (.cons (.str _ sa.tx) .nil)
      have htt8 : (upd (upd (upd (upd (upd H4 t2 (.tup [.ref r3, .str "a"])) t3 (.tup [.ref wp, .str "a"])) t4 (.tup [.str "a"])) t5 (.tup (letters.map V.str ++ [.str "a"]))) tt (.tup [.ref wp, .ref t1, .ref t2, .ref t3, .ref t5])) tt = some (.tup [.ref wp, .ref t1, .ref t2, .ref t3, .ref t5]) := upd_same
      generalize [V.ref wp, V.ref t1, V.ref t2, V.ref t3, V.ref t5] = things at sps htt8 ⊢
      generalize (upd (upd (upd (upd (upd H4 t2 (.tup [.ref r3, .str "a"])) t3 (.tup [.ref wp, .str "a"])) t4 (.tup [.str "a"])) t5 (.tup (letters.map V.str ++ [.str "a"]))) tt _) = H9 at sps htt8 ⊢
      refine ⟨tt, rfl, ⟨_, SqT.of htt8⟩, for_tup (K := K) (a := tt) (xs := things) (fun j σ G => Same H9 G ∧ ∃ v3, σ = [some (.ref a), some (.ref b), v2, v3, v4, v5, some (.ref wp)]) ⟨Same.refl _, _, rfl⟩ (fun j σ G _ h => SqT.of (h.1 _ _ htt8)) ?_ ?_⟩
      · rintro j y σ G hy ⟨sG, v3', rfl⟩
        have sp := SpV.same sG (sps y (List.mem_of_getElem? hy))
        refine ⟨_, rfl, y, rfl, sp, fun G1 p1 bs s1 h1 six1 => ?_⟩
        have ff := dok_bd six1.len
        refine ⟨.ref p1, bd bs, rfl, .lst (SqL.of h1) (dp_bools bs), (fine_lay _ ff.f).2.1, (fine_lay _ ff.f).2.2, ff.len, Nat.le_trans ff.dp (by decide), ?_⟩
        refine ⟨_, rfl, y, rfl, sp.same s1, fun G2 p2 ds s2 h2 six2 => ?_⟩
        have e1 : bs = ds := Six.uniq s1 sp six1 six2
        subst e1
        refine ⟨.ref p2, bd bs, rfl, .lst (SqL.of h2) (dp_bools bs), (fine_lay _ ff.f).2.1, (fine_lay _ ff.f).2.2, ff.len, Nat.le_trans ff.dp (by decide), ?_⟩
        refine ⟨rfl, _, rfl, ?_⟩
        show if (!decide (V.str (bd bs).shown = V.str (bd bs).shown)) = true then _ else _
        rw [decide_eq_true rfl]
        refine iteF ?_
        exact ⟨sG.trans (s1.trans s2), _, rfl⟩
      · rintro σ G ⟨sG, v3', rfl⟩
        exact k G
end
end Qk
set_option maxRecDepth 100000
set_option maxHeartbeats 4000000
namespace Qk
open PySem PySem.Spec PyProof.Rows L2
theorem all_mk {l : PySem.W.OpenLaw} {w : World} {K : PySem.W.Frag} {h : Heap} {mg : Str → Option Value} {fa f1 f2 f3 f4 f5 f6 f7 f8 f9 f10 f11 f12 f13 f14 f15 f16 f17 f18 f19 f20 f21 f22 f23 f24 f25 f26 f27 f28 : Addr} {tL tM : Nat} (X : K.In h) (G : h.Ns mainGlobals mg) (hfa : mg "law" = some (.ref fa))
    {od1 an1 od2 an2 od3 an3 od4 an4 od5 an5 od6 an6 od7 an7 od8 an8 od9 an9 od10 an10 od11 an11 od12 an12 od13 an13 od14 an14 od15 an15 od16 an16 od17 an17 od18 an18 od19 an19 od20 an20 od21 an21 od22 an22 od23 an23 od24 an24 od25 an25 od26 an26 od27 an27 od28 an28 : Option Addr} {sl1 sl2 sl3 sl4 sl5 sl6 sl7 sl8 sl9 sl10 sl11 sl12 sl13 sl14 sl15 sl16 sl17 sl18 sl19 sl20 sl21 sl22 sl23 sl24 sl25 sl26 sl27 sl28 : Array (Option Value)} {oc1 kV1 dc1 pm1 cd1 ct1 oc2 kV2 dc2 pm2 cd2 ct2 oc3 kV3 dc3 pm3 cd3 ct3 oc4 kV4 dc4 pm4 cd4 ct4 oc5 kV5 dc5 pm5 cd5 ct5 oc6 kV6 dc6 pm6 cd6 ct6 oc7 kV7 dc7 pm7 cd7 ct7 oc8 kV8 dc8 pm8 cd8 ct8 oc9 kV9 dc9 pm9 cd9 ct9 oc10 kV10 dc10 pm10 cd10 ct10 oc11 kV11 dc11 pm11 cd11 ct11 oc12 kV12 dc12 pm12 cd12 ct12 oc13 kV13 dc13 pm13 cd13 ct13 oc14 kV14 dc14 pm14 cd14 ct14 oc15 kV15 dc15 pm15 cd15 ct15 oc16 kV16 dc16 pm16 cd16 ct16 oc17 kV17 dc17 pm17 cd17 ct17 oc18 kV18 dc18 pm18 cd18 ct18 oc19 kV19 dc19 pm19 cd19 ct19 oc20 kV20 dc20 pm20 cd20 ct20 oc21 kV21 dc21 pm21 cd21 ct21 oc22 kV22 dc22 pm22 cd22 ct22 oc23 kV23 dc23 pm23 cd23 ct23 oc24 kV24 dc24 pm24 cd24 ct24 oc25 kV25 dc25 pm25 cd25 ct25 oc26 kV26 dc26 pm26 cd26 ct26 oc27 kV27 dc27 pm27 cd27 ct27 oc28 kV28 dc28 pm28 cd28 ct28 : Value}
    (a1 : PySem.W.nsIn K mainGlobals "is_integer" = some (some (.ref f1))) (l1 : K.lookup f1 = some ⟨oc1, od1, .func (PySem.W.fnOf "is_integer" "is_integer" (defArgs sIsInt) (defBody sIsInt) (defScope sIsInt) .none kV1 dc1 pm1 an1 cd1 ct1), sl1⟩) (c1 : PySem.W.codeIn K cd1 "is_integer" = true) (k1 : PySem.W.keepIn K (.ref f1) = true)
    (a2 : PySem.W.nsIn K mainGlobals "is_column" = some (some (.ref f2))) (l2 : K.lookup f2 = some ⟨oc2, od2, .func (PySem.W.fnOf "is_column" "is_column" (defArgs sIsCol) (defBody sIsCol) (defScope sIsCol) .none kV2 dc2 pm2 an2 cd2 ct2), sl2⟩) (c2 : PySem.W.codeIn K cd2 "is_column" = true) (k2 : PySem.W.keepIn K (.ref f2) = true)
    (a3 : PySem.W.nsIn K mainGlobals "are_different_columns" = some (some (.ref f3))) (l3 : K.lookup f3 = some ⟨oc3, od3, .func (PySem.W.fnOf "are_different_columns" "are_different_columns" (defArgs sAreDiff) (defBody sAreDiff) (defScope sAreDiff) .none kV3 dc3 pm3 an3 cd3 ct3), sl3⟩) (c3 : PySem.W.codeIn K cd3 "are_different_columns" = true) (k3 : PySem.W.keepIn K (.ref f3) = true)
    (a4 : PySem.W.nsIn K mainGlobals "is_ascending" = some (some (.ref f4))) (l4 : K.lookup f4 = some ⟨oc4, od4, .func (PySem.W.fnOf "is_ascending" "is_ascending" (defArgs sAsc) (defBody sAsc) (defScope sAsc) .none kV4 dc4 pm4 an4 cd4 ct4), sl4⟩) (c4 : PySem.W.codeIn K cd4 "is_ascending" = true) (k4 : PySem.W.keepIn K (.ref f4) = true)
    (a5 : PySem.W.nsIn K mainGlobals "are_columns" = some (some (.ref f5))) (l5 : K.lookup f5 = some ⟨oc5, od5, .func (PySem.W.fnOf "are_columns" "are_columns" (defArgs sAreCols) (defBody sAreCols) (defScope sAreCols) .none kV5 dc5 pm5 an5 cd5 ct5), sl5⟩) (c5 : PySem.W.codeIn K cd5 "are_columns" = true) (k5 : PySem.W.keepIn K (.ref f5) = true)
    (a6 : PySem.W.nsIn K mainGlobals "is_empty" = some (some (.ref f6))) (l6 : K.lookup f6 = some ⟨oc6, od6, .func (PySem.W.fnOf "is_empty" "is_empty" (defArgs sIsEmpty) (defBody sIsEmpty) (defScope sIsEmpty) .none kV6 dc6 pm6 an6 cd6 ct6), sl6⟩) (c6 : PySem.W.codeIn K cd6 "is_empty" = true) (k6 : PySem.W.keepIn K (.ref f6) = true)
    (a7 : PySem.W.nsIn K mainGlobals "is_last" = some (some (.ref f7))) (l7 : K.lookup f7 = some ⟨oc7, od7, .func (PySem.W.fnOf "is_last" "is_last" (defArgs sIsLast) (defBody sIsLast) (defScope sIsLast) .none kV7 dc7 pm7 an7 cd7 ct7), sl7⟩) (c7 : PySem.W.codeIn K cd7 "is_last" = true) (k7 : PySem.W.keepIn K (.ref f7) = true)
    (a8 : PySem.W.nsIn K mainGlobals "is_question" = some (some (.ref f8))) (l8 : K.lookup f8 = some ⟨oc8, od8, .func (PySem.W.fnOf "is_question" "is_question" (defArgs sIsQ) (defBody sIsQ) (defScope sIsQ) .none kV8 dc8 pm8 an8 cd8 ct8), sl8⟩) (c8 : PySem.W.codeIn K cd8 "is_question" = true) (k8 : PySem.W.keepIn K (.ref f8) = true)
    (a9 : PySem.W.nsIn K mainGlobals "is_index" = some (some (.ref f9))) (l9 : K.lookup f9 = some ⟨oc9, od9, .func (PySem.W.fnOf "is_index" "is_index" (defArgs sIsIndex) (defBody sIsIndex) (defScope sIsIndex) .none kV9 dc9 pm9 an9 cd9 ct9), sl9⟩) (c9 : PySem.W.codeIn K cd9 "is_index" = true) (k9 : PySem.W.keepIn K (.ref f9) = true)
    (a10 : PySem.W.nsIn K mainGlobals "is_weight" = some (some (.ref f10))) (l10 : K.lookup f10 = some ⟨oc10, od10, .func (PySem.W.fnOf "is_weight" "is_weight" (defArgs sIsWeight) (defBody sIsWeight) (defScope sIsWeight) .none kV10 dc10 pm10 an10 cd10 ct10), sl10⟩) (c10 : PySem.W.codeIn K cd10 "is_weight" = true) (k10 : PySem.W.keepIn K (.ref f10) = true)
    (a11 : PySem.W.nsIn K mainGlobals "_law_bag" = some (some (.ref f11))) (l11 : K.lookup f11 = some ⟨oc11, od11, .func (PySem.W.fnOf "_law_bag" "_law_bag" (defArgs sBag) (defBody sBag) (defScope sBag) .none kV11 dc11 pm11 an11 cd11 ct11), sl11⟩) (c11 : PySem.W.codeIn K cd11 "_law_bag" = true) (k11 : PySem.W.keepIn K (.ref f11) = true)
    (a12 : PySem.W.nsIn K mainGlobals "_law_take" = some (some (.ref f12))) (l12 : K.lookup f12 = some ⟨oc12, od12, .func (PySem.W.fnOf "_law_take" "_law_take" (defArgs sTake) (defBody sTake) (defScope sTake) .none kV12 dc12 pm12 an12 cd12 ct12), sl12⟩) (c12 : PySem.W.codeIn K cd12 "_law_take" = true) (k12 : PySem.W.keepIn K (.ref f12) = true)
    (a13 : PySem.W.nsIn K mainGlobals "_law_one" = some (some (.ref f13))) (l13 : K.lookup f13 = some ⟨oc13, od13, .func (PySem.W.fnOf "_law_one" "_law_one" (defArgs sOne) (defBody sOne) (defScope sOne) .none kV13 dc13 pm13 an13 cd13 ct13), sl13⟩) (c13 : PySem.W.codeIn K cd13 "_law_one" = true) (k13 : PySem.W.keepIn K (.ref f13) = true)
    (a14 : PySem.W.nsIn K mainGlobals "_law_mixed" = some (some (.ref f14))) (l14 : K.lookup f14 = some ⟨oc14, od14, .func (PySem.W.fnOf "_law_mixed" "_law_mixed" (defArgs sMixed) (defBody sMixed) (defScope sMixed) .none kV14 dc14 pm14 an14 cd14 ct14), sl14⟩) (c14 : PySem.W.codeIn K cd14 "_law_mixed" = true) (k14 : PySem.W.keepIn K (.ref f14) = true)
    (a15 : PySem.W.nsIn K mainGlobals "_law_names" = some (some (.ref f15))) (l15 : K.lookup f15 = some ⟨oc15, od15, .func (PySem.W.fnOf "_law_names" "_law_names" (defArgs sNames) (defBody sNames) (defScope sNames) .none kV15 dc15 pm15 an15 cd15 ct15), sl15⟩) (c15 : PySem.W.codeIn K cd15 "_law_names" = true) (k15 : PySem.W.keepIn K (.ref f15) = true)
    (a16 : PySem.W.nsIn K mainGlobals "_law_question" = some (some (.ref f16))) (l16 : K.lookup f16 = some ⟨oc16, od16, .func (PySem.W.fnOf "_law_question" "_law_question" (defArgs sQuestion) (defBody sQuestion) (defScope sQuestion) .none kV16 dc16 pm16 an16 cd16 ct16), sl16⟩) (c16 : PySem.W.codeIn K cd16 "_law_question" = true) (k16 : PySem.W.keepIn K (.ref f16) = true)
    (a17 : PySem.W.nsIn K mainGlobals "_law_index" = some (some (.ref f17))) (l17 : K.lookup f17 = some ⟨oc17, od17, .func (PySem.W.fnOf "_law_index" "_law_index" (defArgs sIndex) (defBody sIndex) (defScope sIndex) .none kV17 dc17 pm17 an17 cd17 ct17), sl17⟩) (c17 : PySem.W.codeIn K cd17 "_law_index" = true) (k17 : PySem.W.keepIn K (.ref f17) = true)
    (a18 : PySem.W.nsIn K mainGlobals "_law_odd" = some (some (.ref f18))) (l18 : K.lookup f18 = some ⟨oc18, od18, .func (PySem.W.fnOf "_law_odd" "_law_odd" (defArgs sOdd) (defBody sOdd) (defScope sOdd) .none kV18 dc18 pm18 an18 cd18 ct18), sl18⟩) (c18 : PySem.W.codeIn K cd18 "_law_odd" = true) (k18 : PySem.W.keepIn K (.ref f18) = true)
    (a19 : PySem.W.nsIn K mainGlobals "_law_is_whole" = some (some (.ref f19))) (l19 : K.lookup f19 = some ⟨oc19, od19, .func (PySem.W.fnOf "_law_is_whole" "_law_is_whole" (defArgs sWhole) (defBody sWhole) (defScope sWhole) .none kV19 dc19 pm19 an19 cd19 ct19), sl19⟩) (c19 : PySem.W.codeIn K cd19 "_law_is_whole" = true) (k19 : PySem.W.keepIn K (.ref f19) = true)
    (a20 : PySem.W.nsIn K mainGlobals "_law_is_name" = some (some (.ref f20))) (l20 : K.lookup f20 = some ⟨oc20, od20, .func (PySem.W.fnOf "_law_is_name" "_law_is_name" (defArgs sIsName) (defBody sIsName) (defScope sIsName) .none kV20 dc20 pm20 an20 cd20 ct20), sl20⟩) (c20 : PySem.W.codeIn K cd20 "_law_is_name" = true) (k20 : PySem.W.keepIn K (.ref f20) = true)
    (a21 : PySem.W.nsIn K mainGlobals "_law_are_names" = some (some (.ref f21))) (l21 : K.lookup f21 = some ⟨oc21, od21, .func (PySem.W.fnOf "_law_are_names" "_law_are_names" (defArgs sAreNames) (defBody sAreNames) (defScope sAreNames) .none kV21 dc21 pm21 an21 cd21 ct21), sl21⟩) (c21 : PySem.W.codeIn K cd21 "_law_are_names" = true) (k21 : PySem.W.keepIn K (.ref f21) = true)
    (a22 : PySem.W.nsIn K mainGlobals "_law_is_asked" = some (some (.ref f22))) (l22 : K.lookup f22 = some ⟨oc22, od22, .func (PySem.W.fnOf "_law_is_asked" "_law_is_asked" (defArgs sLAsked) (defBody sLAsked) (defScope sLAsked) .none kV22 dc22 pm22 an22 cd22 ct22), sl22⟩) (c22 : PySem.W.codeIn K cd22 "_law_is_asked" = true) (k22 : PySem.W.keepIn K (.ref f22) = true)
    (a23 : PySem.W.nsIn K mainGlobals "_law_due" = some (some (.ref f23))) (l23 : K.lookup f23 = some ⟨oc23, od23, .func (PySem.W.fnOf "_law_due" "_law_due" (defArgs sDue) (defBody sDue) (defScope sDue) .none kV23 dc23 pm23 an23 cd23 ct23), sl23⟩) (c23 : PySem.W.codeIn K cd23 "_law_due" = true) (k23 : PySem.W.keepIn K (.ref f23) = true)
    (a24 : PySem.W.nsIn K mainGlobals "_law_spelt" = some (some (.ref f24))) (l24 : K.lookup f24 = some ⟨oc24, od24, .func (PySem.W.fnOf "_law_spelt" "_law_spelt" (defArgs sSpelt) (defBody sSpelt) (defScope sSpelt) .none kV24 dc24 pm24 an24 cd24 ct24), sl24⟩) (c24 : PySem.W.codeIn K cd24 "_law_spelt" = true) (k24 : PySem.W.keepIn K (.ref f24) = true)
    (a25 : PySem.W.nsIn K mainGlobals "_law_bent" = some (some (.ref f25))) (l25 : K.lookup f25 = some ⟨oc25, od25, .func (PySem.W.fnOf "_law_bent" "_law_bent" (defArgs sBent) (defBody sBent) (defScope sBent) .none kV25 dc25 pm25 an25 cd25 ct25), sl25⟩) (c25 : PySem.W.codeIn K cd25 "_law_bent" = true) (k25 : PySem.W.keepIn K (.ref f25) = true)
    (a26 : PySem.W.nsIn K mainGlobals "_law_thing" = some (some (.ref f26))) (l26 : K.lookup f26 = some ⟨oc26, od26, .func (PySem.W.fnOf "_law_thing" "_law_thing" (defArgs sThing) (defBody sThing) (defScope sThing) .none kV26 dc26 pm26 an26 cd26 ct26), sl26⟩) (c26 : PySem.W.codeIn K cd26 "_law_thing" = true) (k26 : PySem.W.keepIn K (.ref f26) = true)
    (a27 : PySem.W.nsIn K mainGlobals "_law_asked" = some (some (.ref f27))) (l27 : K.lookup f27 = some ⟨oc27, od27, .func (PySem.W.fnOf "_law_asked" "_law_asked" (defArgs sAsked) (defBody sAsked) (defScope sAsked) .none kV27 dc27 pm27 an27 cd27 ct27), sl27⟩) (c27 : PySem.W.codeIn K cd27 "_law_asked" = true) (k27 : PySem.W.keepIn K (.ref f27) = true)
    (a28 : PySem.W.nsIn K mainGlobals "law" = some (some (.ref f28))) (l28 : K.lookup f28 = some ⟨oc28, od28, .func (PySem.W.fnOf "law" "law" (defArgs sLaw) (defBody sLaw) (defScope sLaw) .none kV28 dc28 pm28 an28 cd28 ct28), sl28⟩) (c28 : PySem.W.codeIn K cd28 "law" = true) (k28 : PySem.W.keepIn K (.ref f28) = true)
    (aL : PySem.W.nsIn K mainGlobals "LONGEST_COLUMN" = some (some (.int 8 tL)))
    (aM : PySem.W.nsIn K mainGlobals "GREATEST_WEIGHT" = some (some (.int (10 ^ 30) tM)))
    (zlen : PySem.W.nsIn K mainGlobals "len" = some none) (zint : PySem.W.nsIn K mainGlobals "int" = some none) (zabs : PySem.W.nsIn K mainGlobals "abs" = some none) (ztuple : PySem.W.nsIn K mainGlobals "tuple" = some none) (zsorted : PySem.W.nsIn K mainGlobals "sorted" = some none) (zrange : PySem.W.nsIn K mainGlobals "range" = some none) (zrepr : PySem.W.nsIn K mainGlobals "repr" = some none) (zlist : PySem.W.nsIn K mainGlobals "list" = some none) (zset : PySem.W.nsIn K mainGlobals "set" = some none) (zisinstance : PySem.W.nsIn K mainGlobals "isinstance" = some none) (zstr : PySem.W.nsIn K mainGlobals "str" = some none) (zall : PySem.W.nsIn K mainGlobals "all" = some none) (zenumerate : PySem.W.nsIn K mainGlobals "enumerate" = some none) (ziter : PySem.W.nsIn K mainGlobals "iter" = some none) (zzip : PySem.W.nsIn K mainGlobals "zip" = some none) (zbool : PySem.W.nsIn K mainGlobals "bool" = some none) (zdict : PySem.W.nsIn K mainGlobals "dict" = some none) :
    ∃ fd : FuncData, (∀ (s : Shared) (v : Value), BindsTo s fd ⟨[v], []⟩ [("_law_script", v)]) ∧ ∀ base : Heap, K.In base → base.Ns mainGlobals mg → FnG l.prog w K mg base 6 fa fd ["_law_script"] (spLaw K) := by
  have e := hfa.symm.trans (PySem.W.mg_of X G a28)
  cases e
  have T : Txt K mg := ⟨PySem.W.mg_none_of X G zlen, PySem.W.mg_none_of X G zint, PySem.W.mg_none_of X G zabs, PySem.W.mg_none_of X G ztuple, PySem.W.mg_none_of X G zsorted, PySem.W.mg_none_of X G zrange, PySem.W.mg_none_of X G zrepr, PySem.W.mg_none_of X G zlist, PySem.W.mg_none_of X G zset, PySem.W.mg_none_of X G zisinstance, PySem.W.mg_none_of X G zstr, PySem.W.mg_none_of X G zall, PySem.W.mg_none_of X G zenumerate, PySem.W.mg_none_of X G ziter, PySem.W.mg_none_of X G zzip, PySem.W.mg_none_of X G zbool, PySem.W.mg_none_of X G zdict, ⟨tL, PySem.W.mg_of X G aL⟩, ⟨tM, PySem.W.mg_of X G aM⟩⟩
  have F1 := fun_mk (st := sIsInt) l1 c1 k1
  have b1 := F1.binds (ps := ["thing"]) fun _ _ _ _ _ _ us hl => match us, hl with | [_], _ => rfl
  have F2 := fun_mk (st := sIsCol) l2 c2 k2
  have b2 := F2.binds (ps := ["thing"]) fun _ _ _ _ _ _ us hl => match us, hl with | [_], _ => rfl
  have F3 := fun_mk (st := sAreDiff) l3 c3 k3
  have b3 := F3.binds (ps := ["things"]) fun _ _ _ _ _ _ us hl => match us, hl with | [_], _ => rfl
  have F4 := fun_mk (st := sAsc) l4 c4 k4
  have b4 := F4.binds (ps := ["things"]) fun _ _ _ _ _ _ us hl => match us, hl with | [_], _ => rfl
  have F5 := fun_mk (st := sAreCols) l5 c5 k5
  have b5 := F5.binds (ps := ["thing"]) fun _ _ _ _ _ _ us hl => match us, hl with | [_], _ => rfl
  have F6 := fun_mk (st := sIsEmpty) l6 c6 k6
  have b6 := F6.binds (ps := ["thing"]) fun _ _ _ _ _ _ us hl => match us, hl with | [_], _ => rfl
  have F7 := fun_mk (st := sIsLast) l7 c7 k7
  have b7 := F7.binds (ps := ["thing", "columns"]) fun _ _ _ _ _ _ us hl => match us, hl with | [_, _], _ => rfl
  have F8 := fun_mk (st := sIsQ) l8 c8 k8
  have b8 := F8.binds (ps := ["thing"]) fun _ _ _ _ _ _ us hl => match us, hl with | [_], _ => rfl
  have F9 := fun_mk (st := sIsIndex) l9 c9 k9
  have b9 := F9.binds (ps := ["thing"]) fun _ _ _ _ _ _ us hl => match us, hl with | [_], _ => rfl
  have F10 := fun_mk (st := sIsWeight) l10 c10 k10
  have b10 := F10.binds (ps := ["thing"]) fun _ _ _ _ _ _ us hl => match us, hl with | [_], _ => rfl
  have F11 := fun_mk (st := sBag) l11 c11 k11
  have b11 := F11.binds (ps := ["_law_script"]) fun _ _ _ _ _ _ us hl => match us, hl with | [_], _ => rfl
  have F12 := fun_mk (st := sTake) l12 c12 k12
  have b12 := F12.binds (ps := ["_law_bag_here", "_law_many"]) fun _ _ _ _ _ _ us hl => match us, hl with | [_, _], _ => rfl
  have F13 := fun_mk (st := sOne) l13 c13 k13
  have b13 := F13.binds (ps := ["_law_bag_here", "_law_some"]) fun _ _ _ _ _ _ us hl => match us, hl with | [_, _], _ => rfl
  have F14 := fun_mk (st := sMixed) l14 c14 k14
  have b14 := F14.binds (ps := ["_law_bag_here", "_law_things"]) fun _ _ _ _ _ _ us hl => match us, hl with | [_, _], _ => rfl
  have F15 := fun_mk (st := sNames) l15 c15 k15
  have b15 := F15.binds (ps := ["_law_bag_here", "_law_many"]) fun _ _ _ _ _ _ us hl => match us, hl with | [_, _], _ => rfl
  have F16 := fun_mk (st := sQuestion) l16 c16 k16
  have b16 := F16.binds (ps := ["_law_bag_here", "_law_names_here"]) fun _ _ _ _ _ _ us hl => match us, hl with | [_, _], _ => rfl
  have F17 := fun_mk (st := sIndex) l17 c17 k17
  have b17 := F17.binds (ps := ["_law_bag_here", "_law_names_here"]) fun _ _ _ _ _ _ us hl => match us, hl with | [_, _], _ => rfl
  have F18 := fun_mk (st := sOdd) l18 c18 k18
  have b18 := F18.binds (ps := ["_law_bag_here"]) fun _ _ _ _ _ _ us hl => match us, hl with | [_], _ => rfl
  have F19 := fun_mk (st := sWhole) l19 c19 k19
  have b19 := F19.binds (ps := ["_law_thing_here"]) fun _ _ _ _ _ _ us hl => match us, hl with | [_], _ => rfl
  have F20 := fun_mk (st := sIsName) l20 c20 k20
  have b20 := F20.binds (ps := ["_law_thing_here"]) fun _ _ _ _ _ _ us hl => match us, hl with | [_], _ => rfl
  have F21 := fun_mk (st := sAreNames) l21 c21 k21
  have b21 := F21.binds (ps := ["_law_thing_here"]) fun _ _ _ _ _ _ us hl => match us, hl with | [_], _ => rfl
  have F22 := fun_mk (st := sLAsked) l22 c22 k22
  have b22 := F22.binds (ps := ["_law_thing_here"]) fun _ _ _ _ _ _ us hl => match us, hl with | [_], _ => rfl
  have F23 := fun_mk (st := sDue) l23 c23 k23
  have b23 := F23.binds (ps := ["_law_thing_here"]) fun _ _ _ _ _ _ us hl => match us, hl with | [_], _ => rfl
  have F24 := fun_mk (st := sSpelt) l24 c24 k24
  have b24 := F24.binds (ps := ["_law_bag_here"]) fun _ _ _ _ _ _ us hl => match us, hl with | [_], _ => rfl
  have F25 := fun_mk (st := sBent) l25 c25 k25
  have b25 := F25.binds (ps := ["_law_bag_here", "_law_thing_here"]) fun _ _ _ _ _ _ us hl => match us, hl with | [_, _], _ => rfl
  have F26 := fun_mk (st := sThing) l26 c26 k26
  have b26 := F26.binds (ps := ["_law_bag_here"]) fun _ _ _ _ _ _ us hl => match us, hl with | [_], _ => rfl
  have F27 := fun_mk (st := sAsked) l27 c27 k27
  have b27 := F27.binds (ps := ["_law_thing_here"]) fun _ _ _ _ _ _ us hl => match us, hl with | [_], _ => rfl
  have F28 := fun_mk (st := sLaw) l28 c28 k28
  have b28 := F28.binds (ps := ["_law_script"]) fun _ _ _ _ _ _ us hl => match us, hl with | [_], _ => rfl
  refine ⟨PySem.W.fnOf "law" "law" (defArgs sLaw) (defBody sLaw) (defScope sLaw) .none kV28 dc28 pm28 an28 cd28 ct28, fun s v => .of_eq rfl, fun base _ _ => ?_⟩
  let c_1 : Cal l.prog w K mg base 1 "is_integer" ["thing"] (spIsIntV K) := ⟨_, _, ok_isint F1 T, PySem.W.mg_of X G a1, k1, b1⟩
  let c_2 : Cal l.prog w K mg base 1 "is_column" ["thing"] (spTx K colS) := ⟨_, _, ok_iscolA F2 T, PySem.W.mg_of X G a2, k2, b2⟩
  let c_3 : Cal l.prog w K mg base 2 "are_different_columns" ["things"] (spDiffA) := ⟨_, _, ok_arediffA F3 T c_2, PySem.W.mg_of X G a3, k3, b3⟩
  let c_4 : Cal l.prog w K mg base 1 "is_ascending" ["things"] (spAscA) := ⟨_, _, ok_ascA F4 T, PySem.W.mg_of X G a4, k4, b4⟩
  let c_5 : Cal l.prog w K mg base 2 "are_columns" ["thing"] (spCv) := ⟨_, _, ok_arecolsA F5 T c_2 c_4, PySem.W.mg_of X G a5, k5, b5⟩
  let c_6 : Cal l.prog w K mg base 1 "is_empty" ["thing"] (spTx K fun z => decide (z = "")) := ⟨_, _, ok_isemptyA F6 T, PySem.W.mg_of X G a6, k6, b6⟩
  let c_7 : Cal l.prog w K mg base 2 "is_last" ["thing", "columns"] (spLastA K) := ⟨_, _, ok_islastA F7 T c_2 c_6, PySem.W.mg_of X G a7, k7, b7⟩
  let c_8 : Cal l.prog w K mg base 3 "is_question" ["thing"] (spQv) := ⟨_, _, ok_isqA F8 T c_5 c_7, PySem.W.mg_of X G a8, k8, b8⟩
  let c_9 : Cal l.prog w K mg base 3 "is_index" ["thing"] (spIxV) := ⟨_, _, ok_isindexA F9 T c_3, PySem.W.mg_of X G a9, k9, b9⟩
  let c_10 : Cal l.prog w K mg base 2 "is_weight" ["thing"] (spWt K) := ⟨_, _, ok_isweight F10 T c_1, PySem.W.mg_of X G a10, k10, b10⟩
  let c_11 : Cal l.prog w K mg base 1 "_law_bag" ["_law_script"] (spBag K) := ⟨_, _, ok_bag F11 T, PySem.W.mg_of X G a11, k11, b11⟩
  let c_12 : Cal l.prog w K mg base 1 "_law_take" ["_law_bag_here", "_law_many"] (spTake) := ⟨_, _, ok_take F12 T, PySem.W.mg_of X G a12, k12, b12⟩
  let c_13 : Cal l.prog w K mg base 2 "_law_one" ["_law_bag_here", "_law_some"] (spOne) := ⟨_, _, ok_one F13 T c_12, PySem.W.mg_of X G a13, k13, b13⟩
  let c_14 : Cal l.prog w K mg base 2 "_law_mixed" ["_law_bag_here", "_law_things"] (spMixed) := ⟨_, _, ok_mixed F14 T c_12, PySem.W.mg_of X G a14, k14, b14⟩
  let c_15 : Cal l.prog w K mg base 3 "_law_names" ["_law_bag_here", "_law_many"] (spNames) := ⟨_, _, ok_names F15 T c_14, PySem.W.mg_of X G a15, k15, b15⟩
  let c_16 : Cal l.prog w K mg base 3 "_law_question" ["_law_bag_here", "_law_names_here"] (spTup11) := ⟨_, _, ok_question F16 T c_12 c_14, PySem.W.mg_of X G a16, k16, b16⟩
  let c_17 : Cal l.prog w K mg base 3 "_law_index" ["_law_bag_here", "_law_names_here"] (spTup11) := ⟨_, _, ok_index F17 T c_12 c_14, PySem.W.mg_of X G a17, k17, b17⟩
  let c_18 : Cal l.prog w K mg base 3 "_law_odd" ["_law_bag_here"] (spOdd11) := ⟨_, _, ok_odd F18 T c_13, PySem.W.mg_of X G a18, k18, b18⟩
  let c_19 : Cal l.prog w K mg base 1 "_law_is_whole" ["_law_thing_here"] (spIsIntV K) := ⟨_, _, ok_whole F19 T, PySem.W.mg_of X G a19, k19, b19⟩
  let c_20 : Cal l.prog w K mg base 1 "_law_is_name" ["_law_thing_here"] (spTx K colS) := ⟨_, _, ok_isname F20 T, PySem.W.mg_of X G a20, k20, b20⟩
  let c_21 : Cal l.prog w K mg base 2 "_law_are_names" ["_law_thing_here"] (spNmV) := ⟨_, _, ok_arenames F21 T c_20, PySem.W.mg_of X G a21, k21, b21⟩
  let c_22 : Cal l.prog w K mg base 3 "_law_is_asked" ["_law_thing_here"] (spQv) := ⟨_, _, ok_lasked F22 T c_20 c_21, PySem.W.mg_of X G a22, k22, b22⟩
  let c_23 : Cal l.prog w K mg base 4 "_law_due" ["_law_thing_here"] (spSix) := ⟨_, _, ok_due F23 T c_21 c_19 c_20 c_22, PySem.W.mg_of X G a23, k23, b23⟩
  let c_24 : Cal l.prog w K mg base 2 "_law_spelt" ["_law_bag_here"] (spSpelt) := ⟨_, _, ok_spelt F24 T c_12, PySem.W.mg_of X G a24, k24, b24⟩
  let c_25 : Cal l.prog w K mg base 4 "_law_bent" ["_law_bag_here", "_law_thing_here"] (spBent11) := ⟨_, _, ok_bent F25 T c_12 c_13 c_18, PySem.W.mg_of X G a25, k25, b25⟩
  let c_26 : Cal l.prog w K mg base 5 "_law_thing" ["_law_bag_here"] (spThing11) := ⟨_, _, ok_thing F26 T c_12 c_13 c_15 c_24 c_18 c_16 c_17 c_25, PySem.W.mg_of X G a26, k26, b26⟩
  let c_27 : Cal l.prog w K mg base 4 "_law_asked" ["_law_thing_here"] (spSix) := ⟨_, _, ok_asked F27 T c_1 c_2 c_5 c_8 c_9 c_10, PySem.W.mg_of X G a27, k27, b27⟩
  exact ok_law F28 T c_11 c_26 c_23 c_27
theorem walk {l : PySem.W.OpenLaw} {q : Program} {loose : List Str} {XP : (Str → Option Value) → Heap → Prop} {YP : World → Heap → Prop} {d : DefRec} {K : Params → PySem.W.Frag} (hn : l.most = some 63) (hdf : d.params.defaults = [])
    (hY : ∀ (w : World) (h : Heap), YP w h → (K w.params).In h)
    (F : ∀ (w : World) (mg : Str → Option Value) (fa : Addr) (h : Heap), (K w.params).In h → h.Ns mainGlobals mg → mg d.name = some (.ref fa) →
      ∃ fd : FuncData, (∀ (s : Shared) (u : Value), BindsTo s fd ⟨[u], []⟩ [("_law_script", u)]) ∧ ∀ base : Heap, (K w.params).In base → base.Ns mainGlobals mg → FnG l.prog w (K w.params) mg base 6 fa fd ["_law_script"] (spLaw (K w.params))) :
    PySem.W.WalkO q loose XP YP l.row.toRowW d [] (fun f vs => PySem.call f vs) :=
  walk_g (n := 63) (k := 6) (x := "_law_script") (sp := fun w => spLaw (K w.params)) hn (by decide) hdf ⟨rfl, by decide, by decide⟩ hY F (fun _ _ a ns hl _ hS => ⟨a, ns, rfl, hS, hl, fun _ => rfl⟩)
end Qk
open PySem PySem.W PyProof.Rows
set_option maxRecDepth 100000 in
set_option maxHeartbeats 0 in
theorem PySem.Challenge.cw_narrowkeys_k11_words_of_any_value_holds : PySem.Challenge.rw_narrowkeys_k11_words_of_any_value.Holds := by
  w_on; o_law; k_head; (case hw => w_witness2)
  k_fill
  refine Qk.walk (l := PySem.Challenge.rw_narrowkeys_k11_words_of_any_value) rfl rfl (fun w h Y => PySem.W.kIn_of Y) ?F
  case F =>
    intro w mg fa h KX G hmg
    refine' Qk.all_mk KX G hmg ?a1 ?l1 ?c1 ?k1 ?a2 ?l2 ?c2 ?k2 ?a3 ?l3 ?c3 ?k3 ?a4 ?l4 ?c4 ?k4 ?a5 ?l5 ?c5 ?k5 ?a6 ?l6 ?c6 ?k6 ?a7 ?l7 ?c7 ?k7 ?a8 ?l8 ?c8 ?k8 ?a9 ?l9 ?c9 ?k9 ?a10 ?l10 ?c10 ?k10 ?a11 ?l11 ?c11 ?k11 ?a12 ?l12 ?c12 ?k12 ?a13 ?l13 ?c13 ?k13 ?a14 ?l14 ?c14 ?k14 ?a15 ?l15 ?c15 ?k15 ?a16 ?l16 ?c16 ?k16 ?a17 ?l17 ?c17 ?k17 ?a18 ?l18 ?c18 ?k18 ?a19 ?l19 ?c19 ?k19 ?a20 ?l20 ?c20 ?k20 ?a21 ?l21 ?c21 ?k21 ?a22 ?l22 ?c22 ?k22 ?a23 ?l23 ?c23 ?k23 ?a24 ?l24 ?c24 ?k24 ?a25 ?l25 ?c25 ?k25 ?a26 ?l26 ?c26 ?k26 ?a27 ?l27 ?c27 ?k27 ?a28 ?l28 ?c28 ?k28 ?aL ?aM ?zlen ?zint ?zabs ?ztuple ?zsorted ?zrange ?zrepr ?zlist ?zset ?zisinstance ?zstr ?zall ?zenumerate ?ziter ?zzip ?zbool ?zdict
    (case a1 => k_is)
    (case l1 => k_is)
    (case c1 => k_is)
    (case k1 => k_is)
    (case a2 => k_is)
    (case l2 => k_is)
    (case c2 => k_is)
    (case k2 => k_is)
    (case a3 => k_is)
    (case l3 => k_is)
    (case c3 => k_is)
    (case k3 => k_is)
    (case a4 => k_is)
    (case l4 => k_is)
    (case c4 => k_is)
    (case k4 => k_is)
    (case a5 => k_is)
    (case l5 => k_is)
    (case c5 => k_is)
    (case k5 => k_is)
    (case a6 => k_is)
    (case l6 => k_is)
    (case c6 => k_is)
    (case k6 => k_is)
    (case a7 => k_is)
    (case l7 => k_is)
    (case c7 => k_is)
    (case k7 => k_is)
    (case a8 => k_is)
    (case l8 => k_is)
    (case c8 => k_is)
    (case k8 => k_is)
    (case a9 => k_is)
    (case l9 => k_is)
    (case c9 => k_is)
    (case k9 => k_is)
    (case a10 => k_is)
    (case l10 => k_is)
    (case c10 => k_is)
    (case k10 => k_is)
    (case a11 => k_is)
    (case l11 => k_is)
    (case c11 => k_is)
    (case k11 => k_is)
    (case a12 => k_is)
    (case l12 => k_is)
    (case c12 => k_is)
    (case k12 => k_is)
    (case a13 => k_is)
    (case l13 => k_is)
    (case c13 => k_is)
    (case k13 => k_is)
    (case a14 => k_is)
    (case l14 => k_is)
    (case c14 => k_is)
    (case k14 => k_is)
    (case a15 => k_is)
    (case l15 => k_is)
    (case c15 => k_is)
    (case k15 => k_is)
    (case a16 => k_is)
    (case l16 => k_is)
    (case c16 => k_is)
    (case k16 => k_is)
    (case a17 => k_is)
    (case l17 => k_is)
    (case c17 => k_is)
    (case k17 => k_is)
    (case a18 => k_is)
    (case l18 => k_is)
    (case c18 => k_is)
    (case k18 => k_is)
    (case a19 => k_is)
    (case l19 => k_is)
    (case c19 => k_is)
    (case k19 => k_is)
    (case a20 => k_is)
    (case l20 => k_is)
    (case c20 => k_is)
    (case k20 => k_is)
    (case a21 => k_is)
    (case l21 => k_is)
    (case c21 => k_is)
    (case k21 => k_is)
    (case a22 => k_is)
    (case l22 => k_is)
    (case c22 => k_is)
    (case k22 => k_is)
    (case a23 => k_is)
    (case l23 => k_is)
    (case c23 => k_is)
    (case k23 => k_is)
    (case a24 => k_is)
    (case l24 => k_is)
    (case c24 => k_is)
    (case k24 => k_is)
    (case a25 => k_is)
    (case l25 => k_is)
    (case c25 => k_is)
    (case k25 => k_is)
    (case a26 => k_is)
    (case l26 => k_is)
    (case c26 => k_is)
    (case k26 => k_is)
    (case a27 => k_is)
    (case l27 => k_is)
    (case c27 => k_is)
    (case k27 => k_is)
    (case a28 => k_is)
    (case l28 => k_is)
    (case c28 => k_is)
    (case k28 => k_is)
    (case aL => first | k_is | rfl)
    (case aM => first | k_is | rfl)
    (case zlen => k_is)
    (case zint => k_is)
    (case zabs => k_is)
    (case ztuple => k_is)
    (case zsorted => k_is)
    (case zrange => k_is)
    (case zrepr => k_is)
    (case zlist => k_is)
    (case zset => k_is)
    (case zisinstance => k_is)
    (case zstr => k_is)
    (case zall => k_is)
    (case zenumerate => k_is)
    (case ziter => k_is)
    (case zzip => k_is)
    (case zbool => k_is)
    (case zdict => k_is)
#print axioms PySem.Challenge.cw_narrowkeys_k11_words_of_any_value_holds
