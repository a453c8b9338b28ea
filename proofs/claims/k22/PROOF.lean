import PyProof.Rows.All
import HandS.TupSets
import HandS.SetKeys
import Wide.All
import OpenK.AllK
import Wide.FinOn
import HandS.ForMost
import HandS.More
import HandS.TupAny
import HandS.Star
import HandS.Evl
import PyProof.Rows.StrMeet
import HandS.Walk
import PyProof.StrLawsRepr
import HandS.SortRule
import HandS.Deep
import KE.GoesEnum
import KE.GoesMore
import HandS.ExcValue
import HandS.Strs
import KE.KeyNested
import KE.LtSeq
import HandS.OwnEq
import HandS.IsInst
import HandS.StrMore
import HandS.OwnIter
import HandS.IterVal
import KE.KOwnIter
import OpenK.KOps
import HandS.Keys
import HandS.SortKw
import KE.KSortKeyAny
import HandS.Comp
import HandS.SetBool
import HandS.ExcInit
import HandS.ExcIs
import HandS.ExcField
import KE.KExcIs
import KE.KExcInit
import KE.KExcMake
import OpenK.KMeth
import HandS.Exc
import HandS.ExcOwn
import HandS.WordsExc
import HandS.TryElse
import PyProof.NeKinds
import HandS.Dict
import PyProof.StrOps2
import HandS.DeepEq
import HandS.Zip
import HandS.SetFor
import KE.KDictZip
import HandS.Lambda
import HandS.EndTab
import PyProof.ReprBulk
import HandS.Style
import HandS.StrSplit
import HandS.Defaults
import HandS.CallRecv
import KE.KNestM
import PySem.Challenge.RW_narrowkeys_k22_asked_put_together
set_option Elab.async false
set_option linter.all false
set_option maxRecDepth 100000
set_option maxHeartbeats 4000000
set_option maxRecDepth 100000
set_option maxHeartbeats 4000000
namespace Qk
open PySem PySem.Spec PyProof.Rows L2
/-- the set at a holds just the texts of S -/
def TSet (P : Program) (w : World) (h : Heap) (a : Addr) (S : Str → Bool) (n : Nat) : Prop := h.SetOf (strKind P w) a S n
section
variable {P : Program} {w : World} {A : Around} {E : Value → Shared → Prop} {s : Shared} {a o r : Addr} {S T R : Str → Bool} {n m k : Nat}
theorem TSet.keep {h h' : Heap} {a : Addr} {S : Str → Bool} {n : Nat} (x : TSet P w h a S n) (k : ∀ u, h.get? a = some u → h'.get? a = some u) : TSet P w h' a S n := by
  obtain ⟨oa, es, ep, t, ho, r⟩ := x
  exact ⟨oa, es, ep, t, k _ ho, r⟩
theorem TSet.lt {h : Heap} {a : Addr} {S : Str → Bool} {n : Nat} (x : TSet P w h a S n) : a < h.objs.size := by
  obtain ⟨oa, es, ep, t, ho, r⟩ := x
  exact Heap.lt_size ho
end
end Qk
set_option maxRecDepth 100000
set_option maxHeartbeats 4000000
namespace Qk
open PySem PySem.Spec PyProof.Rows L2
/-- a set of texts with its table's mask, and few dummies -/
def TM (P : Program) (w : World) (h : Heap) (a : Addr) (S : Str → Bool) (n M c : Nat) : Prop :=
  ∃ o es ep t, h.get? a = some o ∧ o.ExactSet ∧ o.data = .set es ep t ∧ ElemsOf (strKind P w) es.toList ∧ (∀ z, S z = true ↔ ∃ e ∈ es.toList, (strKind P w).is z e.2 = true) ∧ es.size < scanBound ∧ t.fits es.size = true ∧ es.size = n ∧ t.mask = M ∧ t.dummies.size ≤ c
theorem TM.t {P : Program} {w : World} {h : Heap} {a : Addr} {S : Str → Bool} {n M c : Nat} (x : TM P w h a S n M c) : TSet P w h a S n := by
  obtain ⟨o, es, ep, t, h1, h2, h3, h4, h5, h6, h7, h8, _⟩ := x
  exact ⟨o, es, ep, t, h1, h2, h3, h4, h5, h6, h7, h8⟩
end Qk
set_option maxRecDepth 100000
set_option maxHeartbeats 4000000
namespace Qk
open PySem PySem.Spec PyProof.Rows L2
section
variable {X : Cx}
theorem get_list : PGet X (fun o i H Q => ∃ p xs j v, o = .ref p ∧ i = .int ((j : Nat) : Int) ∧ SqL X.K H p xs ∧ xs[j]? = some v ∧ Q v H) := by
  intro pins s σ H o i ov iv Q I ro ri h
  obtain ⟨p, xs, j, v, rfl, rfl, hx, ha, q⟩ := h
  cases ro
  obtain ⟨t, rfl⟩ := ri
  obtain ⟨its, r, pl, hz⟩ := I.list hx
  obtain ⟨w, ew, rw'⟩ := r.get ha
  have hj : j < xs.length := (List.getElem?_eq_some_iff.mp ha).1
  have hn := line63
  exact wpAny_getItem_list pl.isList (by omega) (by omega) (by simpa using ew) ⟨v, H, I, rw', q⟩
def rSortedST (K : PySem.W.Frag) : List V → Hp → VK → Prop := fun vs H Q => ∃ (a : Addr) (ss : List Str), vs = [V.ref a] ∧ (SqL K H a (ss.map V.str) ∨ SqT K H a (ss.map V.str)) ∧ ss.length < 64 ∧
  ∀ (ys : List Str) (p : Addr), ys.Perm ss → sortedS ys = true → H p = none → Q (.ref p) (upd H p (.lst (ys.map V.str)))
theorem cr_sortedST : CallR X (.builtin "sorted") (rSortedST X.K) := by
  intro pins s σ H vs us Q I r h
  obtain ⟨a, ss, rfl, hs, h64, q⟩ := h
  rcases hs with hs | hs
  · exact cr_sortedS pins s σ H _ us Q I r ⟨a, ss, rfl, hs, h64, q⟩
  · obtain ⟨its, rv, ⟨o, ho, hc, n, hd⟩, hz⟩ := I.tuple hs
    rw [Vals.ref1 r]
    have hS : StrsAre its ss := rv.strs
    have hl : its.length = ss.length := by
      have z := rv.length
      rw [List.length_map] at z
      exact z.symm
    refine Calls.call_function_entry PyProof.Rows.kind_sorted PyProof.Rows.plain_sorted PyProof.Rows.entry_sorted (PyProof.Rows.args_sorted1 _) ?_
    unfold Builtin.«sorted»
    refine wpAny_bind (m := checkCount "sorted" 1 1 _) (wpAny_pure ?_)
    refine wpAny_bind (wpAny_collect_seq a (.inr rfl) ho hc hd (fun h' hk => ?_) (by rw [List.size_toArray, hl, sizeLine_eq]; omega))
    have e0 : its.toArray.toList = its := by simp
    rw [e0]
    have I1 : Inv X pins σ H { s with heap := h' } := I.kept (t' := s.toks) hk
    refine wpAny_bind (wpAny_newList ?_ (by rw [hl, sizeLine_eq]; omega))
    have hoL : (h'.push (seqObj "list" its.toArray 0)).get? h'.objs.size = some (seqObj "list" its.toArray 0) := Heap.get?_push_size _ rfl
    show wpAny _ _ _ _ _ { s with heap := h'.push (seqObj "list" its.toArray 0) }
    refine wpAny_bind (wpAny_holding (wpAny_call_entry PyProof.Rows.slot_list_sort ⟨_, hoL, rfl⟩ PyProof.Rows.entry_list_sort
      (list_sort_treeK strKind_oneLt (s := { s with heap := h'.push (seqObj "list" its.toArray 0) }) hoL hS.keysOf (fun v₁ v₂ rest e => keyKind_strs (by rw [← e]; exact hS)) (by rw [hl]; exact h64) fun st' hp hs => ⟨_, rfl, ?_⟩)
      (PyProof.Rows.args_list_sort _)))
    obtain ⟨ys, g1, g2, g3⟩ := sorted_out_str hS hp hs
    obtain ⟨ep, he'⟩ := PyProof.Rows.sortedHeap_at (vs := its) (out := (arrOf st').map (·.2)) hoL
    have hlen : (ys.map V.str).length ≤ sizeLine := by
      rw [List.length_map, g2.length_eq]
      exact Nat.le_trans (Nat.le_of_lt h64) (by decide)
    have hfresh : H h'.objs.size = none := I1.hok.fresh (Nat.le_refl _)
    refine wpAny_pure ⟨_, rfl, .ref h'.objs.size, upd H h'.objs.size (.lst (ys.map V.str)), I1.laid (t' := s.toks) (fun b u hu => ?_) (Nat.le_refl _)
      (show ObjOk X.prog X.w _ _ h'.objs.size (.lst (ys.map V.str)) from ⟨hlen, ((arrOf st').map (·.2)).toList, ep, vals_of_strs g1, by rw [Array.toArray_toList]; exact he'⟩), rfl, q ys _ g2 g3 hfresh⟩
    have hb : b ≠ h'.objs.size := Nat.ne_of_lt (Heap.lt_size hu)
    have hu2 : (h'.push (seqObj "list" its.toArray 0)).get? b = some u := Heap.get?_push_of_some _ hu
    rw [PyProof.Rows.sortedHeap_old hb (Heap.lt_size hu2)]
    exact hu2
end
end Qk
set_option maxRecDepth 100000
set_option maxHeartbeats 4000000
namespace Qk
open PySem PySem.Spec PyProof.Rows L2
def Bag (H : Hp) (b l : Addr) : Prop := ∃ (h m : Int) (p : Nat) (ns : List Int), H b = some (.lst [.int h, .int m, .int (p : Int), .ref l]) ∧ H l = some (.lst (ns.map V.int)) ∧ l ≠ b ∧
  0 ≤ h ∧ 0 ≤ m ∧ m < 2147483647 ∧ ∀ n ∈ ns, 0 ≤ n
/-- all but b is kept -/
def Kp (b : Addr) (H H' : Hp) : Prop := ∀ c o, H c = some o → c ≠ b → H' c = some o
theorem Kp.refl (b : Addr) (H : Hp) : Kp b H H := fun _ _ e _ => e
theorem Kp.trans {b : Addr} {H H1 H2 : Hp} (x : Kp b H H1) (y : Kp b H1 H2) : Kp b H H2 := fun c o e n => y c o (x c o e n) n
theorem Kp.of {b : Addr} {H H' : Hp} (s : Same H H') : Kp b H H' := fun c o e _ => s c o e
theorem Kp.at_ (b : Addr) (H : Hp) (o : HO) : Kp b H (upd H b o) := fun c u e n => by rw [upd_ne n]; exact e
theorem Kp.new {b p : Addr} {H : Hp} {o : HO} (hp : H p = none) : Kp b H (L2.upd H p o) := fun c u e _ => by rw [upd_ne (ne_of_none e hp)]; exact e
theorem Bag.at_ {H : Hp} {b l : Addr} (B : Bag H b l) : ∃ o, H b = some o := by
  obtain ⟨h, m, p, ns, hb, _⟩ := B
  exact ⟨_, hb⟩
theorem Bag.same {H H' : Hp} {b l : Addr} (s : Same H H') (B : Bag H b l) : Bag H' b l := by
  obtain ⟨h, m, p, ns, hb, hl, r⟩ := B
  exact ⟨h, m, p, ns, s _ _ hb, s _ _ hl, r⟩
theorem same_new {H : Hp} {p : Addr} {o : HO} (h : H p = none) : Same H (upd H p o) := fun b x e => by
  rw [upd_ne (ne_of_none e h)]
  exact e
theorem Bag.new {H : Hp} {b l p : Addr} {o : HO} (B : Bag H b l) (h : H p = none) : Bag (upd H p o) b l := B.same (same_new h)
theorem Bag.ne {H : Hp} {b l p : Addr} (B : Bag H b l) (h : H p = none) : p ≠ b := by
  obtain ⟨o, e⟩ := B.at_
  exact (ne_of_none e h).symm
/-- the bag stands nowhere where something of another kind stands -/
theorem Bag.ne_tup {H : Hp} {b l p : Addr} {xs : List V} (B : Bag H b l) (h : H p = some (.tup xs)) : p ≠ b := by
  obtain ⟨h', m, q, ns, hb, _⟩ := B
  exact ne_of h hb (by intro z; cases z)
theorem Bag.ne_strs {H : Hp} {b l p : Addr} {xs : List Str} (B : Bag H b l) (h : H p = some (.lst (xs.map V.str))) : p ≠ b := by
  obtain ⟨h', m, q, ns, hb, _⟩ := B
  refine ne_of h hb fun z => ?_
  injection z with z
  cases xs with
  | nil => cases z
  | cons x xs =>
    rw [List.map_cons] at z
    injection z with z _
    cases z
/-- what stands beside the bag and its list may change -/
theorem Bag.off {H H' : Hp} {b l p : Addr} (B : Bag H b l) (h : ∀ c o, H c = some o → c ≠ p → H' c = some o) (nb : b ≠ p) (nl : l ≠ p) : Bag H' b l := by
  obtain ⟨h', m, q, ns, hb, hl, r⟩ := B
  exact ⟨h', m, q, ns, h _ _ hb nb, h _ _ hl nl, r⟩
theorem Bag.list {H : Hp} {b l : Addr} (B : Bag H b l) : ∃ o, H l = some o := by
  obtain ⟨h, m, p, ns, hb, hl, _⟩ := B
  exact ⟨_, hl⟩
theorem Bag.nel {H : Hp} {b l p : Addr} (B : Bag H b l) (h : H p = none) : l ≠ p := by
  obtain ⟨o, e⟩ := B.list
  exact ne_of_none e h
theorem Bag.upd {H : Hp} {b l p : Addr} {o : HO} (B : Bag H b l) (nb : b ≠ p) (nl : l ≠ p) : Bag (L2.upd H p o) b l :=
  B.off (fun c u e n => by rw [upd_ne n]; exact e) nb nl
theorem rIx {K : PySem.W.Frag} {H : Hp} {b : Addr} {xs : List V} {v : V} {Q : VK} (j : Nat) (h : H b = some (.lst xs)) (e : xs[j]? = some v) (q : Q v H) : rIxL K (.ref b) (.int (j : Int)) H Q :=
  ⟨b, xs, (j : Int), v, rfl, rfl, SqL.of h, atI_nat e, q⟩
theorem setIx {H : Hp} {b : Addr} {xs : List V} {v : V} {Q : Hp → Prop} (j : Nat) (h : H b = some (.lst xs)) (e : j < xs.length) (q : Q (upd H b (.lst (xs.set j v)))) : rSetL (.ref b) (.int (j : Int)) v H Q :=
  ⟨b, xs, (j : Int), j, rfl, rfl, h, Evl.ixN_nat e, q⟩
/-- a draw: a number below many, the bag moves on -/
def spTake : Sp := fun vs H Q _ => ∃ (b l : Addr) (n : Int), vs = [.ref b, .int n] ∧ Bag H b l ∧ 0 < n ∧ n < 1000000 ∧ ∀ (k : Nat) (H' : Hp), (k : Int) < n → Bag H' b l → Kp b H H' → Q (.int (k : Int)) H'
/-- one of a list -/
def spOne : Sp := fun vs H Q _ => ∃ (b l a : Addr) (xs : List V), vs = [.ref b, .ref a] ∧ Bag H b l ∧ a ≠ b ∧ H a = some (.lst xs) ∧ xs ≠ [] ∧ xs.length < 1000 ∧ ∀ (x : V) (H' : Hp), x ∈ xs → Bag H' b l → Kp b H H' → Q x H'
/-- a new list of the same things in some order -/
def spMixed : Sp := fun vs H Q _ => ∃ (b l a : Addr) (xs : List V), vs = [.ref b, .ref a] ∧ Bag H b l ∧ a ≠ b ∧ H a = some (.lst xs) ∧ xs.length < 1000 ∧
  ∀ (ys : List V) (p : Addr) (H' : Hp), ys.Perm xs → H p = none → p ≠ b → H' p = some (.lst ys) → Bag H' b l → Kp b H H' → Q (.ref p) H'
/-- the bag of a script -/
def spBag (K : PySem.W.Frag) : Sp := fun vs H Q _ => ∃ (a : Addr) (ns : List Int), vs = [.ref a] ∧ SqL K H a (ns.map V.int) ∧ ns.length ≤ 63 ∧ ∀ (b l : Addr) (H' : Hp), H b = none → Bag H' b l → Same H H' → Q (.ref b) H'
/-- a def that is called by its name -/
structure Cal (P : Program) (w : World) (K : PySem.W.Frag) (mg : Str → Option Value) (base : Heap) (k : Nat) (x : Str) (ps : List Str) (sp : Sp) where
  f : Addr
  fd : FuncData
  G : FnOk P w K mg base CX0 k f fd ps sp
  m : mg x = some (.ref f)
  kp : PySem.W.keepIn K (.ref f) = true
  b : Binds K fd ps []
theorem cut_to (k : Nat) (xs : List V) : cutV xs none (some (k : Int)) = xs.take k := by
  unfold cutV
  rw [HT.sIx_none, HT.sIx_nat, List.drop_zero, Nat.sub_zero]
  by_cases h : k ≤ xs.length
  · rw [Nat.min_eq_left h]
  · rw [Nat.min_eq_right (by omega), List.take_of_length_le (Nat.le_refl _), List.take_of_length_le (by omega)]
theorem take_mod {k n : Int} (hn : 0 < n) : ∃ j : Nat, k % n = (j : Int) ∧ (j : Int) < n := by
  have h1 := Int.emod_nonneg k (show n ≠ 0 by omega)
  have h2 := Int.emod_lt_of_pos k hn
  exact ⟨(k % n).toNat, by omega, by omega⟩
/-- the names that the laws draw from -/
def menu0 : List Str := ["a", "b", "ab", "ba", "job", "view", "pin", "quay", "stock", "golfer", "exhumed", "zzzzzzzz"]
/-- .. and others of other laws -/
def menu : List Str := menu0 ++ (["aa", "z", "power", "status", "ask", "quicklyx", "fghmndct", "q", "qq", "c", "d", "e", "f", "g", "h", "i", "j", "k", "l", "m"] : List Str)
theorem perm_strs {ys : List V} {xs : List Str} (h : ys.Perm (xs.map V.str)) : ∃ zs : List Str, ys = zs.map V.str ∧ zs.Perm xs := by
  have go : ∀ (ys : List V), (∀ y ∈ ys, ∃ z, y = V.str z) → ∃ zs : List Str, ys = zs.map V.str := by
    intro ys
    induction ys with
    | nil => intro _; exact ⟨[], rfl⟩
    | cons y ys ih =>
      intro h
      obtain ⟨z, rfl⟩ := h y List.mem_cons_self
      obtain ⟨zs, rfl⟩ := ih fun y hy => h y (List.mem_cons_of_mem _ hy)
      exact ⟨z :: zs, rfl⟩
  obtain ⟨zs, rfl⟩ := go ys fun y hy => by
    obtain ⟨z, _, e⟩ := List.mem_map.mp (h.mem_iff.mp hy)
    exact ⟨z, e.symm⟩
  refine ⟨zs, rfl, ?_⟩
  have unstr : ∀ l : List Str, (l.map V.str).map (fun v => match v with | .str z => z | _ => "") = l := fun l => by
    rw [List.map_map]
    exact (List.map_congr_left fun _ _ => rfl).trans (List.map_id _)
  have := h.map (fun v => match v with | .str z => z | _ => "")
  rwa [unstr, unstr] at this
/-- some of the menu's names, each once, n at most -/
structure Names (n : Nat) (xs : List Str) : Prop where
  nd : xs.Nodup
  sub : ∀ c ∈ xs, c ∈ menu
  len : xs.length = min n 12
/-- a row of names -/
structure Row (xs : List Str) : Prop where
  nd : xs.Nodup
  sub : ∀ c ∈ xs, c ∈ menu
  pos : 0 < xs.length
  le : xs.length ≤ 12
theorem Names.row {n : Nat} {xs : List Str} (h : Names n xs) (hn : 0 < n) : Row xs := ⟨h.nd, h.sub, by rw [h.len]; omega, by rw [h.len]; omega⟩
/-- a question as it stands -/
def QAt (H : Hp) (q : Addr) (cols : List Str) (e : Str) : Prop := ∃ c, H q = some (.tup [.ref c, .str e]) ∧ H c = some (.tup (cols.map V.str))
theorem QAt.same {H H' : Hp} {q : Addr} {cols : List Str} {e : Str} (s : Same H H') (h : QAt H q cols e) : QAt H' q cols e := by
  obtain ⟨c, h1, h2⟩ := h
  exact ⟨c, s _ _ h1, s _ _ h2⟩
theorem QAt.kp {H H' : Hp} {q b l : Addr} {cols : List Str} {e : Str} (B : Bag H b l) (s : Kp b H H') (h : QAt H q cols e) : QAt H' q cols e := by
  obtain ⟨c, h1, h2⟩ := h
  exact ⟨c, s _ _ h1 (B.ne_tup h1), s _ _ h2 (B.ne_tup h2)⟩
structure Qok (xs cols : List Str) (e : Str) : Prop where
  nd : cols.Nodup
  srt : sortedS cols = true
  sub : ∀ c ∈ cols, c ∈ xs
  esub : e = "" ∨ e ∈ xs
  ne : e ∉ cols
  some : e = "" → cols ≠ []
  le : cols.length ≤ 12
theorem menu_ne : ∀ c ∈ menu, c ≠ "" := by decide +kernel
/-- out of a beginning of some order of a row -/
theorem qok_plain {xs ys zs : List Str} {k : Nat} (R : Row xs) (hp : ys.Perm xs) (hz : zs.Perm (ys.take (k + 1))) (hs : sortedS zs = true) : Qok xs zs "" := by
  have sl := List.take_sublist (k + 1) ys
  have hsub : ∀ c ∈ zs, c ∈ xs := fun c hc => hp.mem_iff.mp (sl.mem (hz.mem_iff.mp hc))
  have hl := R.le
  have hpos := R.pos
  have hyl := hp.length_eq
  have hzl := hz.length_eq
  rw [List.length_take] at hzl
  refine ⟨hz.nodup_iff.mpr ((hp.nodup_iff.mpr R.nd).sublist sl), hs, hsub, .inl rfl, fun h => menu_ne _ (R.sub _ (hsub _ h)) rfl, fun _ h => ?_, by omega⟩
  rw [h] at hzl
  simp at hzl
  omega
theorem qok_ranged {xs ys zs : List Str} {k : Nat} {e : Str} (R : Row xs) (hp : ys.Perm xs) (he : ys[k]? = some e) (hz : zs.Perm (ys.take k)) (hs : sortedS zs = true) : Qok xs zs e := by
  have sl := List.take_sublist k ys
  have hsub : ∀ c ∈ zs, c ∈ xs := fun c hc => hp.mem_iff.mp (sl.mem (hz.mem_iff.mp hc))
  have hmem : e ∈ xs := hp.mem_iff.mp (List.mem_of_getElem? he)
  have hl := R.le
  have hyl := hp.length_eq
  have hzl := hz.length_eq
  rw [List.length_take] at hzl
  have ndy := hp.nodup_iff.mpr R.nd
  refine ⟨hz.nodup_iff.mpr (ndy.sublist sl), hs, hsub, .inr hmem, fun h => ?_, fun h => absurd h (menu_ne _ (R.sub _ hmem)), by omega⟩
  have h1 := hz.mem_iff.mp h
  have hk : k < ys.length := (List.getElem?_eq_some_iff.mp he).1
  have e2 : ys = ys.take k ++ ys.drop k := (List.take_append_drop k ys).symm
  have e3 : e ∈ ys.drop k := by
    have : (ys.drop k)[0]? = some e := by rw [List.getElem?_drop]; exact he
    exact List.mem_of_getElem? this
  rw [e2] at ndy
  exact (List.nodup_append.mp ndy).2.2 _ h1 _ e3 rfl
end Qk
set_option maxRecDepth 100000
set_option maxHeartbeats 4000000
namespace Qk
open PySem PySem.Spec PyProof.Rows L2
def leS (a b : Str) : Prop := ltCps b.cps.toList a.cps.toList = false
theorem str_ext {a b : Str} (h : a.cps.toList = b.cps.toList) : a = b := by
  obtain ⟨x⟩ := a
  obtain ⟨y⟩ := b
  simp only at h
  congr 1
  exact Array.toList_inj.mp h
theorem leS_antisymm {a b : Str} (h1 : leS a b) (h2 : leS b a) : a = b := by
  unfold leS at h1 h2
  rw [ltCps_eq] at h1 h2
  have n1 := of_decide_eq_false h1
  have n2 := of_decide_eq_false h2
  exact str_ext (List.le_antisymm (List.not_lt.mp n1) (List.not_lt.mp n2))
theorem leS_refl (a : Str) : leS a a := by
  unfold leS
  rw [ltCps_eq]
  exact decide_eq_false (List.lt_irrefl _)
theorem leS_trans {a b c : Str} (h1 : leS a b) (h2 : leS b c) : leS a c := by
  unfold leS at *
  rw [ltCps_eq] at *
  have n1 := List.not_lt.mp (of_decide_eq_false h1)
  have n2 := List.not_lt.mp (of_decide_eq_false h2)
  exact decide_eq_false (List.not_lt.mpr (List.le_trans n1 n2))
theorem risingS_pw : ∀ (xs : List Str) (p : Str), risingS p xs = true → (p :: xs).Pairwise leS
  | [], p, _ => List.pairwise_singleton _ _
  | x :: r, p, h => by
    rw [risingS, Bool.and_eq_true] at h
    have h1 : leS p x := by
      have := h.1
      rw [Bool.not_eq_true'] at this
      exact this
    have ih := risingS_pw r x h.2
    refine List.pairwise_cons.mpr ⟨fun y hy => ?_, ih⟩
    rcases List.mem_cons.mp hy with rfl | hy
    · exact h1
    · exact leS_trans h1 ((List.pairwise_cons.mp ih).1 y hy)
theorem sortedS_pw {xs : List Str} (h : sortedS xs = true) : xs.Pairwise leS := by
  cases xs with
  | nil => exact List.Pairwise.nil
  | cons x r => exact risingS_pw r x h
theorem perm_sorted : ∀ {xs ys : List Str}, xs.Perm ys → xs.Pairwise leS → ys.Pairwise leS → xs = ys
  | [], ys, h, _, _ => (List.Perm.nil_eq h)
  | x :: xs, [], h, _, _ => absurd h.length_eq (by simp)
  | x :: xs, y :: ys, h, h1, h2 => by
    have e : x = y := by
      rcases List.mem_cons.mp (h.mem_iff.mp List.mem_cons_self) with e | m1
      · exact e
      · rcases List.mem_cons.mp (h.mem_iff.mpr List.mem_cons_self) with e | m2
        · exact e.symm
        · exact leS_antisymm ((List.pairwise_cons.mp h1).1 y m2) ((List.pairwise_cons.mp h2).1 x m1)
    subst e
    rw [perm_sorted (List.Perm.cons_inv h) (List.pairwise_cons.mp h1).2 (List.pairwise_cons.mp h2).2]
theorem menu_ok : ∀ c ∈ menu, PyData.strOk c = true := by decide +kernel
theorem lay_strs : ∀ {xs : List Str}, (∀ c ∈ xs, PyData.strOk c = true) → PyData.canLayAll0 (xs.map PyData.str) = true
  | [], _ => rfl
  | x :: xs, h => by
    show (PyData.canLay0 (.str x) && PyData.canLayAll0 (xs.map PyData.str)) = true
    rw [lay_strs fun c hc => h c (List.mem_cons_of_mem _ hc), Bool.and_true]
    exact h x List.mem_cons_self
theorem depth_strs : ∀ (xs : List Str), PyData.depthAll (xs.map PyData.str) = 0
  | [] => rfl
  | x :: xs => by
    show max (PyData.depth (.str x)) (PyData.depthAll (xs.map PyData.str)) = 0
    rw [depth_strs xs]
    rfl
theorem eqv_strs : ∀ (xs ys : List Str), PyData.eqvAll (xs.map PyData.str) (ys.map PyData.str) = decide (xs = ys)
  | [], [] => by simp [PyData.eqvAll]
  | [], y :: ys => by simp [PyData.eqvAll]
  | x :: xs, [] => by simp [PyData.eqvAll]
  | x :: xs, y :: ys => by
    show PyData.eqvAll (PyData.str x :: xs.map PyData.str) (PyData.str y :: ys.map PyData.str) = _
    rw [PyData.eqvAll, eqv_strs xs ys, PyData.eqv]
    by_cases h1 : x = y
    · subst h1
      by_cases h2 : xs = ys
      · subst h2
        simp
      · simp [h2]
    · simp [h1]
theorem shaped_list {xs : List Str} (h : ∀ c ∈ xs, PyData.strOk c = true) : SeqAt.shaped (.list (xs.map PyData.str)) = true := by
  unfold SeqAt.shaped
  rw [Bool.and_eq_true]
  exact ⟨lay_strs h, decide_eq_true (by rw [PyData.depth, depth_strs]; decide)⟩
theorem shaped_tuple {xs : List Str} (h : ∀ c ∈ xs, PyData.strOk c = true) : SeqAt.shaped (.tuple (xs.map PyData.str)) = true := by
  unfold SeqAt.shaped
  rw [Bool.and_eq_true]
  exact ⟨lay_strs h, decide_eq_true (by rw [PyData.depth, depth_strs]; decide)⟩
theorem dp_strs {K : PySem.W.Frag} {H : Hp} : ∀ (xs : List Str), DpAll K H (xs.map V.str) (xs.map PyData.str)
  | [] => .nil
  | x :: xs => .cons (.str x) (dp_strs xs)
theorem flat_strs (xs : List Str) : (xs.map V.str).all flatV = true := by
  rw [List.all_map]
  exact List.all_eq_true.mpr fun _ _ => rfl
theorem inV_strs (c : Str) (xs : List Str) : inV (.str c) (xs.map V.str) = decide (c ∈ xs) := by
  unfold inV
  rw [List.any_map]
  by_cases h : c ∈ xs
  · rw [decide_eq_true h]
    exact List.any_eq_true.mpr ⟨c, h, by show (c == c) = true; exact beq_self_eq_true c⟩
  · rw [decide_eq_false h]
    refine List.any_eq_false.mpr fun y hy e => h ?_
    have e' : (y == c) = true := e
    rw [← eq_of_beq e']
    exact hy
theorem slA {K : PySem.W.Frag} {H : Hp} {a : Addr} {xs : List Str} {lo hi : Option Int} {ys : List Str} {Q : VK} (h : H a = some (.tup (xs.map V.str))) (e : cutV (xs.map V.str) lo hi = ys.map V.str)
    (k : ∀ (r : Addr) (H' : Hp), Same H H' → H' r = some (.tup (ys.map V.str)) → Q (.ref r) H') : rSlA K (.ref a) lo hi H Q := by
  refine ⟨a, _, rfl, SqT.of h, fun hw => k a H (Same.refl _) ?_, fun _ p hp => ?_⟩
  · rw [h, ← e]
    unfold cutV
    rw [hw.1, hw.2, List.drop_zero, Nat.sub_zero, List.take_length]
  · rw [e]
    exact k p _ (same_new hp) upd_same
structure QM (cols : List Str) (e : Str) : Prop where
  nd : cols.Nodup
  srt : sortedS cols = true
  sub : ∀ c ∈ cols, c ∈ menu
  esub : e = "" ∨ e ∈ menu
  le : cols.length ≤ 12
  some : e = "" → cols ≠ []
theorem Qok.qm {xs cols : List Str} {e : Str} (h : Qok xs cols e) (R : ∀ c ∈ xs, c ∈ menu) : QM cols e :=
  ⟨h.nd, h.srt, fun c hc => R _ (h.sub _ hc), h.esub.imp id (fun m => R _ m), h.le, h.some⟩
theorem Row.take {xs : List Str} (R : Row xs) (k : Nat) : Row (xs.take (k + 1)) :=
  ⟨R.nd.sublist (List.take_sublist _ _), fun c hc => R.sub _ ((List.take_sublist _ _).mem hc), by have := R.pos; rw [List.length_take]; omega, by have := R.le; rw [List.length_take]; omega⟩
end Qk
set_option maxRecDepth 100000
set_option maxHeartbeats 4000000
namespace Qk
open PySem PySem.Spec PyProof.Rows L2
structure FnG (P : Program) (w : World) (K : PySem.W.Frag) (mg : Str → Option Value) (base : Heap) (k : Nat) (f : Addr) (fd : FuncData) (ps : List Str) (sp : Sp) : Prop where
  len : ∀ vs H Q E, sp vs H Q E → vs.length = ps.length
  run : ∀ (A : Around) (outer : List Env) (s : Shared) (H : Hp) (args : Args) (us : List Value) (vs : List V) (Q : VK) (E : XK), Room k A → A.guards = some [] → Env0 P w K mg base A outer s H →
    BindsTo s fd args (ps.zip us) → Vals vs us → sp vs H Q E → codeAny (model P w) A (.call (.ref f) args) (CR CX0 outer P w H s Q E) s
theorem FnG.of {P : Program} {w : World} {K : PySem.W.Frag} {mg : Str → Option Value} {base : Heap} {k : Nat} {f : Addr} {fd : FuncData} {ps : List Str} {sp : Sp} (F : FnOk P w K mg base CX0 k f fd ps sp) : FnG P w K mg base k f fd ps sp :=
  ⟨F.len, fun A o s H args us vs Q E hr _ e b v h => F.run A o s H args us vs Q E hr e b v h⟩
section
variable {P : Program} {w : World} {K : PySem.W.Frag} {mg : Str → Option Value} {base : Heap}
theorem okG {x qual : Str} {st : Stmt} {f : Addr} {fd : FuncData} {N ps : List Str} {k : Nat} {sp : Sp} (F : Fun K x qual st f fd) (S : FnScope N ps (defScope st)) (len : ∀ vs H Q E, sp vs H Q E → vs.length = ps.length)
    (body : ∀ (cdv : Value) (A : Around) (outer : List Env) (s : Shared) (H : Hp) (vs : List V) (Q : VK) (E : XK), Room k (A.deeper (envOfC qual (defScope st) s.heap.objs.size f cdv)) → A.guards = some [] → sp vs H Q E →
      ∃ t, PSs (cxOf CX0 P w K mg base N qual (defScope st) f cdv A outer s H E).nox (defBody st) t ∧ t { nx := fun _ H' => Q .non H', rt := Q } (start N vs) H) : FnG P w K mg base (k + 1) f fd ps sp := by
  obtain ⟨oc, od, kV, doc, pm, an, cdv, ct, osl, rfl, lk, hcd⟩ := F.ex
  constructor
  · exact len
  intro A outer s H args us vs Q E hr hg e0 hb rv hsp
  have hlen := len _ _ _ _ hsp
  have kept : ∀ b o, base.get? b = some o → s.heap.get? b = some o := fun b o e => (e0.bs b o e).1
  have KX : K.In s.heap := e0.mod.kin.keeps kept
  have par : ∀ y ∈ ps.zip us, (defScope st).names.lookup y.1 = some .local ∨ ((defScope st).names.lookup y.1 = some .cell ∧ ((cellsFrom (s.heap.objs.size + 1) (defScope st).names []).lookup y.1).isSome = true) := by
    rintro ⟨n, v⟩ hy
    exact (S.par n (List.of_mem_zip hy).1).imp id fun q => ⟨q, PySem.W.cellsFrom_some _ _ _ (.inl q)⟩
  refine codeAny_call_function hr.depth (KX _ _ lk) rfl S.co S.gen rfl (PySem.W.codeRec_of KX hcd) (hb _ _ _ _ ?_)
  refine wpAny_newFunctionEnv_cells S.kind par fun env he s1 xe => ?_
  subst he
  refine ⟨(e0.mod.nolimit.keeps kept).keeps xe.toInCall.keep, codeAny_func ?_⟩
  obtain ⟨t, ht, hq⟩ := body cdv A outer s H vs Q E (hr.deeper _) hg hsp
  refine wpAny_mono (ht.nox.run [] s1 (start N vs) H _ (inv_start S hr.hd e0 hlen rv xe) hq) (fun fl s' hs => ?_) fun _ _ z => z
  cases fl with
  | ret u =>
    obtain ⟨v, σ', H', J, r, q⟩ := hs
    exact ⟨v, H', J.os, J.bare, J.base, J.hok, r, q⟩
  | next =>
    obtain ⟨σ', H', J, q⟩ := hs
    exact ⟨V.non, H', J.os, J.bare, J.base, J.hok, rfl, q⟩
  | brk => exact hs.elim fun _ z => z.elim fun _ z => z.2.elim
  | cont => exact hs.elim fun _ z => z.elim fun _ z => z.2.elim
end
section
variable {X : Cx} {k : Nat} {f : Addr} {fd : FuncData} {ps : List Str} {sp : Sp} {x : Str} {p pos : Pos} {e : Expr} {es : List Expr} {t : TA}
theorem run_g {pins : List (Addr × Obj)} {σ : L2.St} {H : Hp} {s : Shared} {Q : VK} {us : List Value} {vs : List V} (F : FnG X.prog X.w X.K X.mg X.base k f fd ps sp) (hr : Room k X.A) (hg : X.A.guards = some []) (hb : Binds X.K fd ps [])
    (I : Inv X pins σ H s) (r : Vals vs us) (h : sp vs H Q E0) : wpAny (model X.prog X.w) X.A (call (.ref f) us) (EP X pins σ Q) X.xe s := by
  have hl : (us ++ ([] : List Value)).length = ps.length := by
    rw [List.append_nil, ← r.length]
    exact F.len _ _ _ _ h
  have hbd := hb s us I.kIn hl
  rw [List.append_nil] at hbd
  have c := F.run X.A X.stack s H ⟨us, []⟩ us vs Q E0 hr hg I.env0 hbd r h
  refine wpAny_call (codeAny_mono c fun r s' hq => ?_)
  cases r with
  | error e => exact False.elim hq
  | ok fl =>
    cases fl with
    | ret u => exact I.after hq
    | _ => exact False.elim hq
/-- a call by name of such a def, all arguments given -/
theorem pe_callg (F : FnG X.prog X.w X.K X.mg X.base k f fd ps sp) (hr : Room k X.A) (hg : X.A.guards = some []) (hgl : Gl X x) (hm : X.mg x = some (.ref f)) (hk : PySem.W.keepIn X.K (.ref f) = true) (hb : Binds X.K fd ps [])
    (ha : PA X (e :: es) t) (hdb : (x == ("__debug__" : Str)) = false := by decide) (he : starEach (e :: es) X.env = (false, eval e X.env) :: starEach es X.env := by rfl) (hpl : (backTo pos (starEach es X.env)).any (·.1) = false := by rfl) :
    PE X (.Call (.Name x p) (e :: es) [] pos) (fun σ H Q => t σ H fun vs H1 => sp vs H1 Q E0) := by
  constructor
  intro pins s σ H Q I h
  refine wpAny_Call_Name_kw (ld_glob I hgl hm ?_ hdb)
  refine PySem.W.callWith_K (h₀ := X.base) I.ok.mod.kin hk ?_ he hpl
  exact thn (ha.run pos pins s σ H _ I h) fun us s1 ⟨vs, H1, I1, r, q⟩ => ⟨I1.kIn, run_g F hr hg hb I1 r q⟩
/-- repr of data, where no repr is running -/
def rReprD (K : PySem.W.Frag) : List V → Hp → VK → Prop := fun vs H Q => ∃ (x : V) (d : PyData), vs = [x] ∧ Dp K H x d ∧ d.showable = true ∧ d.hasDict = false ∧ d.shown.length ≤ sizeLine ∧ d.depth ≤ 60 ∧ Q (.str d.shown) H
theorem call_reprD (hg : X.A.guards = some []) (hu : X.A.units + 64 < cLine) : CallR X (.builtin "repr") (rReprD X.K) := by
  intro pins s σ H xs us Q I r h
  obtain ⟨x, d, rfl, hd, h1, h2, h3, h4, q⟩ := h
  obtain ⟨u, rfl, rx⟩ := vals1 r
  obtain ⟨as, rd⟩ := Dp.reads I d x u hd rx
  cases hd with
  | non =>
    cases rx
    exact PySem.P.repr_of_none ⟨.str _, H, I.tok _, ⟨_, rfl⟩, q⟩
  | bl b =>
    cases rx
    exact PySem.P.repr_of_bool ⟨.str _, H, I.tok _, ⟨_, rfl⟩, q⟩
  | int i =>
    obtain ⟨tk, rfl⟩ := rx
    exact PySem.P.repr_of_int (by simpa [PyData.showable] using h1) ⟨.str _, H, I.tok _, ⟨_, rfl⟩, q⟩
  | str z =>
    obtain ⟨tk, rfl⟩ := rx
    exact PySem.P.repr_of_str ⟨.str _, H, I.tok _, ⟨_, rfl⟩, q⟩ h3
  | lst hs ha =>
    cases rx
    exact repr_of_reads' rd h1 (fun z => by rw [h2] at z; cases z) hg (by omega) (fun _ _ z => z) (fun h' u tk hk => ⟨.str _, H, I.kept hk, ⟨_, rfl⟩, q⟩) h3
  | tup hs ha =>
    cases rx
    exact repr_of_reads' rd h1 (fun z => by rw [h2] at z; cases z) hg (by omega) (fun _ _ z => z) (fun h' u tk hk => ⟨.str _, H, I.kept hk, ⟨_, rfl⟩, q⟩) h3
end
end Qk
set_option maxRecDepth 100000
set_option maxHeartbeats 4000000
namespace Qk
open PySem PySem.Spec PyProof.Rows L2
mutual
def fine : PyData → Bool
  | .none => true
  | .bool _ => true
  | .int i => decide (i.natAbs < 10 ^ 60)
  | .str x => PyData.strOk x && decide (x.cps.size ≤ 20)
  | .list xs => fineAll xs
  | .tuple xs => fineAll xs
  | .dict _ => false
def fineAll : List PyData → Bool
  | [] => true
  | x :: xs => fine x && fineAll xs
end
mutual
def cost : PyData → Nat
  | .none => 4
  | .bool _ => 5
  | .int _ => 64
  | .str _ => 210
  | .list xs => costAll xs + 3
  | .tuple xs => costAll xs + 3
  | .dict _ => 0
def costAll : List PyData → Nat
  | [] => 0
  | x :: xs => cost x + 2 + costAll xs
end
mutual
theorem fine_lay : ∀ d : PyData, fine d = true → d.canLay0 = true ∧ d.showable = true ∧ d.hasDict = false
  | .none, _ => ⟨rfl, rfl, rfl⟩
  | .bool _, _ => ⟨rfl, rfl, rfl⟩
  | .int i, h => by
    have hi : i.natAbs < 10 ^ 60 := of_decide_eq_true h
    refine ⟨rfl, ?_, rfl⟩
    show decide (i.natAbs.log2 < 1920) = true
    refine decide_eq_true ?_
    by_cases h0 : i.natAbs = 0
    · rw [h0]
      decide
    · exact Nat.lt_of_lt_of_le ((Nat.log2_lt h0).mpr (Nat.lt_of_lt_of_le hi (show 10 ^ 60 ≤ 2 ^ 200 by decide))) (by decide)
  | .str x, h => by
    have h' : (PyData.strOk x && decide (x.cps.size ≤ 20)) = true := h
    rw [Bool.and_eq_true] at h'
    exact ⟨h'.1, rfl, rfl⟩
  | .list xs, h => fine_layAll xs h
  | .tuple xs, h => fine_layAll xs h
  | .dict _, h => by cases h
theorem fine_layAll : ∀ xs : List PyData, fineAll xs = true → PyData.canLayAll0 xs = true ∧ PyData.showableAll xs = true ∧ PyData.hasDictAll xs = false
  | [], _ => ⟨rfl, rfl, rfl⟩
  | x :: xs, h => by
    have h' : (fine x && fineAll xs) = true := h
    rw [Bool.and_eq_true] at h'
    obtain ⟨a1, a2, a3⟩ := fine_lay x h'.1
    obtain ⟨b1, b2, b3⟩ := fine_layAll xs h'.2
    refine ⟨?_, ?_, ?_⟩
    · show (PyData.canLay0 x && PyData.canLayAll0 xs) = true
      rw [a1, b1]
      rfl
    · show (PyData.showable x && PyData.showableAll xs) = true
      rw [a2, b2]
      rfl
    · show (PyData.hasDict x || PyData.hasDictAll xs) = false
      rw [a3, b3]
      rfl
end
theorem listText_le (ts : List Str) : (listText ts).length ≤ piled ts + 2 := by
  cases ts with
  | nil => decide
  | cons t r =>
    have e : listText (t :: r) = textFrom 1 ("[" ++ "" ++ t) r ++ "]" := rfl
    rw [e, strLen_append, textFrom_length_pos r 1 _ (by decide), strLen_append, piled_cons]
    have e1 : (("[" : Str) ++ ("" : Str)).length = 1 := rfl
    have e2 : ((("]" : String) : Str)).length = 1 := rfl
    have e3 : (((("[" : String) : Str) ++ (("" : String) : Str)) : Str).length = 1 := rfl
    omega
theorem tupleText_le (ts : List Str) : (tupleText ts).length ≤ piled ts + 3 := by
  unfold tupleText
  rw [strLen_append, strLen_append]
  have e1 : (("(" : String) : Str).length = 1 := rfl
  have e2 : ((if (ts.length == 1) = true then ",)" else ")" : String) : Str).length ≤ 2 := by
    split
    · decide
    · decide
  cases ts with
  | nil =>
    have : (Str.join ", " ([] : List Str)).length = 0 := rfl
    omega
  | cons t r =>
    have := join_length_add (t :: r) (by simp)
    omega
mutual
theorem shown_le : ∀ d : PyData, fine d = true → d.shown.length ≤ cost d
  | .none, _ => by decide
  | .bool b, _ => by cases b <;> decide
  | .int i, h => by
    have hi : i.natAbs < 10 ^ 60 := of_decide_eq_true h
    have e := int_text_length_le10 (k := 60) (a := i) (by decide) hi
    show (Str.ofString (toString i)).length ≤ 64
    rw [PySem.ofString_length]
    omega
  | .str x, h => by
    have h' : (PyData.strOk x && decide (x.cps.size ≤ 20)) = true := h
    rw [Bool.and_eq_true] at h'
    have h2 : x.length ≤ 20 := of_decide_eq_true h'.2
    have h3 : ∀ c ∈ x.cps.toList, c < 16 ^ 8 := fun c hc => by
      have := Array.all_eq_true'.mp h'.1 c (by simpa using hc)
      have := of_decide_eq_true this
      omega
    have := PySem.StrLaws.reprText_len x h3
    show (reprText x).length ≤ 210
    omega
  | .list xs, h => by
    have := listText_le (PyData.shownAll xs)
    have h2 := shown_leAll xs h
    show (listText (PyData.shownAll xs)).length ≤ costAll xs + 3
    omega
  | .tuple xs, h => by
    have := tupleText_le (PyData.shownAll xs)
    have h2 := shown_leAll xs h
    show (tupleText (PyData.shownAll xs)).length ≤ costAll xs + 3
    omega
  | .dict _, h => by cases h
theorem shown_leAll : ∀ xs : List PyData, fineAll xs = true → piled (PyData.shownAll xs) ≤ costAll xs
  | [], _ => Nat.le_refl 0
  | x :: xs, h => by
    have h' : (fine x && fineAll xs) = true := h
    rw [Bool.and_eq_true] at h'
    have h1 := shown_le x h'.1
    have h2 := shown_leAll xs h'.2
    show piled (PyData.shown x :: PyData.shownAll xs) ≤ cost x + 2 + costAll xs
    rw [piled_cons]
    omega
end
structure DOk (d : PyData) : Prop where
  f : fine d = true
  dp : d.depth ≤ 50
  c : cost d ≤ 1000000
theorem DOk.shaped {d : PyData} (h : DOk d) : SeqAt.shaped d = true := by
  unfold SeqAt.shaped
  rw [(fine_lay d h.f).1]
  exact decide_eq_true (Nat.le_trans h.dp (by decide))
theorem DOk.len {d : PyData} (h : DOk d) : d.shown.length ≤ sizeLine := Nat.le_trans (shown_le d h.f) (Nat.le_trans h.c (by rw [sizeLine_eq]; decide))
mutual
theorem Dp.same {K : PySem.W.Frag} {H H' : Hp} (s : Same H H') : ∀ (d : PyData) (v : V), Dp K H v d → Dp K H' v d
  | .none, _, h => by cases h; exact .non
  | .bool _, _, h => by cases h; exact .bl _
  | .int _, _, h => by cases h; exact .int _
  | .str _, _, h => by cases h; exact .str _
  | .list ds, _, h => by
    cases h with
    | lst h1 h2 => exact .lst (s.seq h1) (Dp.sameAll s ds _ h2)
  | .tuple ds, _, h => by
    cases h with
    | tup h1 h2 => exact .tup (Evl.ex_t s h1) (Dp.sameAll s ds _ h2)
  | .dict _, _, h => by cases h
theorem Dp.sameAll {K : PySem.W.Frag} {H H' : Hp} (s : Same H H') : ∀ (ds : List PyData) (vs : List V), DpAll K H vs ds → DpAll K H' vs ds
  | [], _, h => by cases h; exact .nil
  | d :: ds, _, h => by
    cases h with
    | cons h1 h2 => exact .cons (Dp.same s d _ h1) (Dp.sameAll s ds _ h2)
end
/-- two data that are the same -/
def spAlikeD (K : PySem.W.Frag) : Sp := fun vs H Q _ => ∃ (x y : V) (d : PyData), vs = [x, y] ∧ Dp K H x d ∧ Dp K H y d ∧ DOk d ∧ Q (.bl true) H
/-- the names as data -/
def okS (c : Str) : Bool := PyData.strOk c && decide (c.cps.size ≤ 20)
theorem menu_okS : ∀ c ∈ menu, okS c = true := by decide +kernel
theorem fine_strs : ∀ {xs : List Str}, (∀ c ∈ xs, okS c = true) → fineAll (xs.map PyData.str) = true
  | [], _ => rfl
  | x :: xs, h => by
    show (fine (.str x) && fineAll (xs.map PyData.str)) = true
    rw [fine_strs fun c hc => h c (List.mem_cons_of_mem _ hc), Bool.and_true]
    exact h x List.mem_cons_self
theorem cost_strs : ∀ (xs : List Str), costAll (xs.map PyData.str) = 212 * xs.length
  | [] => rfl
  | x :: xs => by
    show cost (.str x) + 2 + costAll (xs.map PyData.str) = _
    rw [cost_strs xs, List.length_cons]
    show 210 + 2 + _ = _
    omega
/-- a question as data -/
def dQ (cols : List Str) (e : Str) : PyData := .tuple [.tuple (cols.map PyData.str), .str e]
theorem dp_q {K : PySem.W.Frag} {H : Hp} {q : Addr} {cols : List Str} {e : Str} (h : QAt H q cols e) : Dp K H (.ref q) (dQ cols e) := by
  obtain ⟨c, h1, h2⟩ := h
  exact .tup (SqT.of h1) (.cons (.tup (SqT.of h2) (dp_strs _)) (.cons (.str e) .nil))
structure CalG (P : Program) (w : World) (K : PySem.W.Frag) (mg : Str → Option Value) (base : Heap) (k : Nat) (x : Str) (ps : List Str) (sp : Sp) where
  f : Addr
  fd : FuncData
  G : FnG P w K mg base k f fd ps sp
  m : mg x = some (.ref f)
  kp : PySem.W.keepIn K (.ref f) = true
  b : Binds K fd ps []
end Qk
set_option maxRecDepth 100000
set_option maxHeartbeats 4000000
namespace Qk
open PySem PySem.Spec PyProof.Rows L2
def ltS (a b : Str) : Bool := decide (a.cps.toList < b.cps.toList)
def lexS : List Str → List Str → Bool
  | [], [] => false
  | [], _ :: _ => true
  | _ :: _, [] => false
  | x :: xs, y :: ys => if x = y then lexS xs ys else ltS x y
theorem ltS_irrefl (a : Str) : ltS a a = false := decide_eq_false (List.lt_irrefl _)
theorem ltS_tri {a b : Str} (h : a ≠ b) : ltS a b = true ∨ ltS b a = true := by
  unfold ltS
  by_cases h1 : a.cps.toList < b.cps.toList
  · exact .inl (decide_eq_true h1)
  · by_cases h2 : b.cps.toList < a.cps.toList
    · exact .inr (decide_eq_true h2)
    · exact absurd (str_ext (List.le_antisymm (List.not_lt.mp h2) (List.not_lt.mp h1))) h
theorem ltS_trans {a b c : Str} (h1 : ltS a b = true) (h2 : ltS b c = true) : ltS a c = true := by
  unfold ltS at *
  exact decide_eq_true (List.lt_trans (of_decide_eq_true h1) (of_decide_eq_true h2))
theorem ltS_asym {a b : Str} (h1 : ltS a b = true) : ltS b a = false := by
  cases h2 : ltS b a with
  | false => rfl
  | true =>
    have := ltS_trans h1 h2
    rw [ltS_irrefl] at this
    cases this
theorem lexS_irrefl : ∀ a : List Str, lexS a a = false
  | [] => rfl
  | x :: xs => by
    rw [lexS, if_pos rfl]
    exact lexS_irrefl xs
theorem lexS_tri : ∀ {a b : List Str}, a ≠ b → lexS a b = true ∨ lexS b a = true
  | [], [], h => absurd rfl h
  | [], _ :: _, _ => .inl rfl
  | _ :: _, [], _ => .inr rfl
  | x :: xs, y :: ys, h => by
    rw [lexS, lexS]
    by_cases e : x = y
    · subst e
      rw [if_pos rfl, if_pos rfl]
      exact lexS_tri fun z => h (by rw [z])
    · rw [if_neg e, if_neg (Ne.symm e)]
      exact ltS_tri e
theorem lexS_trans : ∀ {a b c : List Str}, lexS a b = true → lexS b c = true → lexS a c = true
  | [], [], _, h, _ => by cases h
  | [], _ :: _, [], _, h => by cases h
  | [], _ :: _, _ :: _, _, _ => rfl
  | _ :: _, [], _, h, _ => by cases h
  | _ :: _, _ :: _, [], _, h => by cases h
  | x :: xs, y :: ys, z :: zs, h1, h2 => by
    rw [lexS] at h1 h2 ⊢
    by_cases e1 : x = y
    · subst e1
      rw [if_pos rfl] at h1
      by_cases e2 : x = z
      · rw [if_pos e2] at h2 ⊢
        exact lexS_trans h1 h2
      · rw [if_neg e2] at h2 ⊢
        exact h2
    · rw [if_neg e1] at h1
      by_cases e2 : y = z
      · subst e2
        rw [if_neg e1]
        exact h1
      · rw [if_neg e2] at h2
        have h3 := ltS_trans h1 h2
        have e3 : x ≠ z := fun e => by
          subst e
          rw [ltS_asym h1] at h2
          cases h2
        rw [if_neg e3]
        exact h3
theorem lexS_asym {a b : List Str} (h1 : lexS a b = true) : lexS b a = false := by
  cases h2 : lexS b a with
  | false => rfl
  | true =>
    have := lexS_trans h1 h2
    rw [lexS_irrefl] at this
    cases this
abbrev Qd := List Str × Str
def ltQ (p q : Qd) : Bool := if p.1 = q.1 then ltS p.2 q.2 else lexS p.1 q.1
theorem ltQ_irrefl (p : Qd) : ltQ p p = false := by
  unfold ltQ
  rw [if_pos rfl]
  exact ltS_irrefl _
theorem ltQ_tri {p q : Qd} (h : p ≠ q) : ltQ p q = true ∨ ltQ q p = true := by
  unfold ltQ
  by_cases e : p.1 = q.1
  · rw [if_pos e, if_pos e.symm]
    exact ltS_tri fun z => h (Prod.ext e z)
  · rw [if_neg e, if_neg (Ne.symm e)]
    exact lexS_tri e
theorem ltQ_trans {p q r : Qd} (h1 : ltQ p q = true) (h2 : ltQ q r = true) : ltQ p r = true := by
  unfold ltQ at *
  by_cases e1 : p.1 = q.1
  · rw [if_pos e1] at h1
    by_cases e2 : q.1 = r.1
    · rw [if_pos e2] at h2
      rw [if_pos (e1.trans e2)]
      exact ltS_trans h1 h2
    · rw [if_neg e2] at h2
      rw [if_neg (e1 ▸ e2), e1]
      exact h2
  · rw [if_neg e1] at h1
    by_cases e2 : q.1 = r.1
    · rw [if_pos e2] at h2
      rw [if_neg (e2 ▸ e1), ← e2]
      exact h1
    · rw [if_neg e2] at h2
      have h3 := lexS_trans h1 h2
      have e3 : p.1 ≠ r.1 := fun e => by
        rw [e] at h1
        rw [lexS_asym h1] at h2
        cases h2
      rw [if_neg e3]
      exact h3
theorem ltQ_asym {p q : Qd} (h1 : ltQ p q = true) : ltQ q p = false := by
  cases h2 : ltQ q p with
  | false => rfl
  | true =>
    have := ltQ_trans h1 h2
    rw [ltQ_irrefl] at this
    cases this
theorem swo_q {α : Type} (k : α → Qd) : SrtO.Swo fun x y => ltQ (k x) (k y) := by
  refine ⟨fun x y h => ltQ_asym h, fun x y z h1 h2 => ?_⟩
  -- not y < x, not z < y: not z < x
  cases h3 : ltQ (k z) (k x) with
  | false => rfl
  | true =>
    by_cases e : k x = k y
    · rw [e] at h3
      have : ltQ (k z) (k y) = false := h2
      rw [this] at h3
      cases h3
    · rcases ltQ_tri e with h | h
      · have h4 : ltQ (k z) (k y) = true := ltQ_trans h3 h
        rw [h2] at h4
        cases h4
      · have : ltQ (k y) (k x) = false := h1
        rw [this] at h
        cases h
theorem perm_ltQ : ∀ {xs ys : List Qd}, xs.Perm ys → xs.Pairwise (fun a b => ltQ b a = false) → ys.Pairwise (fun a b => ltQ b a = false) → xs = ys
  | [], ys, h, _, _ => List.Perm.nil_eq h
  | x :: xs, [], h, _, _ => absurd h.length_eq (by simp)
  | x :: xs, y :: ys, h, h1, h2 => by
    have e : x = y := by
      rcases List.mem_cons.mp (h.mem_iff.mp List.mem_cons_self) with e | m1
      · exact e
      · rcases List.mem_cons.mp (h.mem_iff.mpr List.mem_cons_self) with e | m2
        · exact e.symm
        · have a1 := (List.pairwise_cons.mp h1).1 y m2
          have a2 := (List.pairwise_cons.mp h2).1 x m1
          by_cases e : x = y
          · exact e
          · rcases ltQ_tri e with h | h
            · rw [a2] at h; cases h
            · rw [a1] at h; cases h
    subst e
    rw [perm_ltQ (List.Perm.cons_inv h) (List.pairwise_cons.mp h1).2 (List.pairwise_cons.mp h2).2]
section
open PySem.SeqAt
open PySem.AutoSeq1 (wpAny_loadPart')
open PySem.MeetsSeq PySem.MeetsSeq2 PySem.MeetsSeq3
theorem eqAt_str (A : Around) (s : Shared) (a : Str) (t : Tok) (c : Str) (u : Tok) : ∃ e, SeqAt.EqAt A s (.str a t) (.str c u) e ∧ (e = true ↔ a = c) :=
  ⟨(a == c), SeqAt.EqAt.str_str a t c u, by simp⟩
theorem rcLt_str (A : Around) (s : Shared) (a : Str) (t : Tok) (c : Str) (u : Tok) (prog : Program) (w : World) (E : Value → Shared → Prop) (Q : Value → Shared → Prop) (h : Q (.bool (ltS a c)) s) :
    wpAny (model prog w) A (richCompare .Lt (.str a t) (.str c u)) Q E s := by
  have z : wpAny (model prog w) A (compareOp .Lt (.str a t) (.str c u)) Q E s := PySem.P.lt_str h
  exact z
theorem tuple_lt_texts (l b : Addr) (us vs : Array Value) (n m : Nat) (d1 d2 : Option Addr) (sl1 sl2 : Array (Option Value)) (xs ys : List Str) (hx : StrsAre us.toList xs) (hy : StrsAre vs.toList ys) :
    Meets (Builtin.«tuple.__lt__» ⟨[.ref l, .ref b], []⟩)
      (fun _ R s => s.heap.get? l = some { cls := .type "tuple", dict := d1, data := .seq us n, slots := sl1 } ∧ s.heap.get? b = some { cls := .type "tuple", dict := d2, data := .seq vs m, slots := sl2 } ∧
        R (.ok (.ret (.bool (lexS xs ys)))) s) :=
  .of_wp fun prog w A R s h => by
    obtain ⟨hp, g, d, tk, os⟩ := s; obtain ⟨hl, hb, h⟩ := h
    have f2 := AutoSeq1.sub_tuple_tuple
    have z1 : us.size = xs.length := by rw [← hx.length]; simp
    have z2 : vs.size = ys.length := by rw [← hy.length]; simp
    wp_walk using wpAny_loadPart' hl, wpAny_loadPart' hb, wpAny_forIn_list _ (fun rest b s' => b.1 = none ∧ s' = ⟨hp, g, d, tk, os⟩ ∧ ∃ (as bs : List Value) (x' y' : List Str), rest = as.zip bs ∧
      StrsAre as x' ∧ StrsAre bs y' ∧ x'.length + vs.size = y'.length + us.size ∧ R (.ok (.ret (.bool (lexS x' y')))) ⟨hp, g, d, tk, os⟩) _
    case turn =>
      rintro ⟨u, v⟩ rest b s' ⟨hb', rfl, as, bs, x', y', hz, ha, hc, hlen, hR⟩
      cases ha with
      | nil => rw [List.zip_nil_left] at hz; cases hz
      | cons a t ha' =>
        cases hc with
        | nil => rw [List.zip_nil_right] at hz; cases hz
        | cons c t2 hc' =>
          rw [List.zip_cons_cons] at hz
          injection hz with e1 hrest
          injection e1 with eu ev
          subst eu ev
          rw [lexS] at hR
          simp only [List.length_cons] at hlen
          obtain ⟨e, he, hiff⟩ := eqAt_str A.in1 ⟨hp, g, d, tk, os⟩ a t c t2
          refine wpAny_bind (he prog w _ _ ?_)
          cases e with
          | true =>
            rw [if_pos (hiff.mp rfl)] at hR
            wp_walk
            exact ⟨rfl, rfl, _, _, _, _, hrest, ha', hc', by omega, hR⟩
          | false =>
            rw [if_neg (fun q => absurd (hiff.mpr q) Bool.false_ne_true)] at hR
            have hri := rcLt_str A.in1 ⟨hp, g, d, tk, os⟩ a t c t2 prog w
            wp_walk using hri
            exact ⟨_, rfl, by simpa using hR⟩
    case fin =>
      rintro ⟨b1, b2⟩ s' ⟨hb', rfl, as, bs, x', y', hz, ha, hc, hlen, hR⟩
      simp only at hb'
      subst hb'
      have hv : lexS x' y' = decide (us.size < vs.size) := by
        cases ha with
        | nil =>
          cases hc with
          | nil =>
            simp only [List.length_nil] at hlen
            exact (decide_eq_false (by omega)).symm
          | cons c u hw =>
            simp only [List.length_nil, List.length_cons] at hlen
            exact (decide_eq_true (by omega)).symm
        | cons a t hv =>
          cases hc with
          | nil =>
            simp only [List.length_nil, List.length_cons] at hlen
            exact (decide_eq_false (by omega)).symm
          | cons c u hw =>
            rw [List.zip_cons_cons] at hz
            cases hz
      rw [hv] at hR
      wp_walk
      exact ⟨_, rfl, by simpa [Builtin.Tuple.tupleCompareSizes] using hR⟩
    case h =>
      exact ⟨rfl, rfl, us.toList, vs.toList, xs, ys, rfl, hx, hy, by omega, h⟩
theorem lt_tupTexts {prog : Program} {w : World} {A : Around} {E : Value → Shared → Prop} {s : Shared} {l b : Addr} {us vs : Array Value} {xs ys : List Str} {Q : Value → Shared → Prop} (hl : IsTup s.heap l us) (hb : IsTup s.heap b vs)
    (hx : StrsAre us.toList xs) (hy : StrsAre vs.toList ys) (hu : A.units < cLine) (h : Q (.bool (lexS xs ys)) s) : wpAny (model prog w) A (compareOp .Lt (.ref l) (.ref b)) Q E s := by
  obtain ⟨⟨c1, d1, e1, sl1⟩, ho, hc, n, hd⟩ := id hl
  obtain ⟨⟨c2, d2, e2, sl2⟩, ho2, hc2, m, hd2⟩ := id hb
  simp only at hc hd hc2 hd2
  subst hc hd hc2 hd2
  exact richCompare_meets_room (op := .Lt) ⟨_, ho, rfl⟩ ⟨_, ho2, rfl⟩ PySem.F.slot_tuple_lt PySem.F.entry_tuple_lt (PySem.F.args_tuple_lt_2 _ _) (tuple_lt_texts l b us vs n m d1 d2 sl1 sl2 xs ys hx hy)
    ⟨ho, ho2, show Value.bool (lexS xs ys) ≠ Value.notImplemented ∧ Q (.bool (lexS xs ys)) s from ⟨(fun x => nomatch x), h⟩⟩ hu
end
/-- v is a question in the heap -/
def IsQ (h : Heap) (v : Value) (q : Qd) : Prop := ∃ (a c : Addr) (o oc : Obj) (t : Tok) (us : List Value) (n m : Nat), v = .ref a ∧ h.get? a = some o ∧ o.cls = .type "tuple" ∧ o.data = .seq #[.ref c, .str q.2 t] n ∧
  h.get? c = some oc ∧ oc.cls = .type "tuple" ∧ oc.data = .seq us.toArray m ∧ StrsAre us q.1
theorem IsQ.keeps {h h' : Heap} {v : Value} {q : Qd} (x : IsQ h v q) (k : ∀ b o, h.get? b = some o → o.cls = .type "tuple" → h'.get? b = some o) : IsQ h' v q := by
  obtain ⟨a, c, o, oc, t, us, n, m, e, ho, hc, hd, hoc, hcc, hdc, hs⟩ := x
  exact ⟨a, c, o, oc, t, us, n, m, e, k _ _ ho hc, hc, hd, k _ _ hoc hcc, hcc, hdc, hs⟩
section
variable {prog : Program} {w : World} {A : Around} {E : Value → Shared → Prop} {s : Shared}
theorem reads_strs {h : Heap} : ∀ {us : List Value} {xs : List Str}, StrsAre us xs → ∃ as, ReadsAll h us (xs.map PyData.str) as
  | _, _, .nil => ⟨_, ReadsAll.nil⟩
  | _, _, .cons x t r => by
    obtain ⟨as, q⟩ := reads_strs (h := h) r
    exact ⟨_, ReadsAll.cons (Reads.str x t) q⟩
theorem q_cmp {vs : List Value} {k : Value → Qd} (hu : A.units + 64 < cLine) (hm : ∀ v ∈ vs, ∀ c ∈ (k v).1, PyData.strOk c = true) (hp : ∀ v ∈ vs, IsQ s.heap v (k v)) : SrtO.Cmp prog w A s (tuples' false) (fun p => p.1 ∈ vs) (SrtO.lt2 fun v u => ltQ (k v) (k u)) := by
  intro p q hm1 hm2
  have h1 := hp _ hm1
  have h2 := hp _ hm2
  have m1 := hm _ hm1
  have m2 := hm _ hm2
  show wpAny (model prog w) A (keyLt' (tuples' false) p.1 q.1) (fun r s' => s' = s ∧ r = ltQ (k p.1) (k q.1)) (fun _ _ => False) s
  generalize k p.1 = x at h1 m1 ⊢
  generalize k q.1 = y at h2 m2 ⊢
  obtain ⟨xc, xe⟩ := x
  obtain ⟨yc, ye⟩ := y
  obtain ⟨a, c, o, oc, t, us, n, m, e, ho, hc, hd, hoc, hcc, hdc, hs⟩ := h1
  obtain ⟨a', c', o', oc', t', us', n', m', e', ho', hc', hd', hoc', hcc', hdc', hs'⟩ := h2
  rw [e, e']
  refine PySem.W.kat_lt ho hd ho' hd' ?_
  show PySem.W.KatLex prog w A false (decide (2 < 2)) _ [(.ref c, .ref c'), (.str xe t, .str ye t')] 0 s
  obtain ⟨as, r1⟩ := reads_strs (h := s.heap) hs
  obtain ⟨bs, r2⟩ := reads_strs (h := s.heap) hs'
  have rd1 : Reads s.heap (.ref c) (.tuple (xc.map PyData.str)) as := Reads.tuple hoc hcc hdc (by simpa using r1)
  have rd2 : Reads s.heap (.ref c') (.tuple (yc.map PyData.str)) bs := Reads.tuple hoc' hcc' hdc' (by simpa using r2)
  have l1 : (PyData.tuple (xc.map PyData.str)).canLay0 = true := lay_strs m1
  have l2 : (PyData.tuple (yc.map PyData.str)).canLay0 = true := lay_strs m2
  refine PySem.W.kat_cons (SeqAt.eqBoolOverData prog w A _ s _ _ _ _ as bs _ rd1 rd2 l1 l2 ?_ ?_)
  · have : (PyData.tuple (xc.map PyData.str)).depth = 1 := by
      show PyData.depthAll _ + 1 = 1
      rw [depth_strs]
    omega
  rw [PyData.eqv, eqv_strs]
  by_cases ex : xc = yc
  · rw [decide_eq_true ex]
    refine PySem.W.kat_yes (PySem.W.kat_cons (SeqAt.EqAt.str_str xe t ye t' prog w _ _ ?_))
    by_cases ey : xe = ye
    · have e3 : ltQ (xc, xe) (yc, ye) = false := by rw [ex, ey]; exact ltQ_irrefl _
      have e4 : (xe == ye) = true := beq_iff_eq.mpr ey
      rw [e4]
      exact PySem.W.kat_yes (PySem.W.kat_nil ⟨rfl, e3.symm⟩)
    · have e3 : ltQ (xc, xe) (yc, ye) = ltS xe ye := if_pos ex
      have e4 : (xe == ye) = false := beq_eq_false_iff_ne.mpr ey
      rw [e4]
      refine PySem.W.kat_no (PySem.W.kat_one _ _ (rcLt_str A s xe t ye t' prog w _ _ ?_))
      exact (show s = s ∧ ltS xe ye = ltQ (xc, xe) (yc, ye) from ⟨rfl, e3.symm⟩)
  · rw [decide_eq_false ex]
    have e3 : ltQ (xc, xe) (yc, ye) = lexS xc yc := if_neg ex
    refine PySem.W.kat_no (PySem.W.kat_one _ _ (lt_tupTexts (us := us.toArray) (vs := us'.toArray) ⟨oc, hoc, hcc, m, hdc⟩ ⟨oc', hoc', hcc', m', hdc'⟩ (by simpa using hs) (by simpa using hs') (by omega) ?_))
    exact (show s = s ∧ lexS xc yc = ltQ (xc, xe) (yc, ye) from ⟨rfl, e3.symm⟩)
theorem q_firsts {h : Heap} : ∀ {vs : List Value} {k : Value → Qd}, (∀ v ∈ vs, IsQ h v (k v)) → ∃ fs : List Value, PySem.W.KatTups h vs fs ∧ fs.length = vs.length ∧ ∀ f ∈ fs, ∃ c oc, f = Value.ref c ∧ h.get? c = some oc ∧ oc.cls = .type "tuple"
  | [], _, _ => ⟨[], PySem.W.KatTups.nil, rfl, fun _ hm => by simp at hm⟩
  | v :: vs, k, hp => by
    obtain ⟨fs, h1, h2, h3⟩ := q_firsts (vs := vs) (k := k) fun v' hm => hp v' (List.mem_cons_of_mem _ hm)
    obtain ⟨a, c, o, oc, t, us, n, m, e, ho, hc, hd, hoc, hcc, hdc, hs⟩ := hp v List.mem_cons_self
    subst e
    refine ⟨.ref c :: fs, PySem.W.KatTups.cons ho hc hd rfl h1, by rw [List.length_cons, List.length_cons, h2], fun f hm => ?_⟩
    rcases List.mem_cons.mp hm with rfl | hm
    · exact ⟨c, oc, rfl, hoc, hcc⟩
    · exact h3 f hm
theorem q_sortable {a : Addr} {vs : List Value} {k : Value → Qd} (hu : A.units + 64 < cLine) (h0 : 0 < vs.length) (hm : ∀ v ∈ vs, ∀ c ∈ (k v).1, PyData.strOk c = true) (hp : ∀ v ∈ vs, IsQ s.heap v (k v)) (ha : ∀ o, s.heap.get? a = some o → o.cls ≠ .type "tuple") :
    SrtO.SortableO prog w A s a vs fun v u => ltQ (k v) (k u) := by
  intro h' keep
  have hp' : ∀ v ∈ vs, IsQ h' v (k v) := fun v hm => (hp v hm).keeps fun b o e c => keep b o (fun z => by subst z; exact ha o e c) e
  obtain ⟨fs, h1, h2, h3⟩ := q_firsts hp'
  refine ⟨tuples' false, fun Q E hq => ?_, q_cmp hu hm hp'⟩
  refine PySem.W.kat_kind (T := .type "tuple") h1 (by omega) (fun f hf => ?_) (by rfl) ?_
  · obtain ⟨c, oc, rfl, hoc, hcc⟩ := h3 f hf
    rw [← hcc]
    exact (PySem.W.Looks.ld hoc).andThen PySem.W.Looks.now
  · have e : (Value.type "tuple" != Value.type "tuple") = false := by first | decide +kernel | rfl | decide
    rw [e]
    exact hq
end
end Qk
set_option maxRecDepth 100000
set_option maxHeartbeats 4000000
set_option maxRecDepth 100000
set_option maxHeartbeats 4000000
namespace Qk
open PySem PySem.Spec PyProof.Rows L2
instance (a b : Str) : Decidable (leS a b) := by unfold leS; infer_instance
def srt (xs : List Str) : List Str := xs.mergeSort (fun a b => decide (leS a b))
theorem leS_total (a b : Str) : leS a b ∨ leS b a := by
  unfold leS
  rw [ltCps_eq, ltCps_eq]
  by_cases h : b.cps.toList < a.cps.toList
  · right
    refine decide_eq_false fun h2 => List.lt_irrefl _ (List.lt_trans h h2)
  · left
    exact decide_eq_false h
theorem srt_perm (xs : List Str) : (srt xs).Perm xs := List.mergeSort_perm _ _
theorem srt_pw (xs : List Str) : (srt xs).Pairwise leS := by
  have h := List.pairwise_mergeSort (le := fun a b => decide (leS a b)) (fun a b c h1 h2 => decide_eq_true (leS_trans (of_decide_eq_true h1) (of_decide_eq_true h2)))
    (fun a b => by
      rcases leS_total a b with h | h
      · simp [h]
      · simp [h]) xs
  exact h.imp fun h => of_decide_eq_true h
theorem srt_eq {ws xs : List Str} (h : ws.Perm xs) (hs : sortedS ws = true) : ws = srt xs := perm_sorted (h.trans (srt_perm xs).symm) (sortedS_pw hs) (srt_pw xs)
theorem srt_len (xs : List Str) : (srt xs).length = xs.length := (srt_perm xs).length_eq
def QL (H : Hp) (xs : List V) (qs : List Qd) : Prop := Paired (fun (x : V) (q : Qd) => ∃ t, x = .ref t ∧ QAt H t q.1 q.2) xs qs
theorem QL.len {H : Hp} {xs : List V} {qs : List Qd} (h : QL H xs qs) : xs.length = qs.length := Paired.length h
theorem QL.same {H H' : Hp} {xs : List V} {qs : List Qd} (s : Same H H') (h : QL H xs qs) : QL H' xs qs := Paired.mapP h fun x q ⟨t, e, z⟩ => ⟨t, e, z.same s⟩
theorem QL.kp {H H' : Hp} {b l : Addr} {xs : List V} {qs : List Qd} (B : Bag H b l) (s : Kp b H H') (h : QL H xs qs) : QL H' xs qs := Paired.mapP h fun x q ⟨t, e, z⟩ => ⟨t, e, z.kp B s⟩
theorem paired_app {α β : Type} {F : α → β → Prop} : ∀ {xs xs' : List α} {ys ys' : List β}, Paired F xs ys → Paired F xs' ys' → Paired F (xs ++ xs') (ys ++ ys')
  | _, _, _, _, .nil, h => h
  | _, _, _, _, .cons r t, h => .cons r (paired_app t h)
theorem QAt.uniq {H : Hp} {t : Addr} {c1 c2 : List Str} {e1 e2 : Str} (h1 : QAt H t c1 e1) (h2 : QAt H t c2 e2) : (c1, e1) = (c2, e2) := by
  obtain ⟨a, x1, x2⟩ := h1
  obtain ⟨b, y1, y2⟩ := h2
  rw [x1] at y1
  injection y1 with y1
  injection y1 with y1
  injection y1 with y1 y3
  injection y3 with y3 _
  injection y1 with y1
  injection y3 with y3
  subst y1
  rw [x2] at y2
  injection y2 with y2
  injection y2 with y2
  have : c1 = c2 := by
    have inj : ∀ {l m : List Str}, l.map V.str = m.map V.str → l = m := fun {l m} h => by
      induction l generalizing m with
      | nil => cases m with
        | nil => rfl
        | cons _ _ => cases h
      | cons x l ih => cases m with
        | nil => cases h
        | cons y m =>
          rw [List.map_cons, List.map_cons] at h
          injection h with h h'
          injection h with h
          rw [h, ih h']
    exact inj y2
  rw [this, y3]
theorem QL.mem {H : Hp} : ∀ {xs : List V} {qs : List Qd}, QL H xs qs → ∀ x ∈ xs, ∃ (t : Addr) (q : Qd), x = V.ref t ∧ QAt H t q.1 q.2 ∧ q ∈ qs
  | _, _, .nil, x, hx => by cases hx
  | _, _, .cons ⟨t, e, z⟩ r, x, hx => by
    rcases List.mem_cons.mp hx with rfl | hx
    · exact ⟨t, _, e, z, List.mem_cons_self⟩
    · obtain ⟨t', q', a, b, c⟩ := QL.mem r x hx
      exact ⟨t', q', a, b, List.mem_cons_of_mem _ c⟩
/-- no question stands behind a greater one -/
def rising (qs : List Qd) : Prop := qs.Pairwise (fun a b => ltQ b a = false)
def dq (q : Qd) : PyData := dQ q.1 q.2
theorem QL.dp {K : PySem.W.Frag} {H : Hp} : ∀ {xs : List V} {qs : List Qd}, QL H xs qs → DpAll K H xs (qs.map dq)
  | _, _, .nil => .nil
  | _, _, .cons ⟨t, e, z⟩ r => by
    subst e
    exact .cons (dp_q z) (QL.dp r)
structure Qfine (q : Qd) : Prop where
  c : ∀ c ∈ q.1, okS c = true
  e : okS q.2 = true
  l : q.1.length ≤ 12
theorem okS_empty : okS "" = true := by decide +kernel
theorem fine_q {q : Qd} (h : Qfine q) : fine (dq q) = true := by
  show (fine (.tuple (q.1.map PyData.str)) && (fine (.str q.2) && true)) = true
  rw [Bool.and_true, Bool.and_eq_true]
  exact ⟨fine_strs h.c, h.e⟩
theorem cost_q {q : Qd} (h : Qfine q) : cost (dq q) ≤ 3000 := by
  have hl := h.l
  show costAll (q.1.map PyData.str) + 3 + 2 + (210 + 2 + 0) + 3 ≤ 3000
  rw [cost_strs]
  omega
theorem depth_q (q : Qd) : (dq q).depth = 2 := by
  show max (PyData.depthAll (q.1.map PyData.str) + 1) (max 0 0) + 1 = 2
  rw [depth_strs]
  rfl
theorem fine_qs : ∀ {qs : List Qd}, (∀ q ∈ qs, Qfine q) → fineAll (qs.map dq) = true
  | [], _ => rfl
  | q :: qs, h => by
    show (fine (dq q) && fineAll (qs.map dq)) = true
    rw [fine_qs fun q hq => h q (List.mem_cons_of_mem _ hq), Bool.and_true]
    exact fine_q (h q List.mem_cons_self)
theorem cost_qs : ∀ {qs : List Qd}, (∀ q ∈ qs, Qfine q) → costAll (qs.map dq) ≤ 3002 * qs.length
  | [], _ => Nat.le_refl 0
  | q :: qs, h => by
    have h1 := cost_q (h q List.mem_cons_self)
    have h2 := cost_qs fun q hq => h q (List.mem_cons_of_mem _ hq)
    show cost (dq q) + 2 + costAll (qs.map dq) ≤ _
    rw [List.length_cons]
    omega
theorem depth_qs : ∀ (qs : List Qd), PyData.depthAll (qs.map dq) ≤ 2
  | [] => Nat.zero_le _
  | q :: qs => by
    show max (dq q).depth (PyData.depthAll (qs.map dq)) ≤ 2
    rw [depth_q]
    exact Nat.max_le.mpr ⟨Nat.le_refl 2, depth_qs qs⟩
theorem dok_q {q : Qd} (h : Qfine q) : DOk (dq q) := ⟨fine_q h, by rw [depth_q]; decide, Nat.le_trans (cost_q h) (by decide)⟩
theorem dok_qs {qs : List Qd} (h : ∀ q ∈ qs, Qfine q) (hl : qs.length ≤ 100) : DOk (.list (qs.map dq)) :=
  ⟨fine_qs h, by show PyData.depthAll _ + 1 ≤ 50; have := depth_qs qs; omega, by show costAll _ + 3 ≤ _; have := cost_qs h; omega⟩
theorem eqv_q (p q : Qd) : PyData.eqv (dq p) (dq q) = decide (p = q) := by
  show PyData.eqv (.tuple [.tuple (p.1.map PyData.str), .str p.2]) (.tuple [.tuple (q.1.map PyData.str), .str q.2]) = _
  have e0 : PyData.eqv (.tuple (p.1.map PyData.str)) (.tuple (q.1.map PyData.str)) = decide (p.1 = q.1) := by rw [PyData.eqv, eqv_strs]
  rw [PyData.eqv, PyData.eqvAll, PyData.eqvAll, PyData.eqvAll, e0, PyData.eqv, Bool.and_true]
  by_cases h1 : p.1 = q.1
  · by_cases h2 : p.2 = q.2
    · rw [decide_eq_true h1, decide_eq_true (Prod.ext h1 h2), h2, beq_self_eq_true]
      rfl
    · rw [decide_eq_true h1, decide_eq_false (fun e => h2 (by rw [e]))]
      rw [beq_eq_false_iff_ne.mpr h2]
      rfl
  · rw [decide_eq_false h1, decide_eq_false (fun e => h1 (by rw [e]))]
    rfl
theorem any_q (q : Qd) (qs : List Qd) : ((qs.map dq).any fun z => PyData.eqv z (dq q)) = decide (q ∈ qs) := by
  rw [List.any_map]
  by_cases h : q ∈ qs
  · rw [decide_eq_true h]
    exact List.any_eq_true.mpr ⟨q, h, by show PyData.eqv (dq q) (dq q) = true; rw [eqv_q]; exact decide_eq_true rfl⟩
  · rw [decide_eq_false h]
    refine List.any_eq_false.mpr fun y hy e => h ?_
    have e' : PyData.eqv (dq y) (dq q) = true := e
    rw [eqv_q] at e'
    rw [← of_decide_eq_true e']
    exact hy
theorem QM.fine {cols : List Str} {e : Str} (h : QM cols e) : Qfine (cols, e) :=
  ⟨fun c hc => menu_okS _ (h.sub c hc), by rcases h.esub with z | z
                                           · show okS e = true
                                             rw [z]
                                             exact okS_empty
                                           · exact menu_okS _ z, h.le⟩
end Qk
set_option maxRecDepth 100000
set_option maxHeartbeats 4000000
namespace Qk
open PySem PySem.Spec PyProof.Rows L2
def SetX (P : Program) (w : World) (a : Addr) (S : Str → Bool) (n : Nat) : HO := .ext fun h => TSet P w h a S n
end Qk
set_option maxRecDepth 100000
set_option maxHeartbeats 4000000
set_option maxRecDepth 100000
set_option maxHeartbeats 4000000
namespace Qk
open PySem PySem.Spec PyProof.Rows L2
/-- the slots met by so many steps from x, as bits -/
def orbit (m : Nat) : Nat → Nat → Nat → Nat
  | 0, _, acc => acc
  | f + 1, x, acc => orbit m f ((x * 5 + 1) % (m + 1)) (acc ||| 2 ^ x)
theorem orbit_bit (m j : Nat) : ∀ f k acc, (orbit m f (lcgN m k) acc).testBit j = true → acc.testBit j = true ∨ ∃ b, b < k + f ∧ lcgN m b = j
  | 0, k, acc, h => .inl h
  | f + 1, k, acc, h => by
    rcases orbit_bit m j f (k + 1) (acc ||| 2 ^ lcgN m k) h with g | ⟨b, hb, e⟩
    · rw [Nat.testBit_or, Nat.testBit_two_pow] at g
      cases ha : acc.testBit j with
      | true => exact .inl rfl
      | false =>
        rw [ha, Bool.false_or, decide_eq_true_eq] at g
        exact .inr ⟨k, by omega, g⟩
    · exact .inr ⟨b, by omega, e⟩
def goF (m : Nat) : Nat → Nat → Nat
  | 0, x => x
  | f + 1, x => goF m f ((x * 5 + 1) % (m + 1))
theorem goF_eq (m : Nat) : ∀ f k, goF m f (lcgN m k) = lcgN m (k + f)
  | 0, _ => rfl
  | f + 1, k => by
    rw [show k + (f + 1) = k + 1 + f by omega]
    exact goF_eq m f (k + 1)
/-- each slot is met in a round -/
structure MaskB (m : Nat) : Prop where
  all : ∀ j, j ≤ m → ∃ b, b ≤ m ∧ lcgN m b = j
  rnd : lcgN m (m + 1) = 0
  is_ : m = 7 ∨ m = 31 ∨ m = 127 ∨ m = 511
theorem maskB_of {m : Nat} (h1 : orbit m (m + 1) 0 0 = 2 ^ (m + 1) - 1) (h2 : goF m (m + 1) 0 = 0) (h3 : m = 7 ∨ m = 31 ∨ m = 127 ∨ m = 511) : MaskB m := by
  refine ⟨fun j hj => ?_, ?_, h3⟩
  · have e : (orbit m (m + 1) (lcgN m 0) 0).testBit j = true := by
      show (orbit m (m + 1) 0 0).testBit j = true
      rw [h1, Nat.testBit_two_pow_sub_one]
      exact decide_eq_true (Nat.lt_succ_of_le hj)
    rcases orbit_bit m j (m + 1) 0 0 e with g | ⟨b, hb, e⟩
    · rw [Nat.zero_testBit] at g
      cases g
    · exact ⟨b, by omega, e⟩
  · have e := goF_eq m (m + 1) 0
    rw [Nat.zero_add] at e
    rw [← e]
    exact h2
theorem mb7 : MaskB 7 := maskB_of (by decide +kernel) (by decide +kernel) (by decide)
theorem mb31 : MaskB 31 := maskB_of (by decide +kernel) (by decide +kernel) (by decide)
theorem mb127 : MaskB 127 := maskB_of (by decide +kernel) (by decide +kernel) (by decide)
theorem mb511 : MaskB 511 := maskB_of (by decide +kernel) (by decide +kernel) (by decide)
theorem MaskB.odd {m : Nat} (hm : MaskB m) : m % 2 = 1 := by
  rcases hm.is_ with e | e | e | e <;> rw [e]
theorem MaskB.top {m : Nat} (hm : MaskB m) : m ≤ 511 := by
  rcases hm.is_ with e | e | e | e <;> omega
theorem MaskB.again {m : Nat} (hm : MaskB m) : ∀ k, lcgN m (m + 1 + k) = lcgN m k
  | 0 => hm.rnd
  | k + 1 => by
    have ih := hm.again k
    show (lcgN m (m + 1 + k) * 5 + 1) % (m + 1) = _
    rw [ih]
    rfl
theorem MaskB.to {m i j : Nat} (hm : MaskB m) (hi : i ≤ m) (hj : j ≤ m) : ∃ k, k ≤ m ∧ lcgI m i k = j := by
  obtain ⟨a, a1, rfl⟩ := hm.all i hi
  obtain ⟨b, b1, rfl⟩ := hm.all j hj
  by_cases c : a ≤ b
  · exact ⟨b - a, by omega, by rw [lcgN_add, show a + (b - a) = b by omega]⟩
  · exact ⟨m + 1 + b - a, by omega, by rw [lcgN_add, show a + (m + 1 + b - a) = m + 1 + b by omega, hm.again]⟩
theorem MaskB.meets {m : Nat} (hm : MaskB m) (h : Int) {j : Nat} (hj : j ≤ m) : ∃ n, n ≤ m + 12 ∧ runI m (SetTable.bits h) n = j := by
  obtain ⟨k, k1, k2⟩ := hm.to (runI_le m (SetTable.bits h) 12) hj
  refine ⟨12 + k, by omega, ?_⟩
  rw [runI_tail (bits_lt h), k2]
theorem way_in (m : Nat) (h : Int) (k : Nat) : way m h k ≤ m := by
  have r := runEnd_bd (show SetTable.bits h % (m + 1) ≤ m from Nat.le_of_lt_succ (Nat.mod_lt _ (Nat.succ_pos m)))
  have q := nth_in (m := m) k (runAt m (SetTable.bits h % (m + 1)) (SetTable.bits h))
    (show SetTable.bits h % (m + 1) + (SetTable.runEnd m (SetTable.bits h % (m + 1)) - SetTable.bits h % (m + 1)) ≤ m by omega)
  exact Nat.le_trans (Nat.le_add_right _ _) q
theorem MaskB.way_to {m : Nat} (hm : MaskB m) (h : Int) {j : Nat} (hj : j ≤ m) : ∃ n, n ≤ m + 12 ∧ way m h (off m (SetTable.bits h % (m + 1)) (SetTable.bits h) n) = j := by
  obtain ⟨n, n1, n2⟩ := hm.meets h hj
  refine ⟨n, n1, ?_⟩
  unfold way
  rw [nth_off, itL_run, n2]
  rfl
theorem off_le (m : Nat) : ∀ (n i b : Nat), i ≤ m → off m i b n ≤ 10 * n
  | 0, _, _, _ => Nat.le_refl _
  | n + 1, i, b, hi => by
    have r := runEnd_bd hi
    have ih := off_le m n (SetTable.leap m i b).1 (SetTable.leap m i b).2 (leap_le m i b)
    show SetTable.runEnd m i - i + 1 + off m (SetTable.leap m i b).1 (SetTable.leap m i b).2 n ≤ _
    omega
/-- on h's way, j comes behind places of ps alone -/
def OnWay (m : Nat) (ps : List Nat) (h : Int) (j : Nat) : Prop := ∃ k, way m h k = j ∧ ∀ c, c < k → way m h c ∈ ps
structure TabB (t : SetTable) (hs : List Int) : Prop where
  up : Ris t.place.toList
  noD : t.dummies = #[]
  many : t.place.toList.length = hs.length
  mB : MaskB t.mask
  in_ : ∀ x ∈ t.place.toList, x ≤ t.mask
  onW : ∀ (i : Nat) (h : Int) (j : Nat), hs[i]? = some h → t.place.toList[i]? = some j → OnWay t.mask t.place.toList h j
theorem TabB.sz {t : SetTable} {hs : List Int} (T : TabB t hs) : t.place.size = hs.length := by
  rw [← Array.length_toList]
  exact T.many
theorem TabB.stop {t : SetTable} {hs : List Int} (T : TabB t hs) (hl : hs.length ≤ t.mask) (h : Int) :
    ∃ K, K < 10 * SetTable.turns t.mask ∧ way t.mask h K ∉ t.place.toList ∧ ∀ k, k < K → way t.mask h k ∈ t.place.toList := by
  obtain ⟨j, j1, j2⟩ := st_missing t.place.toList (t.mask + 1) (by rw [T.many]; omega)
  obtain ⟨n, n1, n2⟩ := T.mB.way_to h (Nat.le_of_lt_succ j1)
  have ob := off_le t.mask n (SetTable.bits h % (t.mask + 1)) (SetTable.bits h) (Nat.le_of_lt_succ (Nat.mod_lt _ (Nat.succ_pos t.mask)))
  obtain ⟨K, K1, K2, K3⟩ := st_least (p := fun k => way t.mask h k ∉ t.place.toList) _ (n2 ▸ j2)
  refine ⟨K, ?_, K2, fun k hk => Classical.byContradiction fun q => K3 k hk q⟩
  unfold SetTable.turns
  omega
theorem TabB.ahead {t : SetTable} {hs : List Int} (T : TabB t hs) {h : Int} {K i j : Nat} (hK : way t.mask h K ∉ t.place.toList) (hi : hs[i]? = some h) (hj : t.place.toList[i]? = some j) :
    ∃ k, k < K ∧ way t.mask h k = j := by
  obtain ⟨k, e, b⟩ := T.onW i h j hi hj
  refine ⟨k, Nat.lt_of_not_le fun c => hK ?_, e⟩
  rcases Nat.lt_or_eq_of_le c with c | c
  · exact b K c
  · rw [c, e]
    exact List.mem_of_getElem? hj
theorem OnWay.more {m : Nat} {ps ps' : List Nat} {h : Int} {j : Nat} (W : OnWay m ps h j) (hp : ∀ x ∈ ps, x ∈ ps') : OnWay m ps' h j := by
  obtain ⟨k, e, b⟩ := W
  exact ⟨k, e, fun c hc => hp _ (b c hc)⟩
/-- one is put in -/
theorem TabB.add {t : SetTable} {hs : List Int} (T : TabB t hs) {h : Int} {K : Nat} (hK : way t.mask h K ∉ t.place.toList) (hb : ∀ k, k < K → way t.mask h k ∈ t.place.toList) :
    SetTable.below t.place (way t.mask h K) ≤ hs.length ∧
      TabB (t.put (way t.mask h K)).1 (hs.take (SetTable.below t.place (way t.mask h K)) ++ h :: hs.drop (SetTable.below t.place (way t.mask h K))) ∧
      (t.put (way t.mask h K)).1.fill = hs.length + 1 := by
  have wl := way_in t.mask h K
  have W0 : OnWay t.mask t.place.toList h (way t.mask h K) := ⟨K, rfl, hb⟩
  generalize way t.mask h K = j at hK wl W0
  have c1 := (below_cut T.up j).1
  have cl : SetTable.below t.place j ≤ t.place.toList.length := c1
  have pp := put_place t j
  have fresh : t.place[SetTable.below t.place j]? ≠ some j := fun e => hK (List.mem_of_getElem? (show t.place.toList[SetTable.below t.place j]? = some j by rw [Array.getElem?_toList, e]))
  have hl : SetTable.below t.place j ≤ hs.length := by rw [← T.many]; exact cl
  have all : ∀ x ∈ t.place.toList, x ∈ (t.put j).1.place.toList := fun x hx => by rw [pp]; exact mem_ins.mpr (.inr hx)
  have ln : (t.put j).1.place.toList.length = hs.length + 1 := by rw [pp, len_ins _ cl, T.many]
  refine ⟨hl, ⟨ris_insert T.up fresh, put_dm T.noD j, ln.trans (len_ins _ hl h).symm, T.mB, fun x hx => ?_, fun i g k e1 e2 => ?_⟩, ?_⟩
  · rw [pp] at hx
    exact (mem_ins.mp hx).elim (fun e => e ▸ wl) (T.in_ x)
  · rw [pp, tins_get _ cl] at e2
    rw [tins_get _ hl] at e1
    show OnWay t.mask _ g k
    split at e1
    · rename_i q
      rw [if_pos q] at e2
      exact (T.onW i g k e1 e2).more all
    · rename_i q
      rw [if_neg q] at e2
      split at e1
      · rename_i q2
        rw [if_pos q2] at e2
        cases e1
        cases e2
        exact W0.more all
      · rename_i q2
        rw [if_neg q2] at e2
        exact (T.onW (i - 1) g k e1 e2).more all
  · unfold SetTable.fill
    rw [put_dm T.noD j, ← Array.length_toList, ln]
    rfl
theorem MaskB.free {m : Nat} (hm : MaskB m) (owner : Array (Option Nat)) (h : Int) {j : Nat} (hj : j ≤ m) (hf : oAt owner j = none) :
    ∃ K, SetTable.layClean.free m owner (SetTable.turns m) (SetTable.bits h % (m + 1)) (SetTable.bits h) = some (way m h K) ∧ oAt owner (way m h K) = none ∧ ∀ k, k < K → oAt owner (way m h k) ≠ none := by
  obtain ⟨n, n1, n2⟩ := hm.way_to h hj
  obtain ⟨K, K1, K2, K3⟩ := st_least (p := fun k => oAt owner (way m h k) = none) _ (by rw [← n2] at hf; exact hf)
  refine ⟨K, free_spec m owner _ n _ _ K (by unfold SetTable.turns; omega) K1 (fun k hk => ?_) (by rw [show oAt owner (nth m (runAt m _ _) K).j = none from K2]; rfl), K2, K3⟩
  cases e : oAt owner (way m h k) with
  | none => exact absurd e (K3 k hk)
  | some x => rfl
theorem own_step {m : Nat} (hm : MaskB m) {done : List Int} {owner : Array (Option Nat)} (W : Own m done owner) (hl : done.length ≤ m) (h : Int) :
    ∃ o', stepF m (some (owner, done.length)) h = some (o', done.length + 1) ∧ Own m (done ++ [h]) o' := by
  obtain ⟨ps, p1, p2⟩ := W.ps
  obtain ⟨i, i1, i2⟩ := st_missing ps (m + 1) (by omega)
  have il := Nat.le_of_lt_succ i1
  obtain ⟨K, e1, e2, e3⟩ := hm.free owner h il (Classical.byContradiction fun q => i2 (p2 i il q))
  have wl := way_in m h K
  have W0 : ∀ k, k < K → oAt owner (way m h k) ≠ none := e3
  refine ⟨_, stepF_some e1, ?_⟩
  generalize ew : way m h K = v at e1 e2 wl
  have self : oAt (owner.setIfInBounds v (some done.length)) v = some done.length := oAt_set_self _ (by rw [W.sz]; omega)
  have othr : ∀ {y}, y ≠ v → oAt (owner.setIfInBounds v (some done.length)) y = oAt owner y := fun q => oAt_set_ne _ q
  have keep : ∀ {y}, oAt owner y ≠ none → oAt (owner.setIfInBounds v (some done.length)) y ≠ none := fun {y} q => by
    rcases Classical.em (y = v) with c | c
    · rw [c, e2] at q
      exact absurd rfl q
    · rw [othr c]
      exact q
  have dl : (done ++ [h]).length = done.length + 1 := by simp
  constructor
  · simp [W.sz]
  · intro y k yl e
    rcases Classical.em (y = v) with c | c
    · rw [c, self] at e
      cases e
      exact ⟨h, K, by simp, ew.trans c.symm, fun k hk => keep (W0 k hk)⟩
    · rw [othr c] at e
      obtain ⟨g, L, a1, a2, a3⟩ := W.at_ y k yl e
      have kl := (List.getElem?_eq_some_iff.mp a1).1
      exact ⟨g, L, by rw [List.getElem?_append_left kl, a1], a2, fun k hk => keep (a3 k hk)⟩
  · intro k hk
    rw [dl] at hk
    rcases Nat.lt_or_eq_of_le (Nat.le_of_lt_succ hk) with c | c
    · obtain ⟨y, y1, y2⟩ := W.all k c
      exact ⟨y, y1, by rw [othr (fun z => by rw [z, e2] at y2; cases y2), y2]⟩
    · exact ⟨v, wl, by rw [c, self]⟩
  · refine ⟨v :: ps, by rw [dl, List.length_cons, p1], fun y yl q => ?_⟩
    rcases Classical.em (y = v) with c | c
    · rw [c]
      exact List.mem_cons_self
    · rw [othr c] at q
      exact List.mem_cons_of_mem _ (p2 y yl q)
theorem own_all {m : Nat} (hm : MaskB m) : ∀ (rest done : List Int) (owner : Array (Option Nat)), Own m done owner → done.length + rest.length ≤ m →
    ∃ o', rest.foldl (stepF m) (some (owner, done.length)) = some (o', done.length + rest.length) ∧ Own m (done ++ rest) o'
  | [], done, owner, W, _ => ⟨owner, rfl, by simpa using W⟩
  | h :: rest, done, owner, W, hl => by
    rw [List.length_cons] at hl
    obtain ⟨o1, q1, W1⟩ := own_step hm W (by omega) h
    have dl : (done ++ [h]).length = done.length + 1 := by simp
    obtain ⟨o2, q2, W2⟩ := own_all hm rest (done ++ [h]) o1 W1 (by omega)
    refine ⟨o2, ?_, by simpa using W2⟩
    rw [List.foldl_cons, q1, ← dl, q2, dl, List.length_cons]
    congr 2
    omega
/-- all is found again behind the laying -/
theorem laid_anew (t : SetTable) {hs : Array Int} {wanted M : Nat} (hw : SetTable.sizeAbove wanted = M + 1) (hM : MaskB M) (hn : hs.size ≤ M) :
    ∃ t2 order, t.relaid hs wanted = some (t2, order) ∧ order.toList.Perm (List.range hs.size) ∧ TabB t2 (order.toList.map fun i => hs.getD i 0) ∧ t2.mask = M ∧ t2.led = t.led := by
  have hw' : SetTable.sizeAbove wanted - 1 = M := by omega
  obtain ⟨owner, f, W⟩ := own_all hM hs.toList [] _ (Own.init M) (by rw [Array.length_toList]; simpa using hn)
  rw [List.nil_append] at W
  have lc : SetTable.layClean M hs = some owner := by
    rw [layClean_eq]
    exact congrArg (Option.map Prod.fst) f
  have ml : ∀ {j k}, (j, k) ∈ liveOf M owner ↔ j ≤ M ∧ oAt owner j = some k := fun {j k} => mem_live W.sz
  obtain ⟨r1, r2⟩ := ris_live (fun j => owner.getD j none) (List.range (M + 1)) (by unfold Ris; exact List.pairwise_lt_range)
  have r1 : Ris ((liveOf M owner).map Prod.fst) := r1
  have zs : hs.toList.length = hs.size := rfl
  have lv : (liveOf M owner).length = hs.size := by
    obtain ⟨ps, p1, p2⟩ := W.ps
    refine Nat.le_antisymm ?_ ?_
    · rw [← zs, ← p1, ← List.length_map (f := Prod.fst)]
      refine nat_nodup_len _ ps (r1.imp fun q => Nat.ne_of_lt q) fun x hx => ?_
      obtain ⟨⟨y, k⟩, hy, rfl⟩ := List.mem_map.mp hx
      have := ml.mp hy
      exact p2 y this.1 (by rw [this.2]; simp)
    · rw [← List.length_map (f := Prod.snd)]
      refine Nat.le_trans (Nat.le_of_eq List.length_range.symm) (nat_nodup_len (List.range hs.size) _ List.nodup_range fun k hk => ?_)
      obtain ⟨j, j1, j2⟩ := W.all k (List.mem_range.mp hk)
      exact List.mem_map.mpr ⟨(j, k), ml.mpr ⟨j1, j2⟩, rfl⟩
  refine ⟨tabOf t M owner, ((liveOf M owner).map (·.2)).toArray, by rw [relaid_eq, hw', lc]; rfl, ?_, ?_, rfl, rfl⟩
  · refine perm_range _ _ ((List.length_map _).trans lv) fun k hk => ?_
    obtain ⟨j, j1, j2⟩ := W.all k (by rw [zs]; exact hk)
    exact List.mem_map.mpr ⟨(j, k), ml.mpr ⟨j1, j2⟩, rfl⟩
  · have ep : (tabOf t M owner).place.toList = (liveOf M owner).map Prod.fst := rfl
    constructor
    · exact r1
    · rfl
    · rw [ep, List.length_map, List.length_map, List.length_map]
    · exact hM
    · intro x hx
      exact Nat.le_of_lt_succ (List.mem_range.mp (r2 x hx))
    · intro i h j e1 e2
      rw [ep] at e2 ⊢
      show OnWay M _ h j
      rw [List.toList_toArray, List.getElem?_map, List.getElem?_map] at e1
      rw [List.getElem?_map] at e2
      obtain ⟨⟨y, k⟩, hy, rfl⟩ := Option.map_eq_some_iff.mp e2
      rw [hy] at e1
      have e1 : hs.getD k 0 = h := Option.some.inj e1
      obtain ⟨y1, y2⟩ := ml.mp (List.mem_of_getElem? hy)
      obtain ⟨g, K, a1, a2, a3⟩ := W.at_ y k y1 y2
      have eg : hs.getD k 0 = g := by
        rw [Array.getD_eq_getD_getElem?, ← Array.getElem?_toList, a1]
        rfl
      rw [← e1, eg]
      refine ⟨K, a2, fun c hc => ?_⟩
      cases z : oAt owner (way M g c) with
      | none => exact absurd z (a3 c hc)
      | some k2 => exact List.mem_map.mpr ⟨(way M g c, k2), ml.mpr ⟨way_in M g c, z⟩, rfl⟩
theorem size_308 : SetTable.sizeAbove (SetTable.grown 77) = 512 := by decide +kernel
end Qk
set_option maxRecDepth 100000
set_option maxHeartbeats 4000000
namespace Qk
open PySem PySem.Spec PyProof.Rows L2
/-- the key k stands at a -/
def KAt (h : Heap) (k : NestedKey) (a : Addr) : Prop := NestedIs h k (.ref a) ∧ k.depth ≤ 8
theorem parts_of {h : Heap} : ∀ {ks : List NestedKey} {vs : List Value} {n : Nat}, NestedAll h ks vs → NestedKey.depthAll ks ≤ n → ∀ v ∈ vs, ∃ k, NestedIs h k v ∧ k.depth ≤ n
  | _, _, _, .nil, _, v, m => nomatch m
  | _, _, n, .cons (k := k0) x y, hd, v, m => by
    simp only [NestedKey.depthAll] at hd
    rcases List.mem_cons.mp m with rfl | m
    · exact ⟨k0, x, by omega⟩
    · exact parts_of y (by omega) v m
section
variable {P : Program} {w : World} {A : Around} {E : Value → Shared → Prop} {s : Shared}
theorem notClass : ∀ (n : Nat) {k : NestedKey} {v : Value} {Q : Bool → Shared → Prop}, NestedIs s.heap k v → k.depth ≤ n → Q false s → wpAny (model P w) A (ofAClassStatement n v) Q E s := by
  intro n
  induction n with
  | zero =>
    intro k v Q hv hn hq
    cases hv with
    | tup => simp only [NestedKey.depth] at hn; omega
    | _ => exact wpAny_pure hq
  | succ n ih =>
    intro k v Q hv hn hq
    cases hv with
    | @tup b ob arr m ks hb hc hd hall =>
      simp only [NestedKey.depth] at hn
      have hps := parts_of hall (Nat.le_of_succ_le_succ hn)
      unfold ofAClassStatement
      refine wpAny_bind (wpAny_typeOf (T := "tuple") ⟨ob, hb, hc⟩ ?_)
      dsimp only
      rw [show (("tuple" : String) == "tuple") = true from by decide]
      simp only [if_true, Bool.not_true, Bool.false_eq_true, if_false]
      try refine wpAny_bind (wpAny_pure ?_)
      try simp only [Bool.not_true, Bool.false_eq_true, if_false]
      show wpAny _ _ (seqItems? (.ref b) >>= _) _ _ s
      refine wpAny_bind (wpAny_seqItems hb hd ?_)
      dsimp only
      refine wpAny_bind ?_
      show wpAny _ _ (forIn arr _ _) _ _ s
      rw [← Array.forIn_toList]
      refine wpAny_forIn_list _ (fun rest z s' => (z.1 = none ∧ s' = s) ∧ ∀ u ∈ rest, ∃ k, NestedIs s.heap k u ∧ k.depth ≤ n) _ ?_ ?_ _ _ ⟨⟨rfl, rfl⟩, hps⟩
      · rintro u rest z s' ⟨⟨hz, rfl⟩, hr⟩
        obtain ⟨k', g1, g2⟩ := hr u List.mem_cons_self
        refine wpAny_bind (ih g1 g2 ?_)
        simp only [Bool.false_eq_true, if_false]
        exact wpAny_pure ⟨⟨rfl, rfl⟩, fun u' hu' => hr u' (List.mem_cons_of_mem _ hu')⟩
      · rintro ⟨z1, z2⟩ s' ⟨⟨hz, rfl⟩, _⟩
        dsimp only at hz
        subst hz
        exact wpAny_pure hq
    | _ => exact wpAny_pure hq
theorem byValueOr : ∀ (n : Nat) {k : NestedKey} {v : Value} {Q : Bool → Shared → Prop}, NestedIs s.heap k v → (∀ b, Q b s) → wpAny (model P w) A (hashByValue n v) Q E s := by
  intro n
  induction n with
  | zero =>
    intro k v Q hv hq
    cases hv <;> exact wpAny_pure (hq _)
  | succ n ih =>
    intro k v Q hv hq
    cases hv with
    | @tup b ob arr m ks hb hc hd hall =>
      have hps := parts_of hall (Nat.le_refl _)
      unfold hashByValue
      refine wpAny_bind (wpAny_specialOf (T := "tuple") ⟨ob, hb, hc⟩ PySem.F.slot_tuple_hash.lookup ?_)
      show wpAny _ _ (seqItems? (.ref b) >>= _) _ _ s
      refine wpAny_bind (wpAny_seqItems hb hd ?_)
      refine wpAny_bind ?_
      show wpAny _ _ (forIn arr _ _) _ _ s
      rw [← Array.forIn_toList]
      refine wpAny_forIn_list _ (fun rest z s' => (z.1 = none ∧ s' = s) ∧ ∀ u ∈ rest, ∃ k, NestedIs s.heap k u ∧ k.depth ≤ NestedKey.depthAll ks) _ ?_ ?_ _ _ ⟨⟨rfl, rfl⟩, hps⟩
      · rintro u rest z s' ⟨⟨hz, rfl⟩, hr⟩
        obtain ⟨k', g1, g2⟩ := hr u List.mem_cons_self
        refine wpAny_bind (ih g1 fun b => ?_)
        cases b with
        | true =>
          simp only [Bool.not_true, Bool.false_eq_true, if_false]
          exact wpAny_pure ⟨⟨rfl, rfl⟩, fun u' hu' => hr u' (List.mem_cons_of_mem _ hu')⟩
        | false =>
          simp only [Bool.not_false, if_true]
          exact wpAny_pure (wpAny_pure (hq false))
      · rintro ⟨z1, z2⟩ s' ⟨⟨hz, rfl⟩, _⟩
        dsimp only at hz
        subst hz
        exact wpAny_pure (hq _)
    | _ => exact wpAny_pure (hq _)
/-- no member shows anything while it is looked for -/
theorem unseen {k : NestedKey} {x : Addr} {ys : List Value} {Q : Bool → Shared → Prop} (hx : KAt s.heap k x) (hy : ∀ y ∈ ys, ∃ k' c, y = .ref c ∧ KAt s.heap k' c) (hq : Q false s) :
    wpAny (model P w) A (searchCouldBeSeen (.ref x) ys) Q E s := by
  unfold searchCouldBeSeen
  refine wpAny_bind (wpAny_forIn_list _ (fun rest z s' => (z.1 = none ∧ s' = s) ∧ ∀ y ∈ rest, ∃ k' c, y = .ref c ∧ KAt s.heap k' c) _ ?_ ?_ _ _ ⟨⟨rfl, rfl⟩, hy⟩)
  · rintro y rest z s' ⟨⟨hz, rfl⟩, hr⟩
    obtain ⟨k', c, rfl, hc⟩ := hr y List.mem_cons_self
    have go : ∀ y ∈ rest, ∃ k' c, y = .ref c ∧ KAt s'.heap k' c := fun u m => hr u (List.mem_cons_of_mem _ m)
    dsimp only
    by_cases hv : (x == c || (carriedByValue (.ref x) && carriedByValue (.ref c))) = true
    · exact wp_if_pos hv (wpAny_pure ⟨⟨rfl, rfl⟩, go⟩)
    · refine wp_if_neg hv (wpAny_bind ((nestedKind P w).quiet hx ?_))
      simp only [Bool.not_true, Bool.false_eq_true, if_false]
      refine wpAny_bind ((nestedKind P w).quiet hc ?_)
      simp only [Bool.not_true, Bool.false_eq_true, if_false]
      refine wpAny_bind (notClass 8 hx.1 hx.2 ?_)
      simp only [Bool.false_eq_true, if_false]
      refine wpAny_bind (notClass 8 hc.1 hc.2 ?_)
      simp only [Bool.false_eq_true, if_false]
      exact wpAny_pure ⟨⟨rfl, rfl⟩, go⟩
  · rintro ⟨z1, z2⟩ s' ⟨⟨hz, rfl⟩, _⟩
    dsimp only at hz
    subst hz
    exact wpAny_pure hq
end
abbrev pr (m : Nat) (h : Int) (c : Nat) : SetTable.Probe := nth m (runAt m (SetTable.bits h % (m + 1)) (SetTable.bits h)) c
theorem pr_clean (m : Nat) (h : Int) : ∀ c, (pr m h c).dummy = none
  | 0 => rfl
  | c + 1 => by
    show (nth m _ (c + 1)).dummy = none
    rw [nth_succ]
    have ih := pr_clean m h c
    unfold adv
    split <;> exact ih
theorem probe_at {t : SetTable} {hs : List Int} (T : TabB t hs) {h : Int} {K c : Nat} (hf : K < 10 * SetTable.turns t.mask) (hK : way t.mask h K ∉ t.place.toList) (hb : ∀ c, c < K → way t.mask h c ∈ t.place.toList) (ha : Nat → Int) (hc : c ≤ K) :
    (∃ d i, (c ≤ d ∧ d < K) ∧ t.place.toList[i]? = some (way t.mask h d) ∧ ha i = h ∧ (∀ e j, c ≤ e → e < d → t.place.toList[j]? = some (way t.mask h e) → ha j ≠ h) ∧ t.probe ha h (pr t.mask h c) = some (.candidate (way t.mask h d) i (pr t.mask h (d + 1)))) ∨
    (∀ e j, c ≤ e → e < K → t.place.toList[j]? = some (way t.mask h e) → ha j ≠ h) ∧ t.probe ha h (pr t.mask h c) = some (.empty (way t.mask h K) none) := by
  have sh : ∀ q, nth t.mask (pr t.mask h c) q = pr t.mask h (c + q) := fun q => (nth_add t.mask c _ q).symm
  have at_ : ∀ q, (nth t.mask (pr t.mask h c) q).j = way t.mask h (c + q) := fun q => congrArg SetTable.Probe.j (sh q)
  have eK : c + (K - c) = K := by omega
  rcases go_spec t T.up T.noD ha h (10 * SetTable.turns t.mask) (K - c) _ (pr_clean t.mask h c) (by omega) (fun q hq => by rw [at_]; exact hb _ (by omega)) (by rw [at_, eK]; exact hK) with ⟨q, i, g1, g2, g3, g4, g5⟩ | ⟨g1, g2⟩
  · refine .inl ⟨c + q, i, ⟨Nat.le_add_right _ _, by omega⟩, by rw [← at_]; exact g2, g3, fun e j he1 he2 hj => g4 (e - c) j (by omega) (by rw [at_, show c + (e - c) = e by omega]; exact hj), ?_⟩
    rw [← at_, show pr t.mask h (c + q + 1) = nth t.mask (pr t.mask h c) (q + 1) from (sh (q + 1)).symm]
    exact g5
  · refine .inr ⟨fun e j he1 he2 hj => g1 (e - c) j (by omega) (by rw [at_, show c + (e - c) = e by omega]; exact hj), ?_⟩
    rw [show way t.mask h K = (nth t.mask (pr t.mask h c) (K - c)).j by rw [at_, eK]]
    exact g2
abbrev Kp2 := NestedKey × Addr
/-- what the table has for a member -/
def ent (w : World) (p : Kp2) : Int × Value := (p.1.hash w, .ref p.2)
def hashesK (w : World) (L : List Kp2) : List Int := L.map fun p => p.1.hash w
/-- the set at a: L are its members (key and address), as the table has them -/
structure KSet (w : World) (h : Heap) (a : Addr) (L : List Kp2) (es : Array (Int × Value)) (ep : Nat) (t : SetTable) : Prop where
  ob : ∃ o, h.get? a = some o ∧ o.ExactSet ∧ o.data = .set es ep t
  rows : es.toList = L.map (ent w)
  tab : TabB t (hashesK w L)
  nd : (L.map Prod.fst).Nodup
  led : w.params.followText "set-order" = true ∨ t.led = true
  room : L.length * 5 < t.mask * 3
  few : L.length < 300
def KeysAt (h : Heap) (L : List Kp2) : Prop := ∀ p ∈ L, KAt h p.1 p.2
section
variable {P : Program} {w : World} {A : Around} {E : Value → Shared → Prop} {s : Shared} {h : Heap} {a : Addr} {L : List Kp2} {es : Array (Int × Value)} {ep : Nat} {t : SetTable}
theorem sz_rows (hr : es.toList = L.map (ent w)) : es.size = L.length := by
  rw [← Array.length_toList, hr, List.length_map]
theorem KSet.at_ (R : KSet w h a L es ep t) {i : Nat} {p : Kp2} (hi : L[i]? = some p) : es[i]? = some (ent w p) := by
  rw [← Array.getElem?_toList, R.rows, List.getElem?_map, hi]
  rfl
theorem len_h (L : List Kp2) : (hashesK w L).length = L.length := List.length_map _
theorem fits_of {hs : List Int} (T : TabB t hs) {n : Nat} (hn : hs.length = n) (hm : n ≤ t.mask) : t.fits n = true := by
  unfold SetTable.fits SetTable.fill
  have e : t.dummies.size = 0 := by rw [T.noD]; rfl
  rw [T.sz, hn, e]
  simp
  omega
theorem KSet.fits (R : KSet w h a L es ep t) : t.fits es.size = true := by
  rw [sz_rows R.rows]
  have := R.room
  exact fits_of R.tab (len_h L) (by omega)
theorem look (R : KSet w s.heap a L es ep t) (M : KeysAt s.heap L) {x : Addr} {k : NestedKey} (hx : KAt s.heap k x) (hu : A.units + 8 < cLine) {K : Nat} (hf : K < 10 * SetTable.turns t.mask)
    (hK : way t.mask (k.hash w) K ∉ t.place.toList) (hb : ∀ c, c < K → way t.mask (k.hash w) c ∈ t.place.toList) {Q : SetFound → Shared → Prop}
    (yes : k ∈ L.map Prod.fst → Q (.there none) s) (no : k ∉ L.map Prod.fst → Q (.free (way t.mask (k.hash w) K) false) s) :
    ∀ (f c : Nat) (stand : Option SetTable.Probe), stand.getD (t.probeStart (k.hash w)) = pr t.mask (k.hash w) c → c ≤ K → K < f + c →
      (∀ (i : Nat) (p : Kp2), L[i]? = some p → p.1 = k → ∃ d, c ≤ d ∧ d < K ∧ t.place.toList[i]? = some (way t.mask (k.hash w) d)) → wpAny (model P w) A (setSearchFrom a (.ref x) (k.hash w) true f stand) Q E s := by
  intro f
  induction f with
  | zero => intro c stand _ h1 h2; omega
  | succ f ih =>
    intro c stand hs h1 h2 hw
    obtain ⟨o, ho, hex, hd⟩ := R.ob
    rw [setSearchFrom_succ]
    refine wpAny_bind (wpAny_setState_of ho hd R.fits ?_)
    dsimp only
    refine wp_if_neg (by unfold SetTable.gaveWay; rw [R.tab.mB.odd]; decide) ?_
    try refine wpAny_bind (wpAny_pure ?_)
    have hh : ∀ (i : Nat) (p : Kp2), L[i]? = some p → (es[i]?.map (·.1)).getD 0 = p.1.hash w := fun i p hi => by rw [R.at_ hi]; rfl
    rcases probe_at R.tab hf hK hb (fun i => (es[i]?.map (·.1)).getD 0) h1 with ⟨d, i, ⟨d1, d2⟩, hi, _, hno, hp⟩ | ⟨hno, hp⟩
    · rw [hs, hp]
      dsimp only
      have hl : i < L.length := by
        have := (List.getElem?_eq_some_iff.mp hi).1
        rw [Array.length_toList, R.tab.sz, len_h] at this
        exact this
      obtain ⟨p, hpi⟩ : ∃ p, L[i]? = some p := ⟨_, List.getElem?_eq_getElem hl⟩
      have hpm := List.mem_of_getElem? hpi
      have tail : wpAny (model P w) A (searchRest a (.ref x) (k.hash w) true f es t (way t.mask (k.hash w) d) i (pr t.mask (k.hash w) (d + 1))) Q E s := by
        unfold searchRest
        rw [R.at_ hpi]
        unfold ent
        dsimp only
        refine wpAny_bind (wpAny_holding ((nestedKind P w).eqBool hu (M p hpm) hx ?_))
        refine wpAny_bind (wpAny_setState_of ho hd R.fits ?_)
        dsimp only
        by_cases hk : p.1 = k
        · refine wp_if_pos (by simp [hk]) (wpAny_pure (yes ?_))
          exact hk ▸ List.mem_map_of_mem hpm
        · refine wp_if_neg (by simp [hk]) ?_
          try refine wpAny_bind (wpAny_pure ?_)
          have live := slot_live R.tab.up hi
          rw [sameMem]
          simp only [if_true, live, R.at_ hpi, ent]
          refine wpAny_bind (wpAny_isSame_ref_self (wpAny_bind (wpAny_pure ?_)))
          simp only [if_true]
          refine wp_if_neg (by simp [hk]) (ih (d + 1) _ rfl d2 (by omega) fun j q hj hq => ?_)
          obtain ⟨e, e1, e2, e3⟩ := hw j q hj hq
          refine ⟨e, ?_, e2, e3⟩
          rcases Nat.lt_trichotomy e d with z | z | z
          · exact absurd ((hh j q hj).trans (by rw [hq])) (hno e j e1 z e3)
          · have l2 := slot_live R.tab.up (z ▸ e3)
            rw [live] at l2
            injection l2 with l2
            rw [← l2, hpi] at hj
            exact absurd ((congrArg Prod.fst (Option.some.inj hj)).trans hq) hk
          · exact z
      by_cases hl : t.led = true
      · refine wp_if_neg (by simp [hl]) ?_
        try refine wpAny_bind (wpAny_pure ?_)
        exact tail
      · refine wp_if_pos (by simp [hl]) (wpAny_bind (unseen hx (fun y hy => ?_) ?_))
        · obtain ⟨e, he, rfl⟩ := List.mem_map.mp hy
          have he2 : e ∈ es.toList := by
            have := (show e ∈ es ∧ _ by simpa using he).1
            simpa using this
          rw [R.rows] at he2
          obtain ⟨q, hq, rfl⟩ := List.mem_map.mp he2
          exact ⟨q.1, q.2, rfl, M q hq⟩
        · refine wp_if_neg (by decide) ?_
          try refine wpAny_bind (wpAny_pure ?_)
          exact tail
    · rw [hs, hp]
      dsimp only
      refine wpAny_pure (no fun hm => ?_)
      obtain ⟨q, hq, hk⟩ := List.mem_map.mp hm
      obtain ⟨j, hj⟩ := List.mem_iff_getElem?.mp hq
      obtain ⟨e, e1, e2, e3⟩ := hw j q hj hk
      exact hno e j e1 e2 e3 ((hh j q hj).trans (by rw [hk]))
theorem look_at (R : KSet w s.heap a L es ep t) (M : KeysAt s.heap L) {x : Addr} {k : NestedKey} (hx : KAt s.heap k x) (hu : A.units + 8 < cLine) {Q : SetFound → Shared → Prop}
    (yes : k ∈ L.map Prod.fst → Q (.there none) s)
    (no : ∀ K, k ∉ L.map Prod.fst → way t.mask (k.hash w) K ∉ t.place.toList → (∀ c, c < K → way t.mask (k.hash w) c ∈ t.place.toList) → Q (.free (way t.mask (k.hash w) K) false) s) :
    wpAny (model P w) A (setSearch a (.ref x) (k.hash w) true) Q E s := by
  have hr := R.room
  obtain ⟨K, f1, f2, f3⟩ := R.tab.stop (by rw [len_h]; omega) (k.hash w)
  have big : SetTable.turns t.mask ≤ 5000 := by
    have := R.tab.mB.top
    unfold SetTable.turns
    omega
  refine look R M hx hu f1 f2 f3 yes (fun hn => no K hn f2 f3) 100000 0 none rfl (Nat.zero_le _) (by omega) fun i p hi hp => ?_
  have h1 : (hashesK w L)[i]? = some (k.hash w) := by
    unfold hashesK
    rw [List.getElem?_map, hi, ← hp]
    rfl
  have h2 : i < t.place.toList.length := by
    rw [Array.length_toList, R.tab.sz, len_h]
    exact (List.getElem?_eq_some_iff.mp hi).1
  obtain ⟨d, d1, d2⟩ := R.tab.ahead f2 h1 (List.getElem?_eq_getElem h2)
  exact ⟨d, Nat.zero_le _, d1, by rw [d2]; exact List.getElem?_eq_getElem h2⟩
end
end Qk
set_option maxRecDepth 100000
set_option maxHeartbeats 4000000
namespace Qk
open PySem PySem.Spec PyProof.Rows L2
theorem KAt.off {h h' : Heap} {k : NestedKey} {x a : Addr} {o : Obj} {es : Array (Int × Value)} {ep : Nat} {t : SetTable} (hx : KAt h k x) (ho : h.get? a = some o) (hd : o.data = .set es ep t) (hs : Heap.SameBut a h h') : KAt h' k x :=
  ⟨NestedIs.at (fun b ob vs n hb hv => (hs.2 b fun e => by
    subst e
    rw [ho] at hb
    cases hb
    rw [hd] at hv
    cases hv).trans hb) _ _ hx.1, hx.2⟩
theorem KAt.keep {h h' : Heap} {k : NestedKey} {x : Addr} (hx : KAt h k x) (hk : ∀ b o, h.get? b = some o → h'.get? b = some o) : KAt h' k x :=
  ⟨NestedIs.at (fun b ob vs n hb hv => hk b ob hb) _ _ hx.1, hx.2⟩
/-- rows taken in another order -/
theorem pick_rows {α β : Type} (g : α → β) (L : List α) (es : Array β) (hr : es.toList = L.map g) (order : Array Nat) (hp : order.toList.Perm (List.range L.length)) :
    ∃ L2 : List α, (order.filterMap (es[·]?)).toList = L2.map g ∧ L2.Perm L ∧ ∀ {γ : Type} (u : α → γ) (v : Nat → γ), (∀ i x, L[i]? = some x → v i = u x) → L2.map u = order.toList.map v := by
  have eg : ∀ i, es[i]? = (L[i]?).map g := fun i => by rw [← Array.getElem?_toList, hr, List.getElem?_map]
  refine ⟨order.toList.filterMap (L[·]?), ?_, ?_, fun u v huv => ?_⟩
  · rw [Array.toList_filterMap, List.map_filterMap]
    exact congrArg (fun f => List.filterMap f order.toList) (funext eg)
  · refine (hp.filterMap _).trans ?_
    have key : ∀ n, n ≤ L.length → (List.range n).filterMap (L[·]?) = L.take n := by
      intro n
      induction n with
      | zero => intro _; rfl
      | succ n ih =>
        intro hn
        rw [List.range_succ, List.filterMap_append, ih (by omega), List.take_add_one, List.getElem?_eq_getElem (show n < L.length by omega)]
        exact congrArg (List.take n L ++ ·) (List.filterMap_cons_some (List.getElem?_eq_getElem (show n < L.length by omega)))
    rw [key _ (Nat.le_refl _), List.take_length]
  · have : ∀ l : List Nat, (∀ i ∈ l, i < L.length) → (l.filterMap (L[·]?)).map u = l.map v := by
      intro l
      induction l with
      | nil => intro _; rfl
      | cons i l ih =>
        intro hl
        have hi := List.getElem?_eq_getElem (hl i List.mem_cons_self)
        rw [List.filterMap_cons_some hi, List.map_cons, List.map_cons, ih fun j hj => hl j (List.mem_cons_of_mem _ hj), huv i _ hi]
    exact this _ fun i hi => List.mem_range.mp (hp.mem_iff.mp hi)
section
variable {P : Program} {w : World} {A : Around} {E : Value → Shared → Prop} {s : Shared} {a : Addr} {L : List Kp2} {es : Array (Int × Value)} {ep : Nat} {t : SetTable}
/-- the table laid anew with more room -/
theorem relay {o : Obj} (ho : s.heap.get? a = some o) (hex : o.ExactSet) (hd : o.data = .set es ep t) (hr : es.toList = L.map (ent w)) (T : TabB t (hashesK w L)) (hm : L.length ≤ t.mask) (nd : (L.map Prod.fst).Nodup)
    (ld : w.params.followText "set-order" = true ∨ t.led = true) (few : L.length < 300) {wanted M : Nat} (hw : SetTable.sizeAbove wanted = M + 1) (hM : MaskB M) (hn : L.length * 5 < M * 3) {Q : Unit → Shared → Prop}
    (hQ : ∀ h' L' es' ep' t', Heap.SameBut a s.heap h' → KSet w h' a L' es' ep' t' → L'.Perm L → Q () { s with heap := h' }) : wpAny (model P w) A (setRelay a wanted) Q E s := by
  have hz := sz_rows hr
  have hfit : t.fits es.size = true := by rw [hz]; exact fits_of T (len_h L) hm
  have hM2 := hM.top
  obtain ⟨t2, order, q1, q2, q3, q4, q5⟩ := laid_anew t (hs := es.map (·.1)) (wanted := wanted) hw hM (by rw [Array.size_map, hz]; omega)
  rw [Array.size_map, hz] at q2
  obtain ⟨L2, r1, r2, r3⟩ := pick_rows (ent w) L es hr order q2
  rw [← r3 (fun p => p.1.hash w) (fun i => (es.map (·.1)).getD i 0) fun i p hp => by
    have e : es[i]? = some (ent w p) := by rw [← Array.getElem?_toList, hr, List.getElem?_map, hp]; rfl
    rw [Array.getD_eq_getD_getElem?, Array.getElem?_map, e]
    rfl] at q3
  have z2 : (order.filterMap (es[·]?)).size = L.length := by rw [sz_rows r1, r2.length_eq]
  rw [setRelay_eq]
  refine wpAny_bind (wpAny_setState_of ho hd hfit ?_)
  dsimp only
  refine wp_if_neg (by rw [sizeLine_eq]; omega) ?_
  try refine wpAny_bind (wpAny_pure ?_)
  rw [q1]
  dsimp only
  refine wpAny_bind (wp_if_neg (by rw [z2, hz]; simp) ?_)
  try refine wpAny_bind (wpAny_pure ?_)
  refine wpAny_pure ?_
  dsimp only
  refine wpAny_storeSet_of ho hd (hQ _ L2 (order.filterMap (es[·]?)) (ep + 1) t2 (Heap.SameBut.update ..) ?_ r2) (by rw [z2, sizeLine_eq]; omega)
  refine ⟨⟨_, store_at ho hd, ⟨hex.1, hex.2.1, hex.2.2⟩, rfl⟩, r1, q3, (r2.map Prod.fst).nodup_iff.mpr nd, by rw [q5]; exact ld, ?_, ?_⟩
  · rw [r2.length_eq, q4]; exact hn
  · rw [r2.length_eq]; exact few
theorem put_in (R : KSet w s.heap a L es ep t) (M : KeysAt s.heap L) {x : Addr} {k : NestedKey} (hx : KAt s.heap k x) (hu : A.units + 8 < cLine) (hfew : L.length + 1 < 300) {Q : Bool → Shared → Prop}
    (hQ : ∀ b h' L' es' ep' t', Heap.SameBut a s.heap h' → KSet w h' a L' es' ep' t' → (k ∈ L.map Prod.fst → L' = L) → (k ∉ L.map Prod.fst → L'.Perm ((k, x) :: L)) → Q b { s with heap := h' }) :
    wpAny (model P w) A (setAddHashed a (.ref x) (k.hash w)) Q E s := by
  obtain ⟨o, ho, hex, hd⟩ := id R.ob
  have hz := sz_rows R.rows
  have hroom := R.room
  unfold setAddHashed
  refine wpAny_holding ?_
  rw [show (100000 : Nat) = 99999 + 1 from rfl, setAddHashedIn_succ]
  refine wpAny_bind (wpAny_setState_of ho hd R.fits ?_)
  dsimp only
  refine wp_if_neg (by simp [byScan, Value.scannable]) ?_
  try refine wpAny_bind (wpAny_pure ?_)
  refine wpAny_bind (look_at R M hx hu (fun hm => ?_) fun K hm f2 f3 => ?_)
  · exact wpAny_pure (hQ false s.heap L es ep t (.refl a s.heap) R (fun _ => rfl) fun z => absurd hm z)
  · dsimp only
    refine wpAny_bind (wpAny_setState_of ho hd R.fits ?_)
    dsimp only
    obtain ⟨q2, q3, q9⟩ := R.tab.add f2 f3
    have q1 : (t.put (way t.mask (k.hash w) K)).2 = SetTable.below t.place (way t.mask (k.hash w) K) := rfl
    have q4 : (t.put (way t.mask (k.hash w) K)).1.mask = t.mask := rfl
    have q5 : (t.put (way t.mask (k.hash w) K)).1.led = t.led := rfl
    rw [len_h] at q2 q9
    generalize t.put (way t.mask (k.hash w) K) = pt at q1 q3 q4 q5 q9 ⊢
    obtain ⟨t1, pos⟩ := pt
    dsimp only at q1 q3 q4 q5 q9 ⊢
    subst q1
    generalize SetTable.below t.place (way t.mask (k.hash w) K) = pos at q2 q3 ⊢
    have eL : List.take pos (hashesK w L) ++ k.hash w :: List.drop pos (hashesK w L) = hashesK w (L.take pos ++ (k, x) :: L.drop pos) := by
      unfold hashesK
      rw [List.map_append, List.map_cons, List.map_take, List.map_drop]
    have er : (SetTable.insertAt es pos (k.hash w, Value.ref x)).toList = (L.take pos ++ (k, x) :: L.drop pos).map (ent w) := by
      rw [SetTable.toList_insertAt, R.rows, List.map_append, List.map_cons, List.map_take, List.map_drop]
      rfl
    rw [eL] at q3
    have pm : (L.take pos ++ (k, x) :: L.drop pos).Perm ((k, x) :: L) := by
      have z := List.perm_middle (a := (k, x)) (l₁ := L.take pos) (l₂ := L.drop pos)
      rw [List.take_append_drop] at z
      exact z
    generalize L.take pos ++ (k, x) :: L.drop pos = L1 at er pm q3
    generalize SetTable.insertAt es pos (k.hash w, Value.ref x) = es1 at er ⊢
    have l1 : L1.length = L.length + 1 := pm.length_eq
    have z1 := sz_rows er
    have nd1 : (L1.map Prod.fst).Nodup := (pm.map Prod.fst).nodup_iff.mpr (List.nodup_cons.mpr ⟨hm, R.nd⟩)
    have go : ∀ t2 : SetTable, t2.mask = t.mask → t2.led = t.led → t2.fill = L.length + 1 → TabB t2 (hashesK w L1) → wpAny (model P w) A (do
        storeSet a es1 t2
        if (!false && t2.tooFull) = true then do
          setRelay a (SetTable.grown (es.size + 1))
          pure true
        else pure true) Q E s := by
      intro t2 m1 m2 m3 T2
      have ld2 : w.params.followText "set-order" = true ∨ t2.led = true := by rw [m2]; exact R.led
      refine wpAny_bind (wpAny_storeSet_of ho hd ?_ (by rw [z1, l1, sizeLine_eq]; omega))
      have sb : Heap.SameBut a s.heap (s.heap.update a (Obj.putSet es1 t2)) := Heap.SameBut.update ..
      have ho1 := store_at (es' := es1) (t' := t2) ho hd
      generalize s.heap.update a (Obj.putSet es1 t2) = h1 at sb ho1 ⊢
      have ful : t2.tooFull = decide ((L.length + 1) * 5 ≥ t.mask * 3) := by
        unfold SetTable.tooFull
        rw [m3, m1]
      rw [ful, hz]
      by_cases c : (L.length + 1) * 5 ≥ t.mask * 3
      · refine wp_if_pos (by simpa using c) (wpAny_bind ?_)
        have nx : (t.mask = 7 ∧ L.length = 4) ∨ (t.mask = 31 ∧ L.length = 18) ∨ (t.mask = 127 ∧ L.length = 76) := by
          rcases R.tab.mB.is_ with e | e | e | e
          · exact .inl ⟨e, by omega⟩
          · exact .inr (.inl ⟨e, by omega⟩)
          · exact .inr (.inr ⟨e, by omega⟩)
          · omega
        have lay : ∀ N, SetTable.sizeAbove (SetTable.grown (L.length + 1)) = N + 1 → MaskB N → (L.length + 1) * 5 < N * 3 →
            wpAny (model P w) A (setRelay a (SetTable.grown (L.length + 1))) (fun _ s' => wpAny (model P w) A (pure true) Q E s') E { s with heap := h1 } := fun N e1 e2 e4 =>
          relay (s := { s with heap := h1 }) ho1 ⟨hex.1, hex.2.1, hex.2.2⟩ rfl er T2 (by rw [l1, m1]; rcases nx with ⟨_, _⟩ | ⟨_, _⟩ | ⟨_, _⟩ <;> omega) nd1 ld2 (by omega) (M := N) e1 e2 (by rw [l1]; exact e4)
            fun h2 L2 es2 ep2 t3 sb2 R2 p2 => wpAny_pure (hQ true h2 L2 es2 ep2 t3 (sb.trans sb2) R2 (fun z => absurd z hm) fun _ => p2.trans pm)
        rcases nx with ⟨_, e⟩ | ⟨_, e⟩ | ⟨_, e⟩
        · exact lay 31 (by rw [e]; exact size_20) mb31 (by omega)
        · exact lay 127 (by rw [e]; exact size_76) mb127 (by omega)
        · exact lay 511 (by rw [e]; exact size_308) mb511 (by omega)
      · refine wp_if_neg (by simpa using c) (wpAny_pure (hQ true h1 L1 es1 (ep + 1) t2 sb ⟨⟨_, ho1, ⟨hex.1, hex.2.1, hex.2.2⟩, rfl⟩, er, T2, nd1, ld2, by rw [l1, m1]; omega, by omega⟩ (fun z => absurd z hm) fun _ => pm))
    have g1 := go t1 q4 q5 q9 q3
    have g2 := go { t1 with plain := false } q4 q5 q9 ⟨q3.up, q3.noD, q3.many, q3.mB, q3.in_, q3.onW⟩
    by_cases hp : t1.plain = true
    · refine wp_if_pos hp (wpAny_bind (byValueOr 8 hx.1 fun b => ?_))
      cases b with
      | true => exact g1
      | false => exact g2
    · exact wp_if_neg hp (wpAny_bind (wpAny_pure g1))
theorem KSet.keep {h h' : Heap} (R : KSet w h a L es ep t) (ha : ∀ o, h.get? a = some o → h'.get? a = some o) : KSet w h' a L es ep t := by
  obtain ⟨o, ho, r⟩ := R.ob
  exact ⟨⟨o, ha o ho, r⟩, R.rows, R.tab, R.nd, R.led, R.room, R.few⟩
theorem kset_new {h : Heap} (ho : h.get? a = some { cls := .type "set", dict := none, data := .set #[] 0 (.fresh 0 0 (!w.params.followText "set-order")) }) : KSet w h a [] #[] 0 (.fresh 0 0 (!w.params.followText "set-order")) where
  ob := ⟨_, ho, ⟨rfl, rfl, rfl⟩, rfl⟩
  rows := rfl
  tab := ⟨List.Pairwise.nil, rfl, rfl, mb7, (fun x hx => nomatch hx), (fun i h j hi => nomatch hi)⟩
  nd := List.nodup_nil
  led := by
    show _ ∨ (!w.params.followText "set-order") = true
    cases w.params.followText "set-order" <;> simp
  room := by
    show 0 * 5 < 7 * 3
    decide
  few := by
    show 0 < 300
    decide
/-- L has what the first i of ks have -/
structure Has (ks : List Kp2) (i : Nat) (L : List Kp2) : Prop where
  sub : ∀ p ∈ L, p ∈ ks.take i
  all : ∀ p ∈ ks.take i, p.1 ∈ L.map Prod.fst
  len : L.length ≤ i
theorem Has.next {ks L L' : List Kp2} {i : Nat} {p : Kp2} (g : Has ks i L) (hi : ks[i]? = some p) (c1 : p.1 ∈ L.map Prod.fst → L' = L) (c2 : p.1 ∉ L.map Prod.fst → L'.Perm (p :: L)) : Has ks (i + 1) L' := by
  have et : ks.take (i + 1) = ks.take i ++ [p] := by rw [List.take_add_one, hi]; rfl
  by_cases c : p.1 ∈ L.map Prod.fst
  · rw [c1 c]
    refine ⟨fun q hq => ?_, fun q hq => ?_, Nat.le_succ_of_le g.len⟩
    · rw [et]; exact List.mem_append_left _ (g.sub q hq)
    · rw [et] at hq
      rcases List.mem_append.mp hq with z | z
      · exact g.all q z
      · rw [List.mem_singleton.mp z]; exact c
  · have pm := c2 c
    refine ⟨fun q hq => ?_, fun q hq => ?_, by rw [pm.length_eq]; exact Nat.succ_le_succ g.len⟩
    · rw [et]
      rcases List.mem_cons.mp (pm.mem_iff.mp hq) with z | z
      · rw [z]; exact List.mem_append_right _ (List.mem_singleton.mpr rfl)
      · exact List.mem_append_left _ (g.sub q z)
    · rw [(pm.map Prod.fst).mem_iff, List.map_cons]
      rw [et] at hq
      rcases List.mem_append.mp hq with z | z
      · exact List.mem_cons_of_mem _ (g.all q z)
      · rw [List.mem_singleton.mp z]; exact List.mem_cons_self
end
end Qk
set_option maxRecDepth 100000
set_option maxHeartbeats 4000000
namespace Qk
open PySem PySem.Spec PyProof.Rows L2
section
variable {P : Program} {w : World} {A : Around} {R : Result → Shared → Prop} {I : Addr} {fp wr : List Addr} {G : Array GenState → Array GenState → Prop} {n : Nat} {Pv : Nat → Value → Prop} {St : Nat → Shared → Prop}
/-- the set is filled from what is walked over -/
theorem fillK (W : WalksS P w A.in1 I fp wr G n Pv St) (S : Addr) (hSf : S ∉ fp) (ks : List Kp2) (hn : n = ks.length) (hfew : ks.length < 300) (hval : ∀ i v, Pv i v → ∃ p, ks[i]? = some p ∧ v = .ref p.2)
    (h0 : Heap) (hk : KeysAt h0 ks) (hS0 : h0.get? S = none) (hw0 : ∀ b ∈ wr, h0.get? b = none) (hu : A.in1.units + 8 < cLine) :
    ∀ (k i : Nat) (s : Shared), n - i = k → i ≤ n → St i s → (∀ b o, h0.get? b = some o → s.heap.get? b = some o) → (∃ L es ep t, KSet w s.heap S L es ep t ∧ Has ks i L) →
      (∀ s' L es ep t, Moved (S :: wr) G s s' → KSet w s'.heap S L es ep t → Has ks n L → (∀ b o, h0.get? b = some o → s'.heap.get? b = some o) → R (.ok (.ret .none)) s') →
      codeAny (model P w) A (.builtin "set.update.loop" ⟨[.ref S, .ref I], []⟩) R s := by
  have hSw : S ∉ wr := fun h => hSf (W.sub _ h)
  have hsub : ∀ b ∈ wr, b ∈ S :: wr := fun b hb => List.mem_cons_of_mem _ hb
  have old : ∀ {s s' : Shared}, Moved wr G s s' → (∀ b o, h0.get? b = some o → s.heap.get? b = some o) → ∀ b o, h0.get? b = some o → s'.heap.get? b = some o := fun hm q b o e =>
    hm.heap b o (fun m => by rw [hw0 b m] at e; cases e) (q b o e)
  intro k
  induction k with
  | zero =>
    rintro i s e hi hst q ⟨L, es, ep, t, g, gh⟩ hR
    obtain rfl : i = n := by omega
    refine codeAny_builtin PyProof.Rows.F.entry_set_update_loop ?_
    rw [Around.under_plainId PyProof.Rows.F.plain_set_update_loop _]
    exact wpAny_bind (m := pyNext (.ref I)) (W.done s _ _ hst fun s' hm => wpAny_pure (hR s' L es ep t (hm.mono hsub) (g.keep fun o e => hm.heap S o hSw e) gh (old hm q)))
  | succ k ih =>
    rintro i s e hi hst q ⟨L, es, ep, t, g, gh⟩ hR
    have hlt : i < n := by omega
    refine codeAny_builtin PyProof.Rows.F.entry_set_update_loop ?_
    rw [Around.under_plainId PyProof.Rows.F.plain_set_update_loop _]
    refine wpAny_bind (m := pyNext (.ref I)) (W.item i s _ _ hlt hst fun v s' hP hst' hm => ?_)
    obtain ⟨p, hp, rfl⟩ := hval i v hP
    have q' := old hm q
    have at' : KeysAt s'.heap ks := fun u m => (hk u m).keep q'
    have in' : KeysAt s'.heap L := fun u m => at' u (List.mem_of_mem_take (gh.sub u m))
    have hx := at' p (List.mem_of_getElem? hp)
    show wpAny _ A.in1 (holding [Value.ref p.2] (setAdd S (.ref p.2)) >>= _) _ _ s'
    refine wpAny_bind (wpAny_holding ?_)
    unfold setAdd
    refine wpAny_holding (wpAny_bind ((nestedKind P w).pyHash hu hx ?_))
    refine put_in (s := { s' with toks := s'.toks + (nestedKind P w).draws p.1 }) (g.keep fun o e => hm.heap S o hSw e) in' hx hu (by have := gh.len; omega) fun b h' L' es' ep' t' sb g2 c1 c2 => ?_
    have q2 : ∀ b o, h0.get? b = some o → h'.get? b = some o := fun b o e => (sb.2 b fun z => by rw [z, hS0] at e; cases e).trans (q' b o e)
    refine wpAny_pure ⟨plainId_quiet PyProof.Rows.F.plain_set_update_loop _, ih (i + 1) _ (by omega) hlt (W.frame _ s' _ _ hst' (Nat.le_add_right _ _) fun b hb o e => ?_) q2 ⟨L', es', ep', t', g2, gh.next hp c1 c2⟩ fun s'' L2 es2 ep2 t2 hm2 g3 gh3 q3 => ?_⟩
    · rw [sb.2 b fun z => hSf (z ▸ hb)]
      exact e
    · refine hR s'' L2 es2 ep2 t2 (Moved.trans W.gtrans ((hm.mono hsub).then_heap (Nat.le_add_right _ _) fun b o hb e => ?_) hm2) g3 gh3 q3
      rw [sb.2 b fun z => hb (by rw [z]; exact List.mem_cons_self)]
      exact e
end
section
variable {P : Program} {w : World} {A : Around} {E : Value → Shared → Prop} {s : Shared}
set_option maxHeartbeats 8000000 in
theorem setK_list {l : Addr} {items : Array Value} (ks : List Kp2) {Q : Value → Shared → Prop} (hh : A.handled = none) (hl : s.heap.IsList l items) (hi : items.toList = ks.map fun p => Value.ref p.2) (hk : KeysAt s.heap ks) (hf : ks.length < 300) (hu : A.units + 16 < cLine)
    (h : ∀ (h' : Heap) (tk : Nat) L es ep t, KSet w h' s.heap.objs.size L es ep t → Has ks ks.length L → (∀ b o, s.heap.get? b = some o → h'.get? b = some o) → Q (.ref s.heap.objs.size) { s with heap := h', toks := tk }) :
    wpAny (model P w) A (call (.type "set") [.ref l]) Q E s := by
  obtain ⟨c, tl, hmro⟩ := PySem.F.called_set.mro
  have hmade := PySem.F.called_set.made
  have hsub := PySem.F.called_set.sub
  have hsz : items.size = ks.length := by rw [← Array.length_toList, hi, List.length_map]
  refine wpAny_call (codeAny_of_tree ?_)
  show wpAny _ _ (callAny (.type "set") _) _ _ _
  refine wpAny_pure ⟨Code.quiet_builtin _ (by decide +kernel), codeAny_builtin PySem.F.entry_type_call ?_⟩
  rw [Around.under_plain (weight_type_call_type "set" [.ref l] []) rfl]
  have q1 := PySem.F.called_set.notType
  have q2 := PySem.F.called_set.canCreate
  have q3 := PySem.F.typeCall_set_1 (.ref l)
  repeat (any_goals (first | assumption | wp_step))
  obtain ⟨B, hB⟩ : ∃ B : Bool, B = !w.params.followText "set-order" := ⟨_, rfl⟩
  refine codeAny_mono (code_set_led1 (.ref l) (E := E) (Q₁ := fun v s₁ => v = .ref s.heap.objs.size ∧ s₁ = { s with heap := s.heap.push { cls := .type "set", dict := none, data := .set #[] 0 (.fresh 0 0 B) } }) ⟨rfl, by rw [hB]⟩) fun r s₁ hr => ?_
  cases r with
  | error e => exact hr
  | ok fl =>
    cases fl with
    | ret v =>
      obtain ⟨rfl, rfl⟩ := hr
      have hS : (s.heap.push { cls := .type "set", dict := none, data := .set #[] 0 (.fresh 0 0 B) }).get? s.heap.objs.size = some { cls := .type "set", dict := none, data := .set #[] 0 (.fresh 0 0 B) } := Heap.get?_push_size _ rfl
      have hT : Shared.TypeIs { s with heap := s.heap.push { cls := .type "set", dict := none, data := .set #[] 0 (.fresh 0 0 B) } } (.ref s.heap.objs.size) "set" := ⟨_, hS, rfl⟩
      have q4 := PySem.F.called_set.init.lookup
      have q5 := PySem.F.called_set.init.bind (.ref s.heap.objs.size)
      repeat (any_goals (first | assumption | wp_step))
      refine codeAny_mono (codeAny_call_builtin (R := wants (fun r s₂ => r = .none ∧ ∃ h' tk L es ep t, s₂ = { s with heap := h', toks := tk } ∧ KSet w h' s.heap.objs.size L es ep t ∧ Has ks ks.length L ∧ (∀ b o, s.heap.get? b = some o → h'.get? b = some o)) E)
        PySem.F.called_set.init.plain PySem.F.entry_set_init (check_set_init_1 hT ?_)) fun r₂ s₂ hr₂ => ?_
      · have hlS : l < s.heap.objs.size := by
          obtain ⟨ol, hol, _⟩ := hl
          exact Heap.lt_size hol
        have hl1 : (s.heap.push { cls := .type "set", dict := none, data := .set #[] 0 (.fresh 0 0 B) }).IsList l items := hl.push _
        obtain ⟨ol, hol, hcl, nl, hdl⟩ := hl1
        obtain ⟨ocls, odict, odata, oslots⟩ := ol
        simp only at hcl hdl
        subst hcl; subst hdl
        have hol' := hol
        have q6 := PySem.F.sub_list_set
        have q7 := PySem.F.sub_list_frozenset
        have q8 : (Value.type "list" == Value.type "dict") = false := by decide
        have hl1 : (s.heap.push { cls := .type "set", dict := none, data := .set #[] 0 (.fresh 0 0 B) }).IsList l items := ⟨_, hol, rfl, nl, rfl⟩
        unfold Builtin.«set.__init__» noKeywords Builtin.Frozenset.updateFrom
        generalize hPI : pyIter = PI
        wp_walk
        subst hPI
        refine wpAny_pyIter_list hl1 ?_
        refine wpAny_bind (wpAny_runValue ?_)
        have hh3 : A.in1.in1.in1.handled = none := by simp [hh]
        have hps : (s.heap.push { cls := .type "set", dict := none, data := .set #[] 0 (.fresh 0 0 B) }).objs.size = s.heap.objs.size + 1 := Heap.size_push _ _
        have hneI : l ≠ (s.heap.push { cls := .type "set", dict := none, data := .set #[] 0 (.fresh 0 0 B) }).objs.size := by
          rw [hps]
          exact Nat.ne_of_lt (Nat.lt_succ_of_lt hlS)
        have hSf : s.heap.objs.size ∉ [(s.heap.push { cls := .type "set", dict := none, data := .set #[] 0 (.fresh 0 0 B) }).objs.size, l] := by
          rw [hps]
          simp only [List.mem_cons, List.not_mem_nil, or_false, not_or]
          exact ⟨Nat.ne_of_lt (Nat.lt_succ_self _), Nat.ne_of_gt hlS⟩
        have hval : ∀ (i : Nat) (v : Value), items[i]? = some v → ∃ p, ks[i]? = some p ∧ v = .ref p.2 := fun i v hv => by
          rw [← Array.getElem?_toList, hi, List.getElem?_map] at hv
          obtain ⟨p, hp, e⟩ := Option.map_eq_some_iff.mp hv
          exact ⟨p, hp, e.symm⟩
        refine fillK ((Walks.list hh3 _ l hneI items).toS) s.heap.objs.size hSf ks hsz hf hval s.heap hk (Heap.get?_none_of_le (Nat.le_refl _)) (fun b hb => Heap.get?_none_of_le (by rw [List.mem_singleton.mp hb, hps]; exact Nat.le_succ _))
          (by simp only [Around.in1_units]; omega) (items.size - 0) 0 _ (by omega) (Nat.zero_le _) ⟨⟨_, Heap.get?_push_size _ rfl, rfl, rfl⟩, (hl1.push _)⟩ (fun b o e => Heap.get?_push_of_some _ (Heap.get?_push_of_some _ e)) ?hS0 ?hR
        case hS0 =>
          have hget : ((s.heap.push { cls := .type "set", dict := none, data := .set #[] 0 (.fresh 0 0 B) }).push { cls := .type "list_iterator", data := .fields #[.ref l, .int 0 0] }).get? s.heap.objs.size
              = some { cls := .type "set", dict := none, data := .set #[] 0 (.fresh 0 0 B) } := Heap.get?_push_of_some _ hS
          refine ⟨[], #[], 0, .fresh 0 0 B, ?_, ⟨(fun p hp => nomatch hp), (fun p hp => by simp at hp), Nat.le_refl _⟩⟩
          subst hB
          exact kset_new hget
        case hR =>
          intro s' L es ep t hm hF g hk'
          obtain ⟨h', g', d', tk', os'⟩ := s'
          have eg : g' = s.gens := hm.gens
          have ed : d' = s.drawn := hm.drawn
          have eo : os' = s.os := hm.os
          subst eg; subst ed; subst eo
          show wpAny _ _ _ _ _ _
          refine wpAny_pure ?_
          show wpAny _ _ (ret Value.none) _ _ _
          rw [hsz] at g
          exact wpAny_pure ⟨rfl, h', tk', L, es, ep, t, rfl, hF, g, hk'⟩
      · cases r₂ with
        | error e => exact hr₂
        | ok fl₂ =>
          cases fl₂ with
          | ret r =>
            obtain ⟨rfl, h', tk, L, es, ep, t, rfl, hF, g, hk'⟩ := hr₂
            repeat (any_goals (first | assumption | wp_step))
            exact h _ _ _ _ _ _ hF g hk'
          | _ => exact hr₂.elim
    | _ => exact hr.elim
set_option maxHeartbeats 8000000 in
theorem setK_tuple {l : Addr} {items : Array Value} (ks : List Kp2) {Q : Value → Shared → Prop} (hh : A.handled = none) (hl : s.heap.IsTuple l items) (hi : items.toList = ks.map fun p => Value.ref p.2) (hk : KeysAt s.heap ks) (hf : ks.length < 300) (hu : A.units + 16 < cLine)
    (h : ∀ (h' : Heap) (tk : Nat) L es ep t, KSet w h' s.heap.objs.size L es ep t → Has ks ks.length L → (∀ b o, s.heap.get? b = some o → h'.get? b = some o) → Q (.ref s.heap.objs.size) { s with heap := h', toks := tk }) :
    wpAny (model P w) A (call (.type "set") [.ref l]) Q E s := by
  obtain ⟨c, tl, hmro⟩ := PySem.F.called_set.mro
  have hmade := PySem.F.called_set.made
  have hsub := PySem.F.called_set.sub
  have hsz : items.size = ks.length := by rw [← Array.length_toList, hi, List.length_map]
  refine wpAny_call (codeAny_of_tree ?_)
  show wpAny _ _ (callAny (.type "set") _) _ _ _
  refine wpAny_pure ⟨Code.quiet_builtin _ (by decide +kernel), codeAny_builtin PySem.F.entry_type_call ?_⟩
  rw [Around.under_plain (weight_type_call_type "set" [.ref l] []) rfl]
  have q1 := PySem.F.called_set.notType
  have q2 := PySem.F.called_set.canCreate
  have q3 := PySem.F.typeCall_set_1 (.ref l)
  repeat (any_goals (first | assumption | wp_step))
  obtain ⟨B, hB⟩ : ∃ B : Bool, B = !w.params.followText "set-order" := ⟨_, rfl⟩
  refine codeAny_mono (code_set_led1 (.ref l) (E := E) (Q₁ := fun v s₁ => v = .ref s.heap.objs.size ∧ s₁ = { s with heap := s.heap.push { cls := .type "set", dict := none, data := .set #[] 0 (.fresh 0 0 B) } }) ⟨rfl, by rw [hB]⟩) fun r s₁ hr => ?_
  cases r with
  | error e => exact hr
  | ok fl =>
    cases fl with
    | ret v =>
      obtain ⟨rfl, rfl⟩ := hr
      have hS : (s.heap.push { cls := .type "set", dict := none, data := .set #[] 0 (.fresh 0 0 B) }).get? s.heap.objs.size = some { cls := .type "set", dict := none, data := .set #[] 0 (.fresh 0 0 B) } := Heap.get?_push_size _ rfl
      have hT : Shared.TypeIs { s with heap := s.heap.push { cls := .type "set", dict := none, data := .set #[] 0 (.fresh 0 0 B) } } (.ref s.heap.objs.size) "set" := ⟨_, hS, rfl⟩
      have q4 := PySem.F.called_set.init.lookup
      have q5 := PySem.F.called_set.init.bind (.ref s.heap.objs.size)
      repeat (any_goals (first | assumption | wp_step))
      refine codeAny_mono (codeAny_call_builtin (R := wants (fun r s₂ => r = .none ∧ ∃ h' tk L es ep t, s₂ = { s with heap := h', toks := tk } ∧ KSet w h' s.heap.objs.size L es ep t ∧ Has ks ks.length L ∧ (∀ b o, s.heap.get? b = some o → h'.get? b = some o)) E)
        PySem.F.called_set.init.plain PySem.F.entry_set_init (check_set_init_1 hT ?_)) fun r₂ s₂ hr₂ => ?_
      · have hlS : l < s.heap.objs.size := by
          obtain ⟨ol, hol, _⟩ := hl
          exact Heap.lt_size hol
        have hl1 : (s.heap.push { cls := .type "set", dict := none, data := .set #[] 0 (.fresh 0 0 B) }).IsTuple l items := hl.push _
        obtain ⟨ol, hol, hcl, nl, hdl⟩ := hl1
        obtain ⟨ocls, odict, odata, oslots⟩ := ol
        simp only at hcl hdl
        subst hcl; subst hdl
        have hol' := hol
        have q6 := PySem.F.sub_tuple_set
        have q7 := PySem.F.sub_tuple_frozenset
        have q8 : (Value.type "tuple" == Value.type "dict") = false := by decide
        have hl1 : (s.heap.push { cls := .type "set", dict := none, data := .set #[] 0 (.fresh 0 0 B) }).IsTuple l items := ⟨_, hol, rfl, nl, rfl⟩
        unfold Builtin.«set.__init__» noKeywords Builtin.Frozenset.updateFrom
        generalize hPI : pyIter = PI
        wp_walk
        subst hPI
        refine wpAny_pyIter_tuple hl1 ?_
        refine wpAny_bind (wpAny_runValue ?_)
        have hh3 : A.in1.in1.in1.handled = none := by simp [hh]
        have hps : (s.heap.push { cls := .type "set", dict := none, data := .set #[] 0 (.fresh 0 0 B) }).objs.size = s.heap.objs.size + 1 := Heap.size_push _ _
        have hneI : l ≠ (s.heap.push { cls := .type "set", dict := none, data := .set #[] 0 (.fresh 0 0 B) }).objs.size := by
          rw [hps]
          exact Nat.ne_of_lt (Nat.lt_succ_of_lt hlS)
        have hSf : s.heap.objs.size ∉ [(s.heap.push { cls := .type "set", dict := none, data := .set #[] 0 (.fresh 0 0 B) }).objs.size, l] := by
          rw [hps]
          simp only [List.mem_cons, List.not_mem_nil, or_false, not_or]
          exact ⟨Nat.ne_of_lt (Nat.lt_succ_self _), Nat.ne_of_gt hlS⟩
        have hval : ∀ (i : Nat) (v : Value), items[i]? = some v → ∃ p, ks[i]? = some p ∧ v = .ref p.2 := fun i v hv => by
          rw [← Array.getElem?_toList, hi, List.getElem?_map] at hv
          obtain ⟨p, hp, e⟩ := Option.map_eq_some_iff.mp hv
          exact ⟨p, hp, e.symm⟩
        refine fillK ((Walks.tuple hh3 _ l hneI items).toS) s.heap.objs.size hSf ks hsz hf hval s.heap hk (Heap.get?_none_of_le (Nat.le_refl _)) (fun b hb => Heap.get?_none_of_le (by rw [List.mem_singleton.mp hb, hps]; exact Nat.le_succ _))
          (by simp only [Around.in1_units]; omega) (items.size - 0) 0 _ (by omega) (Nat.zero_le _) ⟨⟨_, Heap.get?_push_size _ rfl, rfl, rfl⟩, (hl1.push _)⟩ (fun b o e => Heap.get?_push_of_some _ (Heap.get?_push_of_some _ e)) ?hS0 ?hR
        case hS0 =>
          have hget : ((s.heap.push { cls := .type "set", dict := none, data := .set #[] 0 (.fresh 0 0 B) }).push { cls := .type "tuple_iterator", data := .fields #[.ref l, .int 0 0] }).get? s.heap.objs.size
              = some { cls := .type "set", dict := none, data := .set #[] 0 (.fresh 0 0 B) } := Heap.get?_push_of_some _ hS
          refine ⟨[], #[], 0, .fresh 0 0 B, ?_, ⟨(fun p hp => nomatch hp), (fun p hp => by simp at hp), Nat.le_refl _⟩⟩
          subst hB
          exact kset_new hget
        case hR =>
          intro s' L es ep t hm hF g hk'
          obtain ⟨h', g', d', tk', os'⟩ := s'
          have eg : g' = s.gens := hm.gens
          have ed : d' = s.drawn := hm.drawn
          have eo : os' = s.os := hm.os
          subst eg; subst ed; subst eo
          show wpAny _ _ _ _ _ _
          refine wpAny_pure ?_
          show wpAny _ _ (ret Value.none) _ _ _
          rw [hsz] at g
          exact wpAny_pure ⟨rfl, h', tk', L, es, ep, t, rfl, hF, g, hk'⟩
      · cases r₂ with
        | error e => exact hr₂
        | ok fl₂ =>
          cases fl₂ with
          | ret r =>
            obtain ⟨rfl, h', tk, L, es, ep, t, rfl, hF, g, hk'⟩ := hr₂
            repeat (any_goals (first | assumption | wp_step))
            exact h _ _ _ _ _ _ hF g hk'
          | _ => exact hr₂.elim
    | _ => exact hr.elim
end
end Qk
set_option maxRecDepth 100000
set_option maxHeartbeats 4000000
namespace Qk
open PySem PySem.Spec PyProof.Rows L2
def keyS (x : Str) : NestedKey := .text x
def nkQ (q : Qd) : NestedKey := .tup [.tup (q.1.map keyS), .text q.2]
theorem map_keyS_inj : ∀ {xs ys : List Str}, xs.map keyS = ys.map keyS → xs = ys
  | [], [], _ => rfl
  | [], _ :: _, h => nomatch h
  | _ :: _, [], h => nomatch h
  | x :: xs, y :: ys, h => by
    injection h with h1 h2
    injection h1 with h1
    rw [h1, map_keyS_inj h2]
theorem keyQ_inj {p q : Qd} (h : nkQ p = nkQ q) : p = q := by
  unfold nkQ at h
  injection h with h
  injection h with h1 h2
  injection h1 with h1
  injection h2 with h2
  injection h2 with h2
  exact Prod.ext (map_keyS_inj h1) h2
theorem depth_keyS : ∀ xs : List Str, NestedKey.depthAll (xs.map keyS) = 0
  | [] => rfl
  | _ :: xs => by
    rw [List.map_cons, NestedKey.depthAll, depth_keyS xs]
    rfl
theorem depth_keyQ (q : Qd) : (nkQ q).depth ≤ 8 := by
  unfold nkQ
  simp only [NestedKey.depth, NestedKey.depthAll, depth_keyS]
  decide
theorem all_keyS {h : Heap} : ∀ {us : List Value} {xs : List Str}, PyProof.Rows.StrsAre us xs → NestedAll h (xs.map keyS) us
  | _, _, .nil => .nil
  | _, _, .cons x t r => .cons (.text x t) (all_keyS r)
theorem IsQ.key {h : Heap} {a : Addr} {q : Qd} (x : IsQ h (.ref a) q) : KAt h (nkQ q) a := by
  obtain ⟨a', c, o, oc, t, us, n, m, e, ho, hc, hd, hoc, hcc, hdc, hs⟩ := x
  cases e
  exact ⟨.tup ho hc hd (.cons (.tup hoc hcc hdc (by simpa using all_keyS hs)) (.cons (.text _ _) .nil)), depth_keyQ q⟩
/-- the pairs of a question and where it stands -/
abbrev QPs := List (Qd × Addr)
def toK (L : QPs) : List Kp2 := L.map fun p => (nkQ p.1, p.2)
def KSet0 (w : World) (h : Heap) (a : Addr) (L : QPs) : Prop := ∃ es ep t, KSet w h a (toK L) es ep t
/-- the set of questions at a -/
def SetQ (w : World) (a : Addr) (L : QPs) : HO := .ext fun h => KSet0 w h a L
theorem setQ_new {P : Program} {w : World} {H : Hp} {h : Heap} {a : Addr} {L : QPs} (R : KSet0 w h a L) : ObjOk P w H h a (SetQ w a L) := by
  have ⟨es, ep, t, g⟩ := R
  have ⟨o, ho, _⟩ := g.ob
  exact ⟨R, ⟨o, ho⟩, fun h1 h2 p k => by
    have ⟨es', ep', t', g'⟩ : KSet0 w h1 a L := p
    exact ⟨es', ep', t', g'.keep fun u e => k u e⟩⟩
theorem fst_toK (L : QPs) : (toK L).map Prod.fst = L.map fun p => nkQ p.1 := by
  unfold toK
  rw [List.map_map]
  rfl
theorem mem_keys {L : QPs} {q : Qd} : nkQ q ∈ (toK L).map Prod.fst ↔ q ∈ L.map Prod.fst := by
  rw [fst_toK, List.mem_map, List.mem_map]
  exact ⟨fun ⟨p, hp, e⟩ => ⟨p, hp, keyQ_inj e⟩, fun ⟨p, hp, e⟩ => ⟨p, hp, by rw [e]⟩⟩
theorem nodup_keys {L : QPs} (h : ((toK L).map Prod.fst).Nodup) : (L.map Prod.fst).Nodup := by
  rw [fst_toK] at h
  have e : (L.map fun p => nkQ p.1) = (L.map Prod.fst).map nkQ := by rw [List.map_map]; rfl
  rw [e] at h
  exact List.Pairwise.of_map nkQ (fun a b hne e => hne (congrArg nkQ e)) h
theorem refs_q : ∀ {L : QPs} {us : List Value}, Vals (L.map fun p => V.ref p.2) us → us = (toK L).map fun p => Value.ref p.2
  | [], _, .nil => rfl
  | p :: L, _, .cons r t => by
    cases r
    show _ = Value.ref p.2 :: _
    rw [refs_q t]
    rfl
section
variable {X : Cx}
theorem Inv.isQ {pins : List (Addr × Obj)} {σ : L2.St} {H : Hp} {s : Shared} {a : Addr} {q : Qd} (I : Inv X pins σ H s) (h : QAt H a q.1 q.2) : IsQ s.heap (.ref a) q := by
  obtain ⟨c, g1, g2⟩ := h
  obtain ⟨_, i1, r1, o, ho, hc, n, hd⟩ := I.hok _ _ g1
  obtain ⟨_, i2, r2, oc, hoc, hcc, m, hdc⟩ := I.hok _ _ g2
  obtain ⟨u1, u2, rfl, ra, rb⟩ := vals2 r1
  obtain rfl : u1 = Value.ref c := ra
  obtain ⟨tk, rfl⟩ := rb
  exact ⟨a, c, o, oc, tk, i2, n, m, rfl, ho, hc, hd, hoc, hcc, hdc, r2.strs⟩
theorem QL.pairs {H : Hp} : ∀ {xs : List V} {qs : List Qd}, QL H xs qs → ∃ L : QPs, xs = L.map (fun p => V.ref p.2) ∧ qs = L.map Prod.fst ∧ ∀ p ∈ L, QAt H p.2 p.1.1 p.1.2
  | _, _, .nil => ⟨[], rfl, rfl, fun p hp => nomatch hp⟩
  | _, _, .cons (b := q) ⟨t, e, z⟩ r => by
    obtain ⟨L, rfl, rfl, h⟩ := QL.pairs r
    refine ⟨(q, t) :: L, by rw [e]; rfl, rfl, fun p hp => ?_⟩
    rcases List.mem_cons.mp hp with rfl | hp
    · exact z
    · exact h p hp
/-- the members of set(xs): questions of xs, each of them once -/
structure SetOfQ (H : Hp) (xs : List V) (qs : List Qd) (M : QPs) : Prop where
  at_ : ∀ p ∈ M, QAt H p.2 p.1.1 p.1.2
  sub : ∀ p ∈ M, V.ref p.2 ∈ xs
  mem : ∀ q, q ∈ M.map Prod.fst ↔ q ∈ qs
  nd : (M.map Prod.fst).Nodup
def rSetQ (K : PySem.W.Frag) (w : World) : List V → Hp → VK → Prop := fun vs H Q => ∃ (l : Addr) (xs : List V) (qs : List Qd), vs = [.ref l] ∧ (SqL K H l xs ∨ SqT K H l xs) ∧ QL H xs qs ∧ xs.length < 300 ∧
  ∀ (p : Addr) (M : QPs), H p = none → SetOfQ H xs qs M → Q (.ref p) (upd H p (SetQ w p M))
theorem cr_setQ (hc : X.calm = true) (hu : X.A.units + 16 < cLine) : CallR X (.type "set") (rSetQ X.K X.w) := by
  intro pins s σ H vs us Q I r h
  obtain ⟨l, xs, qs, rfl, hs, hq, hz, q⟩ := h
  obtain ⟨u, rfl, rx⟩ := vals1 r
  cases rx
  obtain ⟨L, rfl, rfl, at_⟩ := hq.pairs
  have keys : KeysAt s.heap (toK L) := fun p hp => by
    obtain ⟨x, hx, rfl⟩ := List.mem_map.mp hp
    exact (Inv.isQ I (at_ x hx)).key
  have hn : H s.heap.objs.size = none := I.hok.fresh (Nat.le_refl _)
  have len : (toK L).length < 300 := by
    unfold toK
    rw [List.length_map] at hz ⊢
    exact hz
  have fin : ∀ (h' : Heap) (tk : Nat) M es ep t, KSet X.w h' s.heap.objs.size M es ep t → Has (toK L) (toK L).length M → (∀ b o, s.heap.get? b = some o → h'.get? b = some o) →
      EP X pins σ Q (.ref s.heap.objs.size) { s with heap := h', toks := tk } := fun h' tk M es ep t g gh hk => by
    have back : ∀ M : List Kp2, (∀ p ∈ M, p ∈ toK L) → ∃ M' : QPs, (∀ p ∈ M', p ∈ L) ∧ M = toK M' := by
      intro M
      induction M with
      | nil => exact fun _ => ⟨[], (fun p hp => nomatch hp), rfl⟩
      | cons x M ih =>
        intro hM
        obtain ⟨M', m1, m2⟩ := ih fun p hp => hM p (List.mem_cons_of_mem _ hp)
        obtain ⟨y, hy, e⟩ := List.mem_map.mp (hM x List.mem_cons_self)
        refine ⟨y :: M', fun p hp => ?_, ?_⟩
        · rcases List.mem_cons.mp hp with z | z
          · rw [z]; exact hy
          · exact m1 p z
        · rw [m2, ← e]; rfl
    obtain ⟨M', m1, rfl⟩ := back M fun p hp => List.mem_of_mem_take (gh.sub p hp)
    refine ⟨.ref s.heap.objs.size, _, I.laid (t' := tk) hk (Nat.le_refl _) (setQ_new ⟨es, ep, t, g⟩), rfl, q _ M' hn ⟨fun p hp => at_ p (m1 p hp), fun p hp => List.mem_map.mpr ⟨p, m1 p hp, rfl⟩, fun z => ⟨fun hz => ?_, fun hz => ?_⟩, nodup_keys g.nd⟩⟩
    · obtain ⟨p, hp, e⟩ := List.mem_map.mp hz
      exact List.mem_map.mpr ⟨p, m1 p hp, e⟩
    · obtain ⟨p, hp, rfl⟩ := List.mem_map.mp hz
      refine mem_keys.mp (gh.all (nkQ p.1, p.2) ?_)
      rw [List.take_length]
      exact List.mem_map.mpr ⟨p, hp, rfl⟩
  rcases hs with hs | hs
  · obtain ⟨its, rv, pl, _⟩ := I.list hs
    exact setK_list (toK L) (I.ok.hd hc) pl.isList (by simpa using refs_q rv) keys len hu fin
  · obtain ⟨its, rv, pl, _⟩ := I.tuple hs
    exact setK_tuple (toK L) (I.ok.hd hc) pl (by simpa using refs_q rv) keys len hu fin
/-- the question of a value that is a member -/
def kOf (M : QPs) : Value → Qd
  | .ref a => ((M.find? fun p => decide (p.2 = a)).map Prod.fst).getD ([], "")
  | _ => ([], "")
theorem kOf_at {M : QPs} {p : Qd × Addr} (hp : p ∈ M) : ∃ q ∈ M, q.2 = p.2 ∧ kOf M (.ref p.2) = q.1 := by
  cases hf : M.find? fun q => decide (q.2 = p.2) with
  | none => exact absurd (decide_eq_true rfl) (List.find?_eq_none.mp hf p hp)
  | some q =>
    refine ⟨q, List.mem_of_find?_eq_some hf, (by have := List.find?_some hf; simpa using this), ?_⟩
    show ((M.find? fun q => decide (q.2 = p.2)).map Prod.fst).getD _ = _
    rw [hf]
    rfl
def rSortSetQ (w : World) : List V → Hp → VK → Prop := fun vs H Q => ∃ (a : Addr) (M : QPs), vs = [.ref a] ∧ H a = some (SetQ w a M) ∧ (∀ p ∈ M, QAt H p.2 p.1.1 p.1.2) ∧ (∀ p ∈ M, ∀ c ∈ p.1.1, PyData.strOk c = true) ∧
  ∀ (ys : List V) (zs : List Qd) (p : Addr), H p = none → QL H ys zs → zs.Perm (M.map Prod.fst) → rising zs → (∀ y ∈ ys, ∃ q ∈ M, y = V.ref q.2) → Q (.ref p) (upd H p (.lst ys))
theorem cr_sortSetQ (hc : X.calm = true) (hu : X.A.units + 80 < cLine) : CallR X (.builtin "sorted") (rSortSetQ X.w) := by
  intro pins s σ H vs us Q I r h
  obtain ⟨a, M, rfl, ha, hm, ho, q⟩ := h
  obtain ⟨u, rfl, rx⟩ := vals1 r
  cases rx
  have ⟨es, ep, t, g⟩ : KSet0 X.w s.heap a M := (I.hok a _ ha).1
  obtain ⟨ob, gob, gex, gd⟩ := g.ob
  have hzs : es.size = M.length := by rw [sz_rows g.rows]; exact List.length_map _
  have hfew : M.length < 300 := by
    have := g.few
    unfold toK at this
    rw [List.length_map] at this
    exact this
  have hes : es.toList.map (·.2) = M.map fun p => Value.ref p.2 := by
    rw [g.rows, toK, List.map_map, List.map_map]
    rfl
  have isq : ∀ v, v ∈ (M.map fun p => Value.ref p.2) → IsQ s.heap v (kOf M v) ∧ (∀ c ∈ (kOf M v).1, PyData.strOk c = true) := fun v hv => by
    obtain ⟨p, hp, rfl⟩ := List.mem_map.mp hv
    obtain ⟨p', h1, h2, h3⟩ := kOf_at hp
    rw [h3, ← h2]
    exact ⟨Inv.isQ I (hm p' h1), ho p' h1⟩
  refine Calls.call_function_entry PyProof.Rows.kind_sorted PyProof.Rows.plain_sorted PyProof.Rows.entry_sorted (args_sorted1 _) ?_
  unfold Builtin.«sorted»
  refine wpAny_bind (m := checkCount "sorted" 1 1 _) (wpAny_pure ?_)
  refine wpAny_bind (collect_set (A := X.A.in1) (I.ok.hd hc) ⟨ob, gob, gex.1, gd⟩ g.fits (by unfold scanBound; omega) g.tab.up g.led fun s1 vs k1 hz g1 o1 pm => ?_)
  rw [hes] at pm
  have hvl : vs.length = M.length := by rw [pm.length_eq, List.length_map]
  refine wpAny_bind (wpAny_newList ?_ (by rw [sizeLine_eq]; omega))
  have hoL : (s1.heap.push (seqObj "list" vs.toArray 0)).get? s1.heap.objs.size = some (seqObj "list" vs.toArray 0) := Heap.get?_push_size _ rfl
  refine wpAny_bind (wpAny_holding (wpAny_call_entry PyProof.Rows.slot_list_sort ⟨_, hoL, rfl⟩ PyProof.Rows.entry_list_sort
    (SrtO.list_sort_ord (s := { s1 with heap := s1.heap.push (seqObj "list" vs.toArray 0) }) (swo_q (kOf M)) hoL (by rw [sizeLine_eq]; omega) (fun h2 => ?_) fun out h1 h2 => ⟨_, rfl, ?_⟩) (args_list_sort _)))
  · refine q_sortable (by show X.A.units + 1 + 1 + 64 < cLine; omega) (by omega) (fun v hv => (isq v (pm.mem_iff.mp hv)).2) (fun v hv => (isq v (pm.mem_iff.mp hv)).1.keeps fun b o e _ => Heap.get?_push_of_some _ (k1 b o e)) fun o e => ?_
    have e' : some o = some (seqObj "list" vs.toArray 0) := e.symm.trans hoL
    cases e'
    intro c
    exact absurd (Value.type.inj c) (by decide)
  · have pmO : out.Perm (M.map fun p => Value.ref p.2) := h2.perm.trans pm
    have h3 : ∀ u ∈ out, ∃ a, u = Value.ref a := fun u hu' => by
      obtain ⟨p, _, e⟩ := List.mem_map.mp (pmO.mem_iff.mp hu')
      exact ⟨p.2, e.symm⟩
    obtain ⟨n, hnO⟩ := sortedHeap_at (vs := vs) (out := out.toArray) hoL
    have old : ∀ b o, s.heap.get? b = some o → (sortedHeap (s1.heap.push (seqObj "list" vs.toArray 0)) s1.heap.objs.size vs out.toArray).get? b = some o := fun b o e => by
      have e1 := k1 b o e
      have lt := Heap.lt_size e1
      rw [sortedHeap_old (Nat.ne_of_lt lt) (by rw [size_push']; exact Nat.lt_succ_of_lt lt)]
      exact Heap.get?_push_of_some _ e1
    have hn : H s1.heap.objs.size = none := I.hok.fresh hz
    have lo : (out.map backV).length ≤ sizeLine := by rw [List.length_map, pmO.length_eq, List.length_map, sizeLine_eq]; omega
    have J : Inv X pins σ (upd H s1.heap.objs.size (.lst (out.map backV))) { s with heap := sortedHeap (s1.heap.push (seqObj "list" vs.toArray 0)) s1.heap.objs.size vs out.toArray, gens := s1.gens, drawn := s1.drawn, toks := s1.toks } :=
      I.call (ch := []) (Un.laid old hz hn) (I.hok.laid old hz ⟨lo, out, n, vals_back h3, hnO⟩) (by rw [g1]; exact I.bare) (fun _ z => nomatch z)
    have qat : ∀ v ∈ out, ∃ t, backV v = V.ref t ∧ QAt H t (kOf M v).1 (kOf M v).2 := fun v hv => by
      obtain ⟨p, hp, rfl⟩ := List.mem_map.mp (pmO.mem_iff.mp hv)
      obtain ⟨p', h1, h2, h3⟩ := kOf_at hp
      refine ⟨p.2, rfl, ?_⟩
      rw [h3, ← h2]
      exact hm p' h1
    have ql : ∀ {l : List Value}, (∀ v ∈ l, ∃ t, backV v = V.ref t ∧ QAt H t (kOf M v).1 (kOf M v).2) → QL H (l.map backV) (l.map (kOf M)) := by
      intro l
      induction l with
      | nil => exact fun _ => .nil
      | cons v l ih => exact fun hl => .cons (hl v List.mem_cons_self) (ih fun u hu' => hl u (List.mem_cons_of_mem _ hu'))
    have kk : (M.map fun p => Value.ref p.2).map (kOf M) = M.map Prod.fst := by
      rw [List.map_map]
      refine List.map_congr_left fun p hp => ?_
      obtain ⟨p', h1, h2, h3⟩ := kOf_at hp
      show kOf M (.ref p.2) = p.1
      rw [h3]
      have a1 := hm p' h1
      rw [h2] at a1
      exact QAt.uniq a1 (hm p hp)
    have hQ := q (out.map backV) (out.map (kOf M)) s1.heap.objs.size hn (ql qat) (by rw [← kk]; exact pmO.map (kOf M)) (List.pairwise_map.mpr h1) fun y hy => by
      obtain ⟨v, hv, rfl⟩ := List.mem_map.mp hy
      obtain ⟨p, hp, rfl⟩ := List.mem_map.mp (pmO.mem_iff.mp hv)
      exact ⟨p, hp, rfl⟩
    have eS : { s1 with heap := sortedHeap (s1.heap.push (seqObj "list" vs.toArray 0)) s1.heap.objs.size vs out.toArray } = { s with heap := sortedHeap (s1.heap.push (seqObj "list" vs.toArray 0)) s1.heap.objs.size vs out.toArray, gens := s1.gens, drawn := s1.drawn, toks := s1.toks } := by
      cases s1
      cases s
      cases o1
      rfl
    show wpAny _ _ _ _ _ _
    exact wpAny_pure ⟨_, rfl, by rw [eS]; exact ⟨.ref s1.heap.objs.size, _, J, rfl, hQ⟩⟩
end
end Qk
set_option maxRecDepth 100000
set_option maxHeartbeats 4000000
namespace Qk
open PySem PySem.Spec PyProof.Rows L2
structure Dist (qs zs : List Qd) : Prop where
  nd : zs.Nodup
  up : rising zs
  mem : ∀ q, q ∈ zs ↔ q ∈ qs
theorem Dist.uniq {qs rs zs ys : List Qd} (h1 : Dist qs zs) (h2 : Dist rs ys) (h : ∀ q, q ∈ qs ↔ q ∈ rs) : zs = ys :=
  perm_ltQ ((List.perm_ext_iff_of_nodup h1.nd h2.nd).mpr fun q => ((h1.mem q).trans (h q)).trans (h2.mem q).symm) h1.up h2.up
/-- what is behind place i -/
theorem cut_behind (i : Nat) (xs : List V) : cutV xs (some ((i : Int) + 1)) none = xs.drop (i + 1) := by
  have e1 : ((i : Int) + 1) = ((i + 1 : Nat) : Int) := by omega
  rw [e1]
  unfold cutV
  rw [HT.sIx_none, HT.sIx_nat]
  by_cases h : i + 1 ≤ xs.length
  · rw [Nat.min_eq_left h]
    exact List.take_of_length_le (by rw [List.length_drop]; omega)
  · rw [Nat.min_eq_right (by omega), List.drop_of_length_le (Nat.le_refl _), List.drop_of_length_le (by omega)]
    simp
end Qk
set_option maxRecDepth 100000
set_option maxHeartbeats 4000000
namespace Qk
open PySem PySem.Spec PyProof.Rows L2
def whole (cols : List Str) (e : Str) : List Str := if e = "" then cols else srt (cols ++ [e])
def fW (q : Qd) : Qd := (whole q.1 q.2, "")
def fR (q : Qd) : Qd := ([], q.1.getD 0 "")
end Qk
set_option maxRecDepth 100000
set_option maxHeartbeats 4000000
namespace PySem.W
open PySem PyProof.Rows
theorem qo_bind (self : Value) : bindSpecial (.builtin "object.__ne__") self = pure (.builtin "object.__ne__", [self]) :=
  (Slot.of (T := "object") (name := "__ne__") (owner := "object") (n := "__ne__") (by rw [typeLookup_type, builtinLookup_eq_fast]; kernel_rfl) (by decide +kernel) (by decide +kernel) (by decide +kernel)
    (.inl (by decide +kernel)) (by rw [isSubtype_type]; kernel_rfl)).bind self
theorem qo_plain : plainId "object.__ne__" = true := by decide +kernel
section
variable {prog : Program} {w : World} {A A₀ : Around} {E : Value → Shared → Prop} {s : Shared} {K : Frag} {x C L f : Addr} {h₀ : Heap} {m : Str → Option Value} {ox : Obj} {od : Option Obj} {name : Str} {b tb : Value}
/-- what an own == may answer -/
def BoolGiven (Q : Bool → Shared → Prop) (v : Value) (s' : Shared) : Prop := ∃ r, v = .bool r ∧ Q r s'
theorem qo_ne {Q : Value → Shared → Prop} (hu : A.units + 1 < cLine) (F : Fr h₀ L s.heap m) (X₀ : K.In h₀) (I : InstAt s.heap x ox C od) (hb : Looks (model prog w) s.heap (typeOf b) tb) (hn : notFirst K C tb = true)
    (hs : findIn K (.ref C) "__ne__" = some (some (.builtin "object.__ne__"))) (hq : findIn K (.ref C) "__eq__" = some (some (.ref f))) (hf : isFn K (.ref f) = true) (ho : subIn K (.ref C) (.type "object") = some true)
    (h : wpAny (model prog w) A.in1 (call (.ref f) [.ref x, b]) (BoolGiven fun r s' => Q (.bool (!r)) s') E s) : wpAny (model prog w) A (richCompare .NotEq (.ref x) b) Q E s := by
  have X := X₀.keeps F.keep
  have hi : Looks (model prog w) s.heap (isInstance (.ref x) (.type "object")) true := I.type.andThen (looks_subIn X ho)
  have run : wpAny (model prog w) A.in1 (Builtin.«object.__ne__» ⟨[.ref x, b], []⟩) (fun fin s' => match fin with | .done fl => (match fl with | .ret v => Q v s' ∧ ∃ r, v = .bool r | _ => False) | .again _ => False) E s := by
    unfold Builtin.«object.__ne__»
    show wpAny _ _ (do
      cRoomFor "comparison" [.ref x, b]
      match ← callSpecialIfBound? (.ref x) "__eq__" [b] with
      | some .notImplemented | none => ret .notImplemented
      | some r => ret (.bool (!(← truthy r)))) _ _ s
    refine wpAny_bind (wpAny_cRoomFor (by show A.units + 1 < cLine; exact hu) ?_)
    refine wpAny_bind (ifBound_K X I hq hf (wpAny_mono h (fun v s' hv => ?_) fun _ _ e => e))
    obtain ⟨r, rfl, hr⟩ := hv
    show wpAny _ _ (truthy (.bool r) >>= fun t => ret (.bool (!t))) _ _ s'
    refine wpAny_bind (wpAny_truthy_bool (wpAny_pure ?_))
    exact ⟨hr, _, rfl⟩
  have one : wpAny (model prog w) A (tryCompare (.ref x) (cmpInfo .NotEq).2.1 b) (fun r s' => ∃ v, r = some v ∧ Q v s') E s := by
    unfold tryCompare
    refine wpAny_bind ?_
    simp only [callSpecialIfBound?, bindSpecialIfBound?]
    refine wpAny_holding (wpAny_bind (wpAny_bind (wpAny_bind (I.type.here ((looks_findIn X hs).here ?_)))))
    have fin : wpAny (model prog w) A (call (.builtin "object.__ne__") ([.ref x] ++ [b]) >>= fun v => pure (some v)) (fun r s' => wpAny (model prog w) A (match r with | some .notImplemented | none => pure none | some v => pure (some v)) (fun r s' => ∃ v, r = some v ∧ Q v s') E s') E s := by
      refine wpAny_bind (wpAny_call (codeAny_call_builtin qo_plain PySem.F.cmpEntry_ne (check_slot PySem.F.cmpKind_ne PySem.F.cmpSplit_ne hi (PySem.F.cmpArgs_ne _ _) (wpAny_mono run (fun fin s' hv => ?_) fun _ _ e => e))))
      cases fin with
      | again c => exact hv.elim
      | done fl =>
        cases fl with
        | ret v =>
          obtain ⟨q, r, rfl⟩ := hv
          exact wpAny_pure (wpAny_pure ⟨_, rfl, q⟩)
        | _ => exact hv.elim
    refine wpAny_bind (wpAny_askSetting (wpAny_ite ?_))
    simp only [qo_bind]
    split
    · exact wpAny_bind (wpAny_pure (wpAny_pure (by exact fin)))
    · exact wpAny_tryCatch (wpAny_bind (wpAny_pure (wpAny_pure (by exact fin))))
  unfold richCompare
  simp only [oneThing_ref]
  refine wpAny_holding (wpAny_bind (wpAny_cRoomFor (Nat.lt_of_succ_lt hu) ?_))
  refine wpAny_bind (I.type.here (wpAny_bind (hb.here ?_)))
  split
  · rename_i q
    have e : subIn K tb (.ref C) = some false := by
      rcases Bool.or_eq_true_iff.mp hn with e | e
      · rw [beq_iff_eq.mp e] at q; simp at q
      · exact beq_iff_eq.mp e
    refine wpAny_bind ((looks_subIn X e).here ?_)
    simp only [Bool.false_eq_true, if_false]
    refine wpAny_bind (wpAny_mono one (fun r s' z => ?_) fun _ _ e => e)
    obtain ⟨v, rfl, hq⟩ := z
    exact wpAny_pure hq
  · refine wpAny_bind (wpAny_pure ?_)
    simp only [Bool.false_eq_true, if_false]
    refine wpAny_bind (wpAny_mono one (fun r s' z => ?_) fun _ _ e => e)
    obtain ⟨v, rfl, hq⟩ := z
    exact wpAny_pure hq
end
end PySem.W
namespace Qk
open PySem PySem.Spec PyProof.Rows L2
/-- what a class with an own == has in the written part -/
structure OwnEq (K : PySem.W.Frag) (C f : Addr) : Prop where
  eq : PySem.W.findIn K (.ref C) "__eq__" = some (some (.ref f))
  fn : PySem.W.isFn K (.ref f) = true
  ne : PySem.W.findIn K (.ref C) "__ne__" = some (some (.builtin "object.__ne__"))
  ob : PySem.W.subIn K (.ref C) (.type "object") = some true
section
variable {X : Cx} {C f : Addr} {fd : FuncData} {n : Nat} {sp : Sp}
/-- x == y by x's own ==; x != y: the opposite -/
def rOwn (K : PySem.W.Frag) (C : Addr) (sp : Sp) (neg : Bool) : R2 := fun x y H Q => ∃ (a dx : Addr) (fs : List (Str × V)) (tb : Value), x = .ref a ∧ H a = some (.ins C dx fs) ∧ TyX K H y tb ∧ PySem.W.notFirst K C tb = true ∧
  sp [x, y] H (fun v H' => ∃ r, v = .bl r ∧ Q (.bl (if neg = true then !r else r)) H') E0
theorem run_own {A : Around} {pins : List (Addr × Obj)} {σ : L2.St} {H : Hp} {s : Shared} {Q : VK} {us : List Value} {vs : List V} (F : FnOk X.prog X.w X.K X.mg X.base CX0 n f fd ["self", "other"] sp) (hA : Sub X n A) (hb : Binds X.K fd ["self", "other"] [])
    (I : Inv X pins σ H s) (r : Vals vs us) (h : sp vs H Q E0) : wpAny (model X.prog X.w) A (call (.ref f) us) (EP X pins σ Q) X.xe s := by
  have e0 : Env0 X.prog X.w X.K X.mg X.base A X.stack s H := by
    have e := I.env0
    exact ⟨by rw [hA.fr]; exact e.frames, e.mod, e.bs, e.bsz, e.funs, e.frf, e.hok, e.bare⟩
  have hl : (us ++ ([] : List Value)).length = ["self", "other"].length := by
    rw [List.append_nil, ← r.length]
    exact F.len _ _ _ _ h
  have hbd := hb s us I.kIn hl
  rw [List.append_nil] at hbd
  refine wpAny_call (codeAny_mono (F.run A X.stack s H ⟨us, []⟩ us vs Q E0 hA.room e0 hbd r h) fun r s' hq => ?_)
  cases r with
  | error e => exact False.elim hq
  | ok fl =>
    cases fl with
    | ret u => exact I.after hq
    | next => exact False.elim hq
    | brk => exact False.elim hq
    | cont => exact False.elim hq
theorem op_eqO (O : OwnEq X.K C f) (F : FnOk X.prog X.w X.K X.mg X.base CX0 n f fd ["self", "other"] sp) (hr : Room n X.A) (hb : Binds X.K fd ["self", "other"] []) : OpR X (compareOp .Eq) (rOwn X.K C sp false) := by
  intro pins s σ H x y v u Q I rx ry hq
  obtain ⟨a, dx, fs, tb, rfl, ha, ty, hn, h⟩ := hq
  cases rx
  obtain ⟨P, Z, hP, _⟩ := kit_of I ry ty
  obtain ⟨mA, J, _⟩ := ins_get I.hok ha
  obtain ⟨od, J, _⟩ := J.look
  obtain ⟨m, hF⟩ := I.fr
  refine PySem.W.cmp_K (op := .Eq) (tb := tb) hr.units0 hF I.ok.mod.kin J (Z.ty _ _ I.kIn hP) hn O.eq O.fn ?_
  refine wpAny_mono (run_own (us := [.ref a, u]) (vs := [.ref a, y]) F ⟨hr, rfl⟩ hb I (.cons rfl (.cons ry .nil)) h) (fun r s' z => ?_) fun _ _ e => e
  obtain ⟨w, H', I', rw', r, rfl, q⟩ := z
  cases rw'
  exact ⟨.bl r, H', I', rfl, q⟩
theorem op_neO (O : OwnEq X.K C f) (F : FnOk X.prog X.w X.K X.mg X.base CX0 n f fd ["self", "other"] sp) (hr : Room (n + 1) X.A) (hb : Binds X.K fd ["self", "other"] []) : OpR X (compareOp .NotEq) (rOwn X.K C sp true) := by
  intro pins s σ H x y v u Q I rx ry hq
  obtain ⟨a, dx, fs, tb, rfl, ha, ty, hn, h⟩ := hq
  cases rx
  obtain ⟨P, Z, hP, _⟩ := kit_of I ry ty
  obtain ⟨mA, J, _⟩ := ins_get I.hok ha
  obtain ⟨od, J, _⟩ := J.look
  obtain ⟨m, hF⟩ := I.fr
  show wpAny (model X.prog X.w) X.A (richCompare .NotEq (.ref a) u) (EP X pins σ Q) X.xe s
  refine PySem.W.qo_ne (tb := tb) (by have := hr.units; omega) hF I.ok.mod.kin J (Z.ty _ _ I.kIn hP) hn O.ne O.eq O.fn O.ob ?_
  refine wpAny_mono (run_own (us := [.ref a, u]) (vs := [.ref a, y]) F (Sub.in1 ⟨hr, rfl⟩) hb I (.cons rfl (.cons ry .nil)) h) (fun r s' z => ?_) fun _ _ e => e
  obtain ⟨w, H', I', rw', r, rfl, q⟩ := z
  cases rw'
  exact ⟨r, rfl, .bl (!r), H', I', rfl, q⟩
end
end Qk
set_option maxRecDepth 100000
set_option maxHeartbeats 4000000
namespace Qk
open PySem PySem.Spec PyProof.Rows L2
/-- a column, as a text -/
def colS (z : Str) : Bool := (decide (1 ≤ z.cps.size) && decide (z.cps.size ≤ 8)) && z.cps.toList.all fun c => decide (97 ≤ c) && decide (c ≤ 122)
theorem menu_col : ∀ c ∈ menu, colS c = true := by decide +kernel
theorem ascii_tab : ((List.range 128).all fun c => (Unicode.isAlpha c == (decide (65 ≤ c) && decide (c ≤ 90) || decide (97 ≤ c) && decide (c ≤ 122))) && (Unicode.isLower c == (decide (97 ≤ c) && decide (c ≤ 122))) &&
    ((Unicode.isUpper c || Unicode.isTitle c) == (decide (65 ≤ c) && decide (c ≤ 90)))) = true := by decide +kernel
theorem ascii_facts {c : Nat} (h : c < 128) : Unicode.isAlpha c = (decide (65 ≤ c) && decide (c ≤ 90) || decide (97 ≤ c) && decide (c ≤ 122)) ∧ Unicode.isLower c = (decide (97 ≤ c) && decide (c ≤ 122)) ∧
    (Unicode.isUpper c || Unicode.isTitle c) = (decide (65 ≤ c) && decide (c ≤ 90)) := by
  have := List.all_eq_true.mp ascii_tab c (List.mem_range.mpr h)
  simp only [Bool.and_eq_true, beq_iff_eq] at this
  exact ⟨this.1.1, this.1.2, this.2⟩
/-- s.isascii() and s.isalpha() and s.islower(): all signs are a to z, and there is one -/
theorem low_iff (z : Str) (h : 1 ≤ z.cps.size) : (Txt.isascii z && (Txt.isalpha z && Txt.islower z)) = z.cps.toList.all fun c => decide (97 ≤ c) && decide (c ≤ 122) := by
  have e1 : Txt.isascii z = z.cps.toList.all fun c => decide (c < 128) := by
    show z.cps.all (· < 128) = _
    rw [← Array.all_toList]
  have e2 : Txt.isalpha z = z.cps.toList.all Unicode.isAlpha := by
    show (decide (z.length > 0) && z.cps.all Unicode.isAlpha) = _
    rw [decide_eq_true (show z.length > 0 from h), Bool.true_and, ← Array.all_toList]
  have e3 : Txt.islower z = (z.cps.toList.any Unicode.isLower && !z.cps.toList.any fun c => Unicode.isUpper c || Unicode.isTitle c) := by
    show (z.cps.any Unicode.isLower && !z.cps.any fun c => Unicode.isUpper c || Unicode.isTitle c) = _
    rw [← Array.any_toList, ← Array.any_toList]
  rw [e1, e2, e3]
  have hl : z.cps.toList ≠ [] := by
    intro q
    have : z.cps.toList.length = 0 := by rw [q]; rfl
    rw [Array.length_toList] at this
    omega
  generalize z.cps.toList = l at hl
  rw [Bool.eq_iff_iff]
  simp only [Bool.and_eq_true, List.all_eq_true, List.any_eq_true, Bool.not_eq_true', List.any_eq_false, decide_eq_true_eq]
  constructor
  · rintro ⟨ha, hb, ⟨d, hd, hdl⟩, hc⟩ c hcm
    obtain ⟨f1, f2, f3⟩ := ascii_facts (ha c hcm)
    have h1 := hb c hcm
    have h2 := hc c hcm
    rw [f3] at h2
    rw [f1] at h1
    simp only [Bool.or_eq_true, Bool.and_eq_true, decide_eq_true_eq] at h1 h2
    rcases h1 with h1 | h1
    · exact absurd h1 h2
    · exact h1
  · intro ha
    have lt : ∀ c ∈ l, c < 128 := fun c hc => by
      have := ha c hc
      omega
    refine ⟨lt, fun c hc => ?_, ?_, fun c hc => ?_⟩
    · rw [(ascii_facts (lt c hc)).1]
      have := ha c hc
      simp only [Bool.or_eq_true, Bool.and_eq_true, decide_eq_true_eq]
      exact .inr this
    · obtain ⟨c, hc⟩ := List.exists_mem_of_ne_nil l hl
      refine ⟨c, hc, ?_⟩
      rw [(ascii_facts (lt c hc)).2.1]
      have := ha c hc
      simp only [Bool.and_eq_true, decide_eq_true_eq]
      exact this
    · rw [(ascii_facts (lt c hc)).2.2]
      have := ha c hc
      simp only [Bool.and_eq_true, decide_eq_true_eq]
      omega
end Qk
set_option maxRecDepth 100000
set_option maxHeartbeats 4000000
namespace Qk
open PySem PySem.Spec PyProof.Rows L2
/-- all columns of a question, ascending -/
def allC (cols : List Str) (e : Str) : List Str := if e = "" then cols else srt (cols ++ [e])
theorem srt_self {xs : List Str} (h : sortedS xs = true) : srt xs = xs := (srt_eq (List.Perm.refl _) h).symm
theorem mem_all {cols : List Str} {e z : Str} (h : z ∈ allC cols e) : z ∈ cols ∨ (z = e ∧ e ≠ "") := by
  unfold allC at h
  split at h
  · exact .inl h
  · rename_i ne
    have := (srt_perm _).mem_iff.mp h
    rcases List.mem_append.mp this with q | q
    · exact .inl q
    · exact .inr ⟨List.mem_singleton.mp q, ne⟩
/-- a question as k13 has it -/
structure QZ (cols : List Str) (e : Str) : Prop where
  m : QM cols e
  ne : e ∉ cols
  le : cols.length + (if e = "" then 0 else 1) ≤ 12
theorem QZ.all_le {cols : List Str} {e : Str} (h : QZ cols e) : (allC cols e).length ≤ 12 := by
  have := h.le
  unfold allC
  split
  · rename_i q
    rw [if_pos q] at this
    omega
  · rename_i q
    rw [if_neg q] at this
    rw [srt_len, List.length_append]
    simpa using this
theorem QZ.menu {cols : List Str} {e : Str} (h : QZ cols e) : ∀ z ∈ allC cols e, z ∈ menu := fun z hz => by
  rcases mem_all hz with q | ⟨rfl, ne⟩
  · exact h.m.sub _ q
  · exact h.m.esub.resolve_left ne
theorem nodup_len : ∀ (l D : List Str), l.Nodup → (∀ x ∈ l, x ∈ D) → l.length ≤ D.length
  | [], _, _, _ => Nat.zero_le _
  | x :: l, D, hn, hs => by
    obtain ⟨h1, h2⟩ := List.nodup_cons.mp hn
    have hx : x ∈ D := hs x List.mem_cons_self
    have ih := nodup_len l (D.erase x) h2 fun y hy => (List.mem_erase_of_ne (by rintro rfl; exact h1 hy)).2 (hs y (List.mem_cons_of_mem _ hy))
    have e := List.length_erase_of_mem hx
    have hp : 0 < D.length := List.length_pos_of_mem hx
    rw [List.length_cons]
    omega
theorem Qok.qz {xs cols : List Str} {e : Str} (h : Qok xs cols e) (R : Row xs) : QZ cols e := by
  refine ⟨h.qm R.sub, h.ne, ?_⟩
  have hsub : ∀ z ∈ (if e = "" then cols else cols ++ [e]), z ∈ xs := fun z hz => by
    split at hz
    · exact h.sub _ hz
    · rename_i ne
      rcases List.mem_append.mp hz with q | q
      · exact h.sub _ q
      · rw [List.mem_singleton.mp q]
        exact h.esub.resolve_left ne
  have hnd : (if e = "" then cols else cols ++ [e]).Nodup := by
    split
    · exact h.nd
    · rw [List.nodup_append]
      exact ⟨h.nd, by simp, fun a ha b hb => by rw [List.mem_singleton.mp hb]; exact fun q => h.ne (q ▸ ha)⟩
  have hle := nodup_len _ _ hnd hsub
  have := R.le
  split
  · rename_i q
    rw [if_pos q] at hle
    omega
  · rename_i q
    rw [if_neg q, List.length_append] at hle
    simp at hle
    omega
/-- the columns of a question as they stand -/
def rowC (cols : List Str) (e : Str) : List Str := if e = "" then cols else cols ++ [e]
theorem mem_row {cols : List Str} {e z : Str} : z ∈ rowC cols e ↔ z ∈ allC cols e := by
  unfold rowC allC
  split
  · exact Iff.rfl
  · exact (srt_perm _).mem_iff.symm
theorem row_len {cols : List Str} {e : Str} : (rowC cols e).length = (allC cols e).length := by
  unfold rowC allC
  split
  · rfl
  · rw [srt_len]
theorem QZ.row_le {cols : List Str} {e : Str} (h : QZ cols e) : (rowC cols e).length ≤ 12 := by
  rw [row_len]
  exact h.all_le
def spRow : Sp := fun vs H Q _ => ∃ (q : Addr) (cols : List Str) (e : Str), vs = [.ref q] ∧ QAt H q cols e ∧ QZ cols e ∧ ∀ (t : Addr) (H' : Hp), Same H H' → H' t = some (.tup ((rowC cols e).map V.str)) → Q (.ref t) H'
def spCols : Sp := fun vs H Q _ => ∃ (q : Addr) (cols : List Str) (e : Str), vs = [.ref q] ∧ QAt H q cols e ∧ QZ cols e ∧ ∀ (t : Addr) (H' : Hp), Same H H' → H' t = some (.tup ((allC cols e).map V.str)) → Q (.ref t) H'
/-- what k13 asks of two questions -/
def belowQ (p q : Qd) : Bool := !decide (p = q) && decide (∀ z ∈ allC p.1 p.2, z ∈ q.1)
def shareQ (p q : Qd) : Bool := decide (p = q) || (belowQ p q || belowQ q p)
theorem QZ.fine {cols : List Str} {e : Str} (h : QZ cols e) : Qfine (cols, e) := ⟨fun c hc => menu_okS _ (h.m.sub _ hc), h.m.esub.elim (fun q => by show okS e = true; rw [q]; exact okS_empty) (fun m => menu_okS _ m), h.m.le⟩
def QZs (qs : List Qd) : Prop := ∀ q ∈ qs, QZ q.1 q.2
theorem QZ.strOk {cols : List Str} {e : Str} (h : QZ cols e) : ∀ c ∈ cols, PyData.strOk c = true := fun c hc => menu_ok _ (h.m.sub _ hc)
end Qk
set_option maxRecDepth 100000
set_option maxHeartbeats 4000000
namespace Qk
open PySem PySem.Spec PyProof.Rows L2
def grow (acc : List (List Str)) (c : Str) : List (List Str) := acc ++ acc.map fun p => p ++ [c]
def partsOf (ns : List Str) : List (List Str) := ns.foldl grow [[]]
theorem partsOf_take {ns : List Str} {i : Nat} {c : Str} (h : ns[i]? = some c) : partsOf (ns.take (i + 1)) = grow (partsOf (ns.take i)) c := by
  have et : ns.take (i + 1) = ns.take i ++ [c] := by rw [List.take_add_one, h]; rfl
  unfold partsOf
  rw [et, List.foldl_append]
  rfl
/-- what holds of the parts, by their making -/
theorem parts_ind {C : List Str → List (List Str) → Prop} (h0 : C [] [[]]) (hs : ∀ ns c ps, C ns ps → C (ns ++ [c]) (grow ps c)) (ns : List Str) : C ns (partsOf ns) := by
  have go : ∀ (xs ys : List Str) (ps : List (List Str)), C ys ps → C (ys ++ xs) (xs.foldl grow ps) := by
    intro xs
    induction xs with
    | nil =>
      intro ys ps h
      rw [List.append_nil]
      exact h
    | cons x xs ih =>
      intro ys ps h
      have := ih (ys ++ [x]) (grow ps x) (hs _ _ _ h)
      rw [List.append_assoc] at this
      exact this
  exact go ns [] [[]] h0
theorem parts_len (ns : List Str) : (partsOf ns).length = 2 ^ ns.length :=
  parts_ind (C := fun ns ps => ps.length = 2 ^ ns.length) rfl (fun ns c ps h => by
    unfold grow
    rw [List.length_append, List.length_map, h, List.length_append]
    show _ = 2 ^ (ns.length + 1)
    rw [Nat.pow_succ]
    omega) ns
theorem parts_sub (ns : List Str) : ∀ p ∈ partsOf ns, p.Sublist ns :=
  parts_ind (C := fun ns ps => ∀ p ∈ ps, p.Sublist ns) (fun p hp => by rw [List.mem_singleton.mp hp]; exact List.Sublist.refl _) (fun ns c ps h p hp => by
    rcases List.mem_append.mp hp with q | q
    · exact (h p q).trans (List.sublist_append_left _ _)
    · obtain ⟨r, hr, rfl⟩ := List.mem_map.mp q
      exact List.Sublist.append (h r hr) (List.Sublist.refl _)) ns
/-- the columns that a part leaves -/
def left (ns p : List Str) : List Str := ns.filter fun c => !decide (c ∈ p)
def plainQ (ns : List Str) : List Qd := ((partsOf ns).filter fun p => !decide (p = [])).map fun p => (p, ("" : Str))
def rangedOf (ns p : List Str) : List Qd := (left ns p).map fun c => (p, c)
def rangedQ (ns : List Str) : List Qd := (partsOf ns).flatMap (rangedOf ns)
/-- as the law lists them -/
def everyOf (ns p : List Str) : List Qd := (if p = [] then [] else [(p, ("" : Str))]) ++ rangedOf ns p
def everyQ (ns : List Str) : List Qd := (partsOf ns).flatMap (everyOf ns)
theorem mem_ranged {ns p : List Str} {q : Qd} : q ∈ rangedOf ns p ↔ q.1 = p ∧ q.2 ∈ ns ∧ q.2 ∉ p := by
  unfold rangedOf left
  rw [List.mem_map]
  constructor
  · rintro ⟨c, hc, rfl⟩
    obtain ⟨h1, h2⟩ := List.mem_filter.mp hc
    exact ⟨rfl, h1, by simpa using h2⟩
  · rintro ⟨h1, h2, h3⟩
    exact ⟨q.2, List.mem_filter.mpr ⟨h2, by simpa using h3⟩, by rw [← h1]⟩
theorem mem_plain {ns : List Str} {q : Qd} : q ∈ plainQ ns ↔ q.1 ∈ partsOf ns ∧ q.1 ≠ [] ∧ q.2 = "" := by
  unfold plainQ
  rw [List.mem_map]
  constructor
  · rintro ⟨p, hp, rfl⟩
    obtain ⟨h1, h2⟩ := List.mem_filter.mp hp
    exact ⟨h1, by simpa using h2, rfl⟩
  · rintro ⟨h1, h2, h3⟩
    exact ⟨q.1, List.mem_filter.mpr ⟨h1, by simpa using h2⟩, by rw [← h3]⟩
theorem mem_every {ns : List Str} {q : Qd} : q ∈ everyQ ns ↔ q ∈ plainQ ns ∨ q ∈ rangedQ ns := by
  unfold everyQ rangedQ
  rw [mem_plain, List.mem_flatMap, List.mem_flatMap]
  constructor
  · rintro ⟨p, hp, hq⟩
    unfold everyOf at hq
    rcases List.mem_append.mp hq with h | h
    · split at h
      · cases h
      · rename_i ne
        obtain rfl := List.mem_singleton.mp h
        exact .inl ⟨hp, ne, rfl⟩
    · exact .inr ⟨p, hp, h⟩
  · rintro (⟨h1, h2, h3⟩ | ⟨p, hp, h⟩)
    · refine ⟨q.1, h1, List.mem_append_left _ ?_⟩
      rw [if_neg h2]
      exact List.mem_singleton.mpr (Prod.ext rfl h3)
    · exact ⟨p, hp, List.mem_append_right _ h⟩
end Qk
set_option maxRecDepth 100000
set_option maxHeartbeats 4000000
namespace Qk
open PySem PySem.Spec PyProof.Rows L2 ItX
structure OwnIt (K : PySem.W.Frag) (C fi : Addr) : Prop where
  it : PySem.W.findIn K (.ref C) "__iter__" = some (some (.ref fi))
  fn : PySem.W.isFn K (.ref fi) = true
/-- defs whose promise may speak of how many objects there are when they begin -/
structure FnS (P : Program) (w : World) (K : PySem.W.Frag) (mg : Str → Option Value) (base : Heap) (k : Nat) (f : Addr) (fd : FuncData) (ps : List Str) (sp : Nat → Sp) : Prop where
  len : ∀ N vs H Q E, sp N vs H Q E → vs.length = ps.length
  run : ∀ (A : Around) (outer : List Env) (s : Shared) (H : Hp) (args : Args) (us : List Value) (vs : List V) (Q : VK) (E : XK), Room k A → Env0 P w K mg base A outer s H →
    BindsTo s fd args (ps.zip us) → Vals vs us → sp s.heap.objs.size vs H Q E → codeAny (model P w) A (.call (.ref f) args) (CR CX0 outer P w H s Q E) s
section
variable {P : Program} {w : World} {K : PySem.W.Frag} {mg : Str → Option Value} {base : Heap}
theorem okN {x qual : Str} {st : Stmt} {f : Addr} {fd : FuncData} {N ps : List Str} {k : Nat} {sp : Nat → Sp} (F : Fun K x qual st f fd) (S : FnScope N ps (defScope st)) (len : ∀ n vs H Q E, sp n vs H Q E → vs.length = ps.length)
    (body : ∀ (cdv : Value) (A : Around) (outer : List Env) (s : Shared) (H : Hp) (vs : List V) (Q : VK) (E : XK), Room k (A.deeper (envOfC qual (defScope st) s.heap.objs.size f cdv)) → sp s.heap.objs.size vs H Q E →
      ∃ t, PSs (cxOf CX0 P w K mg base N qual (defScope st) f cdv A outer s H E).nox (defBody st) t ∧ t { nx := fun _ H' => Q .non H', rt := Q } (start N vs) H) : FnS P w K mg base (k + 1) f fd ps sp := by
  refine ⟨len, fun A outer s H args us vs Q E hr e0 hb rv hsp => ?_⟩
  obtain ⟨oc, od, kV, doc, pm, an, cdv, ct, osl, rfl, lk, hcd⟩ := F.ex
  have hlen := len _ _ _ _ _ hsp
  have stay : ∀ b o, base.get? b = some o → s.heap.get? b = some o := fun b o e => (e0.bs b o e).1
  have inK : K.In s.heap := e0.mod.kin.keeps stay
  have pars : ∀ y ∈ ps.zip us, (defScope st).names.lookup y.1 = some .local ∨ ((defScope st).names.lookup y.1 = some .cell ∧ ((cellsFrom (s.heap.objs.size + 1) (defScope st).names []).lookup y.1).isSome = true) := by
    rintro ⟨nm, v⟩ hy
    exact (S.par nm (List.of_mem_zip hy).1).imp id fun q => ⟨q, PySem.W.cellsFrom_some _ _ _ (.inl q)⟩
  refine codeAny_call_function hr.depth (inK _ _ lk) rfl S.co S.gen rfl (PySem.W.codeRec_of inK hcd) (hb _ _ _ _ ?_)
  refine wpAny_newFunctionEnv_cells S.kind pars fun env he s1 xe => ?_
  subst he
  refine ⟨(e0.mod.nolimit.keeps stay).keeps xe.toInCall.keep, codeAny_func ?_⟩
  obtain ⟨t, ht, hq⟩ := body cdv A outer s H vs Q E (hr.deeper _) hsp
  refine wpAny_mono (ht.nox.run [] s1 (start N vs) H _ (inv_start S hr.hd e0 hlen rv xe) hq) (fun fl s' hs => ?_) fun _ _ z => z
  cases fl with
  | ret u =>
    obtain ⟨v, σ', H', J, r, q⟩ := hs
    exact ⟨v, H', J.os, J.bare, J.base, J.hok, r, q⟩
  | next =>
    obtain ⟨σ', H', J, q⟩ := hs
    exact ⟨V.non, H', J.os, J.bare, J.base, J.hok, rfl, q⟩
  | brk => exact hs.elim fun _ z => z.elim fun _ z => z.2.elim
  | cont => exact hs.elim fun _ z => z.elim fun _ z => z.2.elim
end
def spIterF (C : Addr) (f : Str) : Nat → Sp := fun N vs H Q _ => ∃ (a dx l : Addr) (fs : List (Str × V)) (xs : List V), vs = [.ref a] ∧ H a = some (.ins C dx fs) ∧ fs.lookup f = some (.ref l) ∧ H l = some (.lst xs) ∧ ∀ it, H it = none → N ≤ it → Q (.ref it) (upd H it (ItO l it 0))
end Qk
set_option maxRecDepth 100000
set_option maxHeartbeats 4000000
namespace Qk
open PySem PySem.Spec PyProof.Rows L2 ItX
structure OwnLen (K : PySem.W.Frag) (C fl : Addr) : Prop where
  ln : PySem.W.findIn K (.ref C) "__len__" = some (some (.ref fl))
  fn : PySem.W.isFn K (.ref fl) = true
def spLenF (C : Addr) (f : Str) : Sp := fun vs H Q _ => ∃ (a dx l : Addr) (fs : List (Str × V)) (xs : List V), vs = [.ref a] ∧ H a = some (.ins C dx fs) ∧ fs.lookup f = some (.ref l) ∧ H l = some (.lst xs) ∧ Q (.int (xs.length : Int)) H
/-- an instance of C whose list f stands at l and has xs -/
def HasL (H : Hp) (C a : Addr) (f : Str) (l : Addr) (xs : List V) : Prop := ∃ (dx : Addr) (fs : List (Str × V)), H a = some (.ins C dx fs) ∧ fs.lookup f = some (.ref l) ∧ H l = some (.lst xs)
section
variable {X : Cx} {pins : List (Addr × Obj)} {σ : L2.St} {H : Hp} {s : Shared} {A1 : Around} {C a l fi fl : Addr} {f : Str} {fdI fdL : FuncData} {n : Nat} {xs : List V}
theorem env_sub (sb : Sub X n A1) (I : Inv X pins σ H s) : Env0 X.prog X.w X.K X.mg X.base A1 X.stack s H := by
  have e := I.env0
  constructor
  case frames => rw [sb.fr]; exact e.frames
  all_goals first | exact e.mod | exact e.bs | exact e.bsz | exact e.funs | exact e.frf | exact e.hok | exact e.bare
theorem iter_own (sb : Sub X n A1) (oc : OwnIt X.K C fi) (FI : FnS X.prog X.w X.K X.mg X.base n fi fdI ["self"] (spIterF C f)) (bI : Binds X.K fdI ["self"] []) (I : Inv X pins σ H s) (h : HasL H C a f l xs) {Q : Value → Shared → Prop}
    (hQ : ∀ it s', Inv X pins σ (upd H it (ItO l it 0)) s' → H it = none → X.s_0.heap.objs.size ≤ it → Q (.ref it) s') : wpAny (model X.prog X.w) A1 (pyIter (.ref a)) Q X.xe s := by
  obtain ⟨dx, fs, ha, hl, hx⟩ := h
  obtain ⟨mA, J, _⟩ := ins_get I.hok ha
  obtain ⟨od, J, _⟩ := J.look
  obtain ⟨m0, hF⟩ := I.fr
  refine PySem.W.owit_iter hF I.ok.mod.kin J oc.it oc.fn ?_
  have hsp : spIterF C f s.heap.objs.size [.ref a] H (fun v H' => ∃ it, v = .ref it ∧ H it = none ∧ H' = upd H it (ItO l it 0) ∧ s.heap.objs.size ≤ it) (fun _ _ _ => False) := ⟨a, dx, l, fs, xs, rfl, ha, hl, hx, fun it hit hn => ⟨it, rfl, hit, rfl, hn⟩⟩
  have r2 : Vals [V.ref a] [Value.ref a] := .cons rfl .nil
  refine wpAny_call (codeAny_mono (FI.run A1 X.stack s H ⟨[.ref a], []⟩ [.ref a] [.ref a] _ _ sb.room (env_sub sb I) (by
    have := bI s [.ref a] I.kIn (by rfl)
    simpa using this) r2 hsp) fun r s' hq' => ?_)
  cases r with
  | error e => exact pass0 pins σ H s e s' I hq'
  | ok fl =>
    cases fl with
    | next => exact False.elim hq'
    | brk => exact False.elim hq'
    | cont => exact False.elim hq'
    | ret u =>
      have hq2 := hq'
      obtain ⟨v0, H0, os0, bare0, un0, hok0, rv0, it0, ev0, hn0, eH0, fresh⟩ := hq2
      subst ev0
      subst eH0
      cases rv0
      have hi : (upd H it0 (ItO l it0 0)) it0 = some (ItO l it0 0) := upd_same
      have I' : Inv X pins σ (upd H it0 (ItO l it0 0)) s' := by
        obtain ⟨hh, g, d, t, os'⟩ := s'
        obtain rfl : os' = s.os := os0
        exact I.call (h' := hh) (g' := g) (d' := d) (t' := t) (ch := []) un0 hok0 bare0 (fun b z => absurd z (by simp))
      have eo := itO_get I' hi
      have st : s'.heap.IsListIter it0 l 0 := ⟨_, eo, rfl, rfl⟩
      unfold PySem.W.OwitIt
      refine wpAny_specialOf (T := "list_iterator") ⟨_, eo, rfl⟩ slot_listiter_next.lookup ?_
      exact hQ it0 s' I' hn0 (Nat.le_trans I.sz fresh)
theorem len_own (sb : Sub X n A1.in1) (oc : OwnLen X.K C fl) (FL : FnOk X.prog X.w X.K X.mg X.base CX0 n fl fdL ["self"] (spLenF C f)) (bL : Binds X.K fdL ["self"] []) (I : Inv X pins σ H s) (h : HasL H C a f l xs) (hz : xs.length ≤ 1000) {Q : Value → Shared → Prop} {E : Value → Shared → Prop}
    (hQ : ∀ t s', Inv X pins σ H s' → Q (.int (xs.length : Int) t) s') : wpAny (model X.prog X.w) A1 (call (.builtin "len") [.ref a]) Q E s := by
  obtain ⟨dx, fs, ha, hl, hx⟩ := h
  obtain ⟨mA, J, _⟩ := ins_get I.hok ha
  obtain ⟨od, J, _⟩ := J.look
  obtain ⟨m0, hF⟩ := I.fr
  refine PySem.W.len_K hF I.ok.mod.kin J oc.ln oc.fn ?_
  have hsp : spLenF C f [.ref a] H (fun v H' => v = .int (xs.length : Int) ∧ H' = H) (fun _ _ _ => False) := ⟨a, dx, l, fs, xs, rfl, ha, hl, hx, rfl, rfl⟩
  have r2 : Vals [V.ref a] [Value.ref a] := .cons rfl .nil
  refine wpAny_call (codeAny_mono (FL.run A1.in1 X.stack s H ⟨[.ref a], []⟩ [.ref a] [.ref a] _ _ sb.room (env_sub sb I) (by
    have := bL s [.ref a] I.kIn (by rfl)
    simpa using this) r2 hsp) fun r s' hq' => ?_)
  cases r with
  | error e => exact False.elim hq'
  | ok fl =>
    cases fl with
    | next => exact False.elim hq'
    | brk => exact False.elim hq'
    | cont => exact False.elim hq'
    | ret u =>
      obtain ⟨v, H', I', rv, ev, eH⟩ := I.after hq'
      subst ev
      rw [eH] at I'
      obtain ⟨t, rfl⟩ := rv
      exact ⟨⟨by omega, by omega⟩, hQ _ _ (I'.tok _)⟩
/-- len(o) -/
def rLenOwn (C : Addr) (f : Str) : List V → Hp → VK → Prop := fun vs H Q => ∃ (a l : Addr) (xs : List V), vs = [.ref a] ∧ HasL H C a f l xs ∧ xs.length ≤ 1000 ∧ Q (.int (xs.length : Int)) H
theorem call_lenOwn (oc : OwnLen X.K C fl) (FL : FnOk X.prog X.w X.K X.mg X.base CX0 n fl fdL ["self"] (spLenF C f)) (bL : Binds X.K fdL ["self"] []) (hr : Room (n + 1) X.A) : CallR X (.builtin "len") (rLenOwn C f) := by
  intro pins s σ H vs us Q I r h
  obtain ⟨a, l, xs, rfl, hh, hz, q⟩ := h
  obtain ⟨u, rfl, ru⟩ := r.one
  cases ru
  exact len_own (Sub.in1 (⟨hr, rfl⟩ : Sub X (n + 1) X.A)) oc FL bL I hh hz fun t s' I' => ⟨.int _, H, I', ⟨t, rfl⟩, q⟩
theorem if_yes {α : Type} {M : Model} {A : Around} {E : Value → Shared → Prop} {s : Shared} {c : Bool} {a b : Sem α} {Q : α → Shared → Prop} (hc : c = true) (h : wpAny M A a Q E s) : wpAny M A (if c = true then a else b) Q E s := by
  subst hc
  exact h
/-- the room that list() asks for -/
theorem hint_own (sb : Sub X n A1.in1) (oc : OwnLen X.K C fl) (FL : FnOk X.prog X.w X.K X.mg X.base CX0 n fl fdL ["self"] (spLenF C f)) (bL : Binds X.K fdL ["self"] []) (I : Inv X pins σ H s) (h : HasL H C a f l xs) (hz : xs.length ≤ 1000) {Q : Bool → Shared → Prop}
    (hQ : ∀ b s', Inv X pins σ H s' → Q b s') : wpAny (model X.prog X.w) A1 (Builtin.List.listLengthHint (.ref a)) Q X.xe s := by
  obtain ⟨dx, fs, ha, hl, hx⟩ := id h
  obtain ⟨mA, J, _⟩ := ins_get I.hok ha
  obtain ⟨od, J, _⟩ := J.look
  unfold Builtin.List.listLengthHint
  refine wpAny_bind (wpAny_bind (J.type.here ((PySem.W.looks_findIn I.kIn oc.ln).here ?_)))
  refine PySem.W.KFB.if_not rfl ?_
  refine if_yes rfl ?_
  refine wpAny_bind (wpAny_rule ?_)
  refine wpAny_bind (wpAny_attempt (len_own sb oc FL bL I h hz fun t s' I' => ?_))
  dsimp only
  refine wpAny_bind (wpAny_of_eq (show asInt? (.int (xs.length : Int) t) = pure (some (xs.length : Int)) from rfl) ?_)
  dsimp only
  refine PySem.W.KFB.if_not (by unfold Builtin.List.listTooLong; rw [Int.toNat_natCast]; exact decide_eq_false (by rw [sizeLine_eq]; omega)) ?_
  exact wpAny_pure (hQ _ _ I')
theorem ext_own {it q : Addr} {Rs : Result → Shared → Prop} (hh : A1.handled = none) (hq : H q = none) (hx : H l = some (.lst xs)) (hz : xs.length ≤ 1000) (fp : ∀ acc, FpOk X pins (upd H q (.lst acc)) it)
    (hdone : ∀ s', Inv X pins σ (upd H q (.lst xs)) s' → Rs (.ok (.ret .none)) s') :
    ∀ (k i : Nat) (s : Shared), xs.length - i = k → i ≤ xs.length → Inv X pins σ (upd H q (.lst (xs.take i))) s → s.heap.IsListIter it l i → codeAny (model X.prog X.w) A1 (.builtin "list.extend.loop" ⟨[.ref q, .ref it, .none], []⟩) Rs s := by
  have hlq : l ≠ q := ne_of_none hx hq
  have hin : A1.in1.handled = none := by simp [hh]
  intro k
  induction k with
  | zero =>
    intro i s hk hi I st
    have ei : i = xs.length := by omega
    obtain ⟨its, rv, p, _⟩ := I.list (SqL.of (show (upd H q (.lst (xs.take i))) l = some (.lst xs) by rw [upd_ne hlq]; exact hx))
    have hl := rv.length
    obtain ⟨f0, f1, f2, f3, f4, f5⟩ := fp (xs.take i)
    refine codeAny_builtin PySem.F.entry_extend_loop ?_
    rw [Around.under_plainId PySem.F.plain_extend_loop _]
    show wpAny _ A1.in1 (pyNext (.ref it) >>= _) _ _ s
    refine wpAny_bind (wpAny_pyNext_list_end hin st p.isList (by simp; omega) fun h' eb => wpAny_pure (hdone _ ?_))
    have I1 : Inv X pins σ (upd H q (.lst (xs.take i))) { s with heap := h' } := I.turned (t' := s.toks) (fun b o hb e => eb b o hb e) f0 f1 f3 f4 f5
    rw [ei, List.take_of_length_le (Nat.le_refl _)] at I1
    exact I1
  | succ k ih =>
    intro i s hk hi I st
    have hlt : i < xs.length := by omega
    obtain ⟨its, rv, p, _⟩ := I.list (SqL.of (show (upd H q (.lst (xs.take i))) l = some (.lst xs) by rw [upd_ne hlq]; exact hx))
    have hxi : xs[i]? = some xs[i] := List.getElem?_eq_getElem hlt
    obtain ⟨u, hu, ru⟩ := rv.get hxi
    obtain ⟨f0, f1, f2, f3, f4, f5⟩ := fp (xs.take i)
    refine codeAny_builtin PySem.F.entry_extend_loop ?_
    rw [Around.under_plainId PySem.F.plain_extend_loop _]
    show wpAny _ A1.in1 (pyNext (.ref it) >>= _) _ _ s
    refine wpAny_bind (wpAny_pyNext_list_item st p.isList (x := u) (by simpa using hu) fun h' st' sb => ?_)
    have I1 : Inv X pins σ (upd H q (.lst (xs.take i))) { s with heap := h' } := I.turned (t' := s.toks) (fun b o hb e => (sb.2 b hb).trans e) f0 f1 f3 f4 f5
    show wpAny _ A1.in1 (updateSeq q (·.push u) >>= _) _ _ _
    obtain ⟨z, its2, k2, r2, hl2, e⟩ := I1.lstM upd_same
    have tl : (xs.take i).length = i := by rw [List.length_take]; omega
    refine wpAny_bind (wpAny_updateSeq e rfl (wpAny_pure ⟨plainId_quiet PySem.F.plain_extend_loop _, ?_⟩) (by rw [List.size_toArray]; omega) (by show (its2.toArray.push u).size ≤ sizeLine + 1; rw [Array.size_push, List.size_toArray, sizeLine_eq]; omega))
    have I2 := I1.lset (f := (·.push u)) (its := its2) (its' := its2 ++ [u]) (ys := xs.take i ++ [xs[i]]) (t' := s.toks) upd_same e (by simp) (r2.append (.cons ru .nil)) (by rw [List.length_append, tl, sizeLine_eq]; show i + 1 ≤ _; omega)
    rw [upd_upd] at I2
    have et : xs.take (i + 1) = xs.take i ++ [xs[i]] := by rw [List.take_add_one, hxi]; rfl
    rw [← et] at I2
    refine ih (i + 1) _ (by omega) hlt I2 (st'.at fun o e2 => ?_)
    have niq : it ≠ q := fun z => by rw [z, upd_same] at f0; cases f0
    exact (Heap.get?_update_ne _ _ _ _ niq).trans e2
/-- an empty list behind all -/
abbrev laidL (s : Shared) : Shared := { s with heap := s.heap.push { cls := .type "list", data := .seq #[] } }
/-- list(o) -/
def rListOwn (C : Addr) (f : Str) : List V → Hp → VK → Prop := fun vs H Q => ∃ (a l : Addr) (xs : List V), vs = [.ref a] ∧ HasL H C a f l xs ∧ xs.length ≤ 1000 ∧ ∀ q, H q = none → Q (.ref q) (upd H q (.lst xs))
theorem HasL.off {q : Addr} {o : HO} (h : HasL H C a f l xs) (hq : H q = none) : HasL (upd H q o) C a f l xs := by
  obtain ⟨dx, fs, ha, hl, hx⟩ := h
  exact ⟨dx, fs, by rw [upd_ne (ne_of_none ha hq)]; exact ha, hl, by rw [upd_ne (ne_of_none hx hq)]; exact hx⟩
theorem call_listOwnF (hc : X.calm = true) (oc : OwnIt X.K C fi) (FI : FnS X.prog X.w X.K X.mg X.base n fi fdI ["self"] (spIterF C f)) (bI : Binds X.K fdI ["self"] [])
    (ol : OwnLen X.K C fl) (FL : FnOk X.prog X.w X.K X.mg X.base CX0 n fl fdL ["self"] (spLenF C f)) (bL : Binds X.K fdL ["self"] []) (hr : Room (n + 3) X.A) : CallR X (.type "list") (rListOwn C f) := by
  intro pins s σ H vs us Q I rv h
  obtain ⟨a, l, xs, rfl, hh, hz, q⟩ := h
  obtain ⟨u, rfl, ru⟩ := rv.one
  cases ru
  have sb2 : Sub X (n + 1) X.A.in1.in1 := Sub.in1 (Sub.in1 (⟨hr, rfl⟩ : Sub X (n + 3) X.A))
  have sb3 : Sub X n X.A.in1.in1.in1 := Sub.in1 sb2
  have sb1 : Sub X n X.A.in1.in1 := ⟨sb2.room.mono (Nat.le_succ _), sb2.fr⟩
  refine callType_codes (Q₁ := fun o z => o = .ref s.heap.objs.size ∧ z = laidL s) PySem.F.called_list (PySem.F.typeCall_list_1 _) PySem.F.entry_list_init (code_list_new _ ⟨rfl, rfl⟩) ?_
  rintro o z ⟨rfl, rfl⟩
  have hS : (laidL s).heap.get? s.heap.objs.size = some { cls := .type "list", data := .seq #[] } := Heap.get?_push_size _ rfl
  refine ⟨⟨_, hS, by rfl⟩, by exact PySem.F.args_list_init_2 _ _, ?_⟩
  have fr : H s.heap.objs.size = none := I.hok.fresh (Nat.le_refl _)
  obtain ⟨S, eS⟩ : ∃ S, S = s.heap.objs.size := ⟨_, rfl⟩
  rw [← eS] at fr hS ⊢
  have I1 : Inv X pins σ (upd H S (.lst [])) { s with heap := s.heap.push { cls := .type "list", data := .seq #[] } } := by
    rw [eS]
    exact I.lnew (its := []) (t' := s.toks) .nil (Nat.zero_le _)
  show wpAny _ _ (do let old ← Builtin.List.listItems (.ref S); Builtin.List.listUpdate (.ref S) (fun _ => #[]); letGo old.toList.reverse; Builtin.List.listExtendWith (.ref S) (.ref a) .none) _ _ _
  refine wpAny_bind ?_
  unfold Builtin.List.listItems
  refine wpAny_bind (wpAny_seqItems hS rfl (wpAny_pure ?_))
  show wpAny _ _ (updateSeq S (fun _ => #[]) >>= fun _ => letGo (#[] : Array Value).toList.reverse >>= fun _ => Builtin.List.listExtendWith (.ref S) (.ref a) .none) _ _ _
  refine wpAny_bind (wpAny_updateSeq hS rfl ?_)
  have I2 := I1.lset (t' := s.toks) (ys := []) (its' := []) (its := []) (f := fun _ => #[]) upd_same hS rfl .nil (Nat.zero_le _)
  rw [upd_upd] at I2
  refine wpAny_bind (wpAny_letGo ?_)
  generalize ({ s with heap := (s.heap.push { cls := .type "list", data := .seq #[] }).update S (Obj.mapSeq fun _ => #[]) } : Shared) = s2 at I2 ⊢
  have hh2 := hh.off (o := .lst []) fr
  obtain ⟨dx, fs, ha, hl, hx⟩ := id hh
  have hSa : S ≠ a := fun z => by rw [z, ha] at fr; cases fr
  obtain ⟨dx2, fs2, ha2, _⟩ := id hh2
  obtain ⟨mA, J, _⟩ := ins_get I2.hok ha2
  obtain ⟨od, J, _⟩ := J.look
  unfold Builtin.List.listExtendWith
  refine wpAny_bind (J.type.here ?_)
  have h1 : Builtin.List.listSameRef (.ref S) (.ref a) = false := by simp [Builtin.List.listSameRef, hSa]
  have h2 : (Value.ref C == Value.type "list") = false := rfl
  have h3 : (Value.ref C == Value.type "tuple") = false := rfl
  simp only [h1, h2, h3, Bool.or_false, Bool.false_eq_true, if_false]
  refine wpAny_bind (iter_own sb1 oc FI bI I2 hh2 fun it s3 I3 itn fp0 => ?_)
  refine wpAny_bind (wpAny_holding (hint_own sb3 ol FL bL I3 (hh2.off itn) hz fun b s4 I4 => ?_))
  have eo := itO_get I4 upd_same
  have st : s4.heap.IsListIter it l 0 := ⟨_, eo, rfl, rfl⟩
  have fp := inv_fp I4 (a := it) upd_same fp0
  have I5 := inv_drop I4 (a := it) (φ := _) (by exact upd_same)
  rw [dropH_upd itn] at fp I5
  have nis : it ≠ S := fun z => by rw [z, upd_same] at itn; cases itn
  have fpA : ∀ acc, FpOk X pins (upd H S (.lst acc)) it := fun acc => by
    obtain ⟨f0, f1, f2, f3, f4, f5⟩ := fp
    refine ⟨?_, f1, f2, f3, f4, f5⟩
    rw [upd_ne nis] at f0 ⊢
    exact f0
  have hdn : X.A.in1.handled = none := by simp [I.ok.hd hc]
  have hgo : ∀ s5, Inv X pins σ (upd H S (.lst [])) s5 → s5.heap.IsListIter it l 0 → codeAny (model X.prog X.w) X.A.in1 (.builtin "list.extend.loop" ⟨[.ref S, .ref it, .none], []⟩) (wants (fun r s₂ => r = .none ∧ EP X pins σ Q (.ref S) s₂) X.xe) s5 := fun s5 J5 st5 =>
    ext_own (A1 := X.A.in1) (it := it) (q := S) hdn fr hx hz fpA (fun s' J' => ⟨rfl, .ref S, _, J', rfl, q S fr⟩) (xs.length - 0) 0 s5 rfl (Nat.zero_le _) J5 st5
  refine wpAny_ite_split (fun _ => ?_) (fun _ => wpAny_pure ⟨plainId_quiet PySem.F.plain_extend_loop _, hgo s4 I5 st⟩)
  obtain ⟨z, its, k, r3, hl3, e3⟩ := I5.lstM upd_same
  cases r3
  refine wpAny_bind (wpAny_rule ?_)
  refine wpAny_bind ?_
  show wpAny _ _ (updateSeq S (·.push .none) >>= fun _ => updateSeq S (·.pop)) _ _ _
  refine wpAny_bind (wpAny_updateSeq e3 rfl ?_)
  have I6 := I5.lset (f := (·.push Value.none)) (its' := [Value.none]) (ys := [.non]) (t' := s4.toks) upd_same e3 (by simp) (.cons rfl .nil) (by rw [List.length_singleton, sizeLine_eq]; decide)
  rw [upd_upd] at I6
  obtain ⟨z4, its4, k4, r4, hl4, e4⟩ := I6.lstM upd_same
  obtain ⟨u4, rfl, ru4⟩ := r4.one
  refine wpAny_updateSeq e4 rfl ?_ (by show 1 ≤ sizeLine; rw [sizeLine_eq]; decide) (by show 0 ≤ sizeLine + 1; exact Nat.zero_le _)
  have I7 := I6.lset (f := (·.pop)) (its := [u4]) (its' := []) (ys := []) (t' := s4.toks) upd_same e4 (by rfl) .nil (Nat.zero_le _)
  rw [upd_upd] at I7
  refine wpAny_pure ⟨plainId_quiet PySem.F.plain_extend_loop _, ?_⟩
  have st5 : ((s4.heap.update S (Obj.mapSeq fun x => x.push Value.none)).update S (Obj.mapSeq fun x => x.pop)).IsListIter it l 0 :=
    Heap.IsListIter.at (Heap.IsListIter.at st fun o e => (Heap.get?_update_ne _ _ _ _ nis).trans e) fun o e => (Heap.get?_update_ne _ _ _ _ nis).trans e
  exact hgo _ I7 st5
end
end Qk
set_option maxRecDepth 100000
set_option maxHeartbeats 4000000
namespace Qk
open PySem PySem.Spec PyProof.Rows L2
def TL (H : Hp) (vs : List V) (rs : List (List Str)) : Prop := Paired (fun (x : V) (r : List Str) => ∃ t, x = .ref t ∧ H t = some (.tup (r.map V.str))) vs rs
theorem TL.len {H : Hp} {vs : List V} {rs : List (List Str)} (h : TL H vs rs) : vs.length = rs.length := Paired.length h
theorem TL.same {H H' : Hp} {vs : List V} {rs : List (List Str)} (s : Same H H') (h : TL H vs rs) : TL H' vs rs := Paired.mapP h fun x r ⟨t, e, z⟩ => ⟨t, e, s _ _ z⟩
theorem TL.off {H : Hp} {p : Addr} {xs zs : List V} {vs : List V} {rs : List (List Str)} (hp : H p = some (.lst xs)) (h : TL H vs rs) : TL (upd H p (.lst zs)) vs rs := Paired.mapP h fun x r ⟨t, e, z⟩ => ⟨t, e, by
  rw [upd_ne fun g => by rw [g, hp] at z; cases z]
  exact z⟩
theorem TL.at_ {H : Hp} {vs : List V} {rs : List (List Str)} (h : TL H vs rs) {i : Nat} {x : V} (hi : vs[i]? = some x) : ∃ (t : Addr) (r : List Str), x = .ref t ∧ rs[i]? = some r ∧ H t = some (.tup (r.map V.str)) := by
  induction h generalizing i with
  | nil => simp at hi
  | @cons x0 r0 vs' rs' h1 _ ih =>
    cases i with
    | zero =>
      simp only [List.getElem?_cons_zero, Option.some.injEq] at hi
      subst hi
      obtain ⟨t, e, z⟩ := h1
      exact ⟨t, r0, e, rfl, z⟩
    | succ i => exact ih hi
theorem TL.snoc {H : Hp} {vs : List V} {rs : List (List Str)} {t : Addr} {r : List Str} (h : TL H vs rs) (ht : H t = some (.tup (r.map V.str))) : TL H (vs ++ [.ref t]) (rs ++ [r]) := paired_app h (.cons ⟨t, rfl, ht⟩ .nil)
theorem QL.off {H : Hp} {p : Addr} {xs zs : List V} {vs : List V} {qs : List Qd} (hp : H p = some (.lst xs)) (h : QL H vs qs) : QL (upd H p (.lst zs)) vs qs := Paired.mapP h fun x r ⟨t, e, c, z1, z2⟩ => ⟨t, e, c, by
  rw [upd_ne fun g => by rw [g, hp] at z1; cases z1]
  exact z1, by
  rw [upd_ne fun g => by rw [g, hp] at z2; cases z2]
  exact z2⟩
theorem QL.snoc {H : Hp} {vs : List V} {qs : List Qd} {t : Addr} {q : Qd} (h : QL H vs qs) (ht : QAt H t q.1 q.2) : QL H (vs ++ [.ref t]) (qs ++ [q]) := paired_app h (.cons ⟨t, rfl, ht⟩ .nil)
theorem QL.at_ {H : Hp} {xs : List V} {qs : List Qd} (h : QL H xs qs) {i : Nat} {x : V} (hi : xs[i]? = some x) : ∃ (t : Addr) (q : Qd), x = .ref t ∧ qs[i]? = some q ∧ QAt H t q.1 q.2 := by
  induction h generalizing i with
  | nil => simp at hi
  | @cons x0 q0 xs' qs' h1 _ ih =>
    cases i with
    | zero =>
      simp only [List.getElem?_cons_zero, Option.some.injEq] at hi
      subst hi
      obtain ⟨t, e, z⟩ := h1
      exact ⟨t, q0, e, rfl, z⟩
    | succ i => exact ih hi
/-- one more behind the list at p -/
theorem nodup_leQ : ∀ (l D : List Qd), l.Nodup → (∀ x ∈ l, x ∈ D) → l.length ≤ D.length
  | [], _, _, _ => Nat.zero_le _
  | x :: l, D, hn, hs => by
    obtain ⟨h1, h2⟩ := List.nodup_cons.mp hn
    have hx : x ∈ D := hs x List.mem_cons_self
    have ih := nodup_leQ l (D.erase x) h2 fun y hy => (List.mem_erase_of_ne (by rintro rfl; exact h1 hy)).2 (hs y (List.mem_cons_of_mem _ hy))
    have e := List.length_erase_of_mem hx
    have hp : 0 < D.length := List.length_pos_of_mem hx
    rw [List.length_cons]
    omega
theorem eqv_qsAll : ∀ (xs ys : List Qd), PyData.eqvAll (xs.map dq) (ys.map dq) = decide (xs = ys)
  | [], [] => by simp [PyData.eqvAll]
  | [], y :: ys => by simp [PyData.eqvAll]
  | x :: xs, [] => by simp [PyData.eqvAll]
  | x :: xs, y :: ys => by
    show PyData.eqvAll (dq x :: xs.map dq) (dq y :: ys.map dq) = _
    rw [PyData.eqvAll, eqv_qsAll xs ys, eqv_q]
    by_cases h1 : x = y
    · subst h1
      by_cases h2 : xs = ys
      · subst h2
        simp
      · simp [h2]
    · simp [h1]
theorem eqv_qs (xs ys : List Qd) : PyData.eqv (.list (xs.map dq)) (.list (ys.map dq)) = decide (xs = ys) := by
  rw [PyData.eqv, eqv_qsAll]
end Qk
set_option maxRecDepth 100000
set_option maxHeartbeats 4000000
set_option maxRecDepth 100000
set_option maxHeartbeats 4000000
namespace Qk
open PySem PySem.Spec PyProof.Rows L2
abbrev twoFor (elt t0 i0 t1 i1 : Expr) (scope : Scope) (pos : Pos) : Expr := .SetComp elt [⟨t0, i0, [], 0⟩, ⟨t1, i1, [], 0⟩] scope pos
section
variable {P : Program} {w : World} {A : Around} {R : Result → Shared → Prop} {s : Shared} {elt t0 i0 t1 i1 : Expr} {scope : Scope} {pos : Pos} {it acc : Value} {env : Env}
/-- nothing is raised -/
abbrev wF {α : Type} (P : Program) (w : World) (A : Around) (t : Sem α) (Q : α → Shared → Prop) (s : Shared) : Prop := wpAny (model P w) A t Q (fun _ _ => False) s
theorem wF.any {α : Type} {t : Sem α} {Q Q' : α → Shared → Prop} {E : Value → Shared → Prop} (h : wF P w A t Q s) (k : ∀ a s, Q a s → Q' a s) : wpAny (model P w) A t Q' E s := wpAny_mono h k fun _ _ z => False.elim z
theorem inner_turn : compTurn (twoFor elt t0 i0 t1 i1 scope pos) 1 it acc env = (do
    standAt i1.pos
    match ← pyNext it with
    | none => pure (.done .next)
    | some v =>
      letOwnedTupleGo t1 it v
      assign t1 env v
      (do let x ← eval elt env; standAt elt.pos; let _ ← call (.builtin "set.add") [acc, x])
      again (.compLoop (twoFor elt t0 i0 t1 i1 scope pos) 1 it acc env)) := by rfl
theorem outer_turn : compTurn (twoFor elt t0 i0 t1 i1 scope pos) 0 it acc env = (do
    standAt i0.pos
    match ← pyNext it with
    | none => pure (.done .next)
    | some v =>
      letOwnedTupleGo t0 it v
      assign t0 env v
      let x ← eval i1 env
      standAt i1.pos
      let y ← foldedSetIterable i1 env x
      let _ ← runOwn (.compStart (twoFor elt t0 i0 t1 i1 scope pos) 1 (← holding [y] (pyIter y)) acc env) env
      again (.compLoop (twoFor elt t0 i0 t1 i1 scope pos) 0 it acc env)) := by rfl
/-- the inner loop by a bound on the turns -/
theorem inner_loop (J : Nat → Shared → Prop)
    (one : ∀ n s, J n s → wF P w A (pyNext it) (fun r a => match r with
      | none => R (.ok .next) a
      | some v => wF P w A (letOwnedTupleGo t1 it v) (fun _ b => wF P w A (assign t1 env v) (fun _ c => wF P w A (eval elt env) (fun x d => wF P w A (call (.builtin "set.add") [acc, x]) (fun _ e => ∃ m, m < n ∧ J m e) d) c) b) a) s)
    (n : Nat) (h : J n s) : codeAny (model P w) A (.compLoop (twoFor elt t0 i0 t1 i1 scope pos) 1 it acc env) R s := by
  refine codeAny_loop rfl J (fun k a hk => ?_) n h
  refine wpAny_noted ?_
  show wpAny _ A (compTurn (twoFor elt t0 i0 t1 i1 scope pos) 1 it acc env) _ _ a
  rw [inner_turn]
  refine wpAny_bind (wpAny_standAt (wpAny_bind (wF.any (one k a hk) fun r b hb => ?_)))
  match r, hb with
  | none, hb => exact wpAny_pure hb
  | some v, hb =>
    refine wpAny_bind (wF.any hb fun _ c hc => wpAny_bind (wF.any hc fun _ d hd => ?_))
    exact wpAny_bind (wpAny_bind (wF.any hd fun x e he => wpAny_bind (wpAny_standAt (wpAny_bind (wF.any he fun _ f hf => wpAny_pure (wpAny_pure ⟨rfl, hf⟩))))))
/-- the outer loop by a bound on the turns; in each the inner one from its start -/
theorem outer_loop (hfold : ∀ x, foldedSetIterable i1 env x = pure x) (J : Nat → Shared → Prop)
    (one : ∀ n s, J n s → wF P w A (pyNext it) (fun r a => match r with
      | none => R (.ok .next) a
      | some v => wF P w A (letOwnedTupleGo t0 it v) (fun _ b => wF P w A (assign t0 env v) (fun _ c => wF P w A (eval i1 env) (fun x d => wF P w A (pyIter x) (fun it1 e =>
          codeAny (model P w) A (.compStart (twoFor elt t0 i0 t1 i1 scope pos) 1 it1 acc env) (fun r f => match r with
            | .ok _ => ∃ m, m < n ∧ J m f
            | .error _ => False) e) d) c) b) a) s)
    (n : Nat) (h : J n s) : codeAny (model P w) A (.compLoop (twoFor elt t0 i0 t1 i1 scope pos) 0 it acc env) R s := by
  refine codeAny_loop rfl J (fun k a hk => ?_) n h
  refine wpAny_noted ?_
  show wpAny _ A (compTurn (twoFor elt t0 i0 t1 i1 scope pos) 0 it acc env) _ _ a
  rw [outer_turn]
  refine wpAny_bind (wpAny_standAt (wpAny_bind (wF.any (one k a hk) fun r b hb => ?_)))
  match r, hb with
  | none, hb => exact wpAny_pure hb
  | some v, hb =>
    refine wpAny_bind (wF.any hb fun _ c hc => wpAny_bind (wF.any hc fun _ d hd => wpAny_bind (wF.any hd fun x e he => ?_)))
    refine wpAny_bind (wpAny_standAt (wpAny_bind (wpAny_of_eq (hfold x) ?_)))
    refine wpAny_bind (wpAny_holding (wF.any he fun it1 f hf => ?_))
    refine wpAny_bind (wpAny_runOwn ?_)
    rw [Around.mark_none]
    refine codeAny_mono hf fun r g hg => ?_
    match r, hg with
    | .ok _, hg => first | exact wpAny_pure ⟨rfl, hg⟩ | exact wpAny_bind (wpAny_pure (wpAny_pure ⟨rfl, hg⟩))
    | .error _, hg => exact hg.elim
/-- the inner loop's start: the iterator asked once more, or not -/
theorem inner_start (h0 : codeAny (model P w) A (.compLoop (twoFor elt t0 i0 t1 i1 scope pos) 1 it acc env) R s)
    (h : wpAny (model P w) A (pyIter it) (fun j a => codeAny (model P w) A (.compLoop (twoFor elt t0 i0 t1 i1 scope pos) 1 j acc env) R a) (notedBy (model P w) A env fun x a => R (.error x) a) s) :
    codeAny (model P w) A (.compStart (twoFor elt t0 i0 t1 i1 scope pos) 1 it acc env) R s := by
  refine codeAny_of_tree (wpAny_notedAt ?_)
  unfold compStart
  refine wpAny_bind (wpAny_askSetting (wpAny_ite ?_))
  split
  all_goals first
    | exact wpAny_bind (wpAny_pure (wpAny_pure ⟨rfl, h0⟩))
    | exact wpAny_pure ⟨rfl, h0⟩
    | (refine wpAny_bind (wpAny_rule (wpAny_bind (wpAny_standAt ?_)))
       exact wpAny_bind (wpAny_mono h (fun _ _ q => wpAny_pure ⟨rfl, q⟩) fun _ _ q => q))
end
end Qk
set_option maxRecDepth 100000
set_option maxHeartbeats 4000000
namespace Qk
open PySem PySem.Spec PyProof.Rows L2
/-- a loop over J: Done behind it; each turn from a drawn value has to come to the word that is handed to it -/
def Loop (J : It) (Done : Hp → Prop) (Body : V → Hp → (Hp → Prop) → Prop) (H : Hp) : Prop :=
  ∃ W : Nat → Nat → Hp → Prop, (∃ m, W 0 m H) ∧ ∀ i m G, W i m G → (J.stop i G ∧ Done G) ∨ (J.go i G ∧ ∃ Nx : Hp → Prop, (∀ G', Nx G' → ∃ m', m' < m ∧ W (i + 1) m' G') ∧ ∀ x G', J.yld i G x G' → Body x G' Nx)
theorem Loop.list {K : PySem.W.Frag} {a : Addr} {xs : List V} {Done : Hp → Prop} {Body : V → Hp → (Hp → Prop) → Prop} {H : Hp} (Pv : Nat → Hp → Prop) (h0 : Pv 0 H) (hl : ∀ i G, i ≤ xs.length → Pv i G → SqL K G a xs)
    (one : ∀ i x G, xs[i]? = some x → Pv i G → Body x G (Pv (i + 1))) (end_ : ∀ G, Pv xs.length G → Done G) : Loop (Itl K a) Done Body H := by
  refine ⟨fun i m G => m + i = xs.length ∧ Pv i G, ⟨xs.length, rfl, h0⟩, fun i m G hw => ?_⟩
  obtain ⟨hm, p⟩ := hw
  have q := hl i G (by omega) p
  rcases Nat.lt_or_ge i xs.length with lt | ge
  · have g : xs[i]? = some xs[i] := List.getElem?_eq_getElem lt
    refine .inr ⟨⟨xs, xs[i], q, g⟩, Pv (i + 1), fun G' p' => ⟨m - 1, by omega, by omega, p'⟩, fun x G' y => ?_⟩
    obtain ⟨rfl, y⟩ := y
    exact one i x _ (y xs q) p
  · have e : i = xs.length := by omega
    exact .inl ⟨⟨xs, q, ge⟩, end_ G (e ▸ p)⟩
theorem Loop.tup {K : PySem.W.Frag} {a : Addr} {xs : List V} {Done : Hp → Prop} {Body : V → Hp → (Hp → Prop) → Prop} {H : Hp} (Pv : Nat → Hp → Prop) (h0 : Pv 0 H) (hl : ∀ i G, i ≤ xs.length → Pv i G → SqT K G a xs)
    (one : ∀ i x G, xs[i]? = some x → Pv i G → Body x G (Pv (i + 1))) (end_ : ∀ G, Pv xs.length G → Done G) : Loop (Itt K a) Done Body H := by
  refine ⟨fun i m G => m + i = xs.length ∧ Pv i G, ⟨xs.length, rfl, h0⟩, fun i m G hw => ?_⟩
  obtain ⟨hm, p⟩ := hw
  have q := hl i G (by omega) p
  rcases Nat.lt_or_ge i xs.length with lt | ge
  · have g : xs[i]? = some xs[i] := List.getElem?_eq_getElem lt
    refine .inr ⟨⟨xs, xs[i], q, g⟩, Pv (i + 1), fun G' p' => ⟨m - 1, by omega, by omega, p'⟩, fun x G' y => ?_⟩
    obtain ⟨rfl, y⟩ := y
    exact one i x _ (y xs q) p
  · have e : i = xs.length := by omega
    exact .inl ⟨⟨xs, q, ge⟩, end_ G (e ▸ p)⟩
/-- where a loop stands -/
def Stand (Y : Cx) (p : List (Addr × Obj)) (σ : L2.St) (fp : List Addr) (tn : Nat → Heap → Prop) (W : Nat → Nat → Hp → Prop) (n : Nat) (s : Shared) : Prop :=
  ∃ i G, Inv Y p σ G s ∧ tn i s.heap ∧ (∀ b ∈ fp, G b = none) ∧ W i n G
/-- σ' knows what σ knows -/
def Knows (σ σ' : L2.St) : Prop := σ.length = σ'.length ∧ ∀ (j : Nat) (v : V), σ[j]? = some (some v) → σ'[j]? = some (some v)
theorem ask_next {Y : Cx} {p : List (Addr × Obj)} {σ : L2.St} {tg : Expr} {J : It} {fp : List Addr} {it : Addr} {tn : Nat → Heap → Prop} {W : Nat → Nat → Hp → Prop} {Done : Hp → Prop} {Body : V → Hp → (Hp → Prop) → Prop} {n : Nat} {s : Shared}
    (hc : Y.calm = true) (T : Turn Y.prog Y.w Y.K tg J fp it tn) (ap : ∀ {G : Hp} {s : Shared}, Inv Y p σ G s → (∀ b ∈ fp, G b = none) → ∀ b ∈ fp, FpOk Y p G b)
    (hW : ∀ i m G, W i m G → (J.stop i G ∧ Done G) ∨ (J.go i G ∧ ∃ Nx : Hp → Prop, (∀ G', Nx G' → ∃ m', m' < m ∧ W (i + 1) m' G') ∧ ∀ x G', J.yld i G x G' → Body x G' Nx)) (h : Stand Y p σ fp tn W n s) :
    wF Y.prog Y.w Y.A (pyNext (.ref it)) (fun r a => match r with
      | none => ∃ G, Inv Y p σ G a ∧ Done G ∧ ∀ b ∈ fp, G b = none
      | some v => wF Y.prog Y.w Y.A (letOwnedTupleGo tg (.ref it) v) (fun _ b => ∃ (x : V) (G : Hp) (Nx : Hp → Prop), Inv Y (p ++ pinsAt fp b.heap) σ G b ∧ RelV x v ∧ Body x G Nx ∧
          ∀ (σ' : L2.St) (c : Shared) (G' : Hp), Inv Y (p ++ pinsAt fp b.heap) σ' G' c → Knows σ σ' → Nx G' → ∃ m, m < n ∧ Stand Y p σ fp tn W m c) a) s := by
  obtain ⟨i, G, I, st, nf, w⟩ := h
  rcases hW i n G w with ⟨hs, hd⟩ | ⟨hg, Nx, hN, hB⟩
  · refine thnF (T.done Y rfl rfl rfl hc i p s σ G (fun _ _ => False) I (ap I nf) st hs) fun r a ⟨e, I1⟩ => ?_
    subst e
    exact ⟨G, I1, hd, nf⟩
  · refine thnF (T.item Y rfl rfl rfl hc i p s σ G (fun _ _ => False) I (ap I nf) st hg) fun r a ⟨u, e, h1⟩ => ?_
    subst e
    refine thnF h1 fun _ b ⟨x, G1, I1, r1, y1, st1, n1⟩ => ?_
    refine ⟨x, G1, Nx, I1.pinned (ap I1 n1) (T.obj _ _ st1), r1, hB x G1 y1, fun σ' c G' I' kn nx => ?_⟩
    obtain ⟨m', hm, w'⟩ := hN G' nx
    have still : ∀ d ∈ fp, ∀ o, b.heap.get? d = some o → c.heap.get? d = some o ∧ G' d = none := fun d hd o e => by
      have z := I'.pin (d, o) (List.mem_append_right _ (List.mem_append_right _ (mem_pinsAt hd e)))
      exact ⟨z.1, z.2.1⟩
    refine ⟨m', hm, i + 1, G', I'.unpinned.weak kn.1 kn.2, T.keep _ _ _ st1 fun d hd o e => (still d hd o e).1, fun d hd => ?_, w'⟩
    obtain ⟨o, e, _⟩ := T.obj _ _ st1 d hd
    exact (still d hd o e).2
theorem Knows.wipe {σ : L2.St} (vs : List Nat) : Knows (wipe σ vs) σ := ⟨wipe_length _ _, fun j v e => (wipe_some e).1⟩
end Qk
set_option maxRecDepth 100000
set_option maxHeartbeats 4000000
namespace Qk
open PySem PySem.Spec PyProof.Rows L2
/-- {elt for t0 in i0 for t1 in i1}: SO the new set as it is laid, rA what set.add asks -/
def tSc2 (SO : Addr → HO) (rA : List V → Hp → VK → Prop) (wi : TI) (g : TG) (wi1 : TI) (g1 : TG) (te : TE) (vs vs1 : List Nat) : TE := fun σ H Q => wi σ H fun J H1 => ∀ D, H1 D = none →
  Loop J (Q (.ref D)) (fun x G Nx => g x (wipe σ vs) G fun σ2 G2 => wipe σ2 vs = wipe σ vs ∧ wi1 σ2 G2 fun J1 G3 =>
    Loop J1 Nx (fun y G4 Nx1 => g1 y (wipe σ2 vs1) G4 fun σ3 G5 => wipe σ3 vs1 = wipe σ2 vs1 ∧ te σ3 G5 fun z G6 => rA [.ref D, z] G6 fun _ G7 => Nx1 G7) G3) (upd H1 D (SO D))
section
variable {X : Cx}
theorem pe_sc2 {SO : Addr → HO} {rA : List V → Hp → VK → Prop} {elt t0 i0 t1 i1 : Expr} {scope : Scope} {own : List (Str × Nat)} {vs1 : List Nat} {pos : Pos} {wi wi1 : TI} {g g1 : TG} {te : TE} (hc : X.calm = true) (hN : X.N.Nodup)
    (hnew : ∀ (G : Hp) (h : Heap) (D : Addr), h.get? D = some { cls := .type "set", dict := none, data := .set #[] 0 (.fresh 0 0 (!X.w.params.followText "set-order")) } → ObjOk X.prog X.w G h D (SO D))
    (hi : PI X t0 i0 wi) (ok : BlkOk X.N X.env.scope scope own) (hv : ∀ i ∈ vs1, i ∈ own.map (·.2))
    (hg : ∀ (s : Shared) (H : Hp) (C : Addr) (cl : List (Str × Addr)) (fp : List Addr), PG (X.blk s H scope (compEnvC scope cl C X.env) fp) t0 g)
    (hi1 : ∀ (s : Shared) (H : Hp) (C : Addr) (cl : List (Str × Addr)) (fp : List Addr), PI (X.blk s H scope (compEnvC scope cl C X.env) fp) t1 i1 wi1)
    (hg1 : ∀ (s : Shared) (H : Hp) (C : Addr) (cl : List (Str × Addr)) (fp : List Addr), PG (X.blk s H scope (compEnvC scope cl C X.env) fp) t1 g1)
    (he : ∀ (s : Shared) (H : Hp) (C : Addr) (cl : List (Str × Addr)) (fp : List Addr), PE (X.blk s H scope (compEnvC scope cl C X.env) fp) elt te)
    (ha : ∀ (s : Shared) (H : Hp) (C : Addr) (cl : List (Str × Addr)) (fp : List Addr), CallR (X.blk s H scope (compEnvC scope cl C X.env) fp) (.builtin "set.add") rA)
    (hs : ∀ x, foldedSetIterable i0 X.env x = pure x := by intro _; rfl) (hfold : ∀ env x, foldedSetIterable i1 env x = pure x := by intro _ _; rfl) :
    PE X (.SetComp elt [⟨t0, i0, [], 0⟩, ⟨t1, i1, [], 0⟩] scope pos) (tSc2 SO rA wi g wi1 g1 te (own.map (·.2)) vs1) := by
  refine ⟨fun pins s σ H Q I h => ?_⟩
  rw [PpSet.eval_SetComp]
  have hfree : ∀ y ∈ scope.names, y.2 = .free → ∃ c, X.env.cells.lookup y.1 = some c := fun y hy e => (ok.free y hy e).elim (fun k => I.ok.has _ (.inl k)) fun k => I.ok.has _ (.inr k)
  refine wpAny_comprehension_free (use := none) rfl hs (closure_ok hfree) ok.kind (fun y hy e => by rw [ok.uniq y hy, e])
    (thn (hi.run pins s σ H _ I h) fun xv s1 hx => thn hx fun itv s2 h2 => ?_)
  obtain ⟨it, fp, tn, J, H2, rfl, I2, T, st2, f2, q⟩ := h2
  refine PpSet.newSet_ok (newEnv_comp ?_)
  obtain ⟨D, hD⟩ : ∃ D, D = s2.heap.objs.size := ⟨_, rfl⟩
  obtain ⟨W, ⟨m0, w0⟩, hW⟩ := q D (I2.hok.fresh (Nat.le_of_eq hD.symm))
  obtain ⟨s3, hs3⟩ : ∃ s3 : Shared, s3 = { s2 with heap := s2.heap.push { cls := .type "set", dict := none, data := .set #[] 0 (.fresh 0 0 (!X.w.params.followText "set-order")) } } := ⟨_, rfl⟩
  have p3 : s3.heap = s2.heap.push { cls := .type "set", dict := none, data := .set #[] 0 (.fresh 0 0 (!X.w.params.followText "set-order")) } := by rw [hs3]
  have gD : s3.heap.get? D = some { cls := .type "set", dict := none, data := .set #[] 0 (.fresh 0 0 (!X.w.params.followText "set-order")) } := by rw [p3, hD]; exact Heap.get?_push_size _ rfl
  have I3 : Inv X pins σ (upd H2 D (SO D)) s3 := by
    have z := I2.laid (t' := s2.toks) (a := D) (o := SO D) (h' := s3.heap) (fun b o e => by rw [p3]; exact Heap.get?_push_of_some _ e) (Nat.le_of_eq hD.symm) (hnew _ _ _ gD)
    rw [hs3] at z ⊢
    exact z
  rw [← hD, ← hs3]
  have f3 : ∀ b ∈ fp, FpOk X pins (upd H2 D (SO D)) b ∧ b < s3.heap.objs.size := fun b hb => by
    obtain ⟨o, e, _⟩ := T.obj _ _ st2 b hb
    have lt := Heap.lt_size e
    refine ⟨⟨?_, (f2 b hb).2⟩, by rw [p3, Heap.size_push]; exact Nat.lt_succ_of_lt lt⟩
    rw [upd_ne (fun e => by rw [e, hD] at lt; exact Nat.lt_irrefl _ lt)]
    exact (f2 b hb).1
  have st3 : tn 0 s3.heap := T.keep _ _ _ st2 fun b _ o e => by rw [p3]; exact Heap.get?_push_of_some _ e
  obtain ⟨H3, hH3⟩ : ∃ H3, H3 = upd H2 D (SO D) := ⟨_, rfl⟩
  rw [← hH3] at I3 f3 w0
  have I4 := block_start I3 ok hN f3
  obtain ⟨cl, hcl⟩ : ∃ cl, cl = cellsFrom (s3.heap.objs.size + 1) scope.names (cloFrom X.env.cells scope.names []) := ⟨_, rfl⟩
  rw [← hcl] at I4
  have pg := hg s3 H3 s3.heap.objs.size cl fp
  have pi1 := hi1 s3 H3 s3.heap.objs.size cl fp
  have pg1 := hg1 s3 H3 s3.heap.objs.size cl fp
  have pe := he s3 H3 s3.heap.objs.size cl fp
  have pa := ha s3 H3 s3.heap.objs.size cl fp
  show codeAny _ _ (.compStart (twoFor elt t0 i0 t1 i1 scope pos) 0 (.ref it) (.ref D) (compEnvC scope (cellsFrom (s3.heap.objs.size + 1) scope.names (cloFrom X.env.cells scope.names [])) s3.heap.objs.size X.env)) (compPost (model X.prog X.w) X.A X.xe none _ (.ref D) s3.heap.objs.size) { s3 with heap := pushCells (s3.heap.push { cls := .type "dict", data := .dict #[] }) scope.names }
  rw [← hcl]
  obtain ⟨ce, hce⟩ : ∃ ce, ce = compEnvC scope cl s3.heap.objs.size X.env := ⟨_, rfl⟩
  have cL : ce.locals = s3.heap.objs.size := by rw [hce]; rfl
  rw [← hce] at I4 pg pi1 pg1 pe pa ⊢
  obtain ⟨s4, hs4⟩ : ∃ s4 : Shared, s4 = { s3 with heap := pushCells (s3.heap.push { cls := .type "dict", data := .dict #[] }) scope.names } := ⟨_, rfl⟩
  rw [← hs4] at I4 ⊢
  have st4 : tn 0 s4.heap := T.keep _ _ _ st3 fun b _ o e => by rw [hs4]; exact pushCells_keeps _ _ _ _ (Heap.get?_push_of_some _ e)
  have ap : ∀ {G : Hp} {a : Shared}, Inv (X.blk s3 H3 scope ce fp) [] (wipe σ (own.map (·.2))) G a → (∀ b ∈ fp, G b = none) → ∀ b ∈ fp, FpOk (X.blk s3 H3 scope ce fp) [] G b := fun {G a} I' hn b hb =>
    ⟨hn b hb, (I'.ok.exf b hb).1, I'.ok.exfs b hb, .inl hb, fun x c e => (I'.ok.exf b hb).2 x c e, fun p hp => nomatch (show p ∈ ([] : List (Addr × Obj)) from hp)⟩
  have loop : codeAny (model X.prog X.w) X.A (.compLoop (twoFor elt t0 i0 t1 i1 scope pos) 0 (.ref it) (.ref D) ce) (compPost (model X.prog X.w) X.A X.xe none (EP X pins σ Q) (.ref D) s3.heap.objs.size) s4 := by
    refine outer_loop (hfold ce) (Stand (X.blk s3 H3 scope ce fp) [] (wipe σ (own.map (·.2))) fp tn W) (fun n a hst => ?_) m0 ⟨0, H3, I4, st4, fun b hb => (f3 b hb).1.1, w0⟩
    refine thnF (ask_next (Y := X.blk s3 H3 scope ce fp) hc T ap hW hst) fun r a hr => ?_
    match r, hr with
    | none, ⟨G, I6, hd, n6⟩ =>
      have I7 : Inv X pins σ G a := I3.call' (ch := fp) I6.os I6.base I6.hok I6.bare fun b hb => ⟨(f3 b hb).1.2.2.2.1, (f3 b hb).1.2.1, (f3 b hb).1.2.2.2.2.1, (f3 b hb).1.2.2.2.2.2⟩
      have nC : G ce.locals = none := I6.free
      obtain ⟨m, hn, _⟩ := I6.loc
      have hn' : a.heap.Ns ce.locals m := hn
      rw [cL] at nC hn'
      obtain ⟨f0, f1, f2', f3', f4, f5⟩ := I3.fpOk (Nat.le_refl _) nC
      exact ⟨m, hn', fun h'' sb => ⟨.ref D, G, I7.turned (t' := a.toks) (fun b o hb e => (sb.2 b hb).trans e) f0 f1 f3' f4 f5, rfl, hd⟩⟩
    | some v, hr =>
      refine thnF hr fun _ b ⟨x, G, Nx, I7, r7, hB, fin⟩ => ?_
      refine thnF (pg.run _ b _ G x v _ I7 r7 hB) fun _ c ⟨σ8, H8, I8, hw8, q8⟩ => ?_
      refine thnF (pi1.run _ c σ8 H8 _ I8 q8) fun xv d hx => thnF hx fun itv e h11 => ?_
      obtain ⟨it1, fp1, tn1, J1, H11, rfl, I11, T1, st11, f11, W1, ⟨m1, w1⟩, hW1⟩ := h11
      have kn8 : Knows (wipe σ (own.map (·.2))) (wipe σ8 vs1) := by
        rw [← hw8]
        refine ⟨by rw [wipe_length, wipe_length], fun j v e => ?_⟩
        obtain ⟨e1, e2⟩ := wipe_some e
        rw [wipe_out fun z => e2 (hv j z)]
        exact e1
      have loop1 : codeAny (model X.prog X.w) X.A (.compLoop (twoFor elt t0 i0 t1 i1 scope pos) 1 (.ref it1) (.ref D) ce) (fun r f => match r with
          | .ok _ => ∃ m, m < n ∧ Stand (X.blk s3 H3 scope ce fp) [] (wipe σ (own.map (·.2))) fp tn W m f
          | .error _ => False) e := by
        refine inner_loop (Stand (X.blk s3 H3 scope ce fp) ([] ++ pinsAt fp b.heap) (wipe σ8 vs1) fp1 tn1 W1) (fun k a1 hst1 => ?_) m1 ⟨0, H11, I11.weak (wipe_length _ _) (fun j v e => (wipe_some e).1), st11, fun b hb => (f11 b hb).1, w1⟩
        refine thnF (ask_next (Y := X.blk s3 H3 scope ce fp) hc T1 (fun _ hn d hd => ⟨hn d hd, (f11 d hd).2⟩) hW1 hst1) fun r1 a2 hr1 => ?_
        match r1, hr1 with
        | none, ⟨G1, I13, hd1, _⟩ => exact fin _ a2 G1 I13 kn8 hd1
        | some v1, hr1 =>
          refine thnF hr1 fun _ b1 ⟨x1, G1, Nx1, I14, r14, hB1, fin1⟩ => ?_
          refine thnF (pg1.run _ b1 _ G1 x1 v1 _ I14 r14 hB1) fun _ c1 ⟨σ15, H15, I15, hw15, q15⟩ => ?_
          refine thnF (pe.run _ c1 σ15 H15 _ I15 q15) fun z d1 ⟨yv, H17, I17, r17, nx⟩ => ?_
          refine thnF (pa _ d1 σ15 H17 [.ref D, yv] [.ref D, z] _ I17 (.cons rfl (.cons r17 .nil)) nx) fun _ e1 ⟨_, G7, I18, _, q7⟩ => ?_
          exact fin1 σ15 e1 G7 I18 (by rw [← hw15]; exact Knows.wipe _) q7
      exact inner_start loop1 (T1.self X.A 0 _ _ _ st11 loop1)
  exact PpSet.codeAny_compStart_set loop (T.self X.A 0 _ _ _ st4 loop)
end
end Qk
set_option maxRecDepth 100000
set_option maxHeartbeats 4000000
namespace Qk
open PySem PySem.Spec PyProof.Rows L2
/-- the row of a text -/
def RowT (P : Program) (w : World) (e : Int × Value) (x : Str) : Prop := e.1 = (strKind P w).hash x ∧ ∃ tk, e.2 = Value.str x tk
structure Txts (P : Program) (w : World) (h : Heap) (a : Addr) (xs : List Str) (o : Obj) (es : Array (Int × Value)) (ep : Nat) (t : SetTable) : Prop where
  ob : h.get? a = some o
  ex : o.ExactSet
  da : o.data = .set es ep t
  rows : Paired (RowT P w) es.toList xs
  nd : xs.Nodup
  few : es.size < scanBound
  fit : t.fits es.size = true
  ris : Ris t.place.toList
  led : w.params.followText "set-order" = true ∨ t.led = true
def TxtSet (P : Program) (w : World) (h : Heap) (a : Addr) (xs : List Str) : Prop := ∃ o es ep t, Txts P w h a xs o es ep t
section
variable {P : Program} {w : World} {h : Heap} {a : Addr} {xs : List Str} {o : Obj} {es : Array (Int × Value)} {ep : Nat} {t : SetTable}
theorem rows_elems : ∀ {l : List (Int × Value)} {xs : List Str}, Paired (RowT P w) l xs → ElemsOf (strKind P w) l := by
  intro l xs h
  induction h with
  | nil => exact fun e he => nomatch he
  | cons r _ ih =>
    intro e he
    rcases List.mem_cons.mp he with rfl | he
    · obtain ⟨h1, tk, h2⟩ := r
      refine ⟨⟨_, ?_, h1⟩, by rw [h2]; rfl⟩
      rw [h2]
      exact strKind_is _ _ _ _
    · exact ih e he
theorem rows_len {l : List (Int × Value)} {xs : List Str} (h : Paired (RowT P w) l xs) : l.length = xs.length := by
  induction h with
  | nil => rfl
  | cons _ _ ih => rw [List.length_cons, List.length_cons, ih]
/-- the text x stands in a row just if it is a member -/
theorem rows_mem {l : List (Int × Value)} {xs : List Str} (h : Paired (RowT P w) l xs) (x : Str) : (∃ e ∈ l, (strKind P w).is x e.2 = true) ↔ x ∈ xs := by
  induction h with
  | nil => simp
  | @cons e y l ys r _ ih =>
    obtain ⟨_, tk, h2⟩ := r
    have e1 : (strKind P w).is x e.2 = true ↔ x = y := by
      rw [h2]
      show ((y == x) = true) ↔ x = y
      rw [beq_iff_eq]
      exact eq_comm
    rw [List.mem_cons, ← ih, ← e1]
    constructor
    · rintro ⟨d, hd, hx⟩
      rcases List.mem_cons.mp hd with rfl | hd
      · exact .inl hx
      · exact .inr ⟨d, hd, hx⟩
    · rintro (hx | ⟨d, hd, hx⟩)
      · exact ⟨e, List.mem_cons_self, hx⟩
      · exact ⟨d, List.mem_cons_of_mem _ hd, hx⟩
/-- rows in another order are those of the members in another order -/
theorem rows_perm {l l' : List (Int × Value)} (p : l'.Perm l) : ∀ {xs : List Str}, Paired (RowT P w) l xs → ∃ ys, Paired (RowT P w) l' ys ∧ ys.Perm xs := by
  have flip : ∀ {l l' : List (Int × Value)}, l.Perm l' → ∀ {xs : List Str}, Paired (RowT P w) l xs → ∃ ys, Paired (RowT P w) l' ys ∧ ys.Perm xs := by
    intro l l' p
    induction p with
    | nil => intro xs h; exact ⟨xs, h, .refl _⟩
    | cons e _ ih =>
      intro xs h
      cases h with
      | cons r h =>
        obtain ⟨ys, g, q⟩ := ih h
        exact ⟨_, .cons r g, q.cons _⟩
    | swap e f l =>
      intro xs h
      cases h with
      | cons r h =>
        cases h with
        | cons r' h => exact ⟨_, .cons r' (.cons r h), .swap _ _ _⟩
    | trans _ _ i1 i2 =>
      intro xs h
      obtain ⟨ys, g1, q1⟩ := i1 h
      obtain ⟨zs, g2, q2⟩ := i2 g1
      exact ⟨zs, g2, q2.trans q1⟩
  exact fun {xs} h => flip p.symm h
theorem TxtSet.keep {h' : Heap} (R : TxtSet P w h a xs) (k : ∀ u, h.get? a = some u → h'.get? a = some u) : TxtSet P w h' a xs := by
  obtain ⟨o, es, ep, t, r⟩ := R
  exact ⟨o, es, ep, t, { r with ob := k _ r.ob }⟩
theorem TxtSet.fresh (w : World) (hh : h.get? a = some { cls := .type "set", dict := none, data := .set #[] 0 (.fresh 0 0 (!w.params.followText "set-order")) }) : TxtSet P w h a [] := by
  refine ⟨_, #[], 0, _, hh, ⟨rfl, rfl, rfl⟩, rfl, .nil, .nil, by decide, by rfl, .nil, ?_⟩
  show w.params.followText "set-order" = true ∨ (!w.params.followText "set-order") = true
  cases w.params.followText "set-order"
  · exact .inr rfl
  · exact .inl rfl
end
end Qk
set_option maxRecDepth 100000
set_option maxHeartbeats 4000000
namespace Qk
open PySem PySem.Spec PyProof.Rows L2
section
variable {P : Program} {w : World} {A : Around} {E : Value → Shared → Prop} {s : Shared} {a : Addr} {xs : List Str}
/-- the rows stored, and laid anew where the table is too full -/
theorem txt_store {g : Bool → Sem Unit} (say : ∀ (b : Bool) (c : Shared) (Q : Unit → Shared → Prop), Q () c → wpAny (model P w) A (g b) Q E c) {o : Obj} {es : Array (Int × Value)} {ep : Nat} {t : SetTable} (ob : s.heap.get? a = some o) (ex : o.ExactSet) (da : o.data = .set es ep t)
    {es1 : Array (Int × Value)} {t2 : SetTable} {zs : List Str} (rows : Paired (RowT P w) es1.toList zs) (nd : zs.Nodup) (few : es1.size < scanBound) (fit : t2.fits es1.size = true) (ris : Ris t2.place.toList) (led : w.params.followText "set-order" = true ∨ t2.led = true) {wd : Bool} {R : Option Bool → Shared → Prop}
    (hR : ∀ h' ys, Heap.SameBut a s.heap h' → TxtSet P w h' a ys → ys.Perm zs → R (some true) { s with heap := h' }) :
    wpAny (model P w) A (do
      storeSet a es1 t2
      if (!wd && t2.tooFull) = true then do
          g (relayAll t2 es1 (SetTable.grown es1.size)).2.2
          storeSet a (relayAll t2 es1 (SetTable.grown es1.size)).1 (relayAll t2 es1 (SetTable.grown es1.size)).2.1
          pure (some true)
        else pure (some true)) R E s := by
  have one := store_at (es' := es1) (t' := t2) ob da
  have but := Heap.SameBut.update s.heap a (Obj.putSet es1 t2)
  refine wpAny_bind (wpAny_storeSet_of ob da ?_ (fits_of_scanBound few))
  by_cases full : (!wd && t2.tooFull) = true
  · rw [if_pos full]
    obtain ⟨ys, rows', pm⟩ := rows_perm (relayAll_perm t2 es1 (SetTable.grown es1.size)) rows
    have few' : (relayAll t2 es1 (SetTable.grown es1.size)).1.size < scanBound := by
      rw [← Array.length_toList, rows_len rows', pm.length_eq, ← rows_len rows, Array.length_toList]
      exact few
    refine wpAny_bind (say _ _ _ (wpAny_bind (wpAny_storeSet_of one rfl ?_ (fits_of_scanBound few'))))
    have two := store_at (es' := (relayAll t2 es1 (SetTable.grown es1.size)).1) (t' := (relayAll t2 es1 (SetTable.grown es1.size)).2.1) one rfl
    exact wpAny_pure (hR _ ys (but.trans (Heap.SameBut.update _ a _)) ⟨_, _, _, _, two, ex, rfl, rows', pm.nodup_iff.mpr nd, few', relayAll_fits t2 es1 _, relayAll_ris t2 es1 _, led.imp id fun z => (relayAll_led t2 es1 _).trans z⟩ pm)
  · rw [if_neg full]
    exact wpAny_pure (hR _ zs but ⟨_, es1, _, t2, one, ex, rfl, rows, nd, few, fit, ris, led⟩ (.refl _))
theorem txt_hashed {x : Str} {tk : Tok} {Q : Bool → Shared → Prop} (R : TxtSet P w s.heap a xs) (room : xs.length + 1 < scanBound)
    (hQ : ∀ b h' ys, Heap.SameBut a s.heap h' → TxtSet P w h' a ys → (x ∈ xs → ys = xs) → (x ∉ xs → ys.Perm (x :: xs)) → Q b { s with heap := h' }) :
    wpAny (model P w) A (setAddHashed a (.str x tk) ((strKind P w).hash x)) Q E s := by
  obtain ⟨o, es, ep, t, r⟩ := R
  have hel := rows_elems r.rows
  have sz : es.size = xs.length := by rw [← Array.length_toList, rows_len r.rows]
  have sc : (Value.str x tk).scannable = true := rfl
  unfold setAddHashed setAddHashedIn
  refine wpAny_holding ?_
  refine wpAny_bind (wpAny_setState_of r.ob r.da r.fit ?_)
  dsimp only
  rw [byScan_of sc r.few hel]
  simp only [↓reduceIte]
  unfold setAddByScan
  refine wpAny_bind (wpAny_bind (wpAny_rule (wpAny_bind (wpAny_setScan_of (strKind_is P w x tk) r.ob r.da r.fit hel ?_))))
  cases fi : List.findIdx? (fun e => (strKind P w).is x e.2) es.toList with
  | some j =>
    dsimp only
    obtain ⟨hj, pj, _⟩ := List.findIdx?_eq_some_iff_getElem.mp fi
    have mx : x ∈ xs := (rows_mem r.rows x).mp ⟨_, List.getElem_mem hj, pj⟩
    exact wpAny_pure (wpAny_pure (hQ false s.heap xs (Heap.SameBut.refl a s.heap) ⟨o, es, ep, t, r⟩ (fun _ => rfl) fun z => absurd mx z))
  | none =>
    dsimp only
    have nx : x ∉ xs := fun z => by
      obtain ⟨e, he, q⟩ := (rows_mem r.rows x).mpr z
      have c := List.findIdx?_eq_none_iff.mp fi e he
      rw [q] at c
      cases c
    have pm0 := layNew_perm t es ((strKind P w).hash x) (.str x tk)
    have fit1 := layNew_fits t es ((strKind P w).hash x) (.str x tk)
    have ris1 := layNew_ris t es ((strKind P w).hash x) (.str x tk) r.ris
    have led1 := layNew_led t es ((strKind P w).hash x) (.str x tk)
    generalize layNew t es ((strKind P w).hash x) (.str x tk) = Z at pm0 fit1 ris1 led1 ⊢
    obtain ⟨es1, t1, wd, gave⟩ := Z
    dsimp only at pm0 fit1 ris1 led1 ⊢
    rw [Array.toList_push] at pm0
    have pc : es1.toList.Perm (((strKind P w).hash x, Value.str x tk) :: es.toList) := pm0.trans (List.perm_append_singleton _ _)
    obtain ⟨zs, rows1, pm1⟩ := rows_perm pc (Paired.cons (a := ((strKind P w).hash x, Value.str x tk)) (b := x) ⟨rfl, tk, rfl⟩ r.rows)
    have nd1 : zs.Nodup := pm1.nodup_iff.mpr (List.nodup_cons.mpr ⟨nx, r.nd⟩)
    have few1 : es1.size < scanBound := by
      rw [← Array.length_toList, rows_len rows1, pm1.length_eq, List.length_cons]
      exact room
    have ledt : w.params.followText "set-order" = true ∨ t1.led = true := r.led.imp id fun z => led1.trans z
    have fin : ∀ h' ys, Heap.SameBut a s.heap h' → TxtSet P w h' a ys → ys.Perm zs → Q true { s with heap := h' } := fun h' ys sb R' q => hQ true h' ys sb R' (fun z => absurd z nx) fun _ => q.trans pm1
    have quietly : ∀ (b : Bool) {c : Shared} {Q' : Unit → Shared → Prop}, Q' () c → wpAny (model P w) A (match b with | true => rule "set.scan.the-table-gave-way" | false => pure ()) Q' E c := fun b c Q' q => by
      cases b
      · exact wpAny_pure q
      · exact wpAny_rule q
    refine wpAny_bind (quietly _ ?_)
    split
    · refine wpAny_bind ?_
      rw [hashByValue_scannable 8 sc]
      refine wpAny_pure (txt_store ?_ r.ob r.ex r.da rows1 nd1 few1 ?_ ?_ ?_ ?_)
      · intro b c Q' q
        cases b <;> first | exact wpAny_pure q | exact wpAny_rule q
      · first | exact fit1 | (split <;> first | exact fit1 | exact SetTable.fits_plain_off fit1)
      · first | exact ris1 | (split <;> exact ris1)
      · first | exact ledt | (split <;> exact ledt)
      · intro h' ys sb R' q
        exact wpAny_pure (fin h' ys sb R' q)
    · refine wpAny_bind (wpAny_pure ?_)
      simp only [↓reduceIte]
      refine txt_store ?_ r.ob r.ex r.da rows1 nd1 few1 fit1 ris1 ledt ?_
      · intro b c Q' q
        cases b <;> first | exact wpAny_pure q | exact wpAny_rule q
      · intro h' ys sb R' q
        exact wpAny_pure (fin h' ys sb R' q)
end
end Qk
set_option maxRecDepth 100000
set_option maxHeartbeats 4000000
namespace Qk
open PySem PySem.Spec PyProof.Rows L2
def TxtO (P : Program) (w : World) (a : Addr) (xs : List Str) : HO := .ext fun h => TxtSet P w h a xs
theorem txtO_ok {P : Program} {w : World} {H : Hp} {h : Heap} {a : Addr} {xs : List Str} (R : TxtSet P w h a xs) : ObjOk P w H h a (TxtO P w a xs) := by
  have ⟨o, _, _, _, r⟩ := R
  exact ⟨R, ⟨o, r.ob⟩, fun _ _ p k => p.keep k⟩
/-- set.add of a text -/
def rAddT (P : Program) (w : World) : List V → Hp → VK → Prop := fun vs H Q => ∃ (a : Addr) (x : Str) (xs : List Str), vs = [.ref a, .str x] ∧ H a = some (TxtO P w a xs) ∧ xs.length + 1 < scanBound ∧
  ∀ ys, (x ∈ xs → ys = xs) → (x ∉ xs → ys.Perm (x :: xs)) → Q .non (upd H a (TxtO P w a ys))
/-- sorted of such a set -/
def rSortT (P : Program) (w : World) : List V → Hp → VK → Prop := fun vs H Q => ∃ (a : Addr) (xs : List Str), vs = [.ref a] ∧ H a = some (TxtO P w a xs) ∧ xs.length < 64 ∧
  ∀ (ys : List Str) (p : Addr), ys.Perm xs → sortedS ys = true → H p = none → Q (.ref p) (upd H p (.lst (ys.map V.str)))
theorem strs_rows {P : Program} {w : World} {l : List (Int × Value)} {xs : List Str} (h : Paired (RowT P w) l xs) : StrsAre (l.map (·.2)) xs := by
  induction h with
  | nil => exact .nil
  | @cons e y l ys r _ ih =>
    obtain ⟨_, tk, h2⟩ := r
    show StrsAre (e.2 :: l.map (·.2)) (y :: ys)
    rw [h2]
    exact .cons y tk ih
theorem strs_perm {us vs : List Value} (p : us.Perm vs) : ∀ {xs : List Str}, StrsAre us xs → ∃ ys, StrsAre vs ys ∧ ys.Perm xs := by
  induction p with
  | nil => intro xs h; exact ⟨xs, h, .refl _⟩
  | cons u _ ih =>
    intro xs h
    cases h with
    | cons x t h =>
      obtain ⟨ys, g, q⟩ := ih h
      exact ⟨_, .cons x t g, q.cons _⟩
  | swap u v l =>
    intro xs h
    cases h with
    | cons x t h =>
      cases h with
      | cons y t' h => exact ⟨_, .cons y t' (.cons x t h), .swap _ _ _⟩
  | trans _ _ i1 i2 =>
    intro xs h
    obtain ⟨ys, g1, q1⟩ := i1 h
    obtain ⟨zs, g2, q2⟩ := i2 g1
    exact ⟨zs, g2, q2.trans q1⟩
section
variable {X : Cx}
theorem cr_addT : CallR X (.builtin "set.add") (rAddT X.prog X.w) := by
  intro pins s σ H vs us Q I rv h
  obtain ⟨a, x, xs, rfl, ha, room, q⟩ := h
  obtain ⟨u, u', rfl, r1, tk, r2⟩ := vals2 rv
  cases r1
  subst r2
  have R : TxtSet X.prog X.w s.heap a xs := (I.hok a _ ha).1
  obtain ⟨o, es, ep, t, r⟩ := id R
  refine wpAny_call_entry PySem.F.slot_set_add ⟨o, r.ob, r.ex.1⟩ PySem.F.entry_set_add ?_ (PySem.F.args_set_add_2 _ _)
  unfold Builtin.«set.add» Builtin.Frozenset.oneOther
  simp only [List.isEmpty_nil, bind_assoc]
  unfold Builtin.Frozenset.addrOf setAdd
  refine wpAny_bind (wpAny_pure (wpAny_bind (wpAny_pure (wpAny_bind (wpAny_holding ?_)))))
  refine wpAny_bind ((strKind X.prog X.w).pyHash (strKind_is X.prog X.w x tk) ?_)
  refine txt_hashed (s := { s with toks := s.toks + 1 }) R room fun b h' ys sb new c1 c2 => ?_
  have he : ∃ u, h'.get? a = some u := by
    have ⟨o', _, _, _, r'⟩ := new
    exact ⟨o', r'.ob⟩
  exact wpAny_pure ⟨_, rfl, .non, _, I.write (e := a) (t' := s.toks + 1) (by rw [ha]; trivial) (.inl rfl) (fun b u hb hu => (sb.2 b hb).trans hu) he (txtO_ok new), rfl, q ys c1 c2⟩
theorem cr_sortT (hc : X.calm = true) : CallR X (.builtin "sorted") (rSortT X.prog X.w) := by
  intro pins s σ H vs us Q I rv h
  obtain ⟨a, xs, rfl, ha, h64, q⟩ := h
  obtain ⟨u, rfl, rx⟩ := vals1 rv
  cases rx
  obtain ⟨o, es, ep, t, r⟩ : TxtSet X.prog X.w s.heap a xs := (I.hok a _ ha).1
  refine Calls.call_function_entry PyProof.Rows.kind_sorted PyProof.Rows.plain_sorted PyProof.Rows.entry_sorted (args_sorted1 _) ?_
  unfold Builtin.«sorted»
  refine wpAny_bind (m := checkCount "sorted" 1 1 _) (wpAny_pure (wpAny_bind (collect_set (A := X.A.in1) (I.ok.hd hc) ⟨o, r.ob, r.ex.1, r.da⟩ r.fit r.few r.ris r.led fun s1 vs k1 hz g1 o1 pm => ?_)))
  obtain ⟨zs, hS, hp0⟩ := strs_perm pm.symm (strs_rows r.rows)
  have hl : vs.length = zs.length := hS.length
  have zl : zs.length < 64 := by rw [hp0.length_eq]; exact h64
  refine wpAny_bind (wpAny_newList ?_ (by rw [hl, sizeLine_eq]; omega))
  have hoL : (s1.heap.push (seqObj "list" vs.toArray 0)).get? s1.heap.objs.size = some (seqObj "list" vs.toArray 0) := Heap.get?_push_size _ rfl
  refine wpAny_bind (wpAny_holding (wpAny_call_entry PyProof.Rows.slot_list_sort ⟨_, hoL, rfl⟩ PyProof.Rows.entry_list_sort
    (list_sort_treeK strKind_oneLt (s := { s1 with heap := s1.heap.push (seqObj "list" vs.toArray 0) }) hoL hS.keysOf (fun v₁ v₂ rest e => keyKind_strs (by rw [← e]; exact hS)) (by rw [hl]; exact zl) fun st' hp hs => ⟨_, rfl, ?_⟩)
    (PyProof.Rows.args_list_sort _)))
  obtain ⟨ys, e1, e2, e3⟩ := sorted_out_str hS hp hs
  obtain ⟨n, hn⟩ := PyProof.Rows.sortedHeap_at (vs := vs) (out := (arrOf st').map (·.2)) hoL
  have old : ∀ b u, s.heap.get? b = some u → (sortedHeap (s1.heap.push (seqObj "list" vs.toArray 0)) s1.heap.objs.size vs ((arrOf st').map (·.2))).get? b = some u := fun b u e => by
    have c := k1 b u e
    have lt := Heap.lt_size c
    rw [PyProof.Rows.sortedHeap_old (Nat.ne_of_lt lt) (by rw [size_push']; exact Nat.lt_succ_of_lt lt)]
    exact Heap.get?_push_of_some _ c
  have nN : H s1.heap.objs.size = none := I.hok.fresh hz
  have lo : (ys.map V.str).length ≤ sizeLine := by
    rw [List.length_map, e2.length_eq, sizeLine_eq]
    omega
  have J : Inv X pins σ (upd H s1.heap.objs.size (.lst (ys.map V.str))) { s with heap := sortedHeap (s1.heap.push (seqObj "list" vs.toArray 0)) s1.heap.objs.size vs ((arrOf st').map (·.2)), gens := s1.gens, drawn := s1.drawn, toks := s1.toks } :=
    I.call (ch := []) (Un.laid old hz nN) (I.hok.laid old hz ⟨lo, ((arrOf st').map (·.2)).toList, n, vals_of_strs e1, by rw [Array.toArray_toList]; exact hn⟩) (by rw [g1]; exact I.bare) (fun _ z => nomatch z)
  have eo : ({ s1 with heap := sortedHeap (s1.heap.push (seqObj "list" vs.toArray 0)) s1.heap.objs.size vs ((arrOf st').map (·.2)) } : Shared) = { s with heap := sortedHeap (s1.heap.push (seqObj "list" vs.toArray 0)) s1.heap.objs.size vs ((arrOf st').map (·.2)), gens := s1.gens, drawn := s1.drawn, toks := s1.toks } := by
    obtain ⟨_, _, _, _, os'⟩ := s1
    obtain rfl : os' = s.os := o1
    rfl
  refine wpAny_pure ⟨_, rfl, .ref s1.heap.objs.size, _, ?_, rfl, q ys _ (e2.trans hp0) e3 nN⟩
  show Inv X pins σ _ ({ s1 with heap := sortedHeap (s1.heap.push (seqObj "list" vs.toArray 0)) s1.heap.objs.size vs ((arrOf st').map (·.2)) } : Shared)
  rw [eo]
  exact J
end
end Qk
set_option maxRecDepth 100000
set_option maxHeartbeats 4000000
set_option maxRecDepth 100000
set_option maxHeartbeats 4000000
namespace Qk
open PySem PySem.Spec PyProof.Rows L2
/-- an error of the class at C stands at a -/
def Er (H : Hp) (a C : Addr) : Prop := H a = some (exo a C none) ∨ ∃ d fs, H a = some (exo a C (some d)) ∧ H d = some (exd d fs)
theorem Er.same {H H' : Hp} {a C : Addr} (s : Same H H') (h : Er H a C) : Er H' a C := by
  rcases h with h | ⟨d, fs, h, hd⟩
  · exact .inl (s _ _ h)
  · exact .inr ⟨d, fs, s _ _ h, s _ _ hd⟩
/-- what the written part says of such a class -/
structure ErC (K : PySem.W.Frag) (C : Addr) : Prop where
  o : OexC K C
  x : XfC K C
  ha : PySem.W.findIn K (.ref C) "__class__" = some (some (.builtin "object.__class__"))
  hn : PySem.W.specialIn K (.builtin "object.__class__") "__get__" = some (some (.builtin "getset_descriptor.__get__"))
  ht : PySem.W.takesIn K (.builtin "object.__class__") = some true
  hm : PySem.W.mroIn K C (.type "object") = some true
end Qk
set_option maxRecDepth 100000
set_option maxHeartbeats 4000000
namespace Qk
open PySem PySem.Spec PyProof.Rows L2
mutual
inductive D1 (H : Hp) : V → PyData → Prop
  | non : D1 H .non .none
  | bl (b : Bool) : D1 H (.bl b) (.bool b)
  | int (i : Int) : D1 H (.int i) (.int i)
  | str (x : Str) : D1 H (.str x) (.str x)
  | lst {a : Addr} {xs : List V} {ds : List PyData} : H a = some (.lst xs) → a ≠ sysModules → D1A H xs ds → D1 H (.ref a) (.list ds)
  | tup {a : Addr} {xs : List V} {ds : List PyData} : H a = some (.tup xs) → D1A H xs ds → D1 H (.ref a) (.tuple ds)
inductive D1A (H : Hp) : List V → List PyData → Prop
  | nil : D1A H [] []
  | cons {v : V} {vs : List V} {d : PyData} {ds : List PyData} : D1 H v d → D1A H vs ds → D1A H (v :: vs) (d :: ds)
end
def kD : Key → PyData
  | .inl i => .int i
  | .inr x => .str x
inductive D2K (H : Hp) : List (Key × V) → List (PyData × PyData) → Prop
  | nil : D2K H [] []
  | cons {k : Key} {v : V} {d : PyData} {kvs : List (Key × V)} {D : List (PyData × PyData)} : D1 H v d → D2K H kvs D → D2K H ((k, v) :: kvs) ((kD k, d) :: D)
def D2 (H : Hp) (v : V) (d : PyData) : Prop := D1 H v d ∨ ∃ a kvs D, v = .ref a ∧ H a = some (.dK kvs) ∧ D2K H kvs D ∧ d = .dict D
section
variable {X : Cx} {pins : List (Addr × Obj)} {σ : L2.St} {H : Hp} {s : Shared}
mutual
theorem D1.reads (I : Inv X pins σ H s) : ∀ (d : PyData) (v : V) (u : Value), D1 H v d → RelV v u → ∃ as, Reads s.heap u d as ∧ sysModules ∉ as
  | .none, _, _, h, r => by
    cases h
    cases r
    exact ⟨_, Reads.none, by simp⟩
  | .bool b, _, _, h, r => by
    cases h
    cases r
    exact ⟨_, Reads.bool b, by simp⟩
  | .int i, _, _, h, r => by
    cases h
    obtain ⟨t, rfl⟩ := r
    exact ⟨_, Reads.int i t, by simp⟩
  | .str x, _, _, h, r => by
    cases h
    obtain ⟨t, rfl⟩ := r
    exact ⟨_, Reads.str x t, by simp⟩
  | .list ds, _, _, h, r => by
    cases h with
    | lst hs hn ha =>
      cases r
      obtain ⟨its, rv, ⟨o, n, ho, hc, _, hd⟩, _⟩ := I.list (SqL.of hs)
      obtain ⟨as, hr, ns⟩ := D1.readsAll I ds _ its ha rv
      refine ⟨_, Reads.list ho hc hd hr, fun z => ?_⟩
      rcases List.mem_cons.mp z with e | e
      · exact hn e.symm
      · exact ns e
  | .tuple ds, _, _, h, r => by
    cases h with
    | tup hs ha =>
      cases r
      obtain ⟨its, rv, ⟨o, ho, hc, n, hd⟩, _⟩ := I.tuple (SqT.of hs)
      obtain ⟨as, hr, ns⟩ := D1.readsAll I ds _ its ha rv
      exact ⟨_, Reads.tuple ho hc hd hr, ns⟩
  | .dict _, _, _, h, _ => by cases h
theorem D1.readsAll (I : Inv X pins σ H s) : ∀ (ds : List PyData) (vs : List V) (us : List Value), D1A H vs ds → Vals vs us → ∃ as, ReadsAll s.heap us ds as ∧ sysModules ∉ as
  | [], _, _, h, r => by
    cases h
    cases r
    exact ⟨_, ReadsAll.nil, by simp⟩
  | d :: ds, _, _, h, r => by
    cases h with
    | cons h1 h2 =>
      cases r with
      | cons r1 r2 =>
        obtain ⟨as, q1, n1⟩ := D1.reads I d _ _ h1 r1
        obtain ⟨bs, q2, n2⟩ := D1.readsAll I ds _ _ h2 r2
        refine ⟨_, ReadsAll.cons q1 q2, fun z => ?_⟩
        rcases List.mem_append.mp z with e | e
        · exact n1 e
        · exact n2 e
end
theorem D2K.reads (I : Inv X pins σ H s) {kvs : List (Key × V)} {D : List (PyData × PyData)} (h : D2K H kvs D) : ∀ (vs : List (Key × Value)) (es : List DictEntry), KV kvs vs → Pairs (mixKind X.prog X.w) es vs →
    ∃ as bs, ReadsAll s.heap (es.map (·.key)) (D.map (·.1)) as ∧ ReadsAll s.heap (es.map (·.val)) (D.map (·.2)) bs ∧ sysModules ∉ as ∧ sysModules ∉ bs := by
  induction h with
  | nil =>
    intro vs es r p
    cases r
    cases p
    exact ⟨_, _, ReadsAll.nil, ReadsAll.nil, by simp, by simp⟩
  | @cons k v d kvs D h1 h2 ih =>
    intro vs es r p
    cases r with
    | @cons _ q _ vs' r1 r2 =>
      cases p with
      | @cons e _ es' _ p1 p2 p3 =>
        obtain ⟨as, bs, q1, q2, n1, n2⟩ := ih _ _ r2 p3
        obtain ⟨cs, q3, n3⟩ := D1.reads I d v e.val h1 (by rw [p2]; exact r1.2)
        have hk : ∃ ds, Reads s.heap e.key (kD k) ds ∧ sysModules ∉ ds := by
          have e1 : k = q.1 := r1.1
          rw [← e1] at p1
          rcases keyIs_shape (show keyIs k e.key = true from p1) with ⟨i, t, rfl, e2⟩ | ⟨x, t, rfl, e2⟩
          · rw [e2]
            exact ⟨_, Reads.int i t, by simp⟩
          · rw [e2]
            exact ⟨_, Reads.str x t, by simp⟩
        obtain ⟨ds, q4, n4⟩ := hk
        refine ⟨_, _, ReadsAll.cons q4 q1, ReadsAll.cons q3 q2, fun z => ?_, fun z => ?_⟩
        · rcases List.mem_append.mp z with e | e
          · exact n4 e
          · exact n1 e
        · rcases List.mem_append.mp z with e | e
          · exact n3 e
          · exact n2 e
theorem D2.reads (I : Inv X pins σ H s) {v : V} {d : PyData} {u : Value} (h : D2 H v d) (r : RelV v u) : ∃ as, Reads s.heap u d as ∧ sysModules ∉ as := by
  rcases h with h | ⟨a, kvs, D, rfl, ha, hk, rfl⟩
  · exact D1.reads I d v u h r
  · cases r
    obtain ⟨z, hd, vs, rel, ⟨o, es, ep, h1, h2, h3, h4, h5, h6⟩⟩ := dk_of I.hok ha
    obtain ⟨as, bs, q1, q2, n1, n2⟩ := hk.reads I vs es.toList rel h5
    refine ⟨_, Reads.dict h1 h2.1 h3 q1 q2, fun z => ?_⟩
    rcases List.mem_append.mp z with e | e
    · rcases List.mem_cons.mp e with e | e
      · rw [← e] at hd
        simp at hd
      · exact n1 e
    · exact n2 e
end
section
variable {X : Cx}
def tLstN (t : TA) : TE := fun σ H Q => t σ H fun xs H1 => xs.length ≤ sizeLine ∧ ∀ p, H1 p = none → p ≠ sysModules → Q (.ref p) (upd H1 p (.lst xs))
theorem pe_lstN {es : List Expr} {t : TA} {pos : Pos} (h : PA X es t) : PE X (.List es pos) (tLstN t) := by
  refine ⟨fun pins s σ H Q I hq => ?_⟩
  refine wpAny_List_spliced (thn (h.run pos pins s σ H _ I hq) fun us s1 ⟨xs, H1, I1, r, z, q⟩ => ⟨by rw [← r.length]; exact z, ?_⟩)
  have hf : H1 s1.heap.objs.size = none := I1.hok.fresh (Nat.le_refl _)
  refine ⟨.ref s1.heap.objs.size, upd H1 s1.heap.objs.size (.lst xs), I1.laid (t' := s1.toks) (fun b u e => Heap.get?_push_of_some _ e) (Nat.le_refl _) ?_, rfl, q _ hf (Nat.ne_of_gt I1.big)⟩
  exact ⟨z, us, 0, r, Heap.get?_push_size _ rfl⟩
end
end Qk
set_option maxRecDepth 100000
set_option maxHeartbeats 4000000
namespace Qk
open PySem PySem.Spec PyProof.Rows L2
def oexB (K : PySem.W.Frag) (C : Addr) : Bool := match K.lookup C with
  | some ⟨.type "type", _, .cls cd, sl⟩ => (match cd.mro, sl.toList with
    | .ref C' :: bm, [_, _, _, _, some (.builtin n), _] => C' == C && n == "ValueError.__new__" && !cd.hasDel && cd.hasDict && PySem.HandSPX.refsVE bm
    | _, _ => false)
  | _ => false
def ercB (K : PySem.W.Frag) (C : Addr) : Bool := oexB K C && decide (PySem.W.findIn K (.ref C) "__setattr__" = some (some (.builtin "object.__setattr__"))) && decide (PySem.W.typeIn K (.ref C) = some (.type "type")) && PySem.W.keepIn K (.ref C) && xfB K C &&
  decide (PySem.W.findIn K (.ref C) "__class__" = some (some (.builtin "object.__class__"))) && decide (PySem.W.specialIn K (.builtin "object.__class__") "__get__" = some (some (.builtin "getset_descriptor.__get__"))) &&
  decide (PySem.W.takesIn K (.builtin "object.__class__") = some true) && decide (PySem.W.mroIn K C (.type "object") = some true)
theorem oexB_ok {K : PySem.W.Frag} {C : Addr} (q : oexB K C = true) : ∃ nm q N bs bm sn sub ab col dd k0 k1 k2 k3 k5, K.lookup C = some (excClassObj nm q C N bs bm true sn sub ab col dd k0 k1 k2 k3 k5 "ValueError.__new__") ∧ PySem.HandSPX.refsVE bm = true := by
  unfold oexB at q
  split at q
  · rename_i dd cd sl ho
    split at q
    · rename_i C' bm k0 k1 k2 k3 n k5 hm hs
      simp only [Bool.and_eq_true, beq_iff_eq, Bool.not_eq_true'] at q
      obtain ⟨⟨⟨⟨rfl, rfl⟩, hdel⟩, hd⟩, ht⟩ := q
      obtain ⟨nm, bs, mro, ns, qn, hd', sn, sub, ab, col, del⟩ := cd
      dsimp only at hm hdel hd
      subst hm hdel hd
      have hsl : sl = #[k0, k1, k2, k3, some (.builtin "ValueError.__new__"), k5] := by
        obtain ⟨l⟩ := sl
        simp only at hs
        rw [hs]
      subst hsl
      exact ⟨nm, qn, ns, bs, bm, sn, sub, ab, col, dd, k0, k1, k2, k3, k5, ho, ht⟩
    · cases q
  · cases q
theorem ercB_ok {K : PySem.W.Frag} {C : Addr} (q : ercB K C = true) : ErC K C := by
  unfold ercB at q
  simp only [Bool.and_eq_true, decide_eq_true_eq] at q
  obtain ⟨⟨⟨⟨⟨⟨⟨⟨h1, h2⟩, h3⟩, h4⟩, h5⟩, h6⟩, h7⟩, h8⟩, h9⟩ := q
  exact ⟨⟨oexB_ok h1, h2, (xfB_ok h5).exC, h3, h4⟩, xfB_ok h5, h6, h7, h8, h9⟩
/-- an error with its one field -/
def ErF (H : Hp) (a C : Addr) (f : Str) (x : V) : Prop := ∃ d, H a = some (exo a C (some d)) ∧ H d = some (exd d [(f, x)])
theorem ErF.same {H H' : Hp} {a C : Addr} {f : Str} {x : V} (s : Same H H') (h : ErF H a C f x) : ErF H' a C f x := by
  obtain ⟨d, h1, h2⟩ := h
  exact ⟨d, s _ _ h1, s _ _ h2⟩
mutual
theorem D1.same {H H' : Hp} (s : Same H H') : ∀ (d : PyData) (v : V), D1 H v d → D1 H' v d
  | .none, _, h => by
    cases h
    exact .non
  | .bool b, _, h => by
    cases h
    exact .bl b
  | .int i, _, h => by
    cases h
    exact .int i
  | .str x, _, h => by
    cases h
    exact .str x
  | .list ds, _, h => by
    cases h with
    | lst a b c => exact .lst (s _ _ a) b (D1.sameAll s ds _ c)
  | .tuple ds, _, h => by
    cases h with
    | tup a c => exact .tup (s _ _ a) (D1.sameAll s ds _ c)
  | .dict _, _, h => by cases h
theorem D1.sameAll {H H' : Hp} (s : Same H H') : ∀ (ds : List PyData) (vs : List V), D1A H vs ds → D1A H' vs ds
  | [], _, h => by
    cases h
    exact .nil
  | d :: ds, _, h => by
    cases h with
    | cons a b => exact .cons (D1.same s d _ a) (D1.sameAll s ds _ b)
end
def tyD : PyData → String
  | .none => "NoneType"
  | .bool _ => "bool"
  | .int _ => "int"
  | .str _ => "str"
  | .list _ => "list"
  | .tuple _ => "tuple"
  | .dict _ => "dict"
theorem D1.ty {K : PySem.W.Frag} {H : Hp} {v : V} {d : PyData} (h : D1 H v d) : TyX K H v (.type (tyD d)) := by
  cases h with
  | non => exact .base .non
  | bl b => exact .base (.bl b)
  | int i => exact .base (.int i)
  | str x => exact .base (.str x)
  | lst a b c => exact .base (.lst a)
  | tup a c => exact .base (.tup a)
theorem ErF.off {H : Hp} {a b C : Addr} {f : Str} {x : V} {o u : HO} (h : ErF H a C f x) (hb : H b = some o) (ho : ∀ φ, o ≠ .ext φ) : ErF (L2.upd H b u) a C f x := by
  obtain ⟨d, h1, h2⟩ := h
  refine ⟨d, ?_, ?_⟩
  · rw [upd_ne (ne_of h1 hb fun z => ho _ z.symm)]
    exact h1
  · rw [upd_ne (ne_of h2 hb fun z => ho _ z.symm)]
    exact h2
theorem D2K.same {H H' : Hp} (s : Same H H') {kvs : List (Key × V)} {D : List (PyData × PyData)} (h : D2K H kvs D) : D2K H' kvs D := by
  induction h with
  | nil => exact .nil
  | cons h1 _ ih => exact .cons (D1.same s _ _ h1) ih
theorem D2.same {H H' : Hp} (s : Same H H') {v : V} {d : PyData} (h : D2 H v d) : D2 H' v d := by
  rcases h with h | ⟨a, kvs, D, rfl, ha, hk, rfl⟩
  · exact .inl (D1.same s _ _ h)
  · exact .inr ⟨a, kvs, D, rfl, s _ _ ha, hk.same s, rfl⟩
end Qk
set_option maxRecDepth 100000
set_option maxHeartbeats 4000000
namespace Qk
open PySem PySem.Spec PyProof.Rows L2
theorem PI.or {X : Cx} {tg it : Expr} {wi wi' : TI} (h : PI X tg it wi) (h' : PI X tg it wi') : PI X tg it (fun σ H R => wi σ H R ∨ wi' σ H R) :=
  ⟨fun pins s σ H R I q => q.elim (h.run pins s σ H R I) (h'.run pins s σ H R I)⟩
theorem dok_qs3 {qs : List Qd} (h : ∀ q ∈ qs, Qfine q) (hl : qs.length ≤ 300) : DOk (.list (qs.map dq)) :=
  ⟨fine_qs h, by show PyData.depthAll _ + 1 ≤ 50; have := depth_qs qs; omega, by show costAll _ + 3 ≤ _; have := cost_qs h; omega⟩
/-- a row as data -/
def dR (r : List Str) : PyData := .tuple (r.map PyData.str)
theorem TL.dp {K : PySem.W.Frag} {H : Hp} : ∀ {xs : List V} {rs : List (List Str)}, TL H xs rs → DpAll K H xs (rs.map dR)
  | _, _, .nil => .nil
  | _, _, .cons ⟨t, e, z⟩ r => by
    subst e
    exact .cons (.tup (SqT.of z) (dp_strs _)) (TL.dp r)
theorem TL.kp {H H' : Hp} {b l : Addr} {xs : List V} {rs : List (List Str)} (B : Bag H b l) (s : Kp b H H') (h : TL H xs rs) : TL H' xs rs :=
  Paired.mapP h fun x r ⟨t, e, z⟩ => ⟨t, e, s _ _ z (B.ne_tup z)⟩
theorem TL.mem {H : Hp} {xs : List V} {rs : List (List Str)} (h : TL H xs rs) : ∀ x ∈ xs, ∃ (t : Addr) (r : List Str), x = .ref t ∧ r ∈ rs ∧ H t = some (.tup (r.map V.str)) := fun x hx => by
  obtain ⟨i, hi⟩ := List.mem_iff_getElem?.mp hx
  obtain ⟨t, r, e, h1, h2⟩ := h.at_ hi
  exact ⟨t, r, e, List.mem_of_getElem? h1, h2⟩
/-- taken in another order -/
theorem paired_perm {α β : Type} {F : α → β → Prop} {xs ys : List α} (hp : ys.Perm xs) : ∀ {us : List β}, Paired F xs us → ∃ vs, Paired F ys vs ∧ vs.Perm us := by
  have key : ∀ {xs ys : List α}, xs.Perm ys → ∀ {us : List β}, Paired F xs us → ∃ vs, Paired F ys vs ∧ vs.Perm us := by
    intro xs ys hp
    induction hp with
    | nil => intro us h; exact ⟨us, h, .refl _⟩
    | cons x _ ih =>
      intro us h
      cases h with
      | cons h1 h2 =>
        obtain ⟨vs, g1, g2⟩ := ih h2
        exact ⟨_ :: vs, .cons h1 g1, g2.cons _⟩
    | swap x y l =>
      intro us h
      cases h with
      | cons h1 h2 =>
        cases h2 with
        | cons h3 h4 => exact ⟨_, .cons h3 (.cons h1 h4), .swap _ _ _⟩
    | trans _ _ i1 i2 =>
      intro us h
      obtain ⟨vs, g1, g2⟩ := i1 h
      obtain ⟨ws, k1, k2⟩ := i2 g1
      exact ⟨ws, k1, k2.trans g2⟩
  exact fun {us} h => key hp.symm h
end Qk
set_option maxRecDepth 100000
set_option maxHeartbeats 4000000
namespace Qk
open PySem PySem.Spec PyProof.Rows L2
structure OwnBin (K : PySem.W.Frag) (C f : Addr) (nm : Str) : Prop where
  sf : PySem.W.selfFirst K C = true
  at_ : PySem.W.findIn K (.ref C) nm = some (some (.ref f))
  fn : PySem.W.isFn K (.ref f) = true
structure OwnIn (K : PySem.W.Frag) (C f : Addr) : Prop where
  at_ : PySem.W.findIn K (.ref C) "__contains__" = some (some (.ref f))
  fn : PySem.W.isFn K (.ref f) = true
def rInO (C : Addr) (sp : Sp) (neg : Bool) : R2 := fun x y H Q => ∃ (a dx : Addr) (fs : List (Str × V)), y = .ref a ∧ H a = some (.ins C dx fs) ∧ sp [.ref a, x] H (fun v H' => ∃ r, v = .bl r ∧ Q (.bl (if neg = true then !r else r)) H') E0
section
variable {X : Cx} {C f : Addr} {fd : FuncData} {n : Nat} {sp : Sp} {p1 p2 : Str}
theorem run_two {A : Around} {pins : List (Addr × Obj)} {σ : L2.St} {H : Hp} {s : Shared} {Q : VK} {us : List Value} {vs : List V} (F : FnOk X.prog X.w X.K X.mg X.base CX0 n f fd [p1, p2] sp) (hA : Sub X n A) (hb : Binds X.K fd [p1, p2] [])
    (I : Inv X pins σ H s) (r : Vals vs us) (h : sp vs H Q E0) : wpAny (model X.prog X.w) A (call (.ref f) us) (EP X pins σ Q) X.xe s := by
  have e0 : Env0 X.prog X.w X.K X.mg X.base A X.stack s H := env_sub hA I
  have hl : (us ++ ([] : List Value)).length = [p1, p2].length := by
    rw [List.append_nil, ← r.length]
    exact F.len _ _ _ _ h
  have hbd := hb s us I.kIn hl
  rw [List.append_nil] at hbd
  refine wpAny_call (codeAny_mono (F.run A X.stack s H ⟨us, []⟩ us vs Q E0 hA.room e0 hbd r h) fun r s' hq => ?_)
  cases r with
  | error e => exact False.elim hq
  | ok fl =>
    cases fl with
    | ret u => exact I.after hq
    | next => exact False.elim hq
    | brk => exact False.elim hq
    | cont => exact False.elim hq
theorem op_inO (O : OwnIn X.K C f) (F : FnOk X.prog X.w X.K X.mg X.base CX0 n f fd [p1, p2] sp) (hr : Room n X.A) (hb : Binds X.K fd [p1, p2] []) : OpR X (compareOp .In) (rInO C sp false) := by
  intro pins s σ H x y v u Q I rx ry hq
  obtain ⟨a, dx, fs, rfl, ha, h⟩ := hq
  cases ry
  obtain ⟨mA, J, _⟩ := ins_get I.hok ha
  obtain ⟨od, J, _⟩ := J.look
  obtain ⟨m, hF⟩ := I.fr
  refine PySem.W.in_K hF I.ok.mod.kin J O.at_ O.fn ?_
  refine wpAny_mono (run_two (us := [.ref a, v]) (vs := [.ref a, x]) F ⟨hr, rfl⟩ hb I (.cons rfl (.cons rx .nil)) h) (fun r s' z => ?_) fun _ _ e => e
  obtain ⟨w, H', I', rw', r, rfl, q⟩ := z
  cases rw'
  exact wpAny_pure ⟨.bl r, H', I', rfl, q⟩
theorem op_notInO (O : OwnIn X.K C f) (F : FnOk X.prog X.w X.K X.mg X.base CX0 n f fd [p1, p2] sp) (hr : Room n X.A) (hb : Binds X.K fd [p1, p2] []) : OpR X (compareOp .NotIn) (rInO C sp true) := by
  intro pins s σ H x y v u Q I rx ry hq
  obtain ⟨a, dx, fs, rfl, ha, h⟩ := hq
  cases ry
  obtain ⟨mA, J, _⟩ := ins_get I.hok ha
  obtain ⟨od, J, _⟩ := J.look
  obtain ⟨m, hF⟩ := I.fr
  refine PySem.W.notIn_K hF I.ok.mod.kin J O.at_ O.fn ?_
  refine wpAny_mono (run_two (us := [.ref a, v]) (vs := [.ref a, x]) F ⟨hr, rfl⟩ hb I (.cons rfl (.cons rx .nil)) h) (fun r s' z => ?_) fun _ _ e => e
  obtain ⟨w, H', I', rw', r, rfl, q⟩ := z
  cases rw'
  exact wpAny_pure ⟨.bl (!r), H', I', rfl, q⟩
end
end Qk
set_option maxRecDepth 100000
set_option maxHeartbeats 4000000
namespace Qk
open PySem PySem.Spec PyProof.Rows L2
/-- c is put behind, once -/
def addC (f : List Str) (c : Str) : List Str := if c ≠ "" ∧ c ∉ f then f ++ [c] else f
def lengQ (f : List Str) (q : Qd) : List Str := (q.1 ++ [q.2]).foldl addC f
def leng (f : List Str) (qs : List Qd) : List Str := qs.foldl lengQ f
/-- r serves q -/
def srv (r : List Str) (q : Qd) : Prop := (r.take q.1.length).Perm q.1 ∧ (q.2 = "" ∨ r[q.1.length]? = some q.2)
theorem mem_allC {cols : List Str} {e z : Str} : z ∈ allC cols e ↔ z ∈ cols ∨ (z = e ∧ e ≠ "") := by
  rw [← mem_row]
  unfold rowC
  by_cases h : e = ""
  · rw [if_pos h]
    exact ⟨fun q => .inl q, fun q => q.elim id fun q => absurd h q.2⟩
  · rw [if_neg h, List.mem_append, List.mem_singleton]
    exact ⟨fun q => q.imp id fun q => ⟨q, h⟩, fun q => q.imp id fun q => q.1⟩
theorem addC_fold : ∀ (cs f : List Str), (∀ c ∈ cs, c ≠ "") → cs.Nodup → cs.foldl addC f = f ++ cs.filter fun c => !decide (c ∈ f)
  | [], f, _, _ => by simp
  | c :: cs, f, hne, hnd => by
    obtain ⟨h1, h2⟩ := List.nodup_cons.mp hnd
    rw [List.foldl_cons, addC_fold cs _ (fun x hx => hne x (List.mem_cons_of_mem _ hx)) h2]
    unfold addC
    by_cases hc : c ∈ f
    · rw [if_neg (fun z => z.2 hc), List.filter_cons, if_neg (by simp [hc])]
    · rw [if_pos ⟨hne c List.mem_cons_self, hc⟩, List.filter_cons, if_pos (by simp [hc]), List.append_assoc]
      congr 1
      rw [List.singleton_append]
      congr 1
      refine List.filter_congr fun x hx => ?_
      have ne : x ≠ c := fun e => h1 (e ▸ hx)
      simp [ne]
/-- what stands behind some questions -/
structure LI (f : List Str) (done : List Qd) : Prop where
  nd : f.Nodup
  sub : ∀ c ∈ f, c ∈ menu
  sv : ∀ p ∈ done, srv f p
  top : f = [] ∧ done = [] ∨ ∃ t ∈ done, ∀ c, c ∈ f ↔ c ∈ allC t.1 t.2
  least : ∀ r, (∀ p ∈ done, srv r p) → ∀ (i : Nat) (c d : Str), f[i]? = some d → r[i]? = some c → c ∉ f.take i → leS d c
theorem srv_more {f x : List Str} {p : Qd} (h : srv f p) : srv (f ++ x) p := by
  obtain ⟨h1, h2⟩ := h
  have hl : p.1.length ≤ f.length := by
    have := h1.length_eq
    rw [List.length_take] at this
    omega
  refine ⟨?_, h2.imp id fun h => ?_⟩
  · rw [List.take_append_of_le_length hl]
    exact h1
  · rw [List.getElem?_append_left (List.getElem?_eq_some_iff.mp h).1]
    exact h
theorem perm_of {a b : List Str} (ha : a.Nodup) (hs : ∀ x ∈ a, x ∈ b) (hb : b.Nodup) (hl : b.length ≤ a.length) : a.Perm b := by
  refine (List.perm_ext_iff_of_nodup ha hb).mpr fun x => ⟨hs x, fun hx => ?_⟩
  apply Classical.byContradiction
  intro hn
  have h1 : (x :: a).Nodup := List.nodup_cons.mpr ⟨hn, ha⟩
  have := nodup_len (x :: a) b h1 fun y hy => (List.mem_cons.mp hy).elim (fun e => e ▸ hx) (hs y)
  rw [List.length_cons] at this
  omega
theorem LI.next {f : List Str} {done : List Qd} {q : Qd} (L : LI f done) (z : QZ q.1 q.2) (hd : ∀ p ∈ done, QZ p.1 p.2 ∧ shareQ p q = true ∧ p.1.length ≤ q.1.length) : LI (lengQ f q) (done ++ [q]) := by
  obtain ⟨c, e⟩ := q
  have cne : ∀ x ∈ c, x ≠ "" := fun x hx => menu_ne _ (z.m.sub x hx)
  have ef : lengQ f (c, e) = addC (f ++ c.filter fun x => !decide (x ∈ f)) e := by
    show (c ++ [e]).foldl addC f = _
    rw [List.foldl_append, addC_fold c f cne z.m.nd]
    rfl
  rw [ef]
  -- where all is there
  have caseA : (∀ x ∈ allC c e, x ∈ f) → srv f (c, e) → LI (addC (f ++ c.filter fun x => !decide (x ∈ f)) e) (done ++ [(c, e)]) := fun ha hs => by
    have e1 : (c.filter fun x => !decide (x ∈ f)) = [] := List.filter_eq_nil_iff.mpr fun x hx => by simp [ha x (mem_allC.mpr (.inl hx))]
    have e2 : addC f e = f := by
      unfold addC
      refine if_neg fun h => h.2 (ha e (mem_allC.mpr (.inr ⟨rfl, h.1⟩)))
    rw [e1, List.append_nil, e2]
    refine ⟨L.nd, L.sub, fun p hp => ?_, .inr ?_, fun r hr => L.least r fun p hp => hr p (List.mem_append_left _ hp)⟩
    · rcases List.mem_append.mp hp with h | h
      · exact L.sv p h
      · rw [List.mem_singleton.mp h]
        exact hs
    · rcases L.top with ⟨h1, h2⟩ | ⟨t, ht, h⟩
      · refine ⟨(c, e), List.mem_append_right _ (List.mem_singleton.mpr rfl), fun x => ⟨fun h => ?_, ha x⟩⟩
        rw [h1] at h
        cases h
      · exact ⟨t, List.mem_append_left _ ht, h⟩
  have caseB : (∀ x ∈ f, x ∈ c) → LI (addC (f ++ c.filter fun x => !decide (x ∈ f)) e) (done ++ [(c, e)]) := fun hb => by
    generalize hx : (c.filter fun x => !decide (x ∈ f)) = x
    have xm : ∀ y, y ∈ x ↔ y ∈ c ∧ y ∉ f := fun y => by rw [← hx, List.mem_filter]; simp
    have gnd : (f ++ x).Nodup := List.nodup_append.mpr ⟨L.nd, by rw [← hx]; exact z.m.nd.filter _, fun a ha b hb e => ((xm b).mp hb).2 (e ▸ ha)⟩
    have gp : (f ++ x).Perm c := (List.perm_ext_iff_of_nodup gnd z.m.nd).mpr fun y => by
      rw [List.mem_append, xm]
      constructor
      · exact fun h => h.elim (hb y) fun h => h.1
      · intro h
        by_cases hy : y ∈ f
        · exact .inl hy
        · exact .inr ⟨h, hy⟩
    have gl : (f ++ x).length = c.length := gp.length_eq
    have xpw : x.Pairwise leS := by rw [← hx]; exact (sortedS_pw z.m.srt).filter _
    have eg : e ∉ f ++ x := fun h => z.ne (gp.mem_iff.mp h)
    obtain ⟨u, hu, hu2⟩ : ∃ u : List Str, addC (f ++ x) e = (f ++ x) ++ u ∧ ((e = "" ∧ u = []) ∨ (e ≠ "" ∧ u = [e])) := by
      unfold addC
      by_cases he : e = ""
      · exact ⟨[], by rw [if_neg fun h => h.1 he, List.append_nil], .inl ⟨he, rfl⟩⟩
      · exact ⟨[e], by rw [if_pos ⟨he, eg⟩], .inr ⟨he, rfl⟩⟩
    rw [hu]
    have um : ∀ y, y ∈ u ↔ y = e ∧ e ≠ "" := fun y => by
      rcases hu2 with ⟨h1, h2⟩ | ⟨h1, h2⟩
      · rw [h2]
        exact ⟨fun h => (nomatch h), fun h => absurd h1 h.2⟩
      · rw [h2, List.mem_singleton]
        exact ⟨fun h => ⟨h, h1⟩, fun h => h.1⟩
    have fm : ∀ y, y ∈ (f ++ x) ++ u ↔ y ∈ allC c e := fun y => by
      rw [List.mem_append, um, mem_allC, gp.mem_iff]
    refine ⟨?_, fun y hy => z.menu y ((fm y).mp hy), fun p hp => ?_, .inr ⟨(c, e), List.mem_append_right _ (List.mem_singleton.mpr rfl), fm⟩, fun r hr i a d hd1 hr1 hn => ?_⟩
    · refine List.nodup_append.mpr ⟨gnd, ?_, fun a ha b hb q => eg (by rw [← ((um b).mp hb).1, ← q]; exact ha)⟩
      rcases hu2 with ⟨_, h2⟩ | ⟨_, h2⟩
      · rw [h2]; exact List.nodup_nil
      · rw [h2]; simp
    · rcases List.mem_append.mp hp with h | h
      · rw [List.append_assoc]
        exact srv_more (L.sv p h)
      · rw [List.mem_singleton.mp h]
        refine ⟨?_, ?_⟩
        · show (((f ++ x) ++ u).take c.length).Perm c
          rw [← gl, List.take_left']
          · exact gp
          · rfl
        · rcases hu2 with ⟨h1, _⟩ | ⟨_, h2⟩
          · exact .inl h1
          · refine .inr ?_
            show ((f ++ x) ++ u)[c.length]? = some e
            rw [h2, ← gl, List.getElem?_append_right (Nat.le_refl _), Nat.sub_self]
            rfl
    · have rq : srv r (c, e) := hr (c, e) (List.mem_append_right _ (List.mem_singleton.mpr rfl))
      by_cases hi : i < f.length
      · rw [List.append_assoc, List.getElem?_append_left hi] at hd1
        rw [List.append_assoc, List.take_append_of_le_length (Nat.le_of_lt hi)] at hn
        exact L.least r (fun p hp => hr p (List.mem_append_left _ hp)) i a d hd1 hr1 hn
      · by_cases hg : i < (f ++ x).length
        · rw [List.getElem?_append_left hg, List.getElem?_append_right (by omega)] at hd1
          rw [List.take_append_of_le_length (Nat.le_of_lt hg)] at hn
          have ac : a ∈ c := by
            refine rq.1.mem_iff.mp ?_
            refine List.mem_of_getElem? (i := i) ?_
            rw [List.getElem?_take_of_lt (by show i < c.length; omega)]
            exact hr1
          rw [List.take_append, List.take_of_length_le (by omega)] at hn
          have an : a ∉ f := fun h => hn (List.mem_append_left _ h)
          have ax : a ∉ x.take (i - f.length) := fun h => hn (List.mem_append_right _ h)
          have amx : a ∈ x := (xm a).mpr ⟨ac, an⟩
          have hlt : i - f.length < x.length := (List.getElem?_eq_some_iff.mp hd1).1
          have ed := (List.getElem?_eq_some_iff.mp hd1).2
          have cut : x = x.take (i - f.length) ++ d :: x.drop (i - f.length + 1) := by
            have e1 := List.drop_eq_getElem_cons hlt
            rw [ed] at e1
            rw [← e1, List.take_append_drop]
          rw [cut] at amx xpw
          rcases List.mem_append.mp amx with h | h
          · exact absurd h ax
          · rcases List.mem_cons.mp h with h | h
            · rw [h]
              exact leS_refl d
            · exact (List.pairwise_cons.mp (List.pairwise_append.mp xpw).2.1).1 a h
        · rw [List.getElem?_append_right (by omega)] at hd1
          have hdu : d ∈ u := List.mem_of_getElem? hd1
          obtain ⟨h1, h2⟩ := (um d).mp hdu
          have hu1 : u.length ≤ 1 := by
            rcases hu2 with ⟨_, q⟩ | ⟨_, q⟩ <;> rw [q] <;> simp
          have hi2 := (List.getElem?_eq_some_iff.mp hd1).1
          have ei : i = c.length := by omega
          have := rq.2.resolve_left h2
          rw [ei] at hr1
          rw [show r[c.length]? = some e from this] at hr1
          rw [h1, ← Option.some.inj hr1]
          exact leS_refl e
  rcases L.top with ⟨h1, h2⟩ | ⟨t, ht, h⟩
  · exact caseB fun x hx => by rw [h1] at hx; cases hx
  · obtain ⟨zt, hs, hl⟩ := hd t ht
    have hl : t.1.length ≤ c.length := hl
    unfold shareQ at hs
    simp only [Bool.or_eq_true, decide_eq_true_eq] at hs
    rcases hs with hs | hs | hs
    · rw [hs] at h
      have := L.sv t ht
      rw [hs] at this
      exact caseA (fun x hx => (h x).mpr hx) this
    · unfold belowQ at hs
      simp only [Bool.and_eq_true, decide_eq_true_eq] at hs
      exact caseB fun x hx => hs.2 x ((h x).mp hx)
    · unfold belowQ at hs
      simp only [Bool.and_eq_true, decide_eq_true_eq] at hs
      have hs2 : ∀ x ∈ allC c e, x ∈ t.1 := hs.2
      have cp : c.Perm t.1 := perm_of z.m.nd (fun x hx => hs2 x (mem_allC.mpr (.inl hx))) zt.m.nd hl
      have he : e = "" := Classical.byContradiction fun ne => z.ne (cp.mem_iff.mpr (hs2 e (mem_allC.mpr (.inr ⟨rfl, ne⟩))))
      refine caseA (fun x hx => (h x).mpr (mem_allC.mpr (.inl (hs2 x hx)))) ⟨?_, .inl he⟩
      show (f.take c.length).Perm c
      rw [cp.length_eq]
      exact (L.sv t ht).1.trans cp.symm
theorem LI.all : ∀ (ys : List Qd) (f : List Str) (done : List Qd), LI f done → QZs ys → (∀ p ∈ done, QZ p.1 p.2) → (∀ p ∈ done, ∀ q ∈ ys, shareQ p q = true ∧ p.1.length ≤ q.1.length) → ys.Pairwise (fun p q => shareQ p q = true ∧ p.1.length ≤ q.1.length) → LI (leng f ys) (done ++ ys)
  | [], f, done, L, _, _, _, _ => by rw [List.append_nil]; exact L
  | q :: ys, f, done, L, hz, hd, hs, hp => by
    obtain ⟨p1, p2⟩ := List.pairwise_cons.mp hp
    have L2 := L.next (q := q) (hz q List.mem_cons_self) fun p hp => ⟨hd p hp, hs p hp q List.mem_cons_self⟩
    have := LI.all ys (lengQ f q) (done ++ [q]) L2 (fun x hx => hz x (List.mem_cons_of_mem _ hx)) (fun p hp => by
        rcases List.mem_append.mp hp with h | h
        · exact hd p h
        · rw [List.mem_singleton.mp h]; exact hz q List.mem_cons_self)
      (fun p hp x hx => by
        rcases List.mem_append.mp hp with h | h
        · exact hs p h x (List.mem_cons_of_mem _ hx)
        · rw [List.mem_singleton.mp h]; exact p1 x hx) p2
    rw [List.append_assoc] at this
    exact this
theorem LI.nil : LI [] [] := ⟨List.nodup_nil, fun c h => (nomatch h), fun p h => (nomatch h), .inl ⟨rfl, rfl⟩, fun r _ i c d h => by simp at h⟩
end Qk
set_option maxRecDepth 100000
set_option maxHeartbeats 4000000
namespace Qk
open PySem PySem.Spec PyProof.Rows L2
def wAsF (K : PySem.W.Frag) (c : Value) (i : Nat) (ts : Addr → Value → Option Addr → TS) (D : Ends) : WX := fun cls d σ H => PySem.W.exmOne K cls c = some true ∧
  ∀ a, H a = none → ts a cls d { nx := fun σ' H' => D.nx (σ'.set i none) H', rt := D.rt, bk := fun σ' H' => D.bk (σ'.set i none) H', ct := fun σ' H' => D.ct (σ'.set i none) H' } (σ.set i (some (.ref a))) H
end Qk
set_option maxRecDepth 100000
set_option maxHeartbeats 4000000
namespace Qk
open PySem PySem.Spec PyProof.Rows L2
/-- an error that was raised: its class and its dict -/
def erx (a : Addr) (cls : Value) (d : Option Addr) : HO := .ext fun h => ∃ (oe : Obj) (vs : Array Value), h.get? a = some oe ∧ Zc cls d oe ∧ oe.data = .fields vs
end Qk
set_option maxRecDepth 100000
set_option maxHeartbeats 4000000
namespace Qk
open PySem PySem.Spec PyProof.Rows L2
section
variable {X : Cx} {pins : List (Addr × Obj)} {σ : L2.St} {H : Hp} {s : Shared}
/-- an error of the class C that was raised, its fields -/
def Erx (H : Hp) (a C d : Addr) (fs : List (Str × V)) : Prop := H a = some (erx a (.ref C) (some d)) ∧ H d = some (.xd fs)
theorem Erx.same {H H' : Hp} {a C d : Addr} {fs : List (Str × V)} (s : Same H H') (h : Erx H a C d fs) : Erx H' a C d fs := ⟨s _ _ h.1, s _ _ h.2⟩
end
end Qk
set_option maxRecDepth 100000
set_option maxHeartbeats 4000000
namespace Qk
open PySem PySem.Spec PyProof.Rows L2
section
variable {X : Cx} {x n : Str} {c : Value} {i : Nat} {body suite : List Stmt} {b₀ : Stmt} {np pos pos' : Pos} {hds : List ExceptHandler} {tb : WX → TS} {ts : Addr → Value → Option Addr → TS}
theorem ps_try_asE {orelse : List Stmt} {u : TS} (ho : PSs X orelse u) (hs : X.stack = X.env :: X.outer) (hf : X.env.frame = some X.env.locals) (hN : X.N.Nodup) (hi : X.N[i]? = some n) (hln : X.env.kindOf n = some .local) (hc : L2.Names X x c)
    (hb : ∀ (W : WX) (pn : List (Addr × Obj)) (xe : Value → Shared → Prop), Takes (X.tr pn xe) W → PassesOwn (model X.prog X.w) X.A X.env xe → PSs (X.tr pn xe) body (tb W))
    (hsu : ∀ (a : Addr) (oe : Obj) (cls : Value) (d : Option Addr) (pn : List (Addr × Obj)), Zc cls d oe → (∃ vs, oe.data = .fields vs) → PSs (X.suite a ((a, oe) :: pn)) (b₀ :: suite) (ts a cls d)) :
    PS X (.Try body (.ExceptHandler (some (.Name x np)) (some n) (b₀ :: suite) pos' :: hds) orelse [] pos) (fun D σ H => tb (wAsF X.K c i ts D) { D with nx := u D } σ H) := by
  refine ⟨fun pins s σ H D I h => ?_⟩
  have ok := I.ok
  have hfr : X.A.frames = some (X.env :: X.outer) := by rw [ok.frames, hs]
  have hloc : Loc X.env.scope n := .inl hln
  refine wpAny_Try_except ?_
  refine wpAny_mono ((hb (wAsF X.K c i ts D) (X.pn ++ pins) (fun e s₁ => wpAny (model X.prog X.w) X.A (noteFrame e X.env) (fun _ s₂ => wpAny (model X.prog X.w) X.A (setFlight e none) (fun _ s₃ =>
    wpAny (model X.prog X.w) X.A (handleBy e X.env (.ExceptHandler (some (.Name x np)) (some n) (b₀ :: suite) pos' :: hds)) (SP X pins D) X.xe s₃) X.xe s₂) X.xe s₁) (fun u s' xx => ?_) PassesOwn.looking).run [] s σ H { D with nx := u D } (I.toTry _) h) (fun f s1 hsp => ?_) (fun e s1 he => he)
  · obtain ⟨a, B, sI, pins', σ', H', cls, d, rfl, J', nb, up, sky, na, os, ag, hb1, hyes⟩ := xx
    have J : Inv X pins σ' H' sI := J'.ofTry ok
    have sky' : Sky B (X.env :: X.outer) a (Zc cls d) X.env.locals s'.heap := by rw [← hs]; exact sky
    show wpAny (model X.prog X.w) X.A (noteFrame (.ref a) X.env) _ _ _
    refine Sky.land Zc.steady hfr hf sky' fun h3 fl3 up3 => ?_
    have J3 : Inv X pins σ' H' { s' with heap := h3 } := J.landed nb fl3.1 (up.trans up3) os ag
    obtain ⟨oe3, vs3, he3, hz3, hd3⟩ := fl3.there
    have notFr : ∀ {h : Heap} {o : Obj} {vs : Array Value}, h.FunFrames B (X.env :: X.outer) → h.get? a = some o → o.data = .fields vs → a ∉ frs (X.env :: X.outer) := fun {h o vs} ff e dd hm => by
      obtain ⟨_, o', e', hnf⟩ := ff.mem hm
      rw [e] at e'
      cases e'
      exact hnf _ dd
    have nfr := notFr fl3.2.2.1 he3 hd3
    have nL : a ≠ X.env.locals := fun z => nfr (List.mem_filterMap.mpr ⟨X.env, List.mem_cons_self, by rw [hf, z]⟩)
    have nF : a ∉ X.fs := fun hm => by
      obtain ⟨e, he, q⟩ := List.mem_filterMap.mp hm
      exact nfr (List.mem_filterMap.mpr ⟨e, List.mem_cons_of_mem _ he, q⟩)
    have S3 := J3.suite he3 hd3 na nL nF
    refine wpAny_handleBy_cons (codeAny_handlers_test ?_) (by intro q; cases q)
    have LT : PySem.W.Looks (model X.prog X.w) h3 (typeOf (.ref a)) cls := fun A Q E s k q => wpAny_typeOf_ref (k _ _ he3) (by rw [hz3.1]; exact q)
    have LM := PySem.W.exm_one (M := model X.prog X.w) (J3.kIn) LT hb1
    have test : ∀ {Q : Value → Shared → Prop} {E : Value → Shared → Prop}, Q c { s' with heap := h3 } → wpAny (model X.prog X.w) (X.A.mark (some (.ref a))) (eval (.Name x np) X.env) Q E { s' with heap := h3 } := fun {Q E} q => by
      obtain ⟨hg, hdbg, hm | ⟨hm, hv, hnn⟩⟩ := hc
      · exact ld_glob (X := X.suite a ((a, oe3) :: (X.pn ++ pins))) S3 hg hm q hdbg
      · exact ld_blt (X := X.suite a ((a, oe3) :: (X.pn ++ pins))) S3 hg hm hv q hnn hdbg
    refine test (LM.here ?_)
    refine codeAny_handlers_suite_as ?_
    refine HandSPX.lands_againZ fl3 fun h4 fl4 up4 => ?_
    have J4 : Inv X pins σ' H' { s' with heap := h4 } := J.landed nb fl4.1 ((up.trans up3).trans up4) os ag
    obtain ⟨oe4, vs4, he4, hz4, hd4⟩ := fl4.there
    have S4 := J4.suite he4 hd4 na nL nF
    refine store_ok (X := X.suite a ((a, oe4) :: (X.pn ++ pins))) (v := .ref a) S4 hN hi hloc rfl (fun s5 S5 => ?_) (.inr hln)
    refine wpAny_mono ((hsu a oe4 cls d (X.pn ++ pins) hz4 ⟨_, hd4⟩).run [] s5 _ H' _ S5 (hyes a na)) (fun f s6 hsp => ?_) (fun _ _ z => False.elim z)
    have end_ : ∀ {σ6 : L2.St} {H6 : Hp} {Q : Shared → Prop}, Inv (X.suite a ((a, oe4) :: (X.pn ++ pins))) [] σ6 H6 s6 → (∀ s7, Inv X pins (σ6.set i none) H6 s7 → Q s7) →
        wpAny (model X.prog X.w) X.A (do bindName X.env n .none; unbindBehindTheSuite X.env n pos') (fun _ s7 => Q s7) X.xe s6 := fun {σ6 H6 Q} S6 hq => gone_ok (S6.unsuite ok) hN hi hln hq
    cases f with
    | next =>
      obtain ⟨σ6, H6, S6, q6⟩ := hsp
      exact end_ S6 fun s7 J7 => ⟨_, _, J7, q6⟩
    | brk =>
      obtain ⟨σ6, H6, S6, q6⟩ := hsp
      exact end_ S6 fun s7 J7 => ⟨_, _, J7, q6⟩
    | cont =>
      obtain ⟨σ6, H6, S6, q6⟩ := hsp
      exact end_ S6 fun s7 J7 => ⟨_, _, J7, q6⟩
    | ret u =>
      obtain ⟨v6, σ6, H6, S6, r6, q6⟩ := hsp
      exact end_ S6 fun s7 J7 => ⟨_, _, _, J7, r6, q6⟩
  · cases f with
    | next =>
      obtain ⟨σ', H', J', q⟩ := hsp
      exact ho.run pins s1 σ' H' D (J'.ofTry ok) q
    | brk =>
      obtain ⟨σ', H', J', q⟩ := hsp
      exact ⟨σ', H', J'.ofTry ok, q⟩
    | cont =>
      obtain ⟨σ', H', J', q⟩ := hsp
      exact ⟨σ', H', J'.ofTry ok, q⟩
    | ret u =>
      obtain ⟨v, σ', H', J', r, q⟩ := hsp
      exact ⟨v, σ', H', J'.ofTry ok, r, q⟩
end
/-- isinstance(e, c), e the caught error a of a class of one's own, with fields -/
def rIsXf (K : PySem.W.Frag) (a : Addr) (cls : Value) (d : Option Addr) : List V → Hp → VK → Prop := fun xs H Q => ∃ (C dd : Addr) (fs : List (Str × V)) (c : V) (u : Value) (b : Bool), xs = [.ref a, c] ∧ cls = .ref C ∧ d = some dd ∧ ClsV c u ∧ H dd = some (.xd fs) ∧ ErC K C ∧ PySem.W.kitOne K (.ref C) u = some b ∧ Q (.bl b) H
theorem call_isXf {X : Cx} {a : Addr} {oe : Obj} {cls : Value} {d : Option Addr} {pn : List (Addr × Obj)} (hz : Zc cls d oe) (hf : ∃ vs, oe.data = .fields vs) : CallR (X.suite a ((a, oe) :: pn)) (.builtin "isinstance") (rIsXf X.K a cls d) := by
  intro pins s σ H xs us Q I r h
  obtain ⟨C, dd, fs, c, u, b, rfl, rfl, rfl, k, ea, T, e, q⟩ := h
  obtain ⟨u1, u2, rfl, r1, r2⟩ := vals2 r
  have e2 := k.eq r2
  subst e2
  cases (show u1 = Value.ref a from r1)
  obtain ⟨ha, _⟩ := I.pin (a, oe) (List.mem_append_left _ List.mem_cons_self)
  obtain ⟨vs, hd⟩ := hf
  have hx : ObjOk X.prog X.w H s.heap dd (.xd fs) := I.hok dd _ ea
  obtain ⟨mA, hns, hr⟩ := hx
  obtain ⟨od, ho, hl⟩ := lookIn_ns hns
  have J : PySem.W.InstAt s.heap a oe C (some od) := ⟨ha, hz.1, by unfold PySem.W.notCls; rw [hd] <;> rfl, by rw [hz.2]; exact ho⟩
  obtain ⟨cd, hc, _⟩ := PySem.W.any_some T.x.hdC
  exact PySem.W.kia_one (PySem.W.kitx_exc (by rw [hc]; rfl) T.x.ga T.x.gg T.x.exC T.ha T.hn T.ht T.hm) I.kIn J e (fun z => nomatch z) fun tk => ⟨.bl b, H, I.tok tk, rfl, q⟩
end Qk
set_option maxRecDepth 100000
set_option maxHeartbeats 4000000
set_option maxRecDepth 100000
set_option maxHeartbeats 4000000
namespace Qk
open PySem PySem.Spec PyProof.Rows L2
section
variable {X : Cx}
/-- set(xs), xs a list of texts -/
def rSetL (K : PySem.W.Frag) (P : Program) (w : World) : List V → Hp → VK → Prop := fun vs H Q => ∃ (l : Addr) (xs : List Str), vs = [.ref l] ∧ SqL K H l (xs.map V.str) ∧ xs.length ≤ 1000 ∧
  ∀ (p : Addr) (n : Nat), H p = none → n ≤ xs.length → (n = xs.length ↔ xs.Nodup) → Q (.ref p) (upd H p (SetX P w p (fun z => decide (z ∈ xs)) n))
/-- xs != [], whatever xs holds -/
def rNeNil (K : PySem.W.Frag) : R2 := fun x y H Q => ∃ (a b : Addr) (xs : List V), x = .ref a ∧ y = .ref b ∧ SqL K H a xs ∧ SqL K H b [] ∧ Q (.bl (!decide (xs = []))) H
theorem op_neNil (hu : X.A.units + 64 < cLine) : OpR X (compareOp .NotEq) (rNeNil X.K) := by
  intro pins s σ H x y v u Q I rx ry h
  obtain ⟨a, b, xs, rfl, rfl, ha, hb, q⟩ := h
  cases rx
  cases ry
  by_cases hx : xs = []
  · subst hx
    exact op_neD hu pins s σ H (.ref a) (.ref b) (.ref a) (.ref b) Q I rfl rfl ⟨.list [], .list [], .lst ha .nil, .lst hb .nil, rfl, rfl, q⟩
  · obtain ⟨its, rv, pl, _⟩ := I.list ha
    obtain ⟨jts, rv2, pl2, _⟩ := I.list hb
    have l1 : its.length = xs.length := rv.length.symm
    have l2 : jts.length = 0 := rv2.length.symm
    have ne : xs.length ≠ 0 := fun e => hx (List.eq_nil_of_length_eq_zero e)
    rw [decide_eq_false hx] at q
    refine PySem.SeqAt.RcNeAt.lists_lengths pl.isList pl2.isList (by simp [l1, l2, ne]) (by omega) X.prog X.w X.xe _ ⟨.bl true, H, I, rfl, q⟩
end
end Qk
set_option maxRecDepth 100000
set_option maxHeartbeats 4000000
namespace Qk
open PySem PySem.Spec PyProof.Rows L2
/-- a flat value: a text is of signs as they are written, where it is short -/
def Flat (H : Hp) (A : Addr → Prop) (x : V) : Prop := x = .non ∨ (∃ b, x = .bl b) ∨ (∃ i, x = .int i) ∨ (∃ z : Str, x = .str z ∧ z.cps.size ≤ 10000 ∧ (z.cps.size ≤ 8 → PyData.strOk z = true)) ∨ ∃ a kvs, x = .ref a ∧ ¬ A a ∧ H a = some (.dK kvs)
/-- a value whose lists and tuples lie at most n deep, none of them at an address of A -/
def VA (mx : Nat) (H : Hp) (A : Addr → Prop) : Nat → V → Prop
  | 0, x => Flat H A x
  | n + 1, x => Flat H A x ∨ ∃ a xs, x = .ref a ∧ ¬ A a ∧ (H a = some (.lst xs) ∨ H a = some (.tup xs)) ∧ xs.length ≤ mx ∧ ∀ y ∈ xs, VA mx H A n y
section
variable {mx : Nat} {H H' : Hp} {A A' : Addr → Prop}
theorem Flat.keep {x : V} (k : ∀ c o, H c = some o → ¬ A c → H' c = some o ∧ ¬ A' c) (h : Flat H A x) : Flat H' A' x := by
  rcases h with h | h | h | h | ⟨a, kvs, e, na, ha⟩
  · exact .inl h
  · exact .inr (.inl h)
  · exact .inr (.inr (.inl h))
  · exact .inr (.inr (.inr (.inl h)))
  · exact .inr (.inr (.inr (.inr ⟨a, kvs, e, (k _ _ ha na).2, (k _ _ ha na).1⟩)))
theorem VA.keep : ∀ {n : Nat} {x : V}, (∀ c o, H c = some o → ¬ A c → H' c = some o ∧ ¬ A' c) → VA mx H A n x → VA mx H' A' n x
  | 0, x, k, h => Flat.keep k h
  | n + 1, x, k, h => by
    rcases h with h | ⟨a, xs, e, na, ha, hl, hx⟩
    · exact .inl (Flat.keep k h)
    · refine .inr ⟨a, xs, e, ?_, ?_, hl, fun y hy => VA.keep k (hx y hy)⟩
      · rcases ha with ha | ha
        · exact (k _ _ ha na).2
        · exact (k _ _ ha na).2
      · rcases ha with ha | ha
        · exact .inl (k _ _ ha na).1
        · exact .inr (k _ _ ha na).1
theorem VA.same {n : Nat} {x : V} (s : Same H H') (h : VA mx H A n x) : VA mx H' A n x := VA.keep (fun c o e na => ⟨s c o e, na⟩) h
theorem Flat.va {x : V} (h : Flat H A x) : ∀ {n : Nat}, VA mx H A n x
  | 0 => h
  | _ + 1 => .inl h
theorem VA.up : ∀ {n : Nat} {x : V}, VA mx H A n x → VA mx H A (n + 1) x
  | 0, _, h => .inl h
  | n + 1, _, h => by
    rcases h with h | ⟨a, xs, e, na, ha, hl, hx⟩
    · exact .inl h
    · exact .inr ⟨a, xs, e, na, ha, hl, fun y hy => VA.up (hx y hy)⟩
theorem VA.le {n m : Nat} (h : n ≤ m) {x : V} (v : VA mx H A n x) : VA mx H A m x := by
  obtain ⟨k, rfl⟩ := Nat.le.dest h
  clear h
  induction k with
  | zero => exact v
  | succ k ih => exact ih.up
/-- what stands in the heap stands outside of A -/
def Out (H : Hp) (A : Addr → Prop) : Prop := ∀ c, A c → ∃ o, H c = some o
end
/-- new values: all that they are made of is newer than H0 -/
def old (H0 : Hp) : Addr → Prop := fun c => ∃ o, H0 c = some o
theorem VA.wide : ∀ {n mx my : Nat} {H : Hp} {A : Addr → Prop} {x : V}, mx ≤ my → VA mx H A n x → VA my H A n x
  | 0, _, _, _, _, _, _, h => h
  | n + 1, mx, my, H, A, x, hm, h => by
    rcases h with h | ⟨a, xs, e, na, ha, hl, hx⟩
    · exact .inl h
    · exact .inr ⟨a, xs, e, na, ha, Nat.le_trans hl hm, fun y hy => VA.wide hm (hx y hy)⟩
theorem VA.fresh {mx n : Nat} {H : Hp} {A : Addr → Prop} {x : V} {p : Addr} {o : HO} (hp : H p = none) (h : VA mx H A n x) : VA mx (upd H p o) (fun c => A c ∨ c = p) n x :=
  VA.keep (fun c u e na => ⟨by rw [upd_ne (ne_of_none e hp)]; exact e, fun ha => ha.elim na fun ec => ne_of_none e hp ec⟩) h
section
variable {X : Cx} {mx : Nat}
theorem PE.imp {e : Expr} {t t' : TE} (h : PE X e t) (hi : ∀ σ H Q, t' σ H Q → t σ H Q) : PE X e t' := ⟨fun pins s σ H Q I q => h.run pins s σ H Q I (hi σ H Q q)⟩
theorem PA.imp {es : List Expr} {t t' : TA} (h : PA X es t) (hi : ∀ σ H Q, t' σ H Q → t σ H Q) : PA X es t' := ⟨fun pos pins s σ H Q I q => h.run pos pins s σ H Q I (hi σ H Q q)⟩
theorem fl_str {z : Str} (h : z.cps.size ≤ 10000) (ok : z.cps.size ≤ 8 → PyData.strOk z = true) : ∀ H A, Flat H A (.str z) := fun H A => .inr (.inr (.inr (.inl ⟨z, rfl, h, ok⟩)))
theorem fold_size (z : Array Nat) : ∀ (k : Nat) (acc : Array Nat), ((List.replicate k z).foldl (· ++ ·) acc).size = acc.size + k * z.size
  | 0, acc => by simp
  | k + 1, acc => by
    rw [List.replicate_succ, List.foldl_cons, fold_size z k, Array.size_append, Nat.succ_mul]
    omega
end
end Qk
set_option maxRecDepth 100000
set_option maxHeartbeats 4000000
namespace Qk
open PySem PySem.Spec PyProof.Rows L2
section
variable {P : Program} {w : World} {A : Around} {R : Result → Shared → Prop} {I : Addr} {fp wr : List Addr} {G : Array GenState → Array GenState → Prop} {n : Nat} {Pv : Nat → Value → Prop} {St : Nat → Shared → Prop}
/-- what stands after i turns -/
def FillT (P : Program) (w : World) (xs : List Str) (S : Addr) (i : Nat) (h : Heap) : Prop := ∃ ys, TxtSet P w h S ys ∧ ys.Nodup ∧ (∀ z, z ∈ ys ↔ z ∈ xs.take i) ∧ ys.length ≤ i
theorem fill_loopT (W : WalksS P w A.in1 I fp wr G n Pv St) (S : Addr) (hSf : S ∉ fp) (xs : List Str) (hsz : xs.length = n) (hn1 : n ≤ 1000) (hval : ∀ i v, Pv i v → ∃ t, v = .str (xs.getD i Str.empty) t) :
    ∀ (k i : Nat) (s : Shared), n - i = k → i ≤ n → St i s → FillT P w xs S i s.heap → (∀ s', Moved (S :: wr) G s s' → FillT P w xs S n s'.heap → R (.ok (.ret .none)) s') →
      codeAny (model P w) A (.builtin "set.update.loop" ⟨[.ref S, .ref I], []⟩) R s := by
  have hSw : S ∉ wr := fun h => hSf (W.sub _ h)
  have hsub : ∀ b ∈ wr, b ∈ S :: wr := fun b hb => List.mem_cons_of_mem _ hb
  have same : ∀ {s s' : Shared} {i : Nat}, Moved wr G s s' → FillT P w xs S i s.heap → FillT P w xs S i s'.heap := fun hm ⟨j, g, q⟩ => ⟨j, g.keep fun u e => hm.heap S _ hSw e, q⟩
  intro k
  induction k with
  | zero =>
    intro i s hk hi hst hS hR
    obtain rfl : i = n := by omega
    refine codeAny_builtin PyProof.Rows.F.entry_set_update_loop ?_
    rw [Around.under_plainId PyProof.Rows.F.plain_set_update_loop _]
    exact wpAny_bind (m := pyNext (.ref I)) (W.done s _ _ hst fun s' hm => wpAny_pure (hR s' (hm.mono hsub) (same hm hS)))
  | succ k ih =>
    intro i s hk hi hst hS hR
    have hlt : i < n := by omega
    refine codeAny_builtin PyProof.Rows.F.entry_set_update_loop ?_
    rw [Around.under_plainId PyProof.Rows.F.plain_set_update_loop _]
    refine wpAny_bind (m := pyNext (.ref I)) (W.item i s _ _ hlt hst fun v s' hP hst' hm => ?_)
    obtain ⟨t, rfl⟩ := hval i v hP
    obtain ⟨ys, g, hnd, hmem, hj⟩ := same hm hS
    show wpAny _ A.in1 (holding [Value.str (xs.getD i Str.empty) t] (setAdd S (.str (xs.getD i Str.empty) t)) >>= _) _ _ s'
    refine wpAny_bind (wpAny_holding ?_)
    unfold setAdd
    refine wpAny_holding (wpAny_bind ((strKind P w).pyHash (k := xs.getD i Str.empty) (strKind_is _ _ _ _) ?_))
    refine txt_hashed (s := { s' with toks := s'.toks + 1 }) g (by unfold scanBound; omega) fun b h' zs hsb g2 c1 c2 => ?_
    have hx : xs[i]? = some (xs.getD i Str.empty) := by
      rw [List.getD_eq_getElem?_getD, List.getElem?_eq_getElem (by omega)]
      rfl
    have ht : xs.take (i + 1) = xs.take i ++ [xs.getD i Str.empty] := by rw [List.take_add_one, hx]; rfl
    have g3 : FillT P w xs S (i + 1) h' := by
      by_cases hm' : xs.getD i Str.empty ∈ ys
      · have e := c1 hm'
        subst e
        refine ⟨zs, g2, hnd, fun z => ?_, by omega⟩
        rw [ht, List.mem_append, List.mem_singleton, ← hmem z]
        exact ⟨.inl, fun h => h.elim id fun h => by rw [h]; exact hm'⟩
      · have p := c2 hm'
        refine ⟨zs, g2, p.nodup_iff.mpr (List.nodup_cons.mpr ⟨hm', hnd⟩), fun z => ?_, by rw [p.length_eq, List.length_cons]; omega⟩
        rw [ht, List.mem_append, List.mem_singleton, ← hmem z, p.mem_iff, List.mem_cons]
        exact or_comm
    refine wpAny_pure ⟨plainId_quiet PyProof.Rows.F.plain_set_update_loop _, ih (i + 1) _ (by omega) hlt (W.frame _ s' _ _ hst' (Nat.le_succ _) fun b hb o e => ?_) g3 fun s'' hm'' hS'' => ?_⟩
    · rw [hsb.2 b (fun h : b = S => hSf (by rw [← h]; exact hb))]
      exact e
    · refine hR s'' (Moved.trans W.gtrans ((hm.mono hsub).then_heap (Nat.le_succ _) fun b o hb e => ?_) hm'') hS''
      rw [hsb.2 b (fun h : b = S => hb (by rw [h]; exact List.mem_cons_self))]
      exact e
end
section
variable {P : Program} {w : World} {A : Around} {E : Value → Shared → Prop} {s : Shared}
set_option maxHeartbeats 8000000 in
theorem set_tupleW {l : Addr} {items : Array Value} {xs : List Str} {Q : Value → Shared → Prop} (hh : A.handled = none) (hl : s.heap.IsTuple l items) (hi : PyProof.Rows.StrsAre items.toList xs) (hn1 : xs.length ≤ 1000)
    (h : ∀ (h' : Heap) (tk : Nat), FillT P w xs s.heap.objs.size items.size h' → (∀ b o, s.heap.get? b = some o → h'.get? b = some o) → Q (.ref s.heap.objs.size) { s with heap := h', toks := tk }) :
    wpAny (model P w) A (call (.type "set") [.ref l]) Q E s := by
  obtain ⟨c, tl, hmro⟩ := PySem.F.called_set.mro
  have hmade := PySem.F.called_set.made
  have hsub := PySem.F.called_set.sub
  refine wpAny_call (codeAny_of_tree ?_)
  show wpAny _ _ (callAny (.type "set") _) _ _ _
  refine wpAny_pure ⟨Code.quiet_builtin _ (by decide +kernel), codeAny_builtin PySem.F.entry_type_call ?_⟩
  rw [Around.under_plain (weight_type_call_type "set" [.ref l] []) rfl]
  have q1 := PySem.F.called_set.notType
  have q2 := PySem.F.called_set.canCreate
  have q3 := PySem.F.typeCall_set_1 (.ref l)
  repeat (any_goals (first | assumption | wp_step))
  obtain ⟨N, hN⟩ : ∃ N, N = s.heap.objs.size := ⟨_, rfl⟩
  obtain ⟨B, hB⟩ : ∃ B : Bool, B = !w.params.followText "set-order" := ⟨_, rfl⟩
  refine codeAny_mono (code_set_led1 (.ref l) (E := E) (Q₁ := fun v s₁ => v = .ref s.heap.objs.size ∧ s₁ = { s with heap := s.heap.push { cls := .type "set", dict := none, data := .set #[] 0 (.fresh 0 0 B) } }) ⟨rfl, by rw [hB]⟩) fun r s₁ hr => ?_
  cases r with
  | error e => exact hr
  | ok fl =>
    cases fl with
    | ret v =>
      obtain ⟨rfl, rfl⟩ := hr
      have hS : (s.heap.push { cls := .type "set", dict := none, data := .set #[] 0 (.fresh 0 0 B) }).get? s.heap.objs.size = some { cls := .type "set", dict := none, data := .set #[] 0 (.fresh 0 0 B) } := Heap.get?_push_size _ rfl
      have hT : Shared.TypeIs { s with heap := s.heap.push { cls := .type "set", dict := none, data := .set #[] 0 (.fresh 0 0 B) } } (.ref s.heap.objs.size) "set" := ⟨_, hS, rfl⟩
      have q4 := PySem.F.called_set.init.lookup
      have q5 := PySem.F.called_set.init.bind (.ref s.heap.objs.size)
      repeat (any_goals (first | assumption | wp_step))
      refine codeAny_mono (codeAny_call_builtin (R := wants (fun r s₂ => r = .none ∧ ∃ h' tk, s₂ = { s with heap := h', toks := tk } ∧ FillT P w xs s.heap.objs.size items.size h' ∧ (∀ b o, s.heap.get? b = some o → h'.get? b = some o)) E)
        PySem.F.called_set.init.plain PySem.F.entry_set_init (check_set_init_1 hT ?_)) fun r₂ s₂ hr₂ => ?_
      · have hlS : l < s.heap.objs.size := by
          obtain ⟨ol, hol, _⟩ := hl
          exact Heap.lt_size hol
        have hl1 : (s.heap.push { cls := .type "set", dict := none, data := .set #[] 0 (.fresh 0 0 B) }).IsTuple l items := hl.push _
        obtain ⟨ol, hol, hcl, nl, hdl⟩ := hl1
        obtain ⟨ocls, odict, odata, oslots⟩ := ol
        simp only at hcl hdl
        subst hcl; subst hdl
        have hol' := hol
        have q6 := PySem.F.sub_tuple_set
        have q7 := PySem.F.sub_tuple_frozenset
        have q8 : (Value.type "tuple" == Value.type "dict") = false := by decide
        have hl1 : (s.heap.push { cls := .type "set", dict := none, data := .set #[] 0 (.fresh 0 0 B) }).IsTuple l items := ⟨_, hol, rfl, nl, rfl⟩
        unfold Builtin.«set.__init__» noKeywords Builtin.Frozenset.updateFrom
        generalize hPI : pyIter = PI
        wp_walk
        subst hPI
        refine wpAny_pyIter_tuple hl1 ?_
        refine wpAny_bind (wpAny_runValue ?_)
        have hh3 : A.in1.in1.in1.handled = none := by simp [hh]
        have hps : (s.heap.push { cls := .type "set", dict := none, data := .set #[] 0 (.fresh 0 0 B) }).objs.size = s.heap.objs.size + 1 := Heap.size_push _ _
        have hneI : l ≠ (s.heap.push { cls := .type "set", dict := none, data := .set #[] 0 (.fresh 0 0 B) }).objs.size := by
          rw [hps]
          exact Nat.ne_of_lt (Nat.lt_succ_of_lt hlS)
        have hSf : s.heap.objs.size ∉ [(s.heap.push { cls := .type "set", dict := none, data := .set #[] 0 (.fresh 0 0 B) }).objs.size, l] := by
          rw [hps]
          simp only [List.mem_cons, List.not_mem_nil, or_false, not_or]
          exact ⟨Nat.ne_of_lt (Nat.lt_succ_self _), Nat.ne_of_gt hlS⟩
        have hsz : xs.length = items.size := by rw [← StrsAre.len_eq hi, Array.length_toList]
        have hval : ∀ (i : Nat) (v : Value), items[i]? = some v → ∃ t, v = .str (xs.getD i Str.empty) t := fun i v hv => SS.strs_at hi i v (by rw [Array.getElem?_toList]; exact hv)
        refine fill_loopT ((Walks.tuple hh3 _ l hneI items).toS) s.heap.objs.size hSf xs hsz (by rw [← hsz]; exact hn1) hval (items.size - 0) 0 _ (by omega) (Nat.zero_le _)
          ⟨⟨_, Heap.get?_push_size _ rfl, rfl, rfl⟩, (hl1.push _)⟩ ?hS0 ?hR
        case hS0 =>
          have hget : ((s.heap.push { cls := .type "set", dict := none, data := .set #[] 0 (.fresh 0 0 B) }).push { cls := .type "tuple_iterator", data := .fields #[.ref l, .int 0 0] }).get? s.heap.objs.size
              = some { cls := .type "set", dict := none, data := .set #[] 0 (.fresh 0 0 B) } := Heap.get?_push_of_some _ hS
          refine ⟨[], ?_, List.nodup_nil, fun z => by simp, Nat.le_refl _⟩
          subst hB
          exact TxtSet.fresh w hget
        case hR =>
          intro s' hm hF
          obtain ⟨h', g', d', tk', os'⟩ := s'
          have eg : g' = s.gens := hm.gens
          have ed : d' = s.drawn := hm.drawn
          have eo : os' = s.os := hm.os
          subst eg; subst ed; subst eo
          show wpAny _ _ _ _ _ _
          refine wpAny_pure ?_
          show wpAny _ _ (ret Value.none) _ _ _
          refine wpAny_pure ⟨rfl, h', tk', rfl, hF, fun b o e => ?_⟩
          have hb := Heap.lt_size e
          refine hm.heap b o ?_ (Heap.get?_push_of_some _ (Heap.get?_push_of_some _ e))
          rw [hps]
          simp only [List.mem_cons, List.mem_singleton, List.not_mem_nil, or_false, not_or]
          exact ⟨Nat.ne_of_lt hb, Nat.ne_of_lt (Nat.lt_succ_of_lt hb)⟩
      · cases r₂ with
        | error e => exact hr₂
        | ok fl₂ =>
          cases fl₂ with
          | ret r =>
            obtain ⟨rfl, h', tk, rfl, hF, hk'⟩ := hr₂
            repeat (any_goals (first | assumption | wp_step))
            exact h _ _ hF hk'
          | _ => exact hr₂.elim
    | _ => exact hr.elim
set_option maxHeartbeats 8000000 in
theorem set_listW {l : Addr} {items : Array Value} {xs : List Str} {Q : Value → Shared → Prop} (hh : A.handled = none) (hl : s.heap.IsList l items) (hi : PyProof.Rows.StrsAre items.toList xs) (hn1 : xs.length ≤ 1000)
    (h : ∀ (h' : Heap) (tk : Nat), FillT P w xs s.heap.objs.size items.size h' → (∀ b o, s.heap.get? b = some o → h'.get? b = some o) → Q (.ref s.heap.objs.size) { s with heap := h', toks := tk }) :
    wpAny (model P w) A (call (.type "set") [.ref l]) Q E s := by
  obtain ⟨c, tl, hmro⟩ := PySem.F.called_set.mro
  have hmade := PySem.F.called_set.made
  have hsub := PySem.F.called_set.sub
  refine wpAny_call (codeAny_of_tree ?_)
  show wpAny _ _ (callAny (.type "set") _) _ _ _
  refine wpAny_pure ⟨Code.quiet_builtin _ (by decide +kernel), codeAny_builtin PySem.F.entry_type_call ?_⟩
  rw [Around.under_plain (weight_type_call_type "set" [.ref l] []) rfl]
  have q1 := PySem.F.called_set.notType
  have q2 := PySem.F.called_set.canCreate
  have q3 := PySem.F.typeCall_set_1 (.ref l)
  repeat (any_goals (first | assumption | wp_step))
  obtain ⟨N, hN⟩ : ∃ N, N = s.heap.objs.size := ⟨_, rfl⟩
  obtain ⟨B, hB⟩ : ∃ B : Bool, B = !w.params.followText "set-order" := ⟨_, rfl⟩
  refine codeAny_mono (code_set_led1 (.ref l) (E := E) (Q₁ := fun v s₁ => v = .ref s.heap.objs.size ∧ s₁ = { s with heap := s.heap.push { cls := .type "set", dict := none, data := .set #[] 0 (.fresh 0 0 B) } }) ⟨rfl, by rw [hB]⟩) fun r s₁ hr => ?_
  cases r with
  | error e => exact hr
  | ok fl =>
    cases fl with
    | ret v =>
      obtain ⟨rfl, rfl⟩ := hr
      have hS : (s.heap.push { cls := .type "set", dict := none, data := .set #[] 0 (.fresh 0 0 B) }).get? s.heap.objs.size = some { cls := .type "set", dict := none, data := .set #[] 0 (.fresh 0 0 B) } := Heap.get?_push_size _ rfl
      have hT : Shared.TypeIs { s with heap := s.heap.push { cls := .type "set", dict := none, data := .set #[] 0 (.fresh 0 0 B) } } (.ref s.heap.objs.size) "set" := ⟨_, hS, rfl⟩
      have q4 := PySem.F.called_set.init.lookup
      have q5 := PySem.F.called_set.init.bind (.ref s.heap.objs.size)
      repeat (any_goals (first | assumption | wp_step))
      refine codeAny_mono (codeAny_call_builtin (R := wants (fun r s₂ => r = .none ∧ ∃ h' tk, s₂ = { s with heap := h', toks := tk } ∧ FillT P w xs s.heap.objs.size items.size h' ∧ (∀ b o, s.heap.get? b = some o → h'.get? b = some o)) E)
        PySem.F.called_set.init.plain PySem.F.entry_set_init (check_set_init_1 hT ?_)) fun r₂ s₂ hr₂ => ?_
      · have hlS : l < s.heap.objs.size := by
          obtain ⟨ol, hol, _⟩ := hl
          exact Heap.lt_size hol
        have hl1 : (s.heap.push { cls := .type "set", dict := none, data := .set #[] 0 (.fresh 0 0 B) }).IsList l items := hl.push _
        obtain ⟨ol, hol, hcl, nl, hdl⟩ := hl1
        obtain ⟨ocls, odict, odata, oslots⟩ := ol
        simp only at hcl hdl
        subst hcl; subst hdl
        have hol' := hol
        have q6 := PySem.F.sub_list_set
        have q7 := PySem.F.sub_list_frozenset
        have q8 : (Value.type "list" == Value.type "dict") = false := by decide
        have hl1 : (s.heap.push { cls := .type "set", dict := none, data := .set #[] 0 (.fresh 0 0 B) }).IsList l items := ⟨_, hol, rfl, nl, rfl⟩
        unfold Builtin.«set.__init__» noKeywords Builtin.Frozenset.updateFrom
        generalize hPI : pyIter = PI
        wp_walk
        subst hPI
        refine wpAny_pyIter_list hl1 ?_
        refine wpAny_bind (wpAny_runValue ?_)
        have hh3 : A.in1.in1.in1.handled = none := by simp [hh]
        have hps : (s.heap.push { cls := .type "set", dict := none, data := .set #[] 0 (.fresh 0 0 B) }).objs.size = s.heap.objs.size + 1 := Heap.size_push _ _
        have hneI : l ≠ (s.heap.push { cls := .type "set", dict := none, data := .set #[] 0 (.fresh 0 0 B) }).objs.size := by
          rw [hps]
          exact Nat.ne_of_lt (Nat.lt_succ_of_lt hlS)
        have hSf : s.heap.objs.size ∉ [(s.heap.push { cls := .type "set", dict := none, data := .set #[] 0 (.fresh 0 0 B) }).objs.size, l] := by
          rw [hps]
          simp only [List.mem_cons, List.not_mem_nil, or_false, not_or]
          exact ⟨Nat.ne_of_lt (Nat.lt_succ_self _), Nat.ne_of_gt hlS⟩
        have hsz : xs.length = items.size := by rw [← StrsAre.len_eq hi, Array.length_toList]
        have hval : ∀ (i : Nat) (v : Value), items[i]? = some v → ∃ t, v = .str (xs.getD i Str.empty) t := fun i v hv => SS.strs_at hi i v (by rw [Array.getElem?_toList]; exact hv)
        refine fill_loopT ((Walks.list hh3 _ l hneI items).toS) s.heap.objs.size hSf xs hsz (by rw [← hsz]; exact hn1) hval (items.size - 0) 0 _ (by omega) (Nat.zero_le _)
          ⟨⟨_, Heap.get?_push_size _ rfl, rfl, rfl⟩, (hl1.push _)⟩ ?hS0 ?hR
        case hS0 =>
          have hget : ((s.heap.push { cls := .type "set", dict := none, data := .set #[] 0 (.fresh 0 0 B) }).push { cls := .type "list_iterator", data := .fields #[.ref l, .int 0 0] }).get? s.heap.objs.size
              = some { cls := .type "set", dict := none, data := .set #[] 0 (.fresh 0 0 B) } := Heap.get?_push_of_some _ hS
          refine ⟨[], ?_, List.nodup_nil, fun z => by simp, Nat.le_refl _⟩
          subst hB
          exact TxtSet.fresh w hget
        case hR =>
          intro s' hm hF
          obtain ⟨h', g', d', tk', os'⟩ := s'
          have eg : g' = s.gens := hm.gens
          have ed : d' = s.drawn := hm.drawn
          have eo : os' = s.os := hm.os
          subst eg; subst ed; subst eo
          show wpAny _ _ _ _ _ _
          refine wpAny_pure ?_
          show wpAny _ _ (ret Value.none) _ _ _
          refine wpAny_pure ⟨rfl, h', tk', rfl, hF, fun b o e => ?_⟩
          have hb := Heap.lt_size e
          refine hm.heap b o ?_ (Heap.get?_push_of_some _ (Heap.get?_push_of_some _ e))
          rw [hps]
          simp only [List.mem_cons, List.mem_singleton, List.not_mem_nil, or_false, not_or]
          exact ⟨Nat.ne_of_lt hb, Nat.ne_of_lt (Nat.lt_succ_of_lt hb)⟩
      · cases r₂ with
        | error e => exact hr₂
        | ok fl₂ =>
          cases fl₂ with
          | ret r =>
            obtain ⟨rfl, h', tk, rfl, hF, hk'⟩ := hr₂
            repeat (any_goals (first | assumption | wp_step))
            exact h _ _ hF hk'
          | _ => exact hr₂.elim
    | _ => exact hr.elim
end
/-- set(xs), xs a list or a tuple of texts: its members, each once -/
def rSetW (K : PySem.W.Frag) (P : Program) (w : World) : List V → Hp → VK → Prop := fun vs H Q => ∃ (l : Addr) (xs : List Str), vs = [.ref l] ∧ (SqL K H l (xs.map V.str) ∨ SqT K H l (xs.map V.str)) ∧ xs.length ≤ 1000 ∧
  ∀ (p : Addr) (ys : List Str), H p = none → ys.Nodup → (∀ z, z ∈ ys ↔ z ∈ xs) → ys.length ≤ xs.length → Q (.ref p) (upd H p (TxtO P w p ys))
section
variable {X : Cx}
theorem cr_setW (hc : X.calm = true) : CallR X (.type "set") (rSetW X.K X.prog X.w) := by
  intro pins s σ H vs us Q I r h
  obtain ⟨l, xs, rfl, hq, hz, q⟩ := h
  obtain ⟨u, rfl, rx⟩ := vals1 r
  cases rx
  have hn : H s.heap.objs.size = none := I.hok.fresh (Nat.le_refl _)
  rcases hq with hq | hq
  · obtain ⟨its, rv, pl, _⟩ := I.list hq
    have hlen : its.toArray.size = xs.length := by rw [List.size_toArray, ← rv.length, List.length_map]
    refine set_listW (I.ok.hd hc) pl.isList (by simpa using strsAre_of rv) hz fun h' tk ⟨ys, g, nd, hm, hl⟩ hk => ?_
    rw [hlen] at hm hl
    rw [List.take_of_length_le (Nat.le_refl _)] at hm
    exact ⟨.ref _, _, I.laidN hk (Heap.get?_none_of_le (Nat.le_refl _)) hn (txtO_ok g), rfl, q _ ys hn nd hm hl⟩
  · obtain ⟨its, rv, pl, _⟩ := I.tuple hq
    have hlen : its.toArray.size = xs.length := by rw [List.size_toArray, ← rv.length, List.length_map]
    refine set_tupleW (I.ok.hd hc) pl (by simpa using strsAre_of rv) hz fun h' tk ⟨ys, g, nd, hm, hl⟩ hk => ?_
    rw [hlen] at hm hl
    rw [List.take_of_length_le (Nat.le_refl _)] at hm
    exact ⟨.ref _, _, I.laidN hk (Heap.get?_none_of_le (Nat.le_refl _)) hn (txtO_ok g), rfl, q _ ys hn nd hm hl⟩
end
end Qk
set_option maxRecDepth 100000
set_option maxHeartbeats 4000000
namespace Qk
open PySem PySem.Spec PyProof.Rows L2
mutual
inductive D3 (H : Hp) : V → PyData → Prop
  | non : D3 H .non .none
  | bl (b : Bool) : D3 H (.bl b) (.bool b)
  | int (i : Int) : D3 H (.int i) (.int i)
  | str (x : Str) : D3 H (.str x) (.str x)
  | lst {a : Addr} {xs : List V} {ds : List PyData} : H a = some (.lst xs) → a ≠ sysModules → D3A H xs ds → D3 H (.ref a) (.list ds)
  | tup {a : Addr} {xs : List V} {ds : List PyData} : H a = some (.tup xs) → D3A H xs ds → D3 H (.ref a) (.tuple ds)
  | dic {a : Addr} {kvs : List (Key × V)} {D : List (PyData × PyData)} : H a = some (.dK kvs) → D2K H kvs D → D3 H (.ref a) (.dict D)
inductive D3A (H : Hp) : List V → List PyData → Prop
  | nil : D3A H [] []
  | cons {v : V} {vs : List V} {d : PyData} {ds : List PyData} : D3 H v d → D3A H vs ds → D3A H (v :: vs) (d :: ds)
end
section
variable {X : Cx} {pins : List (Addr × Obj)} {σ : L2.St} {H H' : Hp} {s : Shared}
theorem D2.dic_reads (I : Inv X pins σ H s) {a : Addr} {kvs : List (Key × V)} {D : List (PyData × PyData)} (ha : H a = some (.dK kvs)) (hk : D2K H kvs D) {u : Value} (r : RelV (.ref a) u) : ∃ as, Reads s.heap u (.dict D) as ∧ sysModules ∉ as :=
  D2.reads I (.inr ⟨a, kvs, D, rfl, ha, hk, rfl⟩) r
mutual
theorem D3.reads (I : Inv X pins σ H s) : ∀ (d : PyData) (v : V) (u : Value), D3 H v d → RelV v u → ∃ as, Reads s.heap u d as ∧ sysModules ∉ as
  | .none, _, _, h, r => by
    cases h
    cases r
    exact ⟨_, Reads.none, by simp⟩
  | .bool b, _, _, h, r => by
    cases h
    cases r
    exact ⟨_, Reads.bool b, by simp⟩
  | .int i, _, _, h, r => by
    cases h
    obtain ⟨t, rfl⟩ := r
    exact ⟨_, Reads.int i t, by simp⟩
  | .str x, _, _, h, r => by
    cases h
    obtain ⟨t, rfl⟩ := r
    exact ⟨_, Reads.str x t, by simp⟩
  | .list ds, _, _, h, r => by
    cases h with
    | lst hs hn ha =>
      cases r
      obtain ⟨its, rv, ⟨o, n, ho, hc, _, hd⟩, _⟩ := I.list (SqL.of hs)
      obtain ⟨as, hr, ns⟩ := D3.readsAll I ds _ its ha rv
      refine ⟨_, Reads.list ho hc hd hr, fun z => ?_⟩
      rcases List.mem_cons.mp z with e | e
      · exact hn e.symm
      · exact ns e
  | .tuple ds, _, _, h, r => by
    cases h with
    | tup hs ha =>
      cases r
      obtain ⟨its, rv, ⟨o, ho, hc, n, hd⟩, _⟩ := I.tuple (SqT.of hs)
      obtain ⟨as, hr, ns⟩ := D3.readsAll I ds _ its ha rv
      exact ⟨_, Reads.tuple ho hc hd hr, ns⟩
  | .dict D, _, _, h, r => by
    cases h with
    | dic ha hk => exact D2.dic_reads I ha hk r
theorem D3.readsAll (I : Inv X pins σ H s) : ∀ (ds : List PyData) (vs : List V) (us : List Value), D3A H vs ds → Vals vs us → ∃ as, ReadsAll s.heap us ds as ∧ sysModules ∉ as
  | [], _, _, h, r => by
    cases h
    cases r
    exact ⟨_, ReadsAll.nil, by simp⟩
  | d :: ds, _, _, h, r => by
    cases h with
    | cons h1 h2 =>
      cases r with
      | cons r1 r2 =>
        obtain ⟨as, q1, n1⟩ := D3.reads I d _ _ h1 r1
        obtain ⟨bs, q2, n2⟩ := D3.readsAll I ds _ _ h2 r2
        refine ⟨_, ReadsAll.cons q1 q2, fun z => ?_⟩
        rcases List.mem_append.mp z with e | e
        · exact n1 e
        · exact n2 e
end
/-- repr of any such value -/
def rReprW : List V → Hp → VK → Prop := fun vs H Q => ∃ (x : V) (d : PyData), vs = [x] ∧ D3 H x d ∧ d.showable = true ∧ d.shown.length ≤ sizeLine ∧ d.depth ≤ 60 ∧ Q (.str d.shown) H
theorem call_reprW (hg : X.A.guards = some []) (hu : X.A.units + 64 < cLine) : CallR X (.builtin "repr") rReprW := by
  intro pins s σ H xs us Q I r h
  obtain ⟨x, d, rfl, hd, h1, h3, h4, q⟩ := h
  obtain ⟨u, rfl, rx⟩ := vals1 r
  obtain ⟨as, rd, ns⟩ := D3.reads I d x u hd rx
  cases hd with
  | non =>
    cases rx
    exact PySem.P.repr_of_none ⟨.str _, H, I.tok _, ⟨_, rfl⟩, q⟩
  | bl b =>
    cases rx
    exact PySem.P.repr_of_bool ⟨.str _, H, I.tok _, ⟨_, rfl⟩, q⟩
  | int i =>
    obtain ⟨tk, rfl⟩ := rx
    exact PySem.P.repr_of_int (by simpa [PyData.showable] using h1) ⟨.str _, H, I.tok _, ⟨_, rfl⟩, q⟩
  | str z =>
    obtain ⟨tk, rfl⟩ := rx
    exact PySem.P.repr_of_str ⟨.str _, H, I.tok _, ⟨_, rfl⟩, q⟩ h3
  | lst hs hn ha =>
    cases rx
    exact repr_of_reads' rd h1 (fun _ => ns) hg (by omega) (fun _ _ z => z) (fun h' u tk hk => ⟨.str _, H, I.kept hk, ⟨_, rfl⟩, q⟩) h3
  | tup hs ha =>
    cases rx
    exact repr_of_reads' rd h1 (fun _ => ns) hg (by omega) (fun _ _ z => z) (fun h' u tk hk => ⟨.str _, H, I.kept hk, ⟨_, rfl⟩, q⟩) h3
  | dic ha hk =>
    cases rx
    exact repr_of_reads' rd h1 (fun _ => ns) hg (by omega) (fun _ _ z => z) (fun h' u tk hk => ⟨.str _, H, I.kept hk, ⟨_, rfl⟩, q⟩) h3
end
end Qk
set_option maxRecDepth 100000
set_option maxHeartbeats 4000000
namespace Qk
open PySem PySem.Spec PyProof.Rows L2
mutual
def fine4 : PyData → Bool
  | .none => true
  | .bool _ => true
  | .int i => decide (i.natAbs < 10 ^ 60)
  | .str x => x.cps.toList.all (fun c => decide (c < 16 ^ 8)) && decide (x.cps.size ≤ 10000)
  | .list xs => fineAll4 xs
  | .tuple xs => fineAll4 xs
  | .dict [] => true
  | .dict [(.str x, .int i)] => decide (x = "a") && decide (i = 1)
  | .dict _ => false
def fineAll4 : List PyData → Bool
  | [] => true
  | x :: xs => fine4 x && fineAll4 xs
end
mutual
def cost4 : PyData → Nat
  | .none => 4
  | .bool _ => 5
  | .int _ => 64
  | .str x => 10 * x.cps.size + 10
  | .list xs => costAll4 xs + 3
  | .tuple xs => costAll4 xs + 3
  | .dict _ => 20
def costAll4 : List PyData → Nat
  | [] => 0
  | x :: xs => cost4 x + 2 + costAll4 xs
end
mutual
theorem shown_le4 : ∀ d : PyData, fine4 d = true → d.shown.length ≤ cost4 d
  | .none, _ => by decide
  | .bool b, _ => by cases b <;> decide
  | .int i, h => by
    have hi : i.natAbs < 10 ^ 60 := by
      simp only [fine4] at h
      exact of_decide_eq_true h
    have e := int_text_length_le10 (k := 60) (a := i) (by decide) hi
    show (Str.ofString (toString i)).length ≤ 64
    rw [PySem.ofString_length]
    omega
  | .str x, h => by
    have h' : (x.cps.toList.all (fun c => decide (c < 16 ^ 8)) && decide (x.cps.size ≤ 10000)) = true := by
      simp only [fine4] at h
      exact h
    rw [Bool.and_eq_true] at h'
    have h3 : ∀ c ∈ x.cps.toList, c < 16 ^ 8 := fun c hc => of_decide_eq_true (List.all_eq_true.mp h'.1 c hc)
    have := PySem.StrLaws.reprText_len x h3
    show (reprText x).length ≤ 10 * x.cps.size + 10
    have e : x.length = x.cps.size := rfl
    omega
  | .list xs, h => by
    have := listText_le (PyData.shownAll xs)
    have h2 := shown_leAll4 xs (by simp only [fine4] at h; exact h)
    show (listText (PyData.shownAll xs)).length ≤ costAll4 xs + 3
    omega
  | .tuple xs, h => by
    have := tupleText_le (PyData.shownAll xs)
    have h2 := shown_leAll4 xs (by simp only [fine4] at h; exact h)
    show (tupleText (PyData.shownAll xs)).length ≤ costAll4 xs + 3
    omega
  | .dict [], _ => by
    show (PyData.shown (.dict [])).length ≤ 20
    decide +kernel
  | .dict [(.str x, .int i)], h => by
    simp only [fine4, Bool.and_eq_true, decide_eq_true_eq] at h
    obtain ⟨rfl, rfl⟩ := h
    show (PyData.shown (.dict [(.str "a", .int 1)])).length ≤ 20
    decide +kernel
  | .dict ((.none, _) :: _), h => by simp [fine4] at h
  | .dict ((.bool _, _) :: _), h => by simp [fine4] at h
  | .dict ((.int _, _) :: _), h => by simp [fine4] at h
  | .dict ((.list _, _) :: _), h => by simp [fine4] at h
  | .dict ((.tuple _, _) :: _), h => by simp [fine4] at h
  | .dict ((.dict _, _) :: _), h => by simp [fine4] at h
  | .dict ((.str _, .none) :: _), h => by simp [fine4] at h
  | .dict ((.str _, .bool _) :: _), h => by simp [fine4] at h
  | .dict ((.str _, .str _) :: _), h => by simp [fine4] at h
  | .dict ((.str _, .list _) :: _), h => by simp [fine4] at h
  | .dict ((.str _, .tuple _) :: _), h => by simp [fine4] at h
  | .dict ((.str _, .dict _) :: _), h => by simp [fine4] at h
  | .dict ((.str _, .int _) :: _ :: _), h => by simp [fine4] at h
theorem shown_leAll4 : ∀ xs : List PyData, fineAll4 xs = true → piled (PyData.shownAll xs) ≤ costAll4 xs
  | [], _ => Nat.le_refl 0
  | x :: xs, h => by
    have h' : (fine4 x && fineAll4 xs) = true := by
      simp only [fineAll4] at h
      exact h
    rw [Bool.and_eq_true] at h'
    have h1 := shown_le4 x h'.1
    have h2 := shown_leAll4 xs h'.2
    show piled (PyData.shown x :: PyData.shownAll xs) ≤ cost4 x + 2 + costAll4 xs
    rw [piled_cons]
    omega
end
mutual
theorem showable4 : ∀ d : PyData, fine4 d = true → d.showable = true
  | .none, _ => rfl
  | .bool _, _ => rfl
  | .int i, h => by
    have hi : i.natAbs < 10 ^ 60 := by
      simp only [fine4] at h
      exact of_decide_eq_true h
    show decide (i.natAbs.log2 < 1920) = true
    refine decide_eq_true ?_
    by_cases h0 : i.natAbs = 0
    · rw [h0]
      decide
    · exact Nat.lt_of_lt_of_le ((Nat.log2_lt h0).mpr (Nat.lt_of_lt_of_le hi (show 10 ^ 60 ≤ 2 ^ 200 by decide))) (by decide)
  | .str _, _ => rfl
  | .list xs, h => showableAll4 xs (by simp only [fine4] at h; exact h)
  | .tuple xs, h => showableAll4 xs (by simp only [fine4] at h; exact h)
  | .dict [], _ => rfl
  | .dict [(.str x, .int i)], h => by
    simp only [fine4, Bool.and_eq_true, decide_eq_true_eq] at h
    obtain ⟨rfl, rfl⟩ := h
    rfl
  | .dict ((.none, _) :: _), h => by simp [fine4] at h
  | .dict ((.bool _, _) :: _), h => by simp [fine4] at h
  | .dict ((.int _, _) :: _), h => by simp [fine4] at h
  | .dict ((.list _, _) :: _), h => by simp [fine4] at h
  | .dict ((.tuple _, _) :: _), h => by simp [fine4] at h
  | .dict ((.dict _, _) :: _), h => by simp [fine4] at h
  | .dict ((.str _, .none) :: _), h => by simp [fine4] at h
  | .dict ((.str _, .bool _) :: _), h => by simp [fine4] at h
  | .dict ((.str _, .str _) :: _), h => by simp [fine4] at h
  | .dict ((.str _, .list _) :: _), h => by simp [fine4] at h
  | .dict ((.str _, .tuple _) :: _), h => by simp [fine4] at h
  | .dict ((.str _, .dict _) :: _), h => by simp [fine4] at h
  | .dict ((.str _, .int _) :: _ :: _), h => by simp [fine4] at h
theorem showableAll4 : ∀ xs : List PyData, fineAll4 xs = true → PyData.showableAll xs = true
  | [], _ => rfl
  | x :: xs, h => by
    have h' : (fine4 x && fineAll4 xs) = true := by
      simp only [fineAll4] at h
      exact h
    rw [Bool.and_eq_true] at h'
    show (PyData.showable x && PyData.showableAll xs) = true
    rw [showable4 x h'.1, showableAll4 xs h'.2]
    rfl
end
/-- the names that a law may meet -/
def menuC : List Str := "city" :: menu
/-- a flat text; if it is a column, it is one of the menu -/
def TxOk (z : Str) : Prop := (z.cps.toList.all (fun c => decide (c < 16 ^ 8)) = true) ∧ z.cps.size ≤ 10000 ∧ (z.cps.size ≤ 8 → PyData.strOk z = true) ∧ (colS z = true → z ∈ menuC)
mutual
/-- a value that shows this, nothing of it at an address of A, its lists told apart from sys.modules -/
inductive D4 (mx : Nat) (H : Hp) (A : Addr → Prop) : V → PyData → Prop
  | non : D4 mx H A .non .none
  | bl (b : Bool) : D4 mx H A (.bl b) (.bool b)
  | int (i : Int) : i.natAbs < 10 ^ 60 → D4 mx H A (.int i) (.int i)
  | str (x : Str) : TxOk x → D4 mx H A (.str x) (.str x)
  | lst {a : Addr} {xs : List V} {ds : List PyData} : H a = some (.lst xs) → ¬ A a → a ≠ sysModules → xs.length ≤ mx → D4A mx H A xs ds → D4 mx H A (.ref a) (.list ds)
  | tup {a : Addr} {xs : List V} {ds : List PyData} : H a = some (.tup xs) → ¬ A a → xs.length ≤ mx → D4A mx H A xs ds → D4 mx H A (.ref a) (.tuple ds)
  | dic0 {a : Addr} : H a = some (.dK []) → ¬ A a → D4 mx H A (.ref a) (.dict [])
  | dic1 {a : Addr} : H a = some (.dK [(Sum.inr "a", .int 1)]) → ¬ A a → D4 mx H A (.ref a) (.dict [(.str "a", .int 1)])
inductive D4A (mx : Nat) (H : Hp) (A : Addr → Prop) : List V → List PyData → Prop
  | nil : D4A mx H A [] []
  | cons {v : V} {vs : List V} {d : PyData} {ds : List PyData} : D4 mx H A v d → D4A mx H A vs ds → D4A mx H A (v :: vs) (d :: ds)
end
section
variable {mx : Nat} {H H' : Hp} {A A' : Addr → Prop}
mutual
theorem D4.keep (k : ∀ c o, H c = some o → ¬ A c → H' c = some o ∧ ¬ A' c) : ∀ (d : PyData) (x : V), D4 mx H A x d → D4 mx H' A' x d
  | .none, _, h => by cases h; exact .non
  | .bool _, _, h => by cases h; exact .bl _
  | .int _, _, h => by cases h with | int _ hi => exact .int _ hi
  | .str _, _, h => by cases h with | str _ hx => exact .str _ hx
  | .list ds, _, h => by
    cases h with
    | lst h1 h2 h3 h4 h5 => exact .lst (k _ _ h1 h2).1 (k _ _ h1 h2).2 h3 h4 (D4A.keep k ds _ h5)
  | .tuple ds, _, h => by
    cases h with
    | tup h1 h2 h4 h5 => exact .tup (k _ _ h1 h2).1 (k _ _ h1 h2).2 h4 (D4A.keep k ds _ h5)
  | .dict _, _, h => by
    cases h with
    | dic0 h1 h2 => exact .dic0 (k _ _ h1 h2).1 (k _ _ h1 h2).2
    | dic1 h1 h2 => exact .dic1 (k _ _ h1 h2).1 (k _ _ h1 h2).2
theorem D4A.keep (k : ∀ c o, H c = some o → ¬ A c → H' c = some o ∧ ¬ A' c) : ∀ (ds : List PyData) (xs : List V), D4A mx H A xs ds → D4A mx H' A' xs ds
  | [], _, h => by cases h; exact .nil
  | d :: ds, _, h => by
    cases h with
    | cons h1 h2 => exact .cons (D4.keep k d _ h1) (D4A.keep k ds _ h2)
end
mutual
theorem D4.wide {my : Nat} (hm : mx ≤ my) : ∀ (d : PyData) (x : V), D4 mx H A x d → D4 my H A x d
  | .none, _, h => by cases h; exact .non
  | .bool _, _, h => by cases h; exact .bl _
  | .int _, _, h => by cases h with | int _ hi => exact .int _ hi
  | .str _, _, h => by cases h with | str _ hx => exact .str _ hx
  | .list ds, _, h => by
    cases h with
    | lst h1 h2 h3 h4 h5 => exact .lst h1 h2 h3 (Nat.le_trans h4 hm) (D4A.wide hm ds _ h5)
  | .tuple ds, _, h => by
    cases h with
    | tup h1 h2 h4 h5 => exact .tup h1 h2 (Nat.le_trans h4 hm) (D4A.wide hm ds _ h5)
  | .dict _, _, h => by
    cases h with
    | dic0 h1 h2 => exact .dic0 h1 h2
    | dic1 h1 h2 => exact .dic1 h1 h2
theorem D4A.wide {my : Nat} (hm : mx ≤ my) : ∀ (ds : List PyData) (xs : List V), D4A mx H A xs ds → D4A my H A xs ds
  | [], _, h => by cases h; exact .nil
  | d :: ds, _, h => by
    cases h with
    | cons h1 h2 => exact .cons (D4.wide hm d _ h1) (D4A.wide hm ds _ h2)
end
mutual
theorem D4.fine : ∀ (d : PyData) (x : V), D4 mx H A x d → fine4 d = true
  | .none, _, h => by simp only [fine4]
  | .bool _, _, h => by simp only [fine4]
  | .int _, _, h => by
    cases h with
    | int i hi =>
      simp only [fine4]
      exact decide_eq_true hi
  | .str _, _, h => by
    cases h with
    | str x hx =>
      simp only [fine4, Bool.and_eq_true]
      exact ⟨hx.1, decide_eq_true hx.2.1⟩
  | .list ds, _, h => by
    cases h with
    | lst h1 h2 h3 h4 h5 =>
      simp only [fine4]
      exact D4A.fine ds _ h5
  | .tuple ds, _, h => by
    cases h with
    | tup h1 h2 h4 h5 =>
      simp only [fine4]
      exact D4A.fine ds _ h5
  | .dict _, _, h => by
    cases h with
    | dic0 h1 h2 => simp only [fine4]
    | dic1 h1 h2 =>
      simp only [fine4]
      decide +kernel
theorem D4A.fine : ∀ (ds : List PyData) (xs : List V), D4A mx H A xs ds → fineAll4 ds = true
  | [], _, h => by simp only [fineAll4]
  | d :: ds, _, h => by
    cases h with
    | cons h1 h2 =>
      simp only [fineAll4, Bool.and_eq_true]
      exact ⟨D4.fine d _ h1, D4A.fine ds _ h2⟩
end
mutual
theorem D4.d3 : ∀ (d : PyData) (x : V), D4 mx H A x d → D3 H x d
  | .none, _, h => by cases h; exact .non
  | .bool _, _, h => by cases h; exact .bl _
  | .int _, _, h => by cases h with | int _ hi => exact .int _
  | .str _, _, h => by cases h with | str _ hx => exact .str _
  | .list ds, _, h => by
    cases h with
    | lst h1 h2 h3 h4 h5 => exact .lst h1 h3 (D4A.d3 ds _ h5)
  | .tuple ds, _, h => by
    cases h with
    | tup h1 h2 h4 h5 => exact .tup h1 (D4A.d3 ds _ h5)
  | .dict _, _, h => by
    cases h with
    | dic0 h1 h2 => exact .dic h1 .nil
    | dic1 h1 h2 => exact .dic h1 (.cons (k := Sum.inr "a") (.int 1) .nil)
theorem D4A.d3 : ∀ (ds : List PyData) (xs : List V), D4A mx H A xs ds → D3A H xs ds
  | [], _, h => by cases h; exact .nil
  | d :: ds, _, h => by
    cases h with
    | cons h1 h2 => exact .cons (D4.d3 d _ h1) (D4A.d3 ds _ h2)
end
mutual
/-- .. is a value of any kind -/
theorem D4.va : ∀ (d : PyData) (x : V) (n : Nat), D4 mx H A x d → d.depth ≤ n → VA mx H A n x
  | .none, _, n, h, _ => by cases h; exact Flat.va (.inl rfl)
  | .bool b, _, n, h, _ => by cases h; exact Flat.va (.inr (.inl ⟨_, rfl⟩))
  | .int i, _, n, h, _ => by cases h; exact Flat.va (.inr (.inr (.inl ⟨_, rfl⟩)))
  | .str x, _, n, h, _ => by cases h with | str x hx => exact Flat.va (.inr (.inr (.inr (.inl ⟨_, rfl, hx.2.1, hx.2.2.1⟩))))
  | .list ds, _, 0, h, hd => absurd hd (by show ¬ PyData.depthAll ds + 1 ≤ 0; omega)
  | .tuple ds, _, 0, h, hd => absurd hd (by show ¬ PyData.depthAll ds + 1 ≤ 0; omega)
  | .list ds, _, n + 1, h, hd => by
    cases h with
    | lst h1 h2 h3 h4 h5 => exact .inr ⟨_, _, rfl, h2, .inl h1, h4, D4A.va ds _ n h5 (by have : PyData.depthAll ds + 1 ≤ n + 1 := hd; omega)⟩
  | .tuple ds, _, n + 1, h, hd => by
    cases h with
    | tup h1 h2 h4 h5 => exact .inr ⟨_, _, rfl, h2, .inr h1, h4, D4A.va ds _ n h5 (by have : PyData.depthAll ds + 1 ≤ n + 1 := hd; omega)⟩
  | .dict _, _, n, h, _ => by
    cases h with
    | dic0 h1 h2 => exact Flat.va (.inr (.inr (.inr (.inr ⟨_, _, rfl, h2, h1⟩))))
    | dic1 h1 h2 => exact Flat.va (.inr (.inr (.inr (.inr ⟨_, _, rfl, h2, h1⟩))))
theorem D4A.va : ∀ (ds : List PyData) (xs : List V) (n : Nat), D4A mx H A xs ds → PyData.depthAll ds ≤ n → ∀ x ∈ xs, VA mx H A n x
  | [], _, n, h, _ => by cases h; intro x hx; cases hx
  | d :: ds, _, n, h, hd => by
    cases h with
    | cons h1 h2 =>
      have hm : max d.depth (PyData.depthAll ds) ≤ n := hd
      intro x hx
      rcases List.mem_cons.mp hx with rfl | hx
      · exact D4.va d _ n h1 (Nat.le_trans (Nat.le_max_left _ _) hm)
      · exact D4A.va ds _ n h2 (Nat.le_trans (Nat.le_max_right _ _) hm) x hx
end
end
/-- such a value, its text no longer than c, no deeper than n -/
def WV (mx : Nat) (H : Hp) (A : Addr → Prop) (c n : Nat) (x : V) : Prop := ∃ d, D4 mx H A x d ∧ cost4 d ≤ c ∧ d.depth ≤ n
section
variable {mx : Nat} {H H' : Hp} {A A' : Addr → Prop} {c c' n n' : Nat} {x : V}
theorem WV.keep (k : ∀ c o, H c = some o → ¬ A c → H' c = some o ∧ ¬ A' c) (h : WV mx H A c n x) : WV mx H' A' c n x := by
  obtain ⟨d, h1, h2, h3⟩ := h
  exact ⟨d, D4.keep k d x h1, h2, h3⟩
theorem WV.same (s : Same H H') (h : WV mx H A c n x) : WV mx H' A c n x := WV.keep (fun c o e na => ⟨s c o e, na⟩) h
theorem WV.wide {my : Nat} (hm : mx ≤ my) (h : WV mx H A c n x) : WV my H A c n x := by
  obtain ⟨d, h1, h2, h3⟩ := h
  exact ⟨d, D4.wide hm d x h1, h2, h3⟩
theorem WV.le (hc : c ≤ c') (hn : n ≤ n') (h : WV mx H A c n x) : WV mx H A c' n' x := by
  obtain ⟨d, h1, h2, h3⟩ := h
  exact ⟨d, h1, Nat.le_trans h2 hc, Nat.le_trans h3 hn⟩
theorem WV.old {H0 : Hp} (h : WV mx H (Qk.old H0) c n x) (hA : Out H0 A) : WV mx H A c n x := WV.keep (fun c o e na => ⟨e, fun ha => na (hA c ha)⟩) h
theorem WV.older {H0 H1 : Hp} (s : Same H0 H1) (h : WV mx H (Qk.old H1) c n x) : WV mx H (Qk.old H0) c n x := WV.keep (fun c o e na => ⟨e, fun ⟨u, hu⟩ => na ⟨u, s _ _ hu⟩⟩) h
theorem WV.va (h : WV mx H A c n x) : VA mx H A n x := by
  obtain ⟨d, h1, _, h3⟩ := h
  exact D4.va d x n h1 h3
end
end Qk
set_option maxRecDepth 100000
set_option maxHeartbeats 4000000
namespace Qk
open PySem PySem.Spec PyProof.Rows L2
def tLit4 (mx c n : Nat) : TE := fun σ H Q => ∀ (H' : Hp) (v : V), Same H H' → WV mx H' (old H) c n v → Q v H'
def tLits4 (mx c n m : Nat) : TA := fun σ H R => ∀ (H' : Hp) (vs : List V) (ds : List PyData), Same H H' → vs.length = m → D4A mx H' (old H) vs ds → (∀ d ∈ ds, cost4 d ≤ c ∧ d.depth ≤ n) → R vs H'
theorem D4A.len {mx : Nat} {H : Hp} {A : Addr → Prop} : ∀ {ds : List PyData} {xs : List V}, D4A mx H A xs ds → xs.length = ds.length
  | [], _, h => by cases h; rfl
  | d :: ds, _, h => by
    cases h with
    | cons h1 h2 => rw [List.length_cons, List.length_cons, D4A.len h2]
theorem costAll4_le {c : Nat} : ∀ {ds : List PyData}, (∀ d ∈ ds, cost4 d ≤ c) → costAll4 ds ≤ (c + 2) * ds.length
  | [], _ => by simp [costAll4]
  | d :: ds, h => by
    have h1 := h d List.mem_cons_self
    have h2 := costAll4_le fun x hx => h x (List.mem_cons_of_mem _ hx)
    simp only [costAll4, List.length_cons, Nat.mul_succ]
    omega
theorem depthAll_le {n : Nat} : ∀ {ds : List PyData}, (∀ d ∈ ds, d.depth ≤ n) → PyData.depthAll ds ≤ n
  | [], _ => Nat.zero_le _
  | d :: ds, h => by
    show max d.depth (PyData.depthAll ds) ≤ n
    exact Nat.max_le.mpr ⟨h d List.mem_cons_self, depthAll_le fun x hx => h x (List.mem_cons_of_mem _ hx)⟩
theorem D4A.all {mx : Nat} {H : Hp} {A : Addr → Prop} : ∀ {ds : List PyData} {xs : List V}, D4A mx H A xs ds → ∀ x ∈ xs, ∃ d ∈ ds, D4 mx H A x d
  | [], _, h => by cases h; intro x hx; cases hx
  | d :: ds, _, h => by
    cases h with
    | cons h1 h2 =>
      intro x hx
      rcases List.mem_cons.mp hx with rfl | hx
      · exact ⟨d, List.mem_cons_self, h1⟩
      · obtain ⟨e, he, h⟩ := D4A.all h2 x hx
        exact ⟨e, List.mem_cons_of_mem _ he, h⟩
theorem D4A.of {mx : Nat} {H : Hp} {A : Addr → Prop} {c n : Nat} : ∀ {xs : List V}, (∀ x ∈ xs, WV mx H A c n x) → ∃ ds, D4A mx H A xs ds ∧ ∀ d ∈ ds, cost4 d ≤ c ∧ d.depth ≤ n
  | [], _ => ⟨[], .nil, fun d hd => (nomatch hd)⟩
  | x :: xs, h => by
    obtain ⟨d, h1, h2, h3⟩ := h x List.mem_cons_self
    obtain ⟨ds, g1, g2⟩ := D4A.of fun y hy => h y (List.mem_cons_of_mem _ hy)
    refine ⟨d :: ds, .cons h1 g1, fun e he => ?_⟩
    rcases List.mem_cons.mp he with rfl | he
    · exact ⟨h2, h3⟩
    · exact g2 e he
section
variable {X : Cx} {mx c n : Nat}
theorem pe_lit4C {e : Expr} {v : V} (h : PE X e (tC v)) (f : ∀ H A, WV mx H A c n v) : PE X e (tLit4 mx c n) := PE.imp h fun σ H Q q => q H v (Same.refl _) (f H _)
theorem pa_lits40 : PA X [] (tLits4 mx c n 0) := PA.imp pa_nil fun σ H Q q => q H [] [] (Same.refl _) rfl .nil fun d hd => (nomatch hd)
theorem pa_lits4 {m : Nat} {e : Expr} {es : List Expr} (h : PE X e (tLit4 mx c n)) (hs : PA X es (tLits4 mx c n m)) (hst : starEach (e :: es) X.env = (false, eval e X.env) :: starEach es X.env := by rfl) : PA X (e :: es) (tLits4 mx c n (m + 1)) :=
  PA.imp (pa_cons h hs hst) fun σ H Q q => fun H1 v s1 ⟨d, v1, v2, v3⟩ => fun H2 vs ds s2 hl w1 w2 => q H2 (v :: vs) (d :: ds) (s1.trans s2) (by rw [List.length_cons, hl])
    (.cons (D4.keep (fun c o e na => ⟨s2 c o e, na⟩) d v v1) (D4A.keep (fun c o e na => ⟨e, fun ⟨u, hu⟩ => na ⟨u, s1 _ _ hu⟩⟩) ds vs w1)) fun x hx => by
      rcases List.mem_cons.mp hx with rfl | hx
      · exact ⟨v2, v3⟩
      · exact w2 x hx
theorem lit4_wv {H H1 : Hp} {m : Nat} {vs : List V} {ds : List PyData} {p : Addr} {o : HO} (s : Same H H1) (hp : H1 p = none) (ho : o = .tup vs ∨ (o = .lst vs ∧ p ≠ sysModules)) (hl : vs.length = m) (hm : m ≤ mx) (hv : D4A mx H1 (old H) vs ds) (hb : ∀ d ∈ ds, cost4 d ≤ c ∧ d.depth ≤ n) : WV mx (upd H1 p o) (old H) ((c + 2) * m + 3) (n + 1) (.ref p) := by
  have np : ¬ old H p := fun ⟨u, hu⟩ => by
    rw [s _ _ hu] at hp
    cases hp
  have hv2 : D4A mx (upd H1 p o) (old H) vs ds := D4A.keep (fun c u e na => ⟨by rw [upd_ne (ne_of_none e hp)]; exact e, na⟩) ds vs hv
  have c1 := costAll4_le fun d hd => (hb d hd).1
  have d1 := depthAll_le fun d hd => (hb d hd).2
  rw [← hv.len, hl] at c1
  rcases ho with rfl | ⟨rfl, ns⟩
  · exact ⟨.tuple ds, .tup upd_same np (by omega) hv2, by simp only [cost4]; omega, by show PyData.depthAll ds + 1 ≤ n + 1; omega⟩
  · exact ⟨.list ds, .lst upd_same np ns (by omega) hv2, by simp only [cost4]; omega, by show PyData.depthAll ds + 1 ≤ n + 1; omega⟩
theorem pe_lit4T {m : Nat} {es : List Expr} {x1} {pos : Pos} (h : PA X es (tLits4 mx c n m)) (hm : m ≤ mx := by decide) (h4 : mx ≤ 1000 := by decide) : PE X (.Tuple es x1 pos) (tLit4 mx ((c + 2) * m + 3) (n + 1)) :=
  PE.imp (pe_tup h) fun σ H Q q => fun H1 vs ds s hl hv hb => ⟨by rw [hl, sizeLine_eq]; omega, fun p hp => q _ _ (s.trans (same_new hp)) (lit4_wv s hp (.inl rfl) hl hm hv hb)⟩
theorem pe_lit4L {m : Nat} {es : List Expr} {pos : Pos} (h : PA X es (tLits4 mx c n m)) (hm : m ≤ mx := by decide) (h4 : mx ≤ 1000 := by decide) : PE X (.List es pos) (tLit4 mx ((c + 2) * m + 3) (n + 1)) :=
  PE.imp (pe_lstN h) fun σ H Q q => fun H1 vs ds s hl hv hb => ⟨by rw [hl, sizeLine_eq]; omega, fun p hp ns => q _ _ (s.trans (same_new hp)) (lit4_wv s hp (.inr ⟨rfl, ns⟩) hl hm hv hb)⟩
/-- a larger bound -/
theorem pe_lit4le {e : Expr} {c' n' : Nat} (h : PE X e (tLit4 mx c n)) (hc : c ≤ c') (hn : n ≤ n') : PE X e (tLit4 mx c' n') := PE.imp h fun σ H Q q => fun H1 v s w => q H1 v s (w.le hc hn)
theorem pe_lit4D0 {pos : Pos} (hc : 20 ≤ c) (hn : 1 ≤ n) : PE X (.Dict [] [] pos) (tLit4 mx c n) :=
  PE.imp pe_dnewK fun σ H Q q => fun p hp => q _ _ (same_new hp) ⟨.dict [], .dic0 upd_same fun ⟨u, hu⟩ => (by rw [hp] at hu; cases hu), by simp only [cost4]; exact hc, Nat.le_trans (by decide) hn⟩
theorem w4_non (hc : 4 ≤ c) : ∀ H A, WV mx H A c n .non := fun H A => ⟨.none, .non, by simp only [cost4]; exact hc, Nat.zero_le _⟩
theorem w4_bl (b : Bool) (hc : 5 ≤ c) : ∀ H A, WV mx H A c n (.bl b) := fun H A => ⟨.bool b, .bl b, by simp only [cost4]; exact hc, Nat.zero_le _⟩
theorem w4_int (i : Int) (h : i.natAbs < 10 ^ 60) (hc : 64 ≤ c) : ∀ H A, WV mx H A c n (.int i) := fun H A => ⟨.int i, .int i h, by simp only [cost4]; exact hc, Nat.zero_le _⟩
theorem w4_str (z : Str) (h : TxOk z) (hc : 10 * z.cps.size + 10 ≤ c) : ∀ H A, WV mx H A c n (.str z) := fun H A => ⟨.str z, .str z h, by simp only [cost4]; exact hc, Nat.zero_le _⟩
end
end Qk
set_option maxRecDepth 100000
set_option maxHeartbeats 4000000
namespace Qk
open PySem PySem.Spec PyProof.Rows L2
/-- list(x) of a list or a tuple: a new list, told apart from sys.modules -/
def rListN (K : PySem.W.Frag) : List V → Hp → VK → Prop := fun xs H Q => ∃ (p : Addr) (ys : List V), xs = [.ref p] ∧ (SqL K H p ys ∨ SqT K H p ys) ∧ ∀ l, H l = none → l ≠ sysModules → Q (.ref l) (upd H l (.lst ys))
theorem call_list_ofN {X : Cx} : CallR X (.type "list") (rListN X.K) := by
  intro pins s σ H xs us Q I r h
  obtain ⟨p, ys, rfl, hs, q⟩ := h
  obtain ⟨u, rfl, rx⟩ := vals1 r
  cases rx
  obtain ⟨m, hF⟩ := I.fr
  have fin : ∀ (its : List Value) (h' : Heap), Vals ys its → ys.length ≤ sizeLine → (∀ (b : Addr) (o : Obj), s.heap.get? b = some o → h'.get? b = some o) → h'.PlainList s.heap.objs.size its.toArray → EP X pins σ Q (.ref s.heap.objs.size) { heap := h', gens := s.gens, drawn := s.drawn, toks := s.toks, os := s.os } := fun its h' rv z keep ⟨n, g⟩ =>
    ⟨.ref s.heap.objs.size, upd H s.heap.objs.size (.lst ys), I.laid (t' := s.toks) keep (Nat.le_refl _) ⟨z, its, n, rv, g⟩, rfl, q _ (I.hok.fresh (Nat.le_refl _)) (Nat.ne_of_gt I.big)⟩
  rcases hs with hs | hs
  · obtain ⟨its, rv, ⟨o, n, ho, hc, _, hd⟩, z⟩ := I.list hs
    refine PyProof.Rows.list_copyLP hF .nil ⟨o, ho, hc, n, hd⟩ (fun h' F' keep _ _ np => fin its h' rv z keep np.1) (by rw [List.size_toArray, ← rv.length]; exact z)
  · obtain ⟨its, rv, ht, z⟩ := I.tuple hs
    refine PyProof.Rows.list_copyTP hF .nil ht (fun h' F' keep _ _ np => fin its h' rv z keep np.1) (by rw [List.size_toArray, ← rv.length]; exact z)
/-- x[::-1]: a new list, told apart from sys.modules -/
def tRevLN (K : PySem.W.Frag) (te : TE) : TE := fun σ H Q => te σ H fun x H1 => ∃ (a : Addr) (xs : List V), x = .ref a ∧ SqL K H1 a xs ∧ ∀ p, H1 p = none → p ≠ sysModules → Q (.ref p) (upd H1 p (.lst xs.reverse))
theorem vals_rev {xs : List V} {us : List Value} (h : Vals xs us) : Vals xs.reverse us.reverse := by
  induction h with
  | nil => exact .nil
  | cons r _ ih =>
    rw [List.reverse_cons, List.reverse_cons]
    exact ih.append (.cons r .nil)
theorem pe_revLN {X : Cx} {e : Expr} {te : TE} {k : Nat} {p1 p2 p3 pos : Pos} (h : PE X e te) (ht : ∀ o r : Value, letTemporaryGo e o r = pure () := by intro _ _; rfl) : PE X (e.Subscript (.Slice none none (some (.UnaryOp .USub (.Constant (.int 1) k p1) p2)) p3) pos) (tRevLN X.K te) := by
  refine ⟨fun pins s σ H Q I q => ?_⟩
  refine wpAny_Subscript_Slice_step (T := "list") (id := "list.__getitem__") PySem.slot_list_getitem.lookup (thn (h.run pins s σ H _ I q) fun u s1 z => ?_) ht
  obtain ⟨x, H1, I1, rx, a, xs, rfl, hs, q⟩ := z
  cases rx
  refine wpAny_Slice ?_
  show wpAny _ _ (pure Value.none) _ _ _
  refine wpAny_pure ?_
  show wpAny _ _ (pure Value.none) _ _ _
  refine wpAny_pure ?_
  refine thn ((pe_un (r := rU fun i => .int (-i)) un_neg pe_int).run pins s1 σ H1 (fun v H' => v = .int (-1) ∧ H' = H1) I1 ⟨1, rfl, rfl, rfl⟩) fun w s2 z => ?_
  obtain ⟨v, H2, I2, rv, rfl, rfl⟩ := z
  obtain ⟨t, rfl⟩ := rv
  have I3 := I2.kept (t' := s2.toks) (h' := s2.heap.push { cls := Value.type "slice", data := Data.fields #[Value.none, Value.none, Value.int (-1) t] }) (fun b u e => Heap.get?_push_of_some _ e)
  obtain ⟨its, rvs, ⟨o, n, ho, hc, _, hd⟩, z⟩ := I3.list hs
  refine ⟨⟨_, ho, hc⟩, wpAny_getItem_list_slice ⟨o, ho, hc, n, hd⟩ ⟨_, Heap.get?_push_size _ rfl, rfl, rfl⟩ .none .none (.int (-1) t) (by decide) ?_ (by rw [List.size_toArray, ← rvs.length]; exact z)⟩
  rw [PySem.W.krv_pick]
  exact ⟨.ref _, _, I3.lnew (t' := s2.toks) (vals_rev rvs) (by rw [List.length_reverse]; exact z), rfl, q _ (I3.hok.fresh (Nat.le_refl _)) (Nat.ne_of_gt I3.big)⟩
end Qk
set_option maxRecDepth 100000
set_option maxHeartbeats 4000000
namespace Qk
open PySem PySem.Spec PyProof.Rows L2
theorem WV.fresh {mx : Nat} {H : Hp} {A : Addr → Prop} {c n : Nat} {x : V} {p : Addr} {o : HO} (hp : H p = none) (h : WV mx H A c n x) : WV mx (upd H p o) (fun c => A c ∨ c = p) c n x :=
  WV.keep (fun c u e na => ⟨by rw [upd_ne (ne_of_none e hp)]; exact e, fun ha => ha.elim na fun ec => ne_of_none e hp ec⟩) h
theorem fold_mem (z : Array Nat) : ∀ (k : Nat) (acc : Array Nat) (c : Nat), c ∈ (List.replicate k z).foldl (· ++ ·) acc → c ∈ acc ∨ c ∈ z
  | 0, acc, c, h => .inl (by simpa using h)
  | k + 1, acc, c, h => by
    rw [List.replicate_succ, List.foldl_cons] at h
    rcases fold_mem z k (acc ++ z) c h with h | h
    · rcases Array.mem_append.mp h with h | h
      · exact .inl h
      · exact .inr h
    · exact .inr h
/-- a text so many times: its signs are the same -/
def rMulS2 : R2 := fun x y H Q => ∃ (z : Str) (n : Int), x = .str z ∧ y = .int n ∧ 2 ≤ n ∧ n ≤ 10000 ∧ z.cps.size = 1 ∧ ∀ u : Str, u.cps.size = n.toNat → (∀ c ∈ u.cps, c ∈ z.cps) → Q (.str u) H
theorem op_mulS2 {X : Cx} : OpR X (binaryOp .Mult) rMulS2 := by
  intro pins s σ H x y v u Q I rx ry h
  obtain ⟨z, n, rfl, rfl, h2, hn, hz, q⟩ := h
  obtain ⟨t, rfl⟩ := rx
  obtain ⟨t', rfl⟩ := ry
  have hl : z.length = 1 := hz
  refine P.mul_str ?_ (fun _ _ => ?_) (fun _ _ => ?_) ?_
  · rw [decide_eq_false (by omega), decide_eq_false (by omega)]
    rfl
  · rw [hl]
    have : (1 : Int) ≤ (2 ^ 63 - 1) / n := by
      refine Int.le_ediv_of_mul_le (by omega) (by omega)
    omega
  · rw [hl]
    show decide (1 * n.toNat > sizeLine) = false
    exact decide_eq_false (by rw [sizeLine_eq]; omega)
  · have e0 : ¬ n < 1 := by omega
    have e1 : (n == 1 || z.length == 0) = false := by
      rw [hl]
      simp
      omega
    rw [if_neg e0, if_neg (by rw [e1]; decide)]
    have es : (⟨(List.replicate n.toNat z.cps).foldl (· ++ ·) #[]⟩ : Str).cps.size = n.toNat := by
      show ((List.replicate n.toNat z.cps).foldl (· ++ ·) #[]).size = n.toNat
      rw [fold_size, hz]
      simp
    exact ⟨by show _ ≤ sizeLine; rw [sizeLine_eq]; show (⟨(List.replicate n.toNat z.cps).foldl (· ++ ·) #[]⟩ : Str).cps.size ≤ _; omega, .str _, H, I.tok _, ⟨_, rfl⟩, q _ es fun c hc => (fold_mem z.cps _ _ c hc).resolve_left (by simp)⟩
section
variable {X : Cx} {mx c n : Nat}
theorem pe_lit4Mul {e f : Expr} {z : Str} {i : Int} {pos : Pos} (h : PE X e (tC (.str z))) (g : PE X f (tC (.int i))) (hz : z.cps.size = 1) (hs : ∀ c ∈ z.cps, c < 16 ^ 8) (h1 : 9 ≤ i) (h2 : i ≤ 10000) (hc : 100010 ≤ c) : PE X (.BinOp e .Mult f pos) (tLit4 mx c n) :=
  PE.imp (pe_op op_mulS2 h g) fun σ H Q q => ⟨z, i, rfl, rfl, by omega, h2, hz, fun u hu hm => q H _ (Same.refl _) (w4_str u ⟨List.all_eq_true.mpr fun c hc => decide_eq_true (hs c (hm c (Array.mem_toList_iff.mp hc))), by omega, (fun h => by omega), fun h => by
    unfold colS at h
    rw [Bool.and_eq_true, Bool.and_eq_true] at h
    have := of_decide_eq_true h.1.2
    omega⟩ (by omega) H _)⟩
theorem pe_lit4Neg {e : Expr} {i : Int} {pos : Pos} (h : PE X e (tC (.int i))) (hi : i.natAbs < 10 ^ 60) (hc : 64 ≤ c) : PE X (.UnaryOp .USub e pos) (tLit4 mx c n) :=
  PE.imp (pe_un (r := rU fun i => .int (-i)) un_neg h) fun σ H Q q => ⟨i, rfl, q H _ (Same.refl _) (w4_int _ (by rw [Int.natAbs_neg]; exact hi) hc H _)⟩
theorem pe_lit4Pow {e f : Expr} {pos : Pos} (h : PE X e (tC (.int 10))) (g : PE X f (tC (.int 39))) (hc : 64 ≤ c) : PE X (.BinOp e .Pow f pos) (tLit4 mx c n) :=
  PE.imp (pe_op op_pow h g) fun σ H Q q => ⟨10, 39, rfl, rfl, ⟨by decide, by decide, by decide⟩, q H _ (Same.refl _) (w4_int _ (by decide +kernel) hc H _)⟩
theorem pe_lit4D1 {k v : Expr} {pos : Pos} (hk : PE X k (tC (.str "a"))) (hv : PE X v (tC (.int 1))) (hc : 20 ≤ c) (hn : 2 ≤ n) : PE X (.Dict [some k] [v] pos) (tLit4 mx c n) :=
  PE.imp (pe_disp (pps_cons hk hv pps_nil) rfl rfl (by simp) (by show 1 ≤ 15; decide)) fun σ H Q q => fun p hp => ⟨upd_same, [(Sum.inr "a", .int 1)], rfl, by show 1 ≤ 15; decide, q _ _ (fun c o hc => by rw [upd_ne (ne_of_none hc hp), upd_ne (ne_of_none hc hp)]; exact hc)
    ⟨.dict [(.str "a", .int 1)], .dic1 upd_same fun ⟨u, hu⟩ => (by rw [hp] at hu; cases hu), by simp only [cost4]; exact hc, Nat.le_trans (by decide) hn⟩⟩
end
end Qk
set_option maxRecDepth 100000
set_option maxHeartbeats 4000000
namespace Qk
open PySem PySem.Spec PyProof.Rows L2
section
variable {mx : Nat} {H : Hp} {A : Addr → Prop}
theorem D4A.app : ∀ {ds : List PyData} {xs : List V} {es : List PyData} {ys : List V}, D4A mx H A xs ds → D4A mx H A ys es → D4A mx H A (xs ++ ys) (ds ++ es)
  | [], _, _, _, h, g => by cases h; exact g
  | d :: ds, _, _, _, h, g => by
    cases h with
    | cons h1 h2 => exact .cons h1 (D4A.app h2 g)
theorem D4A.takeD : ∀ {ds : List PyData} {xs : List V} (n : Nat), D4A mx H A xs ds → D4A mx H A (xs.take n) (ds.take n)
  | _, _, 0, _ => by rw [List.take_zero, List.take_zero]; exact .nil
  | [], _, n + 1, h => by cases h; exact .nil
  | d :: ds, _, n + 1, h => by
    cases h with
    | cons h1 h2 => rw [List.take_succ_cons, List.take_succ_cons]; exact .cons h1 (D4A.takeD n h2)
theorem D4A.dropD : ∀ {ds : List PyData} {xs : List V} (n : Nat), D4A mx H A xs ds → D4A mx H A (xs.drop n) (ds.drop n)
  | _, _, 0, h => h
  | [], _, n + 1, h => by cases h; exact .nil
  | d :: ds, _, n + 1, h => by
    cases h with
    | cons h1 h2 => rw [List.drop_succ_cons, List.drop_succ_cons]; exact D4A.dropD n h2
theorem D4A.rev : ∀ {ds : List PyData} {xs : List V}, D4A mx H A xs ds → D4A mx H A xs.reverse ds.reverse
  | [], _, h => by cases h; exact .nil
  | d :: ds, _, h => by
    cases h with
    | cons h1 h2 => rw [List.reverse_cons, List.reverse_cons]; exact D4A.app (D4A.rev h2) (.cons h1 .nil)
theorem D4A.get : ∀ {ds : List PyData} {xs : List V} {q : Nat} {x : V}, D4A mx H A xs ds → xs[q]? = some x → ∃ d, ds[q]? = some d ∧ D4 mx H A x d
  | [], _, q, x, h, hx => by cases h; simp at hx
  | d :: ds, _, 0, x, h, hx => by
    cases h with
    | cons h1 h2 =>
      simp only [List.getElem?_cons_zero] at hx
      injection hx with hx
      exact ⟨d, by simp, hx ▸ h1⟩
  | d :: ds, _, q + 1, x, h, hx => by
    cases h with
    | cons h1 h2 =>
      rw [List.getElem?_cons_succ] at hx
      obtain ⟨e, g1, g2⟩ := D4A.get h2 hx
      exact ⟨e, by rw [List.getElem?_cons_succ]; exact g1, g2⟩
end
theorem costAll4_app : ∀ (ds es : List PyData), costAll4 (ds ++ es) = costAll4 ds + costAll4 es
  | [], es => by simp [costAll4]
  | d :: ds, es => by
    rw [List.cons_append]
    simp only [costAll4]
    rw [costAll4_app ds es]
    omega
theorem costAll4_one (d : PyData) : costAll4 [d] = cost4 d + 2 := by simp only [costAll4]
theorem costAll4_rev : ∀ (ds : List PyData), costAll4 ds.reverse = costAll4 ds
  | [] => rfl
  | d :: ds => by
    rw [List.reverse_cons, costAll4_app, costAll4_rev ds, costAll4_one]
    simp only [costAll4]
    omega
theorem split_at {α : Type} {ds : List α} {q : Nat} {d : α} (h : ds[q]? = some d) : ds = ds.take q ++ d :: ds.drop (q + 1) := by
  obtain ⟨l, e⟩ := List.getElem?_eq_some_iff.mp h
  have := List.drop_eq_getElem_cons l
  rw [e] at this
  rw [← this, List.take_append_drop]
theorem cost4_split {ds : List PyData} {q : Nat} {d : PyData} (h : ds[q]? = some d) : costAll4 ds = costAll4 (ds.take q) + (cost4 d + 2) + costAll4 (ds.drop (q + 1)) := by
  have e := congrArg costAll4 (split_at h)
  rw [costAll4_app] at e
  simp only [costAll4] at e
  omega
theorem depthAll_mem {n : Nat} : ∀ {ds : List PyData}, PyData.depthAll ds ≤ n → ∀ d ∈ ds, d.depth ≤ n
  | [], _ => fun d hd => (nomatch hd)
  | x :: ds, h => by
    have hm : max x.depth (PyData.depthAll ds) ≤ n := h
    intro d hd
    rcases List.mem_cons.mp hd with rfl | hd
    · exact Nat.le_trans (Nat.le_max_left _ _) hm
    · exact depthAll_mem (Nat.le_trans (Nat.le_max_right _ _) hm) d hd
theorem D4.seq {mx : Nat} {H : Hp} {A : Addr → Prop} {a : Addr} {d : PyData} {xs : List V} (h : D4 mx H A (.ref a) d) (ha : H a = some (.lst xs) ∨ H a = some (.tup xs)) : ∃ ds, D4A mx H A xs ds ∧ costAll4 ds + 3 = cost4 d ∧ PyData.depthAll ds + 1 = d.depth := by
  cases h with
  | lst h1 h2 h3 h4 h5 =>
    rcases ha with ha | ha
    · rw [h1] at ha
      injection ha with ha
      injection ha with ha
      subst ha
      exact ⟨_, h5, by simp only [cost4], rfl⟩
    · rw [h1] at ha
      cases ha
  | tup h1 h2 h4 h5 =>
    rcases ha with ha | ha
    · rw [h1] at ha
      cases ha
    · rw [h1] at ha
      injection ha with ha
      injection ha with ha
      subst ha
      exact ⟨_, h5, by simp only [cost4], rfl⟩
  | dic0 h1 h2 => rcases ha with ha | ha <;> (rw [h1] at ha; cases ha)
  | dic1 h1 h2 => rcases ha with ha | ha <;> (rw [h1] at ha; cases ha)
end Qk
set_option maxRecDepth 100000
set_option maxHeartbeats 4000000
namespace Qk
open PySem PySem.Spec PyProof.Rows L2
/-- what may be compared with itself: none, truths, whole numbers, texts, and whatever stands at an address -/
def selfV : V → Bool
  | .non => true
  | .bl _ => true
  | .int _ => true
  | .str _ => true
  | .ref _ => true
  | _ => false
theorem eqAt_self {A : Around} {s : Shared} {x : V} {u v : Value} (h : selfV x = true) (hu : RelV x u) (hv : RelV x v) : SeqAt.EqAt A s u v true := by
  cases x with
  | non => cases hu; cases hv; exact SeqAt.EqAt.same _
  | bl b => cases hu; cases hv; exact SeqAt.EqAt.same _
  | int i =>
    obtain ⟨t, rfl⟩ := hu
    obtain ⟨t', rfl⟩ := hv
    have := SeqAt.EqAt.int_int (A := A) (s := s) i t i t'
    rwa [beq_self_eq_true] at this
  | str z =>
    obtain ⟨t, rfl⟩ := hu
    obtain ⟨t', rfl⟩ := hv
    have := SeqAt.EqAt.str_str (A := A) (s := s) z t z t'
    rwa [beq_self_eq_true] at this
  | ref a => cases hu; cases hv; exact SeqAt.EqAt.same _
  | _ => cases h
theorem paired_at {α β : Type} {F : α → β → Prop} : ∀ {xs : List α} {ys : List β}, Paired F xs ys → ∀ (j : Nat) (h1 : j < xs.length) (h2 : j < ys.length), F xs[j] ys[j]
  | _, _, .nil, j, h1, _ => absurd h1 (by simp)
  | _, _, .cons r t, 0, _, _ => r
  | _, _, .cons r t, j + 1, h1, h2 => paired_at t j (by simpa using h1) (by simpa using h2)
/-- == of two tuples of the same things, whatever these are -/
def rEqT (K : PySem.W.Frag) : R2 := fun x y H Q => ∃ (a b : Addr) (xs : List V), x = .ref a ∧ y = .ref b ∧ SqT K H a xs ∧ SqT K H b xs ∧ (∀ z ∈ xs, selfV z = true) ∧ Q (.bl true) H
theorem op_eqT {X : Cx} (hu : X.A.units < cLine) : OpR X (compareOp .Eq) (rEqT X.K) := by
  intro pins s σ H x y v u Q I rx ry h
  obtain ⟨a, b, xs, rfl, rfl, h1, h2, hx, q⟩ := h
  cases rx
  cases ry
  obtain ⟨i1, r1, t1, _⟩ := I.tuple h1
  obtain ⟨i2, r2, t2, _⟩ := I.tuple h2
  refine SeqAt.eq_tupleAt (e := fun _ => true) t1 t2 hu (fun j g1 g2 => ?_) ?_
  · have e1 : j < i1.length := by simpa using g1
    have e2 : j < i2.length := by simpa using g2
    have ex : j < xs.length := by rw [r1.length]; exact e1
    exact eqAt_self (hx xs[j] (List.getElem_mem ex)) (by simpa using paired_at r1 j ex e1) (by simpa using paired_at r2 j ex e2)
  · have e : (((List.range (min i1.toArray.size i2.toArray.size)).all fun _ => true) && i1.toArray.size == i2.toArray.size) = true := by
      rw [List.size_toArray, List.size_toArray, ← r1.length, ← r2.length]
      simp
    rw [e]
    exact ⟨.bl true, H, I, rfl, q⟩
/-- != of two tuples of the same things -/
def rNeT (K : PySem.W.Frag) : R2 := fun x y H Q => ∃ (a b : Addr) (xs : List V), x = .ref a ∧ y = .ref b ∧ SqT K H a xs ∧ SqT K H b xs ∧ (∀ z ∈ xs, selfV z = true) ∧ Q (.bl false) H
theorem op_neT {X : Cx} (hu : X.A.units < cLine) : OpR X (compareOp .NotEq) (rNeT X.K) := by
  intro pins s σ H x y v u Q I rx ry h
  obtain ⟨a, b, xs, rfl, rfl, h1, h2, hx, q⟩ := h
  cases rx
  cases ry
  obtain ⟨i1, r1, t1, _⟩ := I.tuple h1
  obtain ⟨i2, r2, t2, _⟩ := I.tuple h2
  have g := SeqAt.RcNeAt.tuples (e := fun _ => true) t1 t2 hu (fun j g1 g2 => by
    have e1 : j < i1.length := by simpa using g1
    have e2 : j < i2.length := by simpa using g2
    have ex : j < xs.length := by rw [r1.length]; exact e1
    exact eqAt_self (hx xs[j] (List.getElem_mem ex)) (by simpa using paired_at r1 j ex e1) (by simpa using paired_at r2 j ex e2))
  have e : (!(((List.range (min i1.toArray.size i2.toArray.size)).all fun _ => true) && i1.toArray.size == i2.toArray.size)) = false := by
    rw [List.size_toArray, List.size_toArray, ← r1.length, ← r2.length]
    simp
  rw [e] at g
  exact g _ _ _ _ ⟨.bl false, H, I, rfl, q⟩
end Qk
set_option maxRecDepth 100000
set_option maxHeartbeats 4000000
namespace Qk
open PySem PySem.Spec PyProof.Rows L2
def zipKV (xs : List Str) (ys : List V) : List (Key × V) := (xs.zip ys).map fun p => (Sum.inr p.1, p.2)
def zipKU (xs : List Str) (us : List Value) : List (Key × Value) := (xs.zip us).map fun p => (Sum.inr p.1, p.2)
theorem zip_kv : ∀ {xs : List Str} {ys : List V} {us : List Value}, Vals ys us → KV (zipKV xs ys) (zipKU xs us)
  | [], _, _, _ => .nil
  | _ :: _, _, _, .nil => .nil
  | _ :: _, _, _, .cons r t => .cons ⟨rfl, r⟩ (zip_kv t)
theorem vals_str : ∀ {xs : List Str} {us : List Value} {i : Nat} {u : Value}, Vals (xs.map V.str) us → us[i]? = some u → ∃ x t, xs[i]? = some x ∧ u = .str x t
  | [], us, i, u, r, h => by
    cases r
    cases h
  | x :: xs, us, i, u, r, h => by
    cases r with
    | cons a t =>
      cases i with
      | zero =>
        cases h
        obtain ⟨k, e⟩ := a
        exact ⟨x, k, rfl, e⟩
      | succ i =>
        obtain ⟨y, k, e1, e2⟩ := vals_str t (by simpa using h)
        exact ⟨y, k, by simpa using e1, e2⟩
theorem zip_at {xs : List Str} {us : List Value} {i : Nat} {x : Str} {u : Value} (h1 : xs[i]? = some x) (h2 : us[i]? = some u) : (zipKU xs us)[i]? = some (.inr x, u) := by
  unfold zipKU
  rw [List.getElem?_map, (List.getElem?_zip_eq_some (z := (x, u))).mpr ⟨h1, h2⟩]
  rfl
def tDictZip (K : PySem.W.Frag) (ta : TA) : TE := fun σ H Q => ta σ H fun vs H1 => ∃ (a b : Addr) (xs : List Str) (ys : List V), vs = [.ref a, .ref b] ∧ SqL K H1 a (xs.map V.str) ∧ SqL K H1 b ys ∧ ∀ p, H1 p = none → Q (.ref p) (upd H1 p (.dK (mergeK [] (zipKV xs ys))))
section
variable {X : Cx} {e e2 : Expr} {ta : TA} {p p2 pos pos2 : Pos}
theorem pe_dictZip (hc : X.calm = true) (hg : Gl X "dict") (hm : X.mg "dict" = none) (hgz : Gl X "zip") (hmz : X.mg "zip" = none) (ha : PA X [e, e2] ta)
    (hs1 : starEach [(.Call (.Name "zip" p2) [e, e2] [] pos2 : Expr)] X.env = (false, eval (.Call (.Name "zip" p2) [e, e2] [] pos2) X.env) :: starEach [] X.env := by rfl)
    (hs : starEach [e, e2] X.env = (false, eval e X.env) :: starEach [e2] X.env := by rfl) (hpl : (backTo pos2 (starEach [e2] X.env)).any (·.1) = false := by rfl)
    (hpl1 : (backTo pos (starEach [] X.env)).any (·.1) = false := by rfl) :
    PE X (.Call (.Name "dict" p) [.Call (.Name "zip" p2) [e, e2] [] pos2] [] pos) (tDictZip X.K ta) := by
  refine ⟨fun pins s σ H Q I h => ?_⟩
  refine wpAny_Call_Name_kw (ld_blt I hg hm PyProof.Rows.boot_dict ?_ (by decide) (by decide))
  refine PyProof.Rows.callWith_type1 ?_ hs1 hpl1
  rw [hs1]
  show wpAny _ _ (spliced ((false, eval (.Call (.Name "zip" p2) [e, e2] [] pos2) X.env) :: backTo pos (starEach [] X.env))) _ _ s
  refine Calls.spliced_cons ?_
  refine wpAny_Call_Name_kw (ld_blt I hgz hmz PyProof.Rows.boot_zip ?_ (by decide) (by decide))
  refine PyProof.Rows.callWith_type1 (thn (ha.run pos2 pins s σ H _ I h) fun us s1 ⟨vs, H1, I1, r1, q1⟩ => ?_) hs hpl
  obtain ⟨a, b, xs, ys, ex, hqx, hqy, q⟩ := q1
  subst ex
  cases r1 with
  | cons r rr =>
    cases rr with
    | cons r' rr =>
      cases rr
      cases r
      cases r'
      obtain ⟨its, rv, p1, z1⟩ := I1.list hqx
      obtain ⟨its2, rv2, p3, z2⟩ := I1.list hqy
      refine call_zip_2 p1.isList p3.isList fun h' hz hTI hTO h1 h2 hsz hk => ?_
      refine Calls.spliced_nil ?_
      have hn1 : its.length = xs.length := by have := rv.length; rw [List.length_map] at this; exact this.symm
      have hn2 : its2.length = ys.length := rv2.length.symm
      have hlen : (zipKU xs its2).length = min its.toArray.size its2.toArray.size := by
        unfold zipKU
        rw [List.length_map, List.length_zip, ← hn1]
        rfl
      refine _root_.PySem.call_dict_pairs (knd := mixKind X.prog X.w) (kvs := zipKU xs its2) (PairArg.zip (s1.heap.objs.size + 4) (s1.heap.objs.size + 2) (s1.heap.objs.size + 3) s1.heap.objs.size (s1.heap.objs.size + 1) a b (PySem.W.ktu_apart s1.heap.objs.size a b p1.lt p3.lt) its.toArray its2.toArray)
        (I1.ok.hd hc) ⟨hz, hTI, ⟨_, _, hTO⟩, h1, h2, p1.isList.at fun o q => hk _ o q, p3.isList.at fun o q => hk _ o q⟩ ⟨hlen, fun i key v hr => ?_⟩ ?_ fun h'' tk hd' hk' => ?_
      · obtain ⟨g1, g2⟩ := hr
        have g1' : its[i]? = some key := by simpa using g1
        have g2' : its2[i]? = some v := by simpa using g2
        obtain ⟨x, t, e1, rfl⟩ := vals_str rv g1'
        exact ⟨.inr x, zip_at e1 g2', mixKind_str X.prog X.w x t⟩
      · refine Nat.le_trans (Nat.min_le_left _ _) ?_
        show its.toArray.size ≤ sizeLine
        rw [List.size_toArray, hn1]
        rw [List.length_map] at z1
        exact z1
      · have hsz' : h'.objs.size = s1.heap.objs.size + 5 := hsz
        have hb5 : s1.heap.objs.size ≤ h'.objs.size := by omega
        have hm5 : (h'.objs.size == sysModules) = false := beq_eq_false_iff_ne.mpr (Nat.ne_of_gt (Nat.lt_of_lt_of_le I1.big hb5))
        have kl : (mergeK [] (zipKV xs ys)).length ≤ sizeLine := by
          refine Nat.le_trans (length_mergeK _ []) ?_
          rw [List.length_nil, Nat.zero_add]
          unfold zipKV
          rw [List.length_map, List.length_zip]
          rw [List.length_map] at z1
          exact Nat.le_trans (Nat.min_le_left _ _) z1
        have keep : ∀ c o, s1.heap.get? c = some o → h''.get? c = some o := fun c o ec => by
          have lt := Heap.lt_size ec
          refine hk' c o (fun hmem => ?_) (hk c o ec)
          simp only [List.mem_cons, List.not_mem_nil, or_false] at hmem
          rcases hmem with q | q | q | q
          · rw [q] at lt; exact absurd lt (Nat.not_lt.mpr (Nat.le_add_right _ _))
          · rw [q] at lt; exact absurd lt (Nat.not_lt.mpr (Nat.le_add_right _ _))
          · rw [q] at lt; exact absurd lt (Nat.lt_irrefl _)
          · rw [q] at lt; exact absurd lt (Nat.not_lt.mpr (Nat.le_add_right _ _))
        exact ⟨.ref h'.objs.size, upd H1 h'.objs.size (.dK (mergeK [] (zipKV xs ys))), I1.laid (t' := tk) keep hb5 (show ObjOk X.prog X.w _ _ _ (.dK (mergeK [] (zipKV xs ys))) from ⟨kl, hm5, merged [] (zipKU xs its2), KV.merge (zip_kv rv2) .nil, hd'⟩), rfl, q _ (I1.hok.fresh hb5)⟩
end
end Qk
set_option maxRecDepth 100000
set_option maxHeartbeats 4000000
namespace Qk
open PySem PySem.Spec PyProof.Rows L2
/-- a def whose code object is known -/
structure FunC (K : PySem.W.Frag) (x qual : Str) (st : Stmt) (f : Addr) (fd : FuncData) (c : Addr) : Prop where
  ex : ∃ (oc : Value) (od : Option Addr) (kV doc pm : Value) (an : Option Addr) (ct : Value) (osl : Array (Option Value)),
    fd = PySem.W.fnOf x qual (defArgs st) (defBody st) (defScope st) .none kV doc pm an (.ref c) ct ∧ K.lookup f = some ⟨oc, od, .func fd, osl⟩ ∧ PySem.W.codeIn K (.ref c) qual = true
  kp : PySem.W.keepIn K (.ref f) = true
section
variable {P : Program} {w : World} {K : PySem.W.Frag} {mg : Str → Option Value} {base : Heap}
theorem FunC.fn {x qual : Str} {st : Stmt} {f : Addr} {fd : FuncData} {c : Addr} (F : FunC K x qual st f fd c) : Fun K x qual st f fd := by
  obtain ⟨oc, od, kV, doc, pm, an, ct, osl, h1, h2, h3⟩ := F.ex
  exact ⟨⟨oc, od, kV, doc, pm, an, .ref c, ct, osl, h1, h2, h3⟩, F.kp⟩
theorem okGC {x qual : Str} {st : Stmt} {f c : Addr} {fd : FuncData} {N ps : List Str} {k : Nat} {sp : Sp} (F : FunC K x qual st f fd c) (S : FnScope N ps (defScope st)) (len : ∀ vs H Q E, sp vs H Q E → vs.length = ps.length)
    (body : ∀ (A : Around) (outer : List Env) (s : Shared) (H : Hp) (vs : List V) (Q : VK) (E : XK), Room k (A.deeper (envOfC qual (defScope st) s.heap.objs.size f (.ref c))) → A.guards = some [] → sp vs H Q E →
      ∃ t, PSs (cxOf CX0 P w K mg base N qual (defScope st) f (.ref c) A outer s H E).nox (defBody st) t ∧ t { nx := fun _ H' => Q .non H', rt := Q } (start N vs) H) : FnG P w K mg base (k + 1) f fd ps sp := by
  obtain ⟨oc, od, kV, doc, pm, an, ct, osl, rfl, lk, hcd⟩ := F.ex
  constructor
  · exact len
  intro A outer s H args us vs Q E hr hg e0 hb rv hsp
  have hlen := len _ _ _ _ hsp
  have kept : ∀ b o, base.get? b = some o → s.heap.get? b = some o := fun b o e => (e0.bs b o e).1
  have KX : K.In s.heap := e0.mod.kin.keeps kept
  have par : ∀ y ∈ ps.zip us, (defScope st).names.lookup y.1 = some .local ∨ ((defScope st).names.lookup y.1 = some .cell ∧ ((cellsFrom (s.heap.objs.size + 1) (defScope st).names []).lookup y.1).isSome = true) := by
    rintro ⟨n, v⟩ hy
    exact (S.par n (List.of_mem_zip hy).1).imp id fun q => ⟨q, PySem.W.cellsFrom_some _ _ _ (.inl q)⟩
  refine codeAny_call_function hr.depth (KX _ _ lk) rfl S.co S.gen rfl (PySem.W.codeRec_of KX hcd) (hb _ _ _ _ ?_)
  refine wpAny_newFunctionEnv_cells S.kind par fun env he s1 xe => ?_
  subst he
  refine ⟨(e0.mod.nolimit.keeps kept).keeps xe.toInCall.keep, codeAny_func ?_⟩
  obtain ⟨t, ht, hq⟩ := body A outer s H vs Q E (hr.deeper _) hg hsp
  refine wpAny_mono (ht.nox.run [] s1 (start N vs) H _ (inv_start S hr.hd e0 hlen rv xe) hq) (fun fl s' hs => ?_) fun _ _ z => z
  cases fl with
  | ret u =>
    obtain ⟨v, σ', H', J, r, q⟩ := hs
    exact ⟨v, H', J.os, J.bare, J.base, J.hok, r, q⟩
  | next =>
    obtain ⟨σ', H', J, q⟩ := hs
    exact ⟨V.non, H', J.os, J.bare, J.base, J.hok, rfl, q⟩
  | brk => exact hs.elim fun _ z => z.elim fun _ z => z.2.elim
  | cont => exact hs.elim fun _ z => z.elim fun _ z => z.2.elim
/-- what a lambda lets out is heard -/
theorem takes_lam {X : Cx} {A : Around} {outer : List Env} {s : Shared} {H : Hp} {E : XK} {scope : Scope} {f c' : Addr} : Takes (LamX.lamCx X A outer s H E scope f c') (fun cls d _ H => E cls d H) :=
  takes_of (E₁ := fun e' s'' => L2.CX X.prog X.w outer H s E e' s'') rfl rfl rfl rfl
theorem passes_lam {X : Cx} {A : Around} {outer : List Env} {s : Shared} {H : Hp} {E : XK} {scope : Scope} {f c' : Addr} (σ : L2.St) : PassesAt (L2.CX X.prog X.w) (LamX.lamCx X A outer s H E scope f c') σ E :=
  passAt (X := LamX.lamCx X A outer s H E scope f c') (W := fun cls d _ H => E cls d H) takes_lam σ
/-- the heap without its tables -/
def NT (H : Hp) : Hp := fun b => match H b with
  | some (.tbl _) => none
  | o => o
theorem NT.sub {H : Hp} : Same (NT H) H := fun b o e => by
  unfold NT at e
  split at e
  · cases e
  · exact e
theorem NT.of {H : Hp} {b : Addr} {o : HO} (h : H b = some o) (n : ∀ ps, o ≠ .tbl ps) : NT H b = some o := by
  unfold NT
  split
  · rename_i ps e
    rw [h] at e
    exact absurd (Option.some.inj e) (n ps)
  · exact h
theorem NT.no {H : Hp} {b : Addr} {o : HO} (h : NT H b = some o) : ∀ ps, o ≠ .tbl ps := fun ps e => by
  subst e
  unfold NT at h
  split at h
  · cases h
  · rename_i o' hn
    exact hn ps h
theorem NT.ext {H H' : Hp} (e : LamX.ExtN H H') : Same (NT H) H' := fun b o h => e b o (NT.sub b o h) (NT.no h)
/-- what stood in a heap, tables and the bag set aside, stands there still -/
def KpN (b : Addr) (H H' : Hp) : Prop := Kp b (NT H) H'
theorem KpN.of_kp {b : Addr} {H H' : Hp} (k : Kp b H H') : KpN b H H' := fun c o h nb => k c o (NT.sub c o h) nb
theorem KpN.of_ext {b : Addr} {H H' : Hp} (e : LamX.ExtN H H') : KpN b H H' := fun c o h _ => NT.ext e c o h
theorem KpN.trans {b : Addr} {H H1 H2 : Hp} (k1 : KpN b H H1) (k2 : KpN b H1 H2) : KpN b H H2 := fun c o h nb => k2 c o (NT.of (k1 c o h nb) (NT.no h)) nb
theorem KpN.refl {b : Addr} {H : Hp} : KpN b H H := fun c o h _ => NT.sub c o h
theorem Bag.nt {H : Hp} {b l : Addr} (B : Bag H b l) : Bag (NT H) b l := by
  obtain ⟨h, m, p, ns, hb, hl, r⟩ := B
  exact ⟨h, m, p, ns, NT.of hb (fun _ e => (nomatch e)), NT.of hl (fun _ e => (nomatch e)), r⟩
theorem Tabs.of_kp {T : List (Addr × Str)} {b : Addr} {H H' : Hp} (t : LamX.Tabs T H) (hb : ∃ xs, H b = some (.lst xs)) (k : Kp b H H') : LamX.Tabs T H' := fun p hp => by
  obtain ⟨ps, h1, h2, h3⟩ := t p hp
  obtain ⟨xs, hb⟩ := hb
  refine ⟨ps, k _ _ h1 (fun e => ?_), h2, fun pos cv hc => ?_⟩
  · rw [e, hb] at h1
    cases h1
  · obtain ⟨c, e1, e2⟩ := h3 pos cv hc
    refine ⟨c, e1, k _ _ e2 fun e => ?_⟩
    rw [e, hb] at e2
    cases e2
end
end Qk
set_option maxRecDepth 100000
set_option maxHeartbeats 4000000
set_option maxRecDepth 100000
set_option maxHeartbeats 4000000
namespace Qk
open PySem PySem.Spec PyProof.Rows L2
section
variable {X : Cx} {C f : Addr} {fd : FuncData} {n : Nat} {sp : Sp} {p1 p2 : Str} {a b : Expr} {ta tb : TE} {pos : Pos} {CX : CXT}
theorem run_twoX {A : Around} {pins : List (Addr × Obj)} {σ : L2.St} {H : Hp} {s : Shared} {Q : VK} {E : XK} {us : List Value} {vs : List V} (F : FnOk X.prog X.w X.K X.mg X.base CX n f fd [p1, p2] sp) (hA : Sub X n A) (hb : Binds X.K fd [p1, p2] [])
    (hx : PassesAt CX X σ E) (I : Inv X pins σ H s) (r : Vals vs us) (h : sp vs H Q E) : wpAny (model X.prog X.w) A (call (.ref f) us) (EP X pins σ Q) X.xe s := by
  have e0 : Env0 X.prog X.w X.K X.mg X.base A X.stack s H := env_sub hA I
  have hl : (us ++ ([] : List Value)).length = [p1, p2].length := by
    rw [List.append_nil, ← r.length]
    exact F.len _ _ _ _ h
  have hbd := hb s us I.kIn hl
  rw [List.append_nil] at hbd
  refine wpAny_call (codeAny_mono (F.run A X.stack s H ⟨us, []⟩ us vs Q E hA.room e0 hbd r h) fun r s' hq => ?_)
  cases r with
  | error e => exact hx pins H s e s' I hq
  | ok fl =>
    cases fl with
    | ret u => exact I.after hq
    | next => exact False.elim hq
    | brk => exact False.elim hq
    | cont => exact False.elim hq
end
end Qk
set_option maxRecDepth 100000
set_option maxHeartbeats 4000000
namespace Qk
open PySem PySem.Spec PyProof.Rows L2
section
variable {X : Cx} {C f : Addr} {fd : FuncData} {n : Nat} {sp : Sp} {ps : List Str} {nm : Str} {q1 q2 : Pos} {e0 : Expr} {es : List Expr} {t : TA} {CX : CXT} {E : L2.St → XK}
theorem run_mkS {pins : List (Addr × Obj)} {σ : L2.St} {H : Hp} {s : Shared} {Q : VK} {us : List Value} {vs : List V} (M : Mk X.K C f) (F : FnOk X.prog X.w X.K X.mg X.base CX n f fd ps sp) (room : Room (n + 1) X.A) (bd : Binds X.K fd ps [])
    (out : ∀ (G : Hp) (s0 : Shared) (x : Value) (s' : Shared), Inv X pins σ G s0 → CX X.stack G s0 (E σ) x s' → X.xe x s') (I : Inv X pins σ H s) (rl : Vals vs us)
    (h : ∀ x dx, H x = none → H dx = none → dx ≠ x → sp (.ref x :: vs) (upd (upd H dx (.own x)) x (.ins C dx [])) (fun v H2 => v = .non ∧ Q (.ref x) H2) (E σ)) : wpAny (model X.prog X.w) X.A (call (.ref C) us) (EP X pins σ Q) X.xe s := by
  have made := Inv.made (C := C) I
  have read := h (s.heap.objs.size + 1) s.heap.objs.size (I.hok.fresh (Nat.le_succ _)) (I.hok.fresh (Nat.le_refl _)) (Nat.ne_of_lt (Nat.lt_succ_self _))
  have vals : Vals (V.ref (s.heap.objs.size + 1) :: vs) (Value.ref (s.heap.objs.size + 1) :: us) := .cons rfl rl
  have many : (Value.ref (s.heap.objs.size + 1) :: us ++ []).length = ps.length := by
    rw [List.append_nil, ← vals.length]
    exact F.len _ _ _ _ read
  have bound := bd _ (Value.ref (s.heap.objs.size + 1) :: us) made.kIn many
  rw [List.append_nil] at bound
  refine wpAny_call (make_map (f := f) I.kIn M.makes M.init (beq_iff_eq.mp M.fn) (codeAny_mono
    (F.run _ X.stack _ _ ⟨Value.ref (s.heap.objs.size + 1) :: us, []⟩ _ _ _ (E σ) (room.make C us []) (made.env0.make C us []) bound vals read) fun r s' got => ?_))
  cases r with
  | error x => exact out _ _ x s' made got
  | ok fl =>
    cases fl with
    | ret u =>
      obtain ⟨v, G, J, rv, ev, k⟩ := made.after got
      cases ev
      refine ⟨rv, V.ref (s.heap.objs.size + 1), G, J, ?_, k⟩
      rfl
    | _ => exact False.elim got
def tMkS (C : Addr) (sp : Sp) (E : L2.St → XK) (t : TA) : TE := fun σ H Q => t σ H fun vs H1 => ∀ x dx, H1 x = none → H1 dx = none → dx ≠ x → sp (.ref x :: vs) (upd (upd H1 dx (.own x)) x (.ins C dx [])) (fun v H2 => v = .non ∧ Q (.ref x) H2) (E σ)
theorem pe_mkS (M : Mk X.K C f) (F : FnOk X.prog X.w X.K X.mg X.base CX n f fd ps sp) (room : Room (n + 1) X.A) (gl : Gl X nm) (hm : X.mg nm = some (.ref C)) (bd : Binds X.K fd ps []) (hx : ∀ σ, PassesAt CX X σ (E σ)) (ha : PA X (e0 :: es) t)
    (dbg : (nm == ("__debug__" : Str)) = false := by decide) (st : starEach (e0 :: es) X.env = (false, eval e0 X.env) :: starEach es X.env := by rfl) (pl : (backTo q2 (starEach es X.env)).any (·.1) = false := by rfl) :
    PE X (.Call (.Name nm q1) (e0 :: es) [] q2) (tMkS C sp E t) := ⟨fun pins s σ H Q I h => wpAny_Call_Name_kw (ld_glob I gl hm
      (PySem.W.callWith_K (h₀ := X.base) I.ok.mod.kin M.kp (thn (ha.run q2 pins s σ H _ I h) fun us s1 ⟨vs, H1, I1, r, k⟩ => ⟨I1.kIn, run_mkS M F room bd (fun G s0 => hx σ pins G s0) I1 r k⟩) st pl) dbg)⟩
end
end Qk
set_option maxRecDepth 100000
set_option maxHeartbeats 4000000
set_option maxRecDepth 100000
set_option maxHeartbeats 4000000
namespace Qk
open PySem PySem.Spec PyProof.Rows L2
def rBinX (C : Addr) (sp : Sp) (E : XK) : R2 := fun x y H Q => ∃ (a dx b dy : Addr) (fs gs : List (Str × V)), x = .ref a ∧ H a = some (.ins C dx fs) ∧ y = .ref b ∧ H b = some (.ins C dy gs) ∧ sp [.ref a, .ref b] H (fun v H' => ∃ r, v = .ref r ∧ Q v H') E
section
variable {X : Cx} {C f : Addr} {fd : FuncData} {n : Nat} {sp : Sp} {p1 p2 : Str} {CX : CXT}
theorem op_binX {op : Operator} {E : XK} (O : OwnBin X.K C f (PySem.dunder op.info.2)) (F : FnOk X.prog X.w X.K X.mg X.base CX n f fd [p1, p2] sp) (hr : Room n X.A) (hb : Binds X.K fd [p1, p2] []) (hx : ∀ σ, PassesAt CX X σ E) : OpR X (binaryOp op) (rBinX C sp E) := by
  intro pins s σ H x y v u Q I rx ry hq
  obtain ⟨a, dx, b, dy, fs, gs, rfl, ha, rfl, hb', h⟩ := hq
  cases rx
  cases ry
  obtain ⟨mA, J, _⟩ := ins_get I.hok ha
  obtain ⟨od, J, _⟩ := J.look
  obtain ⟨mB, JB, _⟩ := ins_get I.hok hb'
  obtain ⟨oB, JB, _⟩ := JB.look
  obtain ⟨m, hF⟩ := I.fr
  refine PySem.W.binop_K hF I.ok.mod.kin J JB.type O.sf O.at_ O.fn ?_
  refine wpAny_mono (run_twoX (us := [.ref a, .ref b]) (vs := [.ref a, .ref b]) F ⟨hr, rfl⟩ hb (hx σ) I (.cons rfl (.cons rfl .nil)) h) (fun r s' z => ?_) fun _ _ e => e
  obtain ⟨w, H', I', rw', r, rfl, q⟩ := z
  cases rw'
  exact ⟨.ref r, H', I', rfl, q⟩
/-- what is taken, told of states of the right length -/
theorem takes_len {X : Cx} {W : WX} (t : Takes X W) : Takes X (fun cls d σ H => σ.length = X.N.length → W cls d σ H) := fun u s' ⟨a, B, sI, pins, σ, H, cls, d, e, I, nb, up, sky, na, os, ag, z⟩ =>
  t u s' ⟨a, B, sI, pins, σ, H, cls, d, e, I, nb, up, sky, na, os, ag, z I.len⟩
theorem passAll_lam {X : Cx} {A : Around} {outer : List Env} {s : Shared} {H : Hp} {E : XK} {scope : Scope} {f c' : Addr} : Passes (L2.CX X.prog X.w) (LamX.lamCx X A outer s H E scope f c') E := fun pins σ H' s' e s'' I c => passes_lam σ pins H' s' e s'' I c
end
end Qk
set_option maxRecDepth 100000
set_option maxHeartbeats 4000000
namespace Qk
open PySem PySem.Spec PyProof.Rows L2
def top (i : Nat) : Stmt := PySem.Challenge.pw_narrowkeys_k22_asked_put_together.main.body.getD i (.Pass ⟨0, 0, 0, 0⟩)
abbrev sIsCol : Stmt := top 8
abbrev sAreCols : Stmt := top 9
abbrev sAsc : Stmt := top 10
abbrev sIsEmpty : Stmt := top 11
abbrev sIsLast : Stmt := top 12
abbrev sIsQ : Stmt := top 13
abbrev sAreQs : Stmt := top 14
abbrev sRow : Stmt := top 16
abbrev sCols : Stmt := top 17
abbrev sRenQ : Stmt := top 18
abbrev sBag : Stmt := top 22
abbrev sTake : Stmt := top 23
abbrev sOne : Stmt := top 24
abbrev sMixed : Stmt := top 25
abbrev sAlike : Stmt := top 26
abbrev sTruth : Stmt := top 27
abbrev sNames : Stmt := top 28
abbrev sQOf : Stmt := top 29
abbrev sQuestions : Stmt := top 30
abbrev sLAll : Stmt := top 31
abbrev sLCols : Stmt := top 32
abbrev sEvery : Stmt := top 33
abbrev sLIsCol : Stmt := top 34
abbrev sLAreCols : Stmt := top 35
abbrev sLIsQ : Stmt := top 36
abbrev sOdd : Stmt := top 37
abbrev sBent : Stmt := top 38
abbrev sTold : Stmt := top 39
abbrev sDue : Stmt := top 40
abbrev sTwo : Stmt := top 41
abbrev sSums : Stmt := top 42
abbrev sSingles : Stmt := top 43
abbrev sRenR : Stmt := top 44
abbrev sLaw : Stmt := top 45
abbrev sAInit : Stmt := inClass (top 20) 0
abbrev sAEq : Stmt := inClass (top 20) 1
abbrev sAOr : Stmt := inClass (top 20) 2
abbrev sAAnd : Stmt := inClass (top 20) 3
abbrev sASub : Stmt := inClass (top 20) 4
abbrev sALen : Stmt := inClass (top 20) 5
abbrev sAIn : Stmt := inClass (top 20) 6
abbrev sAIter : Stmt := inClass (top 20) 7
abbrev sAQns : Stmt := inClass (top 20) 8
abbrev sColumns : Stmt := inClass (top 20) 9
abbrev sAWithin : Stmt := inClass (top 20) 10
abbrev sAWith : Stmt := inClass (top 20) 11
abbrev sAWithout : Stmt := inClass (top 20) 12
abbrev sARen : Stmt := inClass (top 20) 13
abbrev sWInit : Stmt := inClass (top 2) 0
abbrev sMInit : Stmt := inClass (top 3) 0
abbrev sNInit : Stmt := inClass (top 4) 0
structure Txt (K : PySem.W.Frag) (mg : Str → Option Value) : Prop where
  len : mg "len" = none
  int : mg "int" = none
  abs : mg "abs" = none
  tuple : mg "tuple" = none
  sorted : mg "sorted" = none
  range : mg "range" = none
  repr : mg "repr" = none
  list : mg "list" = none
  set : mg "set" = none
  isinstance : mg "isinstance" = none
  str : mg "str" = none
  all : mg "all" = none
  enumerate : mg "enumerate" = none
  iter : mg "iter" = none
  zip : mg "zip" = none
  bool : mg "bool" = none
  dict : mg "dict" = none
  longest : ∃ t, mg "LONGEST_COLUMN" = some (.int 8 t)
  limit : ∃ t, mg "LIMIT" = some (.int 48 t)
structure TxA (K : PySem.W.Frag) (mg : Str → Option Value) (C : Addr) : Prop where
  cl : Cls K C
  nQ : NoAttr K C "_questions"
  mgC : mg "Asked" = some (.ref C)
  ha : PySem.W.findIn K (.ref C) "__class__" = some (some (.builtin "object.__class__"))
  hn : PySem.W.specialIn K (.builtin "object.__class__") "__get__" = some (some (.builtin "getset_descriptor.__get__"))
  ht : PySem.W.takesIn K (.builtin "object.__class__") = some true
  hm : PySem.W.mroIn K C (.type "object") = some true
theorem kit_self {K : PySem.W.Frag} {C : Addr} : PySem.W.kitOne K (.ref C) (.ref C) = some true := by
  unfold PySem.W.kitOne
  exact if_pos (beq_iff_eq.mpr rfl)
section
variable {P : Program} {w : World} {K : PySem.W.Frag} {mg : Str → Option Value} {base : Heap}
theorem TxA.ty {C : Addr} (T : TxA K mg C) {H : Hp} {a dx : Addr} {fs : List (Str × V)} (h : H a = some (.ins C dx fs)) : TyX K H (.ref a) (.ref C) := .base (.ins h T.cl T.ha T.hn T.ht T.hm)
theorem scBag : FnScope ["_law_script", "_law_cell"] ["_law_script"] (defScope sBag) := ⟨rfl, rfl, rfl, by decide +kernel, rfl, by decide +kernel, by decide +kernel⟩
theorem ok_bag {f : Addr} {fd : FuncData} (F : Fun K "_law_bag" "_law_bag" sBag f fd) (T : Txt K mg) : FnOk P w K mg base CX0 1 f fd ["_law_script"] (spBag K) := by
  refine F.ok scBag (fun vs H Q E h => ?_) (fun cdv A outer s H vs Q E hr h => ?_)
  · obtain ⟨a, ns, rfl, _⟩ := h
    rfl
  · obtain ⟨a, ns, rfl, hS, hz, k⟩ := h
    have nd := scBag.nd
    refine ⟨_, pss_one (ps_ret (pe_lst (pa_cons pe_int (pa_cons pe_int (pa_cons pe_int (pa_cons (pe_lc (own := [("_law_cell", 1)]) (g := gName 1) (tt := tYes) rfl nd
      (pi_list (pe_slice sl_list (pv 0) po_none (po_some pe_int))) (blkOk_by (N := ["_law_script", "_law_cell"]) (sc := defScope sBag) (by decide +kernel)) (fun _ _ _ _ _ => pg_name (i := 1) nd rfl (Or.inl rfl)) (fun _ _ _ _ _ => pts_nil)
      (fun _ _ _ _ _ => pe_callB call_abs (by rfl) T.abs (by decide +kernel) (pa_cons (pv 1) pa_nil))) pa_nil)))))), ?_⟩
    refine ⟨_, rfl, _, rfl, a, _, rfl, hS, fun p hp => ⟨p, rfl, ⟨_, SqL.of upd_same⟩, fun D hD => ?_⟩⟩
    have e0 : cutV (ns.map V.int) none (some 63) = (ns.take 63).map V.int := (cut_to 63 _).trans List.map_take.symm
    have npD : p ≠ D := ne_of_none upd_same hD
    have s0 : Same H (upd H p (.lst (cutV (ns.map V.int) none (some 63)))) := same_new hp
    have nD : H D = none := s0.free hD
    refine lc_list (K := K) (a := p) (xs := (ns.take 63).map V.int) (fun i H' => Same H H' ∧ H' p = some (.lst ((ns.take 63).map V.int)) ∧ ∃ ms : List Int, H' D = some (.lst (ms.map V.int)) ∧ ms.length ≤ i ∧ ∀ n ∈ ms, 0 ≤ n)
      ⟨s0.trans (same_new hD), by rw [upd_ne npD, upd_same, e0], [], upd_same, Nat.le_refl _, by simp⟩ (fun i H' _ h => SqL.of h.2.1) ?_ ?_
    · rintro i x H' hi ⟨s1, h1, ms, h2, hl, hm⟩
      rw [List.getElem?_map] at hi
      cases e : (ns.take 63)[i]? with
      | none => rw [e] at hi; cases hi
      | some z =>
        rw [e] at hi
        obtain rfl : V.int z = x := Option.some.inj hi
        have hlt : i < 63 := by
          have := (List.getElem?_eq_some_iff.mp e).1
          rw [List.length_take] at this
          omega
        refine ⟨rfl, Exists.intro _ ⟨rfl, z, rfl, _, h2, by rw [List.length_map, sizeLine_eq]; omega, fun b o q => ?_, ?_, ms ++ [if z < 0 then -z else z], by rw [upd_same]; simp, by simp; omega, ?_⟩⟩
        · have : b ≠ D := ne_of_none q nD
          rw [upd_ne this]
          exact s1 _ _ q
        · rw [upd_ne npD]
          exact h1
        · intro n hn
          rcases List.mem_append.mp hn with hn | hn
          · exact hm n hn
          · obtain rfl := List.mem_singleton.mp hn
            split <;> omega
    · rintro H' ⟨s1, h1, ms, h2, hl, hm⟩
      refine ⟨by show 4 ≤ sizeLine; decide, fun q hq => ?_⟩
      have nDq : D ≠ q := ne_of_none h2 hq
      exact k q D _ (s1.free hq) ⟨0, 1234567891, 0, ms, upd_same, by rw [upd_ne nDq]; exact h2, nDq, by decide, by decide, by decide, hm⟩ (s1.trans (same_new hq))
theorem scTake : FnScope ["_law_bag_here", "_law_upto", "_law_cell", "_law_mixed_here", "_law_drawn", "_law_begin", "_law_second"] ["_law_bag_here", "_law_upto"] (defScope sTake) := ⟨rfl, rfl, rfl, by decide +kernel, rfl, by decide +kernel, by decide +kernel⟩
theorem ok_take {f : Addr} {fd : FuncData} (F : Fun K "_law_take" "_law_take" sTake f fd) (T : Txt K mg) : FnOk P w K mg base CX0 1 f fd ["_law_bag_here", "_law_upto"] spTake := by
  refine F.ok scTake (fun vs H Q E h => ?_) (fun cdv A outer s H vs Q E hr h => ?_)
  · obtain ⟨b, l, n, rfl, _⟩ := h
    rfl
  · obtain ⟨b, l, n, rfl, B, n0, n1, k⟩ := h
    have nd := scTake.nd
    obtain ⟨h, m, p, ns, hb, hl, nlb, h0, m0, m1, hns⟩ := id B
    refine ⟨_, Evl.pss_cut (ps_if (pt_cmpR op_eq (pe_ix ix_list (pv 0) pe_int fun _ _ => rfl) pe_int (nomark _))
        (pss_cons (ps_set (i := 2) nd rfl (Or.inl rfl) pe_int)
        (Evl.pss_cut (ps_if (pt_cmpR op_lt (pe_ix ix_list (pv 0) pe_int fun _ _ => rfl) (pe_callB call_len_seq (by rfl) T.len PySem.boot_len (pa_cons (pe_ix ix_list (pv 0) pe_int fun _ _ => rfl) pa_nil)) (nomark _))
          (pss_one (ps_set (i := 2) nd rfl (Or.inl rfl) (pe_ix ix_list (pe_ix ix_list (pv 0) pe_int fun _ _ => rfl) (pe_ix ix_list (pv 0) pe_int fun _ _ => rfl) fun _ _ => rfl))) pss_nil)
        (pss_cons (ps_augS (pv 0) pe_int get_list pe_int ip_add set_list)
        (Evl.pss_cut (ps_if (pt_cmpR op_ge (pv 2) pe_int (nomark _)) (pss_one (ps_asg (pv 2) (pg_sub (pv 0) pe_int set_list))) pss_nil)
        (pss_cons (ps_set (i := 3) nd rfl (Or.inl rfl) (pe_op op_add (pe_op op_add (pe_op op_mul (pe_ix ix_list (pv 0) pe_int fun _ _ => rfl) pe_int)
            (pe_op op_mod (pe_callTy call_int1 (by rfl) T.int (by decide +kernel) (pa_cons (pv 2) pa_nil)) pe_int)) (pe_op op_mul pe_int (pe_ix ix_list (pv 0) pe_int fun _ _ => rfl))))
        (pss_one (ps_asg (pe_op op_mod (pe_callTy call_int1 (by rfl) T.int (by decide +kernel) (pa_cons (pv 3) pa_nil)) pe_int) (pg_sub (pv 0) pe_int set_list)))))))) pss_nil)
      (Evl.pss_cut (ps_if (pt_cmpR op_gt (pe_ix ix_list (pv 0) pe_int fun _ _ => rfl) pe_int (nomark _))
        (pss_cons (ps_set (i := 4) nd rfl (Or.inl rfl) (pe_op op_mod (pe_callTy call_int1 (by rfl) T.int (by decide +kernel) (pa_cons (pe_ix ix_list (pv 0) pe_int fun _ _ => rfl) pa_nil)) (pv 1)))
        (pss_cons (ps_asg (pe_op op_fdivN (pe_callTy call_int1 (by rfl) T.int (by decide +kernel) (pa_cons (pe_ix ix_list (pv 0) pe_int fun _ _ => rfl) pa_nil)) (pv 1)) (pg_sub (pv 0) pe_int set_list))
        (pss_one (ps_ret (pv 4))))) pss_nil)
      (pss_cons (ps_set (i := 5) nd rfl (Or.inl rfl) (pe_op op_mod (pe_callTy call_int1 (by rfl) T.int (by decide +kernel) (pa_cons (pe_op op_mul (pe_op op_add (pe_ix ix_list (pv 0) pe_int fun _ _ => rfl) pe_int) pe_int) pa_nil)) pe_int))
      (pss_cons (ps_set (i := 6) nd rfl (Or.inl rfl) (pe_op op_mod (pe_callTy call_int1 (by rfl) T.int (by decide +kernel) (pa_cons (pe_op op_mul (pe_op op_mod (pe_callTy call_int1 (by rfl) T.int (by decide +kernel) (pa_cons (pe_op op_mul (pv 5) (pv 5)) pa_nil)) pe_int) pe_int) pa_nil)) pe_int))
      (pss_one (ps_ret (pe_op op_mod (pe_callTy call_int1 (by rfl) T.int (by decide +kernel) (pa_cons (pe_op op_fdiv (pv 6) pe_int) pa_nil)) (pv 1)))))))
      , ?_⟩
    refine ⟨fun σ' H' => ∃ c2 c3, σ' = [some (.ref b), some (.int n), c2, c3, none, none, none] ∧ Bag H' b l ∧ Kp b H H', ?_, ?_⟩
    · refine ⟨_, rfl, b, _, _, _, rfl, rfl, SqL.of hb, rfl, rfl, _, rfl, ?_⟩
      refine ite2 (fun _ => ?_) (fun _ => ⟨_, _, rfl, B, Kp.refl _ _⟩)
      refine ⟨fun σ' H' => ∃ c : Int, 0 ≤ c ∧ σ' = [some (.ref b), some (.int n), some (.int c), none, none, none, none] ∧ H' = H, ?_, ?_⟩
      · refine ⟨_, rfl, b, _, _, _, rfl, rfl, SqL.of hb, rfl, _, rfl, b, _, _, _, rfl, rfl, SqL.of hb, rfl, _, _, rfl, .inl (SqL.of hl), _, _, rfl, rfl, _, rfl, ?_⟩
        refine ite2 (fun hc => ?_) (fun _ => ⟨0, Int.le_refl 0, rfl, rfl⟩)
        have hp : p < ns.length := by
          have := of_decide_eq_true hc
          rw [List.length_map] at this
          omega
        refine ⟨_, rfl, b, _, _, _, rfl, rfl, SqL.of hb, rfl, _, rfl, b, _, _, _, rfl, rfl, SqL.of hb, rfl, l, _, _, .int ns[p], rfl, rfl, SqL.of hl, atI_nat (by rw [List.getElem?_map, List.getElem?_eq_getElem hp]; rfl), ?_⟩
        exact ⟨ns[p], hns _ (List.getElem_mem hp), rfl, rfl⟩
      · rintro σ' H' ⟨c, hc, rfl, rfl⟩
        refine ⟨_, rfl, b, _, 2, _, rfl, rfl, SqL.of hb, rfl, _, _, rfl, rfl, b, _, _, 2, rfl, rfl, hb, rfl, ?_⟩
        have hl1 : (upd H' b (HO.lst [.int h, .int m, .int ((p + 1 : Nat) : Int), .ref l])) l = some (HO.lst (ns.map V.int)) := by rw [upd_ne nlb]; exact hl
        refine ⟨fun σ' H2 => ∃ h' : Int, 0 ≤ h' ∧ σ' = [some (.ref b), some (.int n), some (.int c), none, none, none, none] ∧ H2 b = some (.lst [.int h', .int m, .int ((p + 1 : Nat) : Int), .ref l]) ∧ Kp b H' H2, ?_, ?_⟩
        · refine ⟨_, rfl, _, _, rfl, rfl, _, rfl, ?_⟩
          refine ite2 (fun _ => ?_) (fun _ => ⟨h, h0, rfl, upd_same, Kp.at_ _ _ _⟩)
          refine ⟨_, rfl, _, rfl, b, _, 0, 0, rfl, rfl, upd_same, rfl, ?_⟩
          exact ⟨c, hc, rfl, upd_same, (Kp.at_ _ _ _).trans (Kp.at_ _ _ _)⟩
        · rintro σ' H2 ⟨h', h0', rfl, hb2, k2⟩
          have hl2 : H2 l = some (.lst (ns.map V.int)) := k2 _ _ hl nlb
          refine ⟨_, rfl, b, _, 1, _, rfl, rfl, SqL.of hb2, rfl, _, _, rfl, rfl, .inl ⟨by omega, by omega⟩, _, rfl, .inl ⟨_, rfl, _, _, rfl, rfl, (by show (0 : Int) < 2147483647; decide), _, _, rfl, rfl,
            _, rfl, b, _, 2, _, rfl, rfl, SqL.of hb2, rfl, _, _, rfl, rfl, .inl ⟨by decide, by decide⟩, _, _, rfl, rfl, _, rfl, .inl ⟨_, rfl, _, _, rfl, rfl, (by show (0 : Int) < 2147483647; decide), _, rfl, b, _, 1, 1, rfl, rfl, hb2, rfl, ?_⟩⟩⟩
          exact ⟨_, _, rfl, ⟨h', _, p + 1, ns, upd_same, (by rw [upd_ne nlb]; exact hl2), nlb, h0', Int.emod_nonneg _ (by decide), Int.emod_lt_of_pos _ (by decide), hns⟩, k2.trans (Kp.at_ _ _ _)⟩
    · rintro σ1 H1 ⟨c2, c3, rfl, B1, k1⟩
      clear hb hl hns h0 m0 m1
      obtain ⟨h, m, p, ns, hb, hl, nlb, h0, m0, m1, hns⟩ := id B1
      refine ⟨fun σ' H' => σ' = [some (.ref b), some (.int n), c2, c3, none, none, none] ∧ H' = H1, ?_, ?_⟩
      · refine ⟨_, rfl, b, _, 0, _, rfl, rfl, SqL.of hb, rfl, _, _, rfl, rfl, _, rfl, ?_⟩
        refine ite2 (fun _ => ?_) (fun _ => ⟨rfl, rfl⟩)
        obtain ⟨j, ej, hj⟩ := take_mod (k := h) n0
        refine ⟨_, rfl, b, _, 0, _, rfl, rfl, SqL.of hb, rfl, .inl ⟨_, rfl, _, rfl, _, _, rfl, rfl, n0, _, rfl, b, _, 0, _, rfl, rfl, SqL.of hb, rfl, .inl ⟨_, rfl, _, rfl, _, _, rfl, rfl, ⟨by omega, by omega⟩, _, rfl, b, _, 0, 0, rfl, rfl, hb, rfl, _, rfl, ?_⟩⟩⟩
        show Q (.int (h % n)) _
        rw [ej]
        refine k j _ hj ⟨_, m, p, ns, upd_same, (by rw [upd_ne nlb]; exact hl), nlb, ?_, m0, m1, hns⟩ (k1.trans (Kp.at_ _ _ _))
        show 0 ≤ h.fdiv n
        rw [Int.fdiv_eq_ediv_of_nonneg h (by omega)]
        exact Int.ediv_nonneg h0 (by omega)
      · rintro σ' H' ⟨rfl, rfl⟩
        have q1 : ∀ x : Int, 0 ≤ x % 1000000007 ∧ x % 1000000007 < 1000000007 := fun x => ⟨Int.emod_nonneg _ (by decide), Int.emod_lt_of_pos _ (by decide)⟩
        have q2 : ∀ x : Int, 0 ≤ x % 998244353 ∧ x % 998244353 < 998244353 := fun x => ⟨Int.emod_nonneg _ (by decide), Int.emod_lt_of_pos _ (by decide)⟩
        obtain ⟨u, eu⟩ : ∃ u, u = ((m + 1) * 39373) % 1000000007 := ⟨_, rfl⟩
        have hu := q1 ((m + 1) * 39373)
        rw [← eu] at hu
        obtain ⟨j, ej, hj⟩ := take_mod (k := (u * u % 998244353 * 30011 % 998244353) / 7) n0
        have hv := q2 (u * u)
        refine ⟨_, rfl, b, _, 1, _, rfl, rfl, SqL.of hb, rfl, _, _, rfl, rfl, _, _, rfl, rfl, .inl ⟨by omega, by omega⟩, .inl ⟨_, rfl, _, _, rfl, rfl, (by show (0 : Int) < 1000000007; decide), ?_⟩⟩
        show tSeq _ _ _ [some (.ref b), some (.int n), c2, c3, none, some (.int (((m + 1) * 39373) % 1000000007)), none] _
        rw [← eu]
        refine ⟨_, rfl, _, rfl, _, _, rfl, rfl, .inl ⟨by omega, by omega⟩, .inl ⟨_, rfl, _, _, rfl, rfl, (by show (0 : Int) < 998244353; decide), _, _, rfl, rfl, .inl ⟨by omega, by omega⟩, .inl ⟨_, rfl, _, _, rfl, rfl, (by show (0 : Int) < 998244353; decide), _, rfl, _, _, rfl, rfl, ⟨by decide, by decide⟩, .inl ⟨_, rfl, _, rfl, _, _, rfl, rfl, n0, ?_⟩⟩⟩⟩
        show Q (.int ((u * u % 998244353 * 30011 % 998244353) / 7 % n)) _
        rw [ej]
        exact k j _ hj B1 k1
theorem scOne : FnScope ["_law_bag_here", "_law_some"] ["_law_bag_here", "_law_some"] (defScope sOne) := ⟨rfl, rfl, rfl, by decide +kernel, rfl, by decide +kernel, by decide +kernel⟩
theorem ok_one {f : Addr} {fd : FuncData} (F : Fun K "_law_one" "_law_one" sOne f fd) (T : Txt K mg) (cT : Cal P w K mg base 1 "_law_take" ["_law_bag_here", "_law_upto"] spTake) : FnOk P w K mg base CX0 2 f fd ["_law_bag_here", "_law_some"] spOne := by
  refine F.ok scOne (fun vs H Q E h => ?_) (fun cdv A outer s H vs Q E hr h => ?_)
  · obtain ⟨b, l, a, xs, rfl, _⟩ := h
    rfl
  · obtain ⟨b, l, a, xs, rfl, B, nab, ha, hne, hz, k⟩ := h
    refine ⟨_, pss_one (ps_ret (pe_ix ix_list (pv 1) (pe_call cT.G hr rfl cT.m cT.kp cT.b .nil pass0 (pa_cons (pv 0) (pa_cons (pe_callB call_len_seq (by rfl) T.len PySem.boot_len (pa_cons (pv 1) pa_nil)) pa_nil))) fun _ _ => rfl)), ?_⟩
    have hpos : 0 < xs.length := List.length_pos_iff.mpr hne
    refine ⟨_, rfl, _, rfl, _, rfl, _, _, rfl, .inl (SqL.of ha), b, l, _, rfl, B, by omega, by omega, fun j H' hj B' k' => ?_⟩
    have hj' : j < xs.length := by omega
    exact ⟨a, xs, j, xs[j], rfl, rfl, SqL.of (k' _ _ ha nab), atI_nat (List.getElem?_eq_getElem hj'), k _ _ (List.getElem_mem hj') B' k'⟩
theorem scMixed : FnScope ["_law_bag_here", "_law_things", "_law_found", "_law_thing"] ["_law_bag_here", "_law_things"] (defScope sMixed) := ⟨rfl, rfl, rfl, by decide +kernel, rfl, by decide +kernel, by decide +kernel⟩
theorem ok_mixed {f : Addr} {fd : FuncData} (F : Fun K "_law_mixed" "_law_mixed" sMixed f fd) (T : Txt K mg) (cT : Cal P w K mg base 1 "_law_take" ["_law_bag_here", "_law_upto"] spTake) : FnOk P w K mg base CX0 2 f fd ["_law_bag_here", "_law_things"] spMixed := by
  refine F.ok scMixed (fun vs H Q E h => ?_) (fun cdv A outer s H vs Q E hr h => ?_)
  · obtain ⟨b, l, a, xs, rfl, _⟩ := h
    rfl
  · obtain ⟨b, l, a, xs, rfl, B, nab, ha, hz, k⟩ := h
    have nd := scMixed.nd
    refine ⟨_, pss_cons (ps_set (i := 2) nd rfl (Or.inl rfl) (pe_lst pa_nil)) (pss_cons (ps_for PassesOwn.never rfl (pi_list (pv 1)) (pg_name (i := 3) nd rfl (Or.inl rfl))
      (pss_one (ps_expr (pe_bm PySem.F.plainAttrs_list PySem.F.slot_list_insert PySem.F.type_list_insert mt_insert (pv 2)
        (pa_cons (pe_call cT.G hr rfl cT.m cT.kp cT.b .nil pass0 (pa_cons (pv 0) (pa_cons (pe_op op_add (pe_callB call_len_seq (by rfl) T.len PySem.boot_len (pa_cons (pv 2) pa_nil)) pe_int) pa_nil))) (pa_cons (pv 3) pa_nil))))))
      (pss_one (ps_ret (pv 2)))), ?_⟩
    refine ⟨by decide, fun p hp => ?_⟩
    have npb : p ≠ b := B.ne hp
    have nap : a ≠ p := ne_of_none ha hp
    refine ⟨_, rfl, a, rfl, ⟨_, SqL.of (by rw [upd_ne nap]; exact ha)⟩, for_list (K := K) (a := a) (xs := xs) (fun i σ H' => ∃ (ys : List V) (v : Option V), σ = [some (.ref b), some (.ref a), some (.ref p), v] ∧ ys.Perm (xs.take i) ∧ H' p = some (.lst ys) ∧ Bag H' b l ∧ Kp b H H')
      ⟨[], none, rfl, by simp, upd_same, B.new hp, Kp.new hp⟩ (fun i σ H' _ ⟨_, _, _, _, _, _, k'⟩ => SqL.of (k' _ _ ha nab)) ?_ ?_⟩
    · rintro i x σ H' hi ⟨ys, v, rfl, hp1, h1, B1, k1⟩
      have hil : i < xs.length := (List.getElem?_eq_some_iff.mp hi).1
      have hyl : ys.length = i := by
        rw [hp1.length_eq, List.length_take]
        omega
      refine ⟨_, rfl, .inl ⟨rfl, _, SqL.of h1⟩, _, rfl, _, rfl, _, _, rfl, .inl (SqL.of h1), _, _, rfl, rfl, b, l, _, rfl, B1, by omega, by omega, fun j H2 hj B2 k2 => ?_⟩
      refine ⟨_, rfl, p, ys, (j : Int), x, rfl, rfl, k2 _ _ h1 npb, Nat.lt_of_lt_of_le (show ys.length < 1000 by omega) (by rw [sizeLine_eq]; decide), by omega, by omega, ?_⟩
      refine ⟨ys.take j ++ [x] ++ ys.drop j, _, rfl, ?_, ?_, ?_, ?_⟩
      · have e1 : xs.take (i + 1) = xs.take i ++ [x] := by
          rw [List.take_add_one, hi]
          rfl
        rw [e1]
        have q1 : (ys.take j ++ [x] ++ ys.drop j).Perm (ys ++ [x]) := by
          have q2 : (ys.take j ++ ([x] ++ ys.drop j)).Perm (ys.take j ++ (ys.drop j ++ [x])) := List.Perm.append_left _ List.perm_append_comm
          rw [List.append_assoc]
          refine q2.trans ?_
          rw [← List.append_assoc, List.take_append_drop]
        exact q1.trans (hp1.append_right _)
      · rw [upd_same]
        simp
      · exact B2.upd npb.symm (B.nel hp)
      · intro c o hc ncb
        have : c ≠ p := ne_of_none hc hp
        rw [upd_ne this]
        exact k2 _ _ (k1 _ _ hc ncb) ncb
    · rintro σ H' ⟨ys, v, rfl, hp1, h1, B1, k1⟩
      rw [List.take_length] at hp1
      exact ⟨_, rfl, k ys p H' hp1 hp npb h1 B1 k1⟩
def menu13 : List Str := ["a", "b", "aa", "ab", "z", "zzzzzzzz", "job", "view", "power", "status", "ask", "quicklyx", "fghmndct"]
def nm (at_ m : Nat) : List Str := ((menu13 ++ menu13).drop at_).take m
theorem nm_tab : ((List.range 13).all fun a => (List.range 13).all fun m => decide ((nm a m).Nodup) && decide (∀ c ∈ nm a m, c ∈ menu) && decide ((nm a m).length = m)) = true := by decide +kernel
theorem nm_facts {a m : Nat} (ha : a < 13) (hm : m ≤ 12) : (nm a m).Nodup ∧ (∀ c ∈ nm a m, c ∈ menu) ∧ (nm a m).length = m := by
  have := List.all_eq_true.mp (List.all_eq_true.mp nm_tab a (List.mem_range.mpr ha)) m (List.mem_range.mpr (by omega))
  simp only [Bool.and_eq_true, decide_eq_true_eq] at this
  exact ⟨this.1.1, this.1.2, this.2⟩
theorem split13 : Txt.split "a b aa ab z zzzzzzzz job view power status ask quicklyx fghmndct" " " = menu13 := by decide +kernel
abbrev nNames : List Str := ["_law_bag_here", "_law_many", "_law_menu", "_law_at"]
theorem scNames : FnScope nNames ["_law_bag_here", "_law_many"] (defScope sNames) := ⟨rfl, rfl, rfl, by decide +kernel, rfl, by decide +kernel, by decide +kernel⟩
theorem cut_mid {xs : List Str} {lo k : Nat} (h : lo + k ≤ xs.length) : cutV (xs.map V.str) (some (lo : Int)) (some ((lo + k : Nat) : Int)) = ((xs.drop lo).take k).map V.str := by
  unfold cutV
  rw [HT.sIx_nat, HT.sIx_nat, List.length_map, Nat.min_eq_left (show lo ≤ xs.length by omega), Nat.min_eq_left h, List.map_take, List.map_drop]
  congr 1
  omega
theorem SlR.or {X : Cx} {r r' : V → Option Int → Option Int → Hp → VK → Prop} (h : SlR X r) (h' : SlR X r') : SlR X (fun x lo hi H Q => r x lo hi H Q ∨ r' x lo hi H Q) :=
  fun pins s σ H x v vl vu lo hi sl Q I rx hs pl pu q => q.elim (h pins s σ H x v vl vu lo hi sl Q I rx hs pl pu) (h' pins s σ H x v vl vu lo hi sl Q I rx hs pl pu)
/-- a row of names, as a list or a tuple -/
def RowAt (H : Hp) (t : Addr) (xs : List Str) : Prop := H t = some (.lst (xs.map V.str)) ∨ H t = some (.tup (xs.map V.str))
theorem RowAt.same {H H' : Hp} {t : Addr} {xs : List Str} (s : Same H H') (h : RowAt H t xs) : RowAt H' t xs := h.imp (s _ _) (s _ _)
theorem RowAt.seq {K : PySem.W.Frag} {H : Hp} {t : Addr} {xs : List Str} (h : RowAt H t xs) : SqL K H t (xs.map V.str) ∨ SqT K H t (xs.map V.str) := h.imp SqL.of SqT.of
theorem RowAt.ix {K : PySem.W.Frag} {H : Hp} {t : Addr} {xs : List Str} {i : Nat} {c : Str} {Q : VK} (h : RowAt H t xs) (hi : xs[i]? = some c) (q : Q (.str c) H) : L2.rIx K (.ref t) (.int (i : Int)) H Q := by
  have e : atI (xs.map V.str) (i : Int) = some (V.str c) := atI_nat (by rw [List.getElem?_map, hi]; rfl)
  rcases h with h | h
  · exact .inl ⟨t, _, _, _, rfl, rfl, SqL.of h, e, q⟩
  · exact .inr (.inl ⟨t, _, _, _, rfl, rfl, SqT.of h, e, q⟩)
theorem RowAt.cut {K : PySem.W.Frag} {H : Hp} {t : Addr} {xs : List Str} {k : Nat} {Q : VK} (h : RowAt H t xs) (q : ∀ (r : Addr) (H' : Hp), Same H H' → RowAt H' r (xs.take k) → Q (.ref r) H') : rSlL K (.ref t) none (some (k : Int)) H Q ∨ rSlA K (.ref t) none (some (k : Int)) H Q := by
  have e : cutV (xs.map V.str) none (some (k : Int)) = (xs.take k).map V.str := by rw [cut_to, List.map_take]
  rcases h with h | h
  · refine .inl ⟨t, _, rfl, SqL.of h, fun r hr => ?_⟩
    refine q r _ (same_new hr) (.inl ?_)
    rw [upd_same, e]
  · exact .inr (slA h e fun r H' s hr => q r H' s (.inr hr))
def spQOf : Sp := fun vs H Q _ => ∃ (b l t : Addr) (xs : List Str), vs = [.ref b, .ref t] ∧ Bag H b l ∧ t ≠ b ∧ RowAt H t xs ∧ Row xs ∧ ∀ (q : Addr) (cols : List Str) (e : Str) (H' : Hp), QAt H' q cols e → Qok xs cols e → Bag H' b l → Kp b H H' → Q (.ref q) H'
abbrev nQOf : List Str := ["_law_bag_here", "_law_row", "_law_k", "_law_is_ranged"]
theorem scQOf : FnScope nQOf ["_law_bag_here", "_law_row"] (defScope sQOf) := ⟨rfl, rfl, rfl, by decide +kernel, rfl, by decide +kernel, by decide +kernel⟩
theorem ok_qOf {f : Addr} {fd : FuncData} (F : Fun K "_law_question_of" "_law_question_of" sQOf f fd) (T : Txt K mg) (cT : Cal P w K mg base 1 "_law_take" ["_law_bag_here", "_law_upto"] spTake) : FnOk P w K mg base CX0 2 f fd ["_law_bag_here", "_law_row"] spQOf := by
  refine F.ok scQOf (fun vs H Q E h => ?_) (fun cdv A outer s H vs Q E hr h => ?_)
  · obtain ⟨b, l, t, xs, rfl, _⟩ := h
    rfl
  · obtain ⟨b, l, t, xs, rfl, B, tb, ht, R, k⟩ := h
    have nd := scQOf.nd
    refine ⟨_, pss_cons (ps_set (i := 2) nd rfl (Or.inl rfl) (pe_call cT.G hr rfl cT.m cT.kp cT.b .nil pass0 (pa_cons (pv 0) (pa_cons (pe_op op_add (pe_callB call_len_seq (by rfl) T.len PySem.boot_len (pa_cons (pv 1) pa_nil)) pe_int) pa_nil))))
      (pss_cons (ps_if (pt_cmpR op_eq (pv 2) pe_int (nomark _)) (pss_one (ps_ret (pe_tup (pa_cons (pe_tup pa_nil) (pa_cons (pe_ix ix_seq (pv 1) pe_int fun _ _ => rfl) pa_nil))))) pss_nil)
      (Evl.pss_cut (ps_set (i := 3) nd rfl (Or.inl rfl) (pe_and (pe_cmpR op_lt (pv 2) (pe_callB call_len_seq (by rfl) T.len PySem.boot_len (pa_cons (pv 1) pa_nil)) (nomark _)) (pe_one (pe_cmpR op_eq (pe_call cT.G hr rfl cT.m cT.kp cT.b .nil pass0 (pa_cons (pv 0) (pa_cons pe_int pa_nil))) pe_int (nomark _)))))
      (pss_one (ps_ret (pe_tup (pa_cons (pe_callTy call_tuple_of (by rfl) T.tuple (by decide +kernel) (pa_cons (pe_callB cr_sortedST (by rfl) T.sorted (by decide +kernel) (pa_cons (pe_slice (SlR.or sl_list sl_tupA) (pv 1) po_none (po_some (pv 2))) pa_nil)) pa_nil))
        (pa_cons (pe_ifExp (pt_val (pv 3)) (pe_ix ix_seq (pv 1) (pv 2) fun _ _ => rfl) pe_str) pa_nil))))))), ?_⟩
    have hl := R.le
    have hpos := R.pos
    have hlen : (xs.map V.str).length = xs.length := List.length_map _
    have seq : ∀ {H' : Hp}, RowAt H' t xs → SqL K H' t (xs.map V.str) ∨ SqT K H' t (xs.map V.str) := fun h => h.seq
    have rk : ∀ {H' : Hp}, Kp b H H' → RowAt H' t xs := fun k' => ht.imp (fun h => k' _ _ h tb) fun h => k' _ _ h tb
    refine ⟨_, rfl, _, rfl, t, _, rfl, seq ht, _, _, rfl, rfl, b, l, _, rfl, B, by omega, by omega, fun j H1 hj B1 k1 => ?_⟩
    have ht1 := rk k1
    refine ⟨_, rfl, rfl, _, rfl, ?_⟩
    show if decide (V.int (j : Int) = V.int 0) = true then _ else _
    by_cases j0 : j = 0
    · subst j0
      refine iteT ?_
      refine ⟨by decide, fun t1 ht1' => ?_⟩
      have s1 := same_new (o := .tup []) ht1'
      have h0 : xs[0]? = some xs[0] := List.getElem?_eq_getElem hpos
      refine ⟨_, rfl, (ht1.same s1).ix (i := 0) h0 ⟨by show 2 ≤ sizeLine; decide, fun t2 ht2 => ?_⟩⟩
      have s2 := same_new (o := .tup [.ref t1, .str xs[0]]) ht2
      exact k t2 [] xs[0] _ ⟨t1, upd_same, s2 _ _ upd_same⟩ (qok_ranged (k := 0) R (.refl _) h0 (by simp) (by rfl)) (B1.same (s1.trans s2)) (k1.trans (Kp.of (s1.trans s2)))
    · rw [decide_eq_false (fun h => j0 (by injection h with h; omega))]
      refine iteF ?_
      refine ⟨fun σ' H' => ∃ r : Bool, σ' = [some (.ref b), some (.ref t), some (.int (j : Int)), some (.bl r)] ∧ (r = true → j < xs.length) ∧ Bag H' b l ∧ Kp b H H', ?_, ?_⟩
      · refine ⟨_, rfl, _, rfl, t, _, rfl, seq ht1, _, _, rfl, rfl, _, rfl, ?_⟩
        rw [hlen]
        by_cases hjl : j < xs.length
        · rw [decide_eq_true (show (j : Int) < (xs.length : Int) by omega)]
          refine iteT ?_
          refine ⟨_, rfl, b, l, 2, rfl, B1, by decide, by decide, fun j2 H2 hj2 B2 k2 => ⟨rfl, ?_⟩⟩
          exact ⟨_, rfl, fun _ => hjl, B2, k1.trans k2⟩
        · rw [decide_eq_false (show ¬ (j : Int) < (xs.length : Int) by omega)]
          refine iteF ?_
          exact ⟨_, rfl, (fun h => nomatch h), B1, k1⟩
      · rintro σ2 H2 ⟨r, rfl, hr2, B2, k2⟩
        have ht2 := rk k2
        refine ⟨_, rfl, _, rfl, _, rfl, ht2.cut fun r' H3 s3 h3 => ?_⟩
        refine ⟨r', xs.take j, rfl, h3.seq, by rw [List.length_take]; omega, fun ws p1 hw hs hp1 => ⟨p1, _, rfl, .inl ⟨SqL.of upd_same, fun p2 hp2 => ?_⟩⟩⟩
        have s4 : Same H2 _ := s3.trans ((same_new (o := .lst (ws.map V.str)) hp1).trans (same_new (o := .tup (ws.map V.str)) hp2))
        have h5 : (upd (upd H3 p1 (.lst (ws.map V.str))) p2 (.tup (ws.map V.str))) p2 = some (.tup (ws.map V.str)) := upd_same
        generalize upd (upd H3 p1 (.lst (ws.map V.str))) p2 (.tup (ws.map V.str)) = H4 at s4 h5 ⊢
        refine ⟨_, rfl, _, rfl, ?_⟩
        cases r with
        | true =>
          refine iteT ?_
          have hjl := hr2 rfl
          have hg : xs[j]? = some xs[j] := List.getElem?_eq_getElem hjl
          refine ⟨_, rfl, _, rfl, (ht2.same s4).ix hg ⟨by show 2 ≤ sizeLine; decide, fun p3 hp3 => ?_⟩⟩
          have s5 := same_new (o := .tup [.ref p2, .str xs[j]]) hp3
          exact k p3 ws xs[j] _ ⟨p2, upd_same, s5 _ _ h5⟩ (qok_ranged R (.refl _) hg hw hs) (B2.same (s4.trans s5)) (k2.trans (Kp.of (s4.trans s5)))
        | false =>
          refine iteF ?_
          refine ⟨by show 2 ≤ sizeLine; decide, fun p3 hp3 => ?_⟩
          have s5 := same_new (o := .tup [.ref p2, .str ""]) hp3
          have ej : xs.take j = xs.take (j - 1 + 1) := by rw [show j - 1 + 1 = j by omega]
          exact k p3 ws "" _ ⟨p2, upd_same, s5 _ _ h5⟩ (qok_plain (k := j - 1) R (.refl _) (by rw [← ej]; exact hw) hs) (B2.same (s4.trans s5)) (k2.trans (Kp.of (s4.trans s5)))
/-- rows of names as lists -/
def LL (H : Hp) (vs : List V) (rs : List (List Str)) : Prop := Paired (fun (x : V) (r : List Str) => ∃ t, x = .ref t ∧ H t = some (.lst (r.map V.str))) vs rs
theorem LL.kp {H H' : Hp} {b l : Addr} {vs : List V} {rs : List (List Str)} (B : Bag H b l) (s : Kp b H H') (h : LL H vs rs) : LL H' vs rs := Paired.mapP h fun x r ⟨t, e, z⟩ => ⟨t, e, s _ _ z (B.ne_strs z)⟩
theorem LL.same {H H' : Hp} {vs : List V} {rs : List (List Str)} (s : Same H H') (h : LL H vs rs) : LL H' vs rs := Paired.mapP h fun x r ⟨t, e, z⟩ => ⟨t, e, s _ _ z⟩
theorem LL.len {H : Hp} {vs : List V} {rs : List (List Str)} (h : LL H vs rs) : vs.length = rs.length := Paired.length h
theorem LL.mem {H : Hp} {vs : List V} {rs : List (List Str)} (h : LL H vs rs) : ∀ x ∈ vs, ∃ (t : Addr) (r : List Str), x = .ref t ∧ r ∈ rs ∧ H t = some (.lst (r.map V.str)) := by
  induction h with
  | nil => intro x hx; cases hx
  | @cons x0 r0 vs' rs' h1 _ ih =>
    intro x hx
    rcases List.mem_cons.mp hx with e | hx
    · obtain ⟨t, e1, e2⟩ := h1
      exact ⟨t, r0, e.trans e1, List.mem_cons_self, e2⟩
    · obtain ⟨t, r, g1, g2, g3⟩ := ih x hx
      exact ⟨t, r, g1, List.mem_cons_of_mem _ g2, g3⟩
/-- a list of refs alone isn't the bag -/
theorem Bag.ne_refs {H : Hp} {b l p : Addr} {ys : List V} (B : Bag H b l) (hp : H p = some (.lst ys)) (h : ∀ y ∈ ys, ∃ t, y = V.ref t) : p ≠ b := fun e => by
  obtain ⟨g, m, k, ns, hb, _⟩ := B
  rw [e, hb] at hp
  injection hp with hp
  injection hp with hp
  obtain ⟨t, e2⟩ := h (.int g) (by rw [← hp]; exact List.mem_cons_self)
  cases e2
theorem QL.refs {H : Hp} {ys : List V} {qs : List Qd} (h : QL H ys qs) : ∀ y ∈ ys, ∃ t, y = V.ref t := fun y hy => by
  obtain ⟨t, _, e, _⟩ := h.mem y hy
  exact ⟨t, e⟩
theorem TL.refs {H : Hp} {ys : List V} {rs : List (List Str)} (h : TL H ys rs) : ∀ y ∈ ys, ∃ t, y = V.ref t := fun y hy => by
  obtain ⟨t, _, e, _⟩ := h.mem y hy
  exact ⟨t, e⟩
theorem LL.refs {H : Hp} {ys : List V} {rs : List (List Str)} (h : LL H ys rs) : ∀ y ∈ ys, ∃ t, y = V.ref t := fun y hy => by
  obtain ⟨t, _, e, _⟩ := h.mem y hy
  exact ⟨t, e⟩
/-- a list of questions that grows -/
structure Grow (H0 : Hp) (b l p : Addr) (n : Nat) (H : Hp) : Prop where
  bag : Bag H b l
  kp : Kp b H0 H
  qs : ∃ (ys : List V) (qs : List Qd), H p = some (.lst ys) ∧ QL H ys qs ∧ QZs qs ∧ qs.length = n
theorem Grow.step {H0 H H' : Hp} {b l p : Addr} {n : Nat} (g : Grow H0 b l p n H) (npb : p ≠ b) (B : Bag H' b l) (k : Kp b H H') : Grow H0 b l p n H' := by
  obtain ⟨ys, qs, h1, h2, h3, h4⟩ := g.qs
  exact ⟨B, g.kp.trans k, ys, qs, k _ _ h1 npb, h2.kp g.bag k, h3, h4⟩
theorem Grow.push {H0 H : Hp} {b l p q : Addr} {n : Nat} {c : List Str} {e : Str} (g : Grow H0 b l p n H) (hp0 : H0 p = none) (npb : p ≠ b) (nlp : l ≠ p) (hq : QAt H q c e) (Z : QZ c e) :
    ∃ ys, H p = some (.lst ys) ∧ ys.length = n ∧ Grow H0 b l p (n + 1) (upd H p (.lst (ys ++ [.ref q]))) := by
  obtain ⟨ys, qs, h1, h2, h3, h4⟩ := g.qs
  refine ⟨ys, h1, by rw [h2.len]; exact h4, g.bag.upd npb.symm nlp, fun c' o hc ncb => ?_, ys ++ [.ref q], qs ++ [(c, e)], upd_same, QL.off (xs := ys) h1 (h2.snoc (q := (c, e)) hq), fun x hx => ?_, by rw [List.length_append, h4]; rfl⟩
  · rw [upd_ne (ne_of_none hc hp0)]
    exact g.kp _ _ hc ncb
  · rcases List.mem_append.mp hx with m | m
    · exact h3 x m
    · rw [List.mem_singleton.mp m]
      exact Z
end
end Qk
set_option maxRecDepth 100000
set_option maxHeartbeats 4000000
namespace Qk
open PySem PySem.Spec PyProof.Rows L2
section
variable {P : Program} {w : World} {K : PySem.W.Frag} {mg : Str → Option Value} {base : Heap}
theorem pw_risingS : ∀ (r : List Str) (p : Str), (p :: r).Pairwise leS → risingS p r = true
  | [], _, _ => rfl
  | x :: r, p, h => by
    obtain ⟨h1, h2⟩ := List.pairwise_cons.mp h
    have h3 : ltCps x.cps.toList p.cps.toList = false := h1 x List.mem_cons_self
    show (!ltCps x.cps.toList p.cps.toList && risingS x r) = true
    rw [h3, pw_risingS r x h2]
    rfl
theorem pw_sortedS {xs : List Str} (h : xs.Pairwise leS) : sortedS xs = true := by
  cases xs with
  | nil => rfl
  | cons x r => exact pw_risingS r x h
def FlatS (z : Str) : Prop := z.cps.size ≤ 10000 ∧ (z.cps.size ≤ 8 → PyData.strOk z = true)
/-- a text, or something of another kind -/
def TxV (K : PySem.W.Frag) (H : Hp) (x : V) : Prop := (∃ z, x = .str z ∧ FlatS z) ∨ ((∀ z, x ≠ .str z) ∧ ∃ t : String, TyX K H x (.type t) ∧ kitB t "str" = some false)
/-- a tuple, or something of another kind -/
def TuV (K : PySem.W.Frag) (H : Hp) (n : Nat) (A : Addr → Prop) (x : V) : Prop := (∃ a xs, x = .ref a ∧ H a = some (.tup xs) ∧ xs.length ≤ 40 ∧ ∀ y ∈ xs, VA 40 H A n y) ∨ ((∀ a xs, x = .ref a → H a ≠ some (.tup xs)) ∧ ∃ t : String, TyX K H x (.type t) ∧ kitB t "tuple" = some false)
theorem Flat.tx {H : Hp} {A : Addr → Prop} {x : V} (h : Flat H A x) : TxV K H x := by
  rcases h with rfl | ⟨b, rfl⟩ | ⟨i, rfl⟩ | ⟨z, rfl, h1, h2⟩ | ⟨a, kvs, rfl, _, ha⟩
  · exact .inr ⟨(fun z e => nomatch e), "NoneType", .base .non, by decide +kernel⟩
  · exact .inr ⟨(fun z e => nomatch e), "bool", .base (.bl b), by decide +kernel⟩
  · exact .inr ⟨(fun z e => nomatch e), "int", .base (.int i), by decide +kernel⟩
  · exact .inl ⟨z, rfl, h1, h2⟩
  · exact .inr ⟨(fun z e => nomatch e), "dict", .base (.dK ha), by decide +kernel⟩
theorem VA.tx {H : Hp} {A : Addr → Prop} : ∀ {n : Nat} {x : V}, VA 40 H A n x → TxV K H x
  | 0, _, h => Flat.tx h
  | n + 1, _, h => by
    rcases h with h | ⟨a, xs, rfl, _, ha | ha, _⟩
    · exact Flat.tx h
    · exact .inr ⟨(fun z e => nomatch e), "list", .base (.lst ha), by decide +kernel⟩
    · exact .inr ⟨(fun z e => nomatch e), "tuple", .base (.tup ha), by decide +kernel⟩
theorem Flat.tu {H : Hp} {A : Addr → Prop} {n : Nat} {x : V} (h : Flat H A x) : TuV K H n A x := by
  rcases h with rfl | ⟨b, rfl⟩ | ⟨i, rfl⟩ | ⟨z, rfl, h1, h2⟩ | ⟨a, kvs, rfl, _, ha⟩
  · exact .inr ⟨(fun a xs e => nomatch e), "NoneType", .base .non, by decide +kernel⟩
  · exact .inr ⟨(fun a xs e => nomatch e), "bool", .base (.bl b), by decide +kernel⟩
  · exact .inr ⟨(fun a xs e => nomatch e), "int", .base (.int i), by decide +kernel⟩
  · exact .inr ⟨(fun a xs e => nomatch e), "str", .base (.str z), by decide +kernel⟩
  · exact .inr ⟨(fun b xs e h => by injection e with e; subst e; rw [ha] at h; cases h), "dict", .base (.dK ha), by decide +kernel⟩
theorem VA.tu {H : Hp} {A : Addr → Prop} : ∀ {n : Nat} {x : V}, VA 40 H A n x → TuV K H (n - 1) A x
  | 0, _, h => Flat.tu h
  | n + 1, _, h => by
    rcases h with h | ⟨a, xs, rfl, _, ha | ha, hl, hx⟩
    · exact Flat.tu h
    · exact .inr ⟨(fun b xs e h => by injection e with e; subst e; rw [ha] at h; cases h), "list", .base (.lst ha), by decide +kernel⟩
    · exact .inl ⟨a, xs, rfl, ha, hl, hx⟩
def colV : V → Bool
  | .str z => colS z
  | _ => false
theorem colV_str {x : V} (h : colV x = true) : ∃ z, x = .str z ∧ colS z = true := by
  cases x with
  | str z => exact ⟨z, rfl, h⟩
  | _ => cases h
theorem texts_of : ∀ {xs : List V}, xs.all colV = true → ∃ zs : List Str, xs = zs.map V.str ∧ ∀ z ∈ zs, colS z = true
  | [], _ => ⟨[], rfl, (fun z h => nomatch h)⟩
  | x :: xs, h => by
    rw [List.all_cons, Bool.and_eq_true] at h
    obtain ⟨z, rfl, hz⟩ := colV_str h.1
    obtain ⟨zs, rfl, hs⟩ := texts_of h.2
    refine ⟨z :: zs, rfl, fun y hy => ?_⟩
    rcases List.mem_cons.mp hy with rfl | hy
    · exact hz
    · exact hs y hy
theorem col_of {z : Str} (h : colS z = true) : 1 ≤ z.cps.size ∧ z.cps.size ≤ 8 := by
  unfold colS at h
  simp only [Bool.and_eq_true, decide_eq_true_eq] at h
  exact ⟨h.1.1, h.1.2⟩
theorem col_ok {z : Str} (h : colS z = true) (f : FlatS z) : PyData.strOk z = true ∧ z.cps.size ≤ 20 := ⟨f.2 (col_of h).2, by have := (col_of h).2; omega⟩
/-- one value in, a truth out, by the text alone -/
def spTx (K : PySem.W.Frag) (f : Str → Bool) : Sp := fun vs H Q _ => ∃ x, vs = [x] ∧ TxV K H x ∧ ∀ (H' : Hp) (r : Bool), Same H H' → ((∀ z, x = .str z → r = f z) ∧ ((∀ z, x ≠ .str z) → r = false)) → Q (.bl r) H'
theorem scIsCol : FnScope ["thing"] ["thing"] (defScope sIsCol) := ⟨rfl, rfl, rfl, by decide +kernel, rfl, by decide +kernel, by decide +kernel⟩
theorem ok_iscolA {f : Addr} {fd : FuncData} (F : Fun K "is_column" "is_column" sIsCol f fd) (T : Txt K mg) : FnOk P w K mg base CX0 1 f fd ["thing"] (spTx K colS) := by
  refine F.ok scIsCol (fun vs H Q E h => ?_) (fun cdv A outer s H vs Q E hr h => ?_)
  · obtain ⟨x, rfl, _⟩ := h
    rfl
  · obtain ⟨x, rfl, hx, k⟩ := h
    have nd := scIsCol.nd
    obtain ⟨tl, hl⟩ := T.longest
    refine ⟨_, pss_cons (ps_if (PW.pt (pw_or (pt_not (pt_val (pe_callB call_isi (by rfl) T.isinstance (by decide +kernel) (pa_cons (pv 0) (pa_cons (pe_bltn (v := .ty "str") (by rfl) T.str (by decide +kernel) rfl) pa_nil)))))
        (pw_or1 (pt_not (pt_chain op_le op_le pe_int (pe_callB call_len_str (by rfl) T.len PySem.boot_len (pa_cons (pv 0) pa_nil)) (pe_glob (v := .int 8) rfl hl ⟨tl, rfl⟩)))))) (pss_one (ps_ret pe_bl)) pss_nil)
      (pss_one (ps_ret (pe_and (pe_m0 PySem.F.slot_str_isascii PySem.F.type_str_isascii mt_isascii (pv 0)) (pe_and (pe_m0 PySem.F.slot_str_isalpha PySem.F.type_str_isalpha mt_isalpha (pv 0))
        (pe_one (pe_m0 PySem.F.slot_str_islower PySem.F.type_str_islower mt_islower (pv 0))))))), ?_⟩
    rcases hx with ⟨z, rfl, hz, hok⟩ | ⟨hne, t, ty, hk⟩
    · refine ⟨_, rfl, _, _, .type "str", .type "str", true, rfl, .ty "str", .base (.str z), kit_ty (by decide +kernel), _, rfl, ?_⟩
      refine iteF ?_
      have hlen : z.length = z.cps.size := rfl
      have kk : Q (.bl (colS z)) H := k H (colS z) (Same.refl _) ⟨fun y e => by injection e with e; rw [e], fun h => absurd rfl (h z)⟩
      unfold colS at kk
      refine ⟨_, rfl, z, rfl, by rw [hlen, sizeLine_eq]; omega, 1, _, rfl, rfl, _, rfl, ?_⟩
      rw [hlen]
      by_cases c1 : 1 ≤ z.cps.size
      · have d1 : decide ((1 : Int) ≤ (z.cps.size : Int)) = true := decide_eq_true (by omega)
        rw [d1]
        refine iteT ?_
        refine ⟨_, 8, rfl, rfl, _, rfl, ?_⟩
        by_cases c2 : z.cps.size ≤ 8
        · have d2 : decide ((z.cps.size : Int) ≤ 8) = true := decide_eq_true (by omega)
          rw [d2]
          refine iteF ?_
          rw [decide_eq_true c1, decide_eq_true c2, ← low_iff z c1, Bool.true_and, Bool.true_and] at kk
          refine ⟨_, rfl, ⟨_, rfl⟩, z, rfl, rfl, True.intro, _, rfl, ?_⟩
          cases h1 : Txt.isascii z with
          | false =>
            rw [h1, Bool.false_and] at kk
            refine iteF ?_
            exact kk
          | true =>
            rw [h1, Bool.true_and] at kk
            refine iteT ?_
            refine ⟨_, rfl, ⟨_, rfl⟩, z, rfl, rfl, True.intro, _, rfl, ?_⟩
            cases h2 : Txt.isalpha z with
            | false =>
              rw [h2, Bool.false_and] at kk
              refine iteF ?_
              exact kk
            | true =>
              rw [h2, Bool.true_and] at kk
              refine iteT ?_
              exact ⟨_, rfl, ⟨_, rfl⟩, z, rfl, rfl, True.intro, kk⟩
        · have d2 : decide ((z.cps.size : Int) ≤ 8) = false := decide_eq_false (by omega)
          rw [d2]
          refine iteT ?_
          rw [decide_eq_false c2, Bool.and_false, Bool.false_and] at kk
          exact kk
      · have d1 : decide ((1 : Int) ≤ (z.cps.size : Int)) = false := decide_eq_false (by omega)
        rw [d1]
        refine iteF ?_
        refine ⟨_, rfl, ?_⟩
        refine iteT ?_
        rw [decide_eq_false c1, Bool.false_and, Bool.false_and] at kk
        exact kk
    · refine ⟨_, rfl, _, _, .type t, .type "str", false, rfl, .ty "str", ty, kit_ty hk, _, rfl, ?_⟩
      refine iteT ?_
      exact k H false (Same.refl _) ⟨fun z e => absurd e (hne z), fun _ => rfl⟩
theorem scIsEmpty : FnScope ["thing"] ["thing"] (defScope sIsEmpty) := ⟨rfl, rfl, rfl, by decide +kernel, rfl, by decide +kernel, by decide +kernel⟩
theorem ok_isemptyA {f : Addr} {fd : FuncData} (F : Fun K "is_empty" "is_empty" sIsEmpty f fd) (T : Txt K mg) : FnOk P w K mg base CX0 1 f fd ["thing"] (spTx K fun z => decide (z = "")) := by
  refine F.ok scIsEmpty (fun vs H Q E h => ?_) (fun cdv A outer s H vs Q E hr h => ?_)
  · obtain ⟨x, rfl, _⟩ := h
    rfl
  · obtain ⟨x, rfl, hx, k⟩ := h
    refine ⟨_, pss_one (ps_ret (pe_and (pe_callB call_isi (by rfl) T.isinstance (by decide +kernel) (pa_cons (pv 0) (pa_cons (pe_bltn (v := .ty "str") (by rfl) T.str (by decide +kernel) rfl) pa_nil))) (pe_one (pe_cmpR op_eq (pv 0) pe_str (nomark _))))), ?_⟩
    rcases hx with ⟨z, rfl, hz⟩ | ⟨hne, t, ty, hk⟩
    · refine ⟨_, rfl, _, _, .type "str", .type "str", true, rfl, .ty "str", .base (.str z), kit_ty (by decide +kernel), _, rfl, ?_⟩
      refine iteT ?_
      refine ⟨_, rfl, rfl, ?_⟩
      have e1 : decide (V.str z = V.str "") = decide (z = "") := decide_eq_decide.mpr ⟨fun h => by injection h, fun h => congrArg V.str h⟩
      rw [e1]
      exact k H _ (Same.refl _) ⟨fun y e => by injection e with e; rw [e], fun h => absurd rfl (h z)⟩
    · refine ⟨_, rfl, _, _, .type t, .type "str", false, rfl, .ty "str", ty, kit_ty hk, _, rfl, ?_⟩
      refine iteF ?_
      exact k H false (Same.refl _) ⟨fun z e => absurd e (hne z), fun _ => rfl⟩
/-- zip(t, t[1:]): each with the next one -/
theorem walk_next {K : PySem.W.Frag} {a b : Addr} {xs : List V} : Walk (RZ.ItzT K a b) (xs.length - 1) (fun H => SqT K H a xs ∧ SqT K H b (xs.drop 1)) (fun i H v H' => ∃ (T : Addr) (x y : V), v = .ref T ∧ H T = none ∧ H' = upd H T (.tup [x, y]) ∧ xs[i]? = some x ∧ xs[i + 1]? = some y) := by
  have nx : ∀ i, (xs.drop 1)[i]? = xs[i + 1]? := fun i => by rw [List.getElem?_drop, Nat.add_comm]
  constructor
  · intro i G lt ⟨qa, qb⟩
    have l2 : i + 1 < xs.length := by omega
    exact ⟨xs, xs.drop 1, xs[i], xs[i + 1], qa, qb, List.getElem?_eq_getElem (by omega), (nx i).trans (List.getElem?_eq_getElem l2)⟩
  · intro G ⟨qa, qb⟩
    exact ⟨xs, xs.drop 1, qa, qb, .inr (by rw [List.length_drop]; exact Nat.le_refl _)⟩
  · intro i G v G' _ ⟨qa, qb⟩ ⟨T, x, y, e1, e2, e3, e4, e5⟩
    exact ⟨T, x, y, e1, e2, e3, e4 xs qa, (nx i).symm.trans (e5 _ qb)⟩
theorem menu_sz : ∀ c ∈ menu, c.cps.size ≤ 1000 := by decide +kernel
theorem ltCps_dec : ∀ a b : List Nat, ltCps a b = decide (a < b)
  | [], [] => by simp [ltCps]
  | [], _ :: _ => by simp [ltCps]
  | _ :: _, [] => by simp [ltCps]
  | a :: r, b :: t => by
    rw [ltCps, ltCps_dec r t, Bool.eq_iff_iff]
    simp [List.cons_lt_cons_iff]
theorem slice_whole {H1 : Hp} {cols : List Str} {t : Addr} (ht : H1 t = some (.tup (cols.map V.str))) (hw : HT.sIx (cols.map V.str).length 0 (some 1) = 0 ∧ HT.sIx (cols.map V.str).length (cols.map V.str).length none = (cols.map V.str).length) : H1 t = some (.tup ((cols.drop 1).map V.str)) := by
  have e0 : cols = [] := by
    have h1 := hw.1
    rw [show (1 : Int) = ((1 : Nat) : Int) from rfl, HT.sIx_nat] at h1
    rw [List.length_map] at h1
    have : cols.length = 0 := by omega
    exact List.eq_nil_of_length_eq_zero this
  rw [ht, e0]
  rfl
theorem slice_part {H1 : Hp} {cols : List Str} {q : Addr} (hq : H1 q = none) : (upd H1 q (.tup (cutV (cols.map V.str) (some 1) none))) q = some (.tup ((cols.drop 1).map V.str)) := by
  have ec : cutV (cols.map V.str) (some 1) none = (cols.drop 1).map V.str := by
    have := cut_behind 0 (cols.map V.str)
    rw [List.map_drop]
    exact this
  rw [ec]
  exact upd_same
def ltP (a b : Str) : Prop := a.cps.toList < b.cps.toList
def adjL : List Str → List Bool
  | a :: b :: r => decide (a.cps.toList < b.cps.toList) :: adjL (b :: r)
  | _ => []
theorem adj_len : ∀ cols : List Str, (adjL cols).length = cols.length - 1
  | [] => rfl
  | [_] => rfl
  | a :: b :: r => by
    show (adjL (b :: r)).length + 1 = _
    rw [adj_len (b :: r)]
    simp
theorem adj_at : ∀ {cols : List Str} {i : Nat} {c d : Str}, cols[i]? = some c → cols[i + 1]? = some d → (adjL cols)[i]? = some (decide (c.cps.toList < d.cps.toList))
  | [], _, _, _, h, _ => by simp at h
  | [_], i, _, _, _, h => by simp at h
  | a :: b :: r, 0, c, d, h1, h2 => by
    simp at h1 h2
    subst h1 h2
    rfl
  | a :: b :: r, i + 1, c, d, h1, h2 => by
    show (adjL (b :: r))[i]? = _
    exact adj_at (by simpa using h1) (by simpa using h2)
theorem adj_pw : ∀ cols : List Str, (adjL cols).all id = true ↔ cols.Pairwise ltP
  | [] => by simp [adjL]
  | [_] => by simp [adjL]
  | a :: b :: r => by
    have ih := adj_pw (b :: r)
    show (decide (a.cps.toList < b.cps.toList) && (adjL (b :: r)).all id) = true ↔ _
    rw [Bool.and_eq_true, decide_eq_true_eq, ih]
    constructor
    · rintro ⟨h1, h2⟩
      refine .cons (fun y hy => ?_) h2
      rcases List.mem_cons.mp hy with rfl | hy
      · exact h1
      · exact List.lt_trans h1 ((List.pairwise_cons.mp h2).1 y hy)
    · intro h
      obtain ⟨h1, h2⟩ := List.pairwise_cons.mp h
      exact ⟨h1 b List.mem_cons_self, h2⟩
theorem pw_good {cols : List Str} : cols.Pairwise ltP ↔ cols.Nodup ∧ sortedS cols = true := by
  constructor
  · intro h
    refine ⟨h.imp fun {a b} q e => ?_, pw_sortedS (h.imp fun {a b} q => ?_)⟩
    · rw [e] at q
      exact List.lt_irrefl _ q
    · show ltCps b.cps.toList a.cps.toList = false
      rw [ltCps_dec]
      exact decide_eq_false (List.lt_asymm q)
  · rintro ⟨h1, h2⟩
    have pw := sortedS_pw h2
    refine (pw.and h1).imp fun {a b} ⟨q1, q2⟩ => ?_
    have q1' : ltCps b.cps.toList a.cps.toList = false := q1
    rw [ltCps_dec] at q1'
    rcases List.le_iff_lt_or_eq.mp (List.not_lt.mp (of_decide_eq_false q1')) with q | q
    · exact q
    · exact absurd (str_ext q) q2
/-- columns as they stand in a question -/
def ColsV (H : Hp) (x : V) : Prop := ∃ t cols, x = .ref t ∧ H t = some (.tup (cols.map V.str)) ∧ (∀ c ∈ cols, colS c = true) ∧ cols.Nodup ∧ sortedS cols = true
def spAscA : Sp := fun vs H Q _ => ∃ (t : Addr) (cols : List Str), vs = [.ref t] ∧ H t = some (.tup (cols.map V.str)) ∧ cols.length ≤ 40 ∧ ∀ (H' : Hp) (r : Bool), Same H H' → (r = true ↔ cols.Nodup ∧ sortedS cols = true) → Q (.bl r) H'
abbrev nAsc : List Str := ["things", "one", "other"]
theorem scAsc : FnScope nAsc ["things"] (defScope sAsc) := ⟨rfl, rfl, rfl, by decide +kernel, rfl, by decide +kernel, by decide +kernel⟩
theorem ok_ascA {f : Addr} {fd : FuncData} (F : Fun K "is_ascending" "is_ascending" sAsc f fd) (T : Txt K mg) : FnOk P w K mg base CX0 1 f fd ["things"] spAscA := by
  refine F.ok scAsc (fun vs H Q E h => ?_) (fun cdv A outer s H vs Q E hr h => ?_)
  · obtain ⟨t, cols, rfl, _⟩ := h
    rfl
  · obtain ⟨t, cols, rfl, ht, hl, k⟩ := h
    have al := adj_len cols
    have kall : ∀ {G : Hp}, Same H G → Q (.bl ((adjL cols).all id)) G := fun s => k _ _ s ((adj_pw cols).trans pw_good)
    have nd := scAsc.nd
    refine ⟨_, pss_one (ps_ret (pe_callB (cr_all rfl) (by rfl) T.all (by decide +kernel) (pa_cons (pe_lc (own := [("one", 1), ("other", 2)]) (g := gTup K 2 (gCons (gName 1) (gCons (gName 2) gNil))) (tt := tYes) rfl nd (RZ.pi_zipA (by rfl) T.zip (pa_cons (pv 0) (pa_cons (pe_slice sl_tupA (pv 0) (po_some pe_int) po_none) pa_nil)))
        (blkOk_by (N := nAsc) (sc := defScope sAsc) (by decide +kernel)) (fun _ _ _ _ _ => pg_tup (by rfl) (pgs_cons (pg_name (i := 1) nd rfl (by first | exact Or.inl rfl | exact Or.inr rfl)) (pgs_cons (pg_name (i := 2) nd rfl (by first | exact Or.inl rfl | exact Or.inr rfl)) pgs_nil)))
        (fun _ _ _ _ _ => pts_nil) (fun _ _ _ _ _ => pe_cmpR op_lt_str (pv 1) (pv 2) (nomark _))) pa_nil))), ?_⟩
    have ht1 := ht
    refine ⟨_, rfl, _, rfl, 1, rfl, t, _, rfl, SqT.of ht1, fun hw => ?_, fun hw q hq0 => ?_⟩
    · have hq := slice_whole ht1 hw
      refine ⟨t, t, _, _, rfl, .inr ⟨SqT.of (ht1), SqT.of hq, fun D2 hD2 => ?_⟩⟩
      refine lc_it (walk_next (xs := cols.map V.str)) (fun i H' => Same H H' ∧ H' D2 = some (.lst (((adjL cols).take i).map V.bl))) ⟨same_new hD2, upd_same⟩
        (fun i H' _ h => ⟨SqT.of (h.1 _ _ ht1), SqT.of (h.1 _ _ (by rw [← List.map_drop]; exact hq))⟩) ?_ ?_
      · rintro i x H3 H4 hi ⟨s3, hDl3⟩ y
        obtain ⟨T4, x1, y1, rfl, hT, rfl, hx1, hy1⟩ := y
        rw [List.length_map] at hi
        rw [List.getElem?_map] at hx1 hy1
        obtain ⟨c, hc, rfl⟩ := Option.map_eq_some_iff.mp hx1
        obtain ⟨d, hd, rfl⟩ := Option.map_eq_some_iff.mp hy1
        have sT := same_new (o := .tup [V.str c, V.str d]) hT
        refine ⟨T4, _, rfl, SqT.of upd_same, rfl, _, _, rfl, _, _, rfl, rfl, rfl, ?_⟩
        refine ⟨_, rfl, _, rfl, c, d, rfl, rfl, ?_⟩
        have ai := adj_at hc hd
        have ei : (adjL cols).take (i + 1) = (adjL cols).take i ++ [decide (c.cps.toList < d.cps.toList)] := by rw [List.take_add_one, ai]; rfl
        refine ⟨_, sT _ _ hDl3, small1000 (by simp; omega), fun b o hb => ?_, ?_⟩
        · rw [upd_ne (ne_of_none hb hD2)]
          exact sT _ _ (s3 _ _ hb)
        · rw [upd_same, ei, List.map_append]
          rfl
      · rintro H3 ⟨s3, hDl3⟩
        rw [List.take_of_length_le (by rw [List.length_map]; omega)] at hDl3
        refine ⟨D2, _, rfl, SqL.of hDl3, ?_⟩
        exact kall s3
    · have s2 := same_new (o := .tup (cutV (cols.map V.str) (some 1) none)) hq0
      have hq := slice_part (cols := cols) hq0
      generalize upd H q (.tup (cutV (cols.map V.str) (some 1) none)) = H2 at s2 hq ⊢
      refine ⟨t, q, _, _, rfl, .inr ⟨SqT.of (s2 _ _ ht1), SqT.of hq, fun D2 hD2 => ?_⟩⟩
      refine lc_it (walk_next (xs := cols.map V.str)) (fun i H' => Same H2 H' ∧ H' D2 = some (.lst (((adjL cols).take i).map V.bl))) ⟨same_new hD2, upd_same⟩
        (fun i H' _ h => ⟨SqT.of (h.1 _ _ (s2 _ _ ht1)), SqT.of (h.1 _ _ (by rw [← List.map_drop]; exact hq))⟩) ?_ ?_
      · rintro i x H3 H4 hi ⟨s3, hDl3⟩ y
        obtain ⟨T4, x1, y1, rfl, hT, rfl, hx1, hy1⟩ := y
        rw [List.length_map] at hi
        rw [List.getElem?_map] at hx1 hy1
        obtain ⟨c, hc, rfl⟩ := Option.map_eq_some_iff.mp hx1
        obtain ⟨d, hd, rfl⟩ := Option.map_eq_some_iff.mp hy1
        have sT := same_new (o := .tup [V.str c, V.str d]) hT
        refine ⟨T4, _, rfl, SqT.of upd_same, rfl, _, _, rfl, _, _, rfl, rfl, rfl, ?_⟩
        refine ⟨_, rfl, _, rfl, c, d, rfl, rfl, ?_⟩
        have ai := adj_at hc hd
        have ei : (adjL cols).take (i + 1) = (adjL cols).take i ++ [decide (c.cps.toList < d.cps.toList)] := by rw [List.take_add_one, ai]; rfl
        refine ⟨_, sT _ _ hDl3, small1000 (by simp; omega), fun b o hb => ?_, ?_⟩
        · rw [upd_ne (ne_of_none hb hD2)]
          exact sT _ _ (s3 _ _ hb)
        · rw [upd_same, ei, List.map_append]
          rfl
      · rintro H3 ⟨s3, hDl3⟩
        rw [List.take_of_length_le (by rw [List.length_map]; omega)] at hDl3
        refine ⟨D2, _, rfl, SqL.of hDl3, ?_⟩
        exact kall (s2.trans s3)
end
end Qk
set_option maxRecDepth 100000
set_option maxHeartbeats 4000000
namespace Qk
open PySem PySem.Spec PyProof.Rows L2
section
variable {P : Program} {w : World} {K : PySem.W.Frag} {mg : Str → Option Value} {base : Heap}
theorem str_mem {z : Str} {l : List Str} (h : V.str z ∈ l.map V.str) : z ∈ l := by
  obtain ⟨y, hy, e⟩ := List.mem_map.mp h
  injection e with e
  rw [← e]
  exact hy
def SpV (H : Hp) (x : V) : Prop := ∃ A n, VA 40 H A n x
theorem SpV.same {H H' : Hp} {x : V} (s : Same H H') (h : SpV H x) : SpV H' x := by
  obtain ⟨A, n, h⟩ := h
  exact ⟨A, n, VA.same s h⟩
theorem SpV.tx {H : Hp} {x : V} (h : SpV H x) : TxV K H x := by
  obtain ⟨A, n, h⟩ := h
  exact h.tx
/-- a tuple whose parts are such again, or something else -/
theorem SpV.tu {H : Hp} {x : V} (h : SpV H x) : (∃ a xs, x = .ref a ∧ H a = some (.tup xs) ∧ xs.length ≤ 40 ∧ ∀ y ∈ xs, SpV H y) ∨ ((∀ a xs, x = .ref a → H a ≠ some (.tup xs)) ∧ ∃ t : String, TyX K H x (.type t) ∧ kitB t "tuple" = some false) := by
  obtain ⟨A, n, h⟩ := h
  rcases h.tu (K := K) with ⟨a, xs, e, ha, hl, hx⟩ | h
  · exact .inl ⟨a, xs, e, ha, hl, fun y hy => ⟨A, _, hx y hy⟩⟩
  · exact .inr h
theorem ColsV.same {H H' : Hp} {x : V} (s : Same H H') (h : ColsV H x) : ColsV H' x := by
  obtain ⟨t, cols, e, ht, h⟩ := h
  exact ⟨t, cols, e, s _ _ ht, h⟩
theorem ColsV.of {H : Hp} {a : Addr} {xs : List V} (ha : H a = some (.tup xs)) (h : ColsV H (.ref a)) : ∃ cols : List Str, xs = cols.map V.str ∧ (∀ c ∈ cols, colS c = true) ∧ cols.Nodup ∧ sortedS cols = true := by
  obtain ⟨t, cols, e, ht, h⟩ := h
  injection e with e
  subst e
  rw [ha] at ht
  injection ht with ht
  injection ht with ht
  exact ⟨cols, ht, h⟩
theorem strs_ok (K : PySem.W.Frag) {H : Hp} {cols : List Str} (h : ∀ y ∈ cols.map V.str, SpV H y) (hc : ∀ c ∈ cols, colS c = true) : ∀ c ∈ cols, PyData.strOk c = true := fun c m => by
  rcases (h (.str c) (List.mem_map_of_mem m)).tx (K := K) with ⟨z, e, f⟩ | ⟨ne, _⟩
  · injection e with e
    subst e
    exact (col_ok (hc c m) f).1
  · exact absurd rfl (ne c)
theorem all_strs {cols : List Str} : (cols.map V.str).all colV = true ↔ ∀ c ∈ cols, colS c = true := by
  rw [List.all_map, List.all_eq_true]
  exact Iff.rfl
def spCv : Sp := fun vs H Q _ => ∃ x, vs = [x] ∧ SpV H x ∧ ∀ (H' : Hp) (r : Bool), Same H H' → (r = true ↔ ColsV H x) → Q (.bl r) H'
abbrev nAC : List Str := ["thing", "one"]
theorem scAreCols : FnScope nAC ["thing"] (defScope sAreCols) := ⟨rfl, rfl, rfl, by decide +kernel, rfl, by decide +kernel, by decide +kernel⟩
theorem ok_arecolsA {f : Addr} {fd : FuncData} (F : Fun K "are_columns" "are_columns" sAreCols f fd) (T : Txt K mg) (cC : Cal P w K mg base 1 "is_column" ["thing"] (spTx K colS)) (cA : Cal P w K mg base 1 "is_ascending" ["things"] spAscA) : FnOk P w K mg base CX0 2 f fd ["thing"] spCv := by
  refine F.ok scAreCols (fun vs H Q E h => ?_) (fun cdv A outer s H vs Q E hr h => ?_)
  · obtain ⟨x, rfl, _⟩ := h
    rfl
  · obtain ⟨x, rfl, hx, k⟩ := h
    have nd := scAreCols.nd
    refine ⟨_, pss_cons (ps_if (PW.pt (pw_or (pt_not (pt_val (pe_callB call_isi (by rfl) T.isinstance (by decide +kernel) (pa_cons (pv 0) (pa_cons (pe_bltn (v := .ty "tuple") (by rfl) T.tuple (by decide +kernel) rfl) pa_nil)))))
        (pw_or1 (pt_not (pt_val (pe_callB (cr_all rfl) (by rfl) T.all (by decide +kernel) (pa_cons (pe_lc (own := [("one", 1)]) (g := gName 1) (tt := tYes) rfl nd (pi_tup (pv 0)) (blkOk_by (N := nAC) (sc := defScope sAreCols) (by decide +kernel))
          (fun _ _ _ _ _ => pg_name (i := 1) nd rfl (by first | exact Or.inl rfl | exact Or.inr rfl)) (fun _ _ _ _ _ => pts_nil) (fun _ _ _ _ _ => pe_call cC.G hr rfl cC.m cC.kp cC.b .nil pass0 (pa_cons (pv 1) pa_nil))) pa_nil))))))) (pss_one (ps_ret pe_bl)) pss_nil)
      (pss_one (ps_ret (pe_call cA.G hr rfl cA.m cA.kp cA.b .nil pass0 (pa_cons (pv 0) pa_nil)))), ?_⟩
    rcases hx.tu (K := K) with ⟨a, xs, rfl, ha, hl, hv⟩ | ⟨hne, t, ty, hk⟩
    · refine ⟨_, rfl, _, _, .type "tuple", .type "tuple", true, rfl, .ty "tuple", .base (.tup ha), kit_ty (by decide +kernel), _, rfl, ?_⟩
      refine iteF ?_
      refine ⟨_, rfl, a, rfl, ⟨_, SqT.of ha⟩, fun D hD => ?_⟩
      refine lc_tup (K := K) (a := a) (xs := xs) (fun i H' => Same H H' ∧ H' D = some (.lst (((xs.take i).map colV).map V.bl))) ⟨same_new hD, upd_same⟩ (fun i H' _ h => SqT.of (h.1 _ _ ha)) ?_ ?_
      · rintro i x H1 hx ⟨s1, hDl⟩
        have et : xs.take (i + 1) = xs.take i ++ [x] := by rw [List.take_add_one, hx]; rfl
        have hil : i < xs.length := (List.getElem?_eq_some_iff.mp hx).1
        refine ⟨rfl, Exists.intro _ ⟨rfl, x, rfl, ((hv x (List.mem_of_getElem? hx)).same s1).tx, fun H2 r s2 hr2 => ?_⟩⟩
        have er : r = colV x := by
          cases x with
          | str z => exact hr2.1 z rfl
          | _ => exact hr2.2 (fun z e => nomatch e)
        refine ⟨_, s2 _ _ hDl, small1000 (by simp; omega), fun b' o ho => ?_, ?_⟩
        · rw [upd_ne (ne_of_none ho hD)]
          exact s2 _ _ (s1 _ _ ho)
        · rw [upd_same, et, er]
          simp
      · rintro H1 ⟨s1, hDl⟩
        rw [List.take_of_length_le (Nat.le_refl _)] at hDl
        refine ⟨D, _, rfl, SqL.of hDl, _, rfl, ?_⟩
        have eall : (xs.map colV).all id = xs.all colV := by rw [List.all_map]; rfl
        rw [eall]
        cases hc : xs.all colV with
        | false =>
          refine iteT ?_
          refine k H1 false s1 ⟨fun h => (nomatch h), fun h => ?_⟩
          obtain ⟨cols, rfl, h1, _⟩ := ColsV.of ha h
          rw [all_strs.mpr h1] at hc
          cases hc
        | true =>
          refine iteF ?_
          obtain ⟨zs, rfl, hz⟩ := texts_of hc
          refine ⟨_, rfl, a, zs, rfl, s1 _ _ ha, by rw [List.length_map] at hl; exact hl, fun H2 r s2 hr2 => k H2 r (s1.trans s2) (hr2.trans ⟨fun h => ⟨a, zs, rfl, ha, hz, h⟩, fun h => ?_⟩)⟩
          obtain ⟨cols, e, _, h2⟩ := ColsV.of ha h
          have : zs = cols := by
            have inj : ∀ (l m : List Str), l.map V.str = m.map V.str → l = m := fun l => by
              induction l with
              | nil => intro m e; cases m with
                | nil => rfl
                | cons y m => cases e
              | cons x l ih => intro m e; cases m with
                | nil => cases e
                | cons y m =>
                  injection e with e1 e2
                  injection e1 with e1
                  rw [e1, ih m e2]
            exact inj _ _ e
          rw [this]
          exact h2
    · refine ⟨_, rfl, _, _, .type t, .type "tuple", false, rfl, .ty "tuple", ty, kit_ty hk, _, rfl, ?_⟩
      refine iteT ?_
      exact k H false (Same.refl _) ⟨fun h => (nomatch h), fun ⟨a, cols, e, h, _⟩ => absurd h (hne a _ e)⟩
def lastB (x : V) (zs : List Str) : Bool := match x with
  | .str z => decide (z = "") || (colS z && !decide (z ∈ zs))
  | _ => false
theorem lastB_not {x : V} {zs : List Str} (h : ∀ z, x ≠ .str z) : lastB x zs = false := by
  cases x with
  | str z => exact absurd rfl (h z)
  | _ => rfl
def spLastA (K : PySem.W.Frag) : Sp := fun vs H Q _ => ∃ (x : V) (t : Addr) (zs : List Str), vs = [x, .ref t] ∧ H t = some (.tup (zs.map V.str)) ∧ SpV H x ∧ ∀ H', Same H H' → Q (.bl (lastB x zs)) H'
theorem scIsLast : FnScope ["thing", "columns"] ["thing", "columns"] (defScope sIsLast) := ⟨rfl, rfl, rfl, by decide +kernel, rfl, by decide +kernel, by decide +kernel⟩
theorem ok_islastA {f : Addr} {fd : FuncData} (F : Fun K "is_last" "is_last" sIsLast f fd) (T : Txt K mg) (cC : Cal P w K mg base 1 "is_column" ["thing"] (spTx K colS)) (cE : Cal P w K mg base 1 "is_empty" ["thing"] (spTx K fun z => decide (z = ""))) :
    FnOk P w K mg base CX0 2 f fd ["thing", "columns"] (spLastA K) := by
  refine F.ok scIsLast (fun vs H Q E h => ?_) (fun cdv A outer s H vs Q E hr h => ?_)
  · obtain ⟨x, t, zs, rfl, _⟩ := h
    rfl
  · obtain ⟨x, t, zs, rfl, ht, hx, k⟩ := h
    refine ⟨_, pss_one (ps_ret (pe_or (pe_call cE.G hr rfl cE.m cE.kp cE.b .nil pass0 (pa_cons (pv 0) pa_nil)) (pe_one (pe_and (pe_call cC.G hr rfl cC.m cC.kp cC.b .nil pass0 (pa_cons (pv 0) pa_nil))
      (pe_one (pe_cmpR op_notIn_seq (pv 0) (pv 1) (by rfl))))))), ?_⟩
    refine ⟨_, rfl, x, rfl, hx.tx, fun H1 r s1 hr1 => ⟨_, rfl, ?_⟩⟩
    rcases hx.tx (K := K) with ⟨z, rfl, hz⟩ | ⟨hne, _⟩
    · have e1 := hr1.1 z rfl
      subst e1
      have kk : ∀ H', Same H H' → Q (.bl (decide (z = "") || (colS z && !decide (z ∈ zs)))) H' := k
      show if decide (z = "") = true then _ else _
      by_cases he : z = ""
      · rw [decide_eq_true he] at kk ⊢
        refine iteT ?_
        exact kk H1 s1
      · rw [decide_eq_false he] at kk ⊢
        refine iteF ?_
        refine ⟨_, rfl, _, rfl, (hx.same s1).tx, fun H2 r2 s2 hr2 => ⟨_, rfl, ?_⟩⟩
        have e2 := hr2.1 z rfl
        subst e2
        have s3 := s1.trans s2
        cases hc : colS z with
        | false =>
          refine iteF ?_
          have := kk H2 s3
          rw [hc] at this
          exact this
        | true =>
          refine iteT ?_
          refine ⟨_, rfl, _, rfl, t, _, rfl, .inr (SqT.of (s3 _ _ ht)), rfl, flat_strs _, ?_⟩
          have := kk H2 s3
          rw [hc] at this
          show Q (.bl (!inV (.str z) (zs.map V.str))) H2
          rw [inV_strs]
          exact this
    · have e1 := hr1.2 hne
      subst e1
      refine iteF ?_
      refine ⟨_, rfl, _, rfl, (hx.same s1).tx, fun H2 r2 s2 hr2 => ⟨_, rfl, ?_⟩⟩
      have e2 := hr2.2 hne
      subst e2
      refine iteF ?_
      have := k H2 (s1.trans s2)
      rw [lastB_not hne] at this
      exact this
/-- a question, whatever its columns are -/
structure QC (q : Qd) : Prop where
  col : ∀ c ∈ q.1, colS c = true
  nd : q.1.Nodup
  srt : sortedS q.1 = true
  last : q.2 = "" ∨ (colS q.2 = true ∧ q.2 ∉ q.1)
  some : q.2 = "" → q.1 ≠ []
def IsQv (H : Hp) (x : V) : Prop := ∃ t q, x = .ref t ∧ QAt H t q.1 q.2 ∧ QC q
def spQv : Sp := fun vs H Q _ => ∃ x, vs = [x] ∧ SpV H x ∧ ∀ (H' : Hp) (r : Bool), Same H H' → (r = true ↔ IsQv H x) → Q (.bl r) H'
theorem IsQv.of {H : Hp} {a : Addr} {xs : List V} (ha : H a = some (.tup xs)) (h : IsQv H (.ref a)) : ∃ c q, xs = [.ref c, .str q.2] ∧ H c = some (.tup (q.1.map V.str)) ∧ QC q := by
  obtain ⟨t, q, e, ⟨c, h1, h2⟩, hq⟩ := h
  injection e with e
  subst e
  rw [ha] at h1
  injection h1 with h1
  injection h1 with h1
  exact ⟨c, q, h1, h2, hq⟩
theorem lastB_iff {x : V} {zs : List Str} : lastB x zs = true ↔ ∃ z, x = .str z ∧ (z = "" ∨ (colS z = true ∧ z ∉ zs)) := by
  cases x with
  | str z =>
    show (decide (z = "") || (colS z && !decide (z ∈ zs))) = true ↔ _
    simp
  | _ => exact ⟨fun h => (nomatch h), fun ⟨z, e, _⟩ => (nomatch e)⟩
theorem scIsQ : FnScope ["thing", "columns", "last"] ["thing"] (defScope sIsQ) := ⟨rfl, rfl, rfl, by decide +kernel, rfl, by decide +kernel, by decide +kernel⟩
theorem ok_isqA {f : Addr} {fd : FuncData} (F : Fun K "is_question" "is_question" sIsQ f fd) (T : Txt K mg) (cA : Cal P w K mg base 2 "are_columns" ["thing"] spCv) (cL : Cal P w K mg base 2 "is_last" ["thing", "columns"] (spLastA K)) : FnOk P w K mg base CX0 3 f fd ["thing"] spQv := by
  refine F.ok scIsQ (fun vs H Q E h => ?_) (fun cdv A outer s H vs Q E hr h => ?_)
  · obtain ⟨x, rfl, _⟩ := h
    rfl
  · obtain ⟨x, rfl, hx, k⟩ := h
    have nd := scIsQ.nd
    refine ⟨_, pss_cons (ps_if (PW.pt (pw_or (pt_not (pt_val (pe_callB call_isi (by rfl) T.isinstance (by decide +kernel) (pa_cons (pv 0) (pa_cons (pe_bltn (v := .ty "tuple") (by rfl) T.tuple (by decide +kernel) rfl) pa_nil)))))
        (pw_or1 (pt_cmpR op_ne (pe_callB call_len_seq (by rfl) T.len PySem.boot_len (pa_cons (pv 0) pa_nil)) pe_int (nomark _))))) (pss_one (ps_ret pe_bl)) pss_nil)
      (pss_cons (ps_asg (pv 0) (pg_tup (by rfl) (pgs_cons (pg_name (i := 1) nd rfl (Or.inl rfl)) (pgs_cons (pg_name (i := 2) nd rfl (Or.inl rfl)) pgs_nil))))
      (pss_cons (ps_if (PW.pt (pw_or (pt_not (pt_val (pe_call cA.G hr rfl cA.m cA.kp cA.b .nil pass0 (pa_cons (pv 1) pa_nil))))
        (pw_or1 (pt_not (pt_val (pe_call cL.G hr rfl cL.m cL.kp cL.b .nil pass0 (pa_cons (pv 2) (pa_cons (pv 1) pa_nil)))))))) (pss_one (ps_ret pe_bl)) pss_nil)
      (pss_one (ps_ret (pe_or (pe_cmpR (op_neD hr.units) (pv 1) (pe_tup pa_nil) (nomark _)) (pe_one (pe_cmpR op_ne (pv 2) pe_str (nomark _)))))))), ?_⟩
    rcases hx.tu (K := K) with ⟨a, xs, rfl, ha, hl, hv⟩ | ⟨hne, t, ty, hk⟩
    · refine ⟨_, rfl, _, _, .type "tuple", .type "tuple", true, rfl, .ty "tuple", .base (.tup ha), kit_ty (by decide +kernel), _, rfl, ?_⟩
      refine iteF ?_
      refine ⟨_, rfl, _, _, rfl, .inr (SqT.of ha), rfl, _, rfl, ?_⟩
      show if (!decide (V.int (xs.length : Int) = V.int 2)) = true then _ else _
      by_cases h2 : xs.length = 2
      · rw [decide_eq_true (by rw [h2]; rfl)]
        refine iteF ?_
        match xs, h2, hv, ha with
        | [u, v], _, hv, ha =>
        have hu := hv u List.mem_cons_self
        have hvv := hv v (List.mem_cons_of_mem _ List.mem_cons_self)
        refine ⟨_, rfl, a, _, rfl, SqT.of ha, rfl, _, _, rfl, _, _, rfl, rfl, ?_⟩
        refine ⟨_, rfl, u, rfl, hu, fun H1 r s1 hr1 => ⟨_, rfl, ?_⟩⟩
        cases r with
        | false =>
          refine iteT ?_
          refine k H1 false s1 ⟨fun h => (nomatch h), fun h => ?_⟩
          obtain ⟨c, q, e, hc, hq⟩ := IsQv.of ha h
          injection e with e1 e2
          exact absurd (hr1.mpr ⟨c, q.1, e1, hc, hq.col, hq.nd, hq.srt⟩) (by decide)
        | true =>
          refine iteF ?_
          obtain ⟨c, cols, rfl, hc, h1, h3, h4⟩ := hr1.mp rfl
          have cok : ∀ c ∈ cols, PyData.strOk c = true := by
            rcases hu.tu (K := K) with ⟨c', xs', e, hc', _, hvs⟩ | ⟨hne, _⟩
            · injection e with e
              subst e
              rw [hc] at hc'
              injection hc' with hc'
              injection hc' with hc'
              subst hc'
              exact strs_ok K hvs h1
            · exact absurd hc (hne c _ rfl)
          refine ⟨_, rfl, _, rfl, v, c, cols, rfl, s1 _ _ hc, hvv.same s1, fun H2 s2 => ⟨_, rfl, ?_⟩⟩
          have s12 := s1.trans s2
          cases hlb : lastB v cols with
          | false =>
            refine iteT ?_
            refine k H2 false s12 ⟨fun h => (nomatch h), fun h => ?_⟩
            obtain ⟨c', q, e, hc', hq⟩ := IsQv.of ha h
            injection e with e1 e2
            injection e2 with e2 _
            injection e1 with e1
            subst e1
            rw [hc] at hc'
            injection hc' with hc'
            injection hc' with hc'
            have : lastB v cols = true := lastB_iff.mpr ⟨q.2, e2, hq.last.imp id fun ⟨g1, g2⟩ => ⟨g1, fun hm => g2 (str_mem (by rw [← hc']; exact List.mem_map_of_mem hm))⟩⟩
            rw [hlb] at this
            cases this
          | true =>
            refine iteF ?_
            obtain ⟨z, rfl, hz⟩ := lastB_iff.mp hlb
            refine ⟨_, rfl, by show 0 ≤ sizeLine; decide, fun e0 he0 => ?_⟩
            have s3 := same_new (o := .tup []) he0
            refine ⟨.tuple (cols.map PyData.str), .tuple (([] : List Str).map PyData.str), .tup (SqT.of (s3 _ _ (s12 _ _ hc))) (dp_strs _), .tup (SqT.of upd_same) (dp_strs []), shaped_tuple cok, shaped_tuple (fun c hc => nomatch hc), _, rfl, ?_⟩
            show if (!PyData.eqv (.tuple (cols.map PyData.str)) (.tuple (([] : List Str).map PyData.str))) = true then _ else _
            rw [PyData.eqv, eqv_strs]
            have sA := s12.trans s3
            by_cases hn : cols = []
            · rw [decide_eq_true hn]
              refine iteF ?_
              refine ⟨_, rfl, rfl, ?_⟩
              show Q (V.bl (!decide (V.str z = V.str ""))) _
              refine k _ _ sA ?_
              by_cases he : z = ""
              · rw [decide_eq_true (congrArg V.str he)]
                refine ⟨fun h => (nomatch h), fun h => ?_⟩
                obtain ⟨c', q, e, hc', hq⟩ := IsQv.of ha h
                injection e with e1 e2
                injection e2 with e2 _
                injection e2 with e2
                injection e1 with e1
                subst e1
                rw [hc] at hc'
                injection hc' with hc'
                injection hc' with hc'
                rw [hn] at hc'
                exact absurd (List.map_eq_nil_iff.mp hc'.symm) (hq.some (e2.symm.trans he))
              · rw [decide_eq_false (fun h => he (by injection h))]
                exact ⟨fun _ => ⟨a, (cols, z), rfl, ⟨c, ha, hc⟩, ⟨h1, h3, h4, hz, fun h => absurd h he⟩⟩, fun _ => rfl⟩
            · rw [decide_eq_false hn]
              refine iteT ?_
              exact k _ true sA ⟨fun _ => ⟨a, (cols, z), rfl, ⟨c, ha, hc⟩, ⟨h1, h3, h4, hz, fun _ => hn⟩⟩, fun _ => rfl⟩
      · rw [decide_eq_false (fun h => h2 (by injection h with h; omega))]
        refine iteT ?_
        refine k H false (Same.refl _) ⟨fun h => (nomatch h), fun h => ?_⟩
        obtain ⟨c, q, e, _⟩ := IsQv.of ha h
        rw [e] at h2
        exact absurd rfl h2
    · refine ⟨_, rfl, _, _, .type t, .type "tuple", false, rfl, .ty "tuple", ty, kit_ty hk, _, rfl, ?_⟩
      refine iteT ?_
      exact k H false (Same.refl _) ⟨fun h => (nomatch h), fun ⟨a, q, e, ⟨c, h, _⟩, _⟩ => absurd h (hne a _ e)⟩
end
end Qk
set_option maxRecDepth 100000
set_option maxHeartbeats 4000000
namespace Qk
open PySem PySem.Spec PyProof.Rows L2
section
variable {P : Program} {w : World} {K : PySem.W.Frag} {mg : Str → Option Value} {base : Heap}
theorem scLIsCol : FnScope ["_law_thing", "_law_sign"] ["_law_thing"] (defScope sLIsCol) := ⟨rfl, rfl, rfl, by decide +kernel, rfl, by decide +kernel, by decide +kernel⟩
theorem abc_mem (c : Nat) : decide (c ∈ ("abcdefghijklmnopqrstuvwxyz" : Str).cps.toList) = (decide (97 ≤ c) && decide (c ≤ 122)) := by
  have e : ("abcdefghijklmnopqrstuvwxyz" : Str).cps.toList = (List.range 26).map (· + 97) := by decide +kernel
  rw [e, Bool.eq_iff_iff]
  simp only [decide_eq_true_eq, List.mem_map, List.mem_range, Bool.and_eq_true]
  constructor
  · rintro ⟨a, h1, h2⟩
    omega
  · intro h
    exact ⟨c - 97, by omega, by omega⟩
theorem ok_liscol {f : Addr} {fd : FuncData} (F : Fun K "_law_is_column" "_law_is_column" sLIsCol f fd) (T : Txt K mg) : FnOk P w K mg base CX0 1 f fd ["_law_thing"] (spTx K colS) := by
  refine F.ok scLIsCol (fun vs H Q E h => ?_) (fun cdv A outer s H vs Q E hr h => ?_)
  · obtain ⟨x, rfl, _⟩ := h
    rfl
  · obtain ⟨x, rfl, hx, k0⟩ := h
    have nd := scLIsCol.nd
    refine ⟨_, pss_cons (ps_if (PW.pt (pw_or (pt_not (pt_val (pe_callB call_isi (by rfl) T.isinstance (by decide +kernel) (pa_cons (pv 0) (pa_cons (pe_bltn (v := .ty "str") (by rfl) T.str (by decide +kernel) rfl) pa_nil)))))
        (pw_or1 (pt_not (pt_chain op_le op_le pe_int (pe_callB call_len_str (by rfl) T.len PySem.boot_len (pa_cons (pv 0) pa_nil)) pe_int))))) (pss_one (ps_ret pe_bl)) pss_nil)
      (pss_one (ps_ret (pe_cmpR (op_eqD hr.units) (pe_lc (own := [("_law_sign", 1)]) (g := gName 1) rfl nd (pi_str (pv 0)) (blkOk_by (N := ["_law_thing", "_law_sign"]) (sc := defScope sLIsCol) (by decide +kernel))
        (fun _ _ _ _ _ => pg_name (i := 1) nd rfl (Or.inl rfl)) (fun _ _ _ _ _ => pts_one (pt_cmpR op_notIn_sign (pv 1) pe_str (by rfl))) (fun _ _ _ _ _ => pv 1)) (pe_lst pa_nil) (nomark _)))), ?_⟩
    rcases hx with ⟨z, rfl, hz, hok0⟩ | ⟨hne, t, ty, hk⟩
    · refine ⟨_, rfl, _, _, .type "str", .type "str", true, rfl, .ty "str", .base (.str z), kit_ty (by decide +kernel), _, rfl, ?_⟩
      refine iteF ?_
      have hlen : z.length = z.cps.size := rfl
      have kk : ∀ H', Same H H' → Q (.bl (colS z)) H' := fun H' s' => k0 H' _ s' ⟨fun y e => by injection e with e; rw [e], fun h => absurd rfl (h z)⟩
      unfold colS at kk
      refine ⟨_, rfl, z, rfl, by rw [hlen, sizeLine_eq]; omega, 1, _, rfl, rfl, _, rfl, ?_⟩
      rw [hlen]
      by_cases c1 : 1 ≤ z.cps.size
      · have d1 : decide ((1 : Int) ≤ (z.cps.size : Int)) = true := decide_eq_true (by omega)
        rw [d1]
        refine iteT ?_
        refine ⟨_, 8, rfl, rfl, _, rfl, ?_⟩
        by_cases c2 : z.cps.size ≤ 8
        · have d2 : decide ((z.cps.size : Int) ≤ 8) = true := decide_eq_true (by omega)
          rw [d2]
          refine iteF ?_
          rw [decide_eq_true c1, decide_eq_true c2] at kk
          have hok := hok0 c2
          refine ⟨_, rfl, z, rfl, fun D hD => ?_⟩
          have ltr : ∀ (l : List Nat), (l.map fun c => (⟨#[c]⟩ : Str)).map V.str = l.map fun c => V.str ⟨#[c]⟩ := fun l => by rw [List.map_map]; rfl
          refine lc_it (walk_str (z := z)) (fun i H' => Same H H' ∧ H' D = some (.lst (((((z.cps.toList.take i).filter fun c => !(decide (97 ≤ c) && decide (c ≤ 122))).map fun c => (⟨#[c]⟩ : Str))).map V.str))) ⟨same_new hD, upd_same⟩ (fun _ _ _ _ => True.intro) ?_ ?_
          · rintro i x H1 H2 hi ⟨s1, hDl⟩ ⟨rfl, c, hc, rfl⟩
            have et : z.cps.toList.take (i + 1) = z.cps.toList.take i ++ [c] := by rw [List.take_add_one, Array.getElem?_toList, hc]; rfl
            refine ⟨rfl, ?_⟩
            refine ⟨_, rfl, c, _, rfl, rfl, _, rfl, ?_⟩
            rw [abc_mem]
            by_cases q : (decide (97 ≤ c) && decide (c ≤ 122)) = true
            · rw [q]
              refine iteF ?_
              refine ⟨s1, ?_⟩
              have e7 : ([c].filter fun c => !(decide (97 ≤ c) && decide (c ≤ 122))) = [] := by
                rw [List.filter_cons, List.filter_nil, q]
                rfl
              rw [hDl, et, List.filter_append, e7, List.append_nil]
            · have qf : (decide (97 ≤ c) && decide (c ≤ 122)) = false := by simpa using q
              rw [qf]
              refine iteT ?_
              refine ⟨_, rfl, _, hDl, small1000 ?_, fun b' o ho => ?_, ?_⟩
              · have := List.length_filter_le (fun c => !(decide (97 ≤ c) && decide (c ≤ 122))) (z.cps.toList.take i)
                rw [List.length_take] at this
                rw [List.length_map, List.length_map]
                omega
              · rw [upd_ne (ne_of_none ho hD)]
                exact s1 _ _ ho
              · have e7 : ([c].filter fun c => !(decide (97 ≤ c) && decide (c ≤ 122))) = [c] := by
                  rw [List.filter_cons, List.filter_nil, qf]
                  rfl
                rw [upd_same, et, List.filter_append, e7, List.map_append, List.map_append]
                rfl
          · rintro H1 ⟨s1, hDl⟩
            rw [List.take_of_length_le (by rw [Array.length_toList]; exact Nat.le_refl _)] at hDl
            refine ⟨by show 0 ≤ sizeLine; decide, fun p hp => ?_⟩
            have oks : ∀ y ∈ ((z.cps.toList.filter fun c => !(decide (97 ≤ c) && decide (c ≤ 122))).map fun c => (⟨#[c]⟩ : Str)), PyData.strOk y = true := fun y hy => by
              obtain ⟨c, hc, rfl⟩ := List.mem_map.mp hy
              have hc2 := (List.mem_filter.mp hc).1
              unfold PyData.strOk at hok ⊢
              rw [← Array.all_toList, List.all_eq_true] at hok
              simpa using hok c hc2
            refine ⟨.list (((z.cps.toList.filter fun c => !(decide (97 ≤ c) && decide (c ≤ 122))).map fun c => (⟨#[c]⟩ : Str)).map PyData.str), .list (([] : List Str).map PyData.str), .lst (SqL.of (same_new hp _ _ hDl)) (dp_strs _), .lst (SqL.of upd_same) (dp_strs []), shaped_list oks, shaped_list (fun c hc => by cases hc), ?_⟩
            rw [PyData.eqv, eqv_strs]
            have e5 : decide (((z.cps.toList.filter fun c => !(decide (97 ≤ c) && decide (c ≤ 122))).map fun c => (⟨#[c]⟩ : Str)) = []) = z.cps.toList.all fun c => decide (97 ≤ c) && decide (c ≤ 122) := by
              rw [Bool.eq_iff_iff, decide_eq_true_eq, List.map_eq_nil_iff, List.filter_eq_nil_iff, List.all_eq_true]
              exact ⟨fun h c hc => by simpa using h c hc, fun h c hc => by simpa using h c hc⟩
            rw [e5]
            have := kk _ (s1.trans (same_new (o := .lst []) hp))
            exact this
        · have d2 : decide ((z.cps.size : Int) ≤ 8) = false := decide_eq_false (by omega)
          rw [d2]
          refine iteT ?_
          have := kk H (Same.refl _)
          rw [decide_eq_false c2, Bool.and_false, Bool.false_and] at this
          exact this
      · have d1 : decide ((1 : Int) ≤ (z.cps.size : Int)) = false := decide_eq_false (by omega)
        rw [d1]
        refine iteF ?_
        refine ⟨_, rfl, ?_⟩
        refine iteT ?_
        have := kk H (Same.refl _)
        rw [decide_eq_false c1, Bool.false_and, Bool.false_and] at this
        exact this
    · refine ⟨_, rfl, _, _, .type t, .type "str", false, rfl, .ty "str", ty, kit_ty hk, _, rfl, ?_⟩
      refine iteT ?_
      exact k0 H false (Same.refl _) ⟨fun z e => absurd e (hne z), fun _ => rfl⟩
theorem map_str_inj : ∀ {l m : List Str}, l.map V.str = m.map V.str → l = m
  | [], [], _ => rfl
  | [], _ :: _, e => nomatch e
  | _ :: _, [], e => nomatch e
  | x :: l, y :: m, e => by
    injection e with e1 e2
    injection e1 with e1
    rw [e1, map_str_inj e2]
abbrev nLAC : List Str := ["_law_thing", "_law_one_here"]
theorem scLAreCols : FnScope nLAC ["_law_thing"] (defScope sLAreCols) := ⟨rfl, rfl, rfl, by decide +kernel, rfl, by decide +kernel, by decide +kernel⟩
theorem filt_nil {xs : List V} : xs.filter (fun x => !colV x) = [] ↔ xs.all colV = true := by
  rw [List.filter_eq_nil_iff, List.all_eq_true]
  constructor
  · intro h x hx
    have := h x hx
    cases hc : colV x with
    | true => rfl
    | false => rw [hc] at this; exact absurd rfl this
  · intro h x hx
    rw [h x hx]
    decide
theorem eq_sorted {cols ys ws : List Str} (nd : ys.Nodup) (hm : ∀ z, z ∈ ys ↔ z ∈ cols) (hp : ws.Perm ys) (hs : sortedS ws = true) : cols = ws ↔ cols.Nodup ∧ sortedS cols = true := by
  constructor
  · rintro rfl
    exact ⟨hp.nodup_iff.mpr nd, hs⟩
  · rintro ⟨h1, h2⟩
    have p : cols.Perm ws := ((List.perm_ext_iff_of_nodup h1 nd).mpr fun z => (hm z).symm).trans hp.symm
    exact perm_sorted p (sortedS_pw h2) (sortedS_pw hs)
theorem ok_larecols {f : Addr} {fd : FuncData} (F : Fun K "_law_are_columns" "_law_are_columns" sLAreCols f fd) (T : Txt K mg) (cC : Cal P w K mg base 1 "_law_is_column" ["_law_thing"] (spTx K colS)) : FnOk P w K mg base CX0 2 f fd ["_law_thing"] spCv := by
  refine F.ok scLAreCols (fun vs H Q E h => ?_) (fun cdv A outer s H vs Q E hr h => ?_)
  · obtain ⟨x, rfl, _⟩ := h
    rfl
  · obtain ⟨x, rfl, hx, k⟩ := h
    have nd := scLAreCols.nd
    have hu64 : A.units + 3 + 64 < cLine := by
      have := hr.un
      have e : (A.deeper (envOfC "_law_are_columns" (defScope sLAreCols) s.heap.objs.size f cdv)).units = A.units + 3 := rfl
      omega
    refine ⟨_, pss_cons (ps_if (PW.pt (pw_or (pt_not (pt_val (pe_callB call_isi (by rfl) T.isinstance (by decide +kernel) (pa_cons (pv 0) (pa_cons (pe_bltn (v := .ty "tuple") (by rfl) T.tuple (by decide +kernel) rfl) pa_nil)))))
        (pw_or1 (pt_cmpR (op_neNil hu64) (pe_lc (own := [("_law_one_here", 1)]) (g := gName 1) rfl nd (pi_tup (pv 0)) (blkOk_by (N := nLAC) (sc := defScope sLAreCols) (by decide +kernel))
          (fun _ _ _ _ _ => pg_name (i := 1) nd rfl (by first | exact Or.inl rfl | exact Or.inr rfl)) (fun _ _ _ _ _ => pts_one (pt_not (pt_val (pe_call cC.G hr rfl cC.m cC.kp cC.b .nil pass0 (pa_cons (pv 1) pa_nil))))) (fun _ _ _ _ _ => pv 1)) (pe_lst pa_nil) (nomark _))))) (pss_one (ps_ret pe_bl)) pss_nil)
      (pss_one (ps_ret (pe_cmpR (op_eqD hr.units) (pe_callTy call_list_of (by rfl) T.list (by decide +kernel) (pa_cons (pv 0) pa_nil))
        (pe_callB (cr_sortT rfl) (by rfl) T.sorted (by decide +kernel) (pa_cons (pe_callTy (cr_setW rfl) (by rfl) T.set (by decide +kernel) (pa_cons (pv 0) pa_nil)) pa_nil)) (nomark _)))), ?_⟩
    rcases hx.tu (K := K) with ⟨a, xs, rfl, ha, hl, hv⟩ | ⟨hne, t, ty, hk⟩
    · refine ⟨_, rfl, _, _, .type "tuple", .type "tuple", true, rfl, .ty "tuple", .base (.tup ha), kit_ty (by decide +kernel), _, rfl, ?_⟩
      refine iteF ?_
      refine ⟨_, rfl, a, rfl, ⟨_, SqT.of ha⟩, fun D hD => ?_⟩
      refine lc_tup (K := K) (a := a) (xs := xs) (fun i H' => Same H H' ∧ H' D = some (.lst ((xs.take i).filter fun x => !colV x))) ⟨same_new hD, upd_same⟩ (fun i H' _ h => SqT.of (h.1 _ _ ha)) ?_ ?_
      · rintro i x H1 hx ⟨s1, hDl⟩
        have et : xs.take (i + 1) = xs.take i ++ [x] := by rw [List.take_add_one, hx]; rfl
        have hil : i < xs.length := (List.getElem?_eq_some_iff.mp hx).1
        refine ⟨rfl, Exists.intro _ ⟨rfl, x, rfl, ((hv x (List.mem_of_getElem? hx)).same s1).tx, fun H2 r s2 hr2 => ⟨_, rfl, ?_⟩⟩⟩
        have er : r = colV x := by
          cases x with
          | str z => exact hr2.1 z rfl
          | _ => exact hr2.2 (fun z e => nomatch e)
        subst er
        rw [et, List.filter_append]
        cases hc : colV x with
        | true =>
          refine iteF ?_
          have e7 : [x].filter (fun x => !colV x) = [] := by rw [List.filter_cons, hc]; rfl
          rw [e7, List.append_nil]
          exact ⟨s1.trans s2, s2 _ _ hDl⟩
        | false =>
          refine iteT ?_
          have e7 : [x].filter (fun x => !colV x) = [x] := by rw [List.filter_cons, hc]; rfl
          rw [e7]
          refine ⟨_, rfl, _, s2 _ _ hDl, small1000 ?_, fun b' o ho => ?_, upd_same⟩
          · have := List.length_filter_le (fun x => !colV x) (xs.take i)
            rw [List.length_take] at this
            omega
          · rw [upd_ne (ne_of_none ho hD)]
            exact s2 _ _ (s1 _ _ ho)
      · rintro H1 ⟨s1, hDl⟩
        rw [List.take_of_length_le (Nat.le_refl _)] at hDl
        refine ⟨by decide, fun p hp => ?_⟩
        have s2 := same_new (o := .lst []) hp
        refine ⟨D, p, _, rfl, rfl, SqL.of (s2 _ _ hDl), SqL.of upd_same, _, rfl, ?_⟩
        by_cases hf : xs.filter (fun x => !colV x) = []
        · rw [decide_eq_true hf]
          refine iteF ?_
          obtain ⟨cols, rfl, hz⟩ := texts_of (filt_nil.mp hf)
          have s12 := s1.trans s2
          rw [List.length_map] at hl
          refine ⟨_, rfl, a, _, rfl, .inr (SqT.of (s12 _ _ ha)), fun q hq => ?_⟩
          have s3 := s12.trans (same_new (o := .lst (cols.map V.str)) hq)
          refine ⟨_, rfl, a, cols, rfl, .inr (SqT.of (s3 _ _ ha)), by omega, fun u ys hu nd2 hm hyl => ?_⟩
          refine ⟨u, ys, rfl, upd_same, by omega, fun ws v hwp hws hvn => ?_⟩
          have s4 := same_new (o := TxtO P w u ys) hu
          have s5 := same_new (o := .lst (ws.map V.str)) hvn
          have cok := strs_ok K hv hz
          have wok : ∀ c ∈ ws, PyData.strOk c = true := fun c hc => cok c ((hm c).mp (hwp.mem_iff.mp hc))
          refine ⟨.list (cols.map PyData.str), .list (ws.map PyData.str), .lst (SqL.of (s5 _ _ (s4 _ _ upd_same))) (dp_strs _), .lst (SqL.of upd_same) (dp_strs _), shaped_list cok, shaped_list wok, ?_⟩
          rw [PyData.eqv, eqv_strs]
          refine k _ _ (s3.trans (s4.trans s5)) ?_
          rw [decide_eq_true_eq, eq_sorted nd2 hm hwp hws]
          refine ⟨fun h => ⟨a, cols, rfl, ha, hz, h⟩, fun h => ?_⟩
          obtain ⟨c', e, _, h2⟩ := ColsV.of ha h
          have : cols = c' := map_str_inj e
          rw [this]
          exact h2
        · rw [decide_eq_false hf]
          refine iteT ?_
          refine k _ false (s1.trans s2) ⟨fun h => (nomatch h), fun h => ?_⟩
          obtain ⟨cols, e, h1, _⟩ := ColsV.of ha h
          rw [e] at hf
          exact absurd (filt_nil.mpr (all_strs.mpr h1)) hf
    · refine ⟨_, rfl, _, _, .type t, .type "tuple", false, rfl, .ty "tuple", ty, kit_ty hk, _, rfl, ?_⟩
      refine iteT ?_
      exact k H false (Same.refl _) ⟨fun h => (nomatch h), fun ⟨a, cols, e, h, _⟩ => absurd h (hne a _ e)⟩
theorem scLIsQ : FnScope ["_law_thing"] ["_law_thing"] (defScope sLIsQ) := ⟨rfl, rfl, rfl, by decide +kernel, rfl, by decide +kernel, by decide +kernel⟩
theorem ok_lisq {f : Addr} {fd : FuncData} (F : Fun K "_law_is_question" "_law_is_question" sLIsQ f fd) (T : Txt K mg) (cC : Cal P w K mg base 1 "_law_is_column" ["_law_thing"] (spTx K colS)) (cA : Cal P w K mg base 2 "_law_are_columns" ["_law_thing"] spCv) : FnOk P w K mg base CX0 3 f fd ["_law_thing"] spQv := by
  refine F.ok scLIsQ (fun vs H Q E h => ?_) (fun cdv A outer s H vs Q E hr h => ?_)
  · obtain ⟨x, rfl, _⟩ := h
    rfl
  · obtain ⟨x, rfl, hx, k⟩ := h
    have nd := scLIsQ.nd
    have hr1 : Room 2 _ := hr.mono (by decide)
    refine ⟨_, pss_cons (ps_if (PW.pt (pw_or (pt_not (pt_val (pe_callB call_isi (by rfl) T.isinstance (by decide +kernel) (pa_cons (pv 0) (pa_cons (pe_bltn (v := .ty "tuple") (by rfl) T.tuple (by decide +kernel) rfl) pa_nil)))))
        (pw_or (pt_cmpR op_ne (pe_callB call_len_seq (by rfl) T.len PySem.boot_len (pa_cons (pv 0) pa_nil)) pe_int (nomark _))
        (pw_or1 (pt_not (pt_val (pe_call cA.G hr rfl cA.m cA.kp cA.b .nil pass0 (pa_cons (pe_ix ix_tup (pv 0) pe_int fun _ _ => rfl) pa_nil)))))))) (pss_one (ps_ret pe_bl)) pss_nil)
      (pss_cons (ps_if (pt_not (pt_val (pe_callB call_isi (by rfl) T.isinstance (by decide +kernel) (pa_cons (pe_ix ix_tup (pv 0) pe_int fun _ _ => rfl) (pa_cons (pe_bltn (v := .ty "str") (by rfl) T.str (by decide +kernel) rfl) pa_nil))))) (pss_one (ps_ret pe_bl)) pss_nil)
      (pss_cons (ps_if (pt_cmpR op_eq (pe_ix ix_tup (pv 0) pe_int fun _ _ => rfl) pe_str (nomark _)) (pss_one (ps_ret (pe_cmpR (op_neD hr.units) (pe_ix ix_tup (pv 0) pe_int fun _ _ => rfl) (pe_tup pa_nil) (nomark _)))) pss_nil)
      (pss_one (ps_ret (pe_and (pe_call cC.G (hr.mono (by decide)) rfl cC.m cC.kp cC.b .nil pass0 (pa_cons (pe_ix ix_tup (pv 0) pe_int fun _ _ => rfl) pa_nil)) (pe_one (pe_cmpR op_notIn_seq (pe_ix ix_tup (pv 0) pe_int fun _ _ => rfl) (pe_ix ix_tup (pv 0) pe_int fun _ _ => rfl) (by rfl)))))))), ?_⟩
    rcases hx.tu (K := K) with ⟨a, xs, rfl, ha, hl, hv⟩ | ⟨hne, t, ty, hk⟩
    · refine ⟨_, rfl, _, _, .type "tuple", .type "tuple", true, rfl, .ty "tuple", .base (.tup ha), kit_ty (by decide +kernel), _, rfl, ?_⟩
      refine iteF ?_
      refine ⟨_, rfl, _, _, rfl, .inr (SqT.of ha), rfl, _, rfl, ?_⟩
      show if (!decide (V.int (xs.length : Int) = V.int 2)) = true then _ else _
      by_cases h2 : xs.length = 2
      · rw [decide_eq_true (by rw [h2]; rfl)]
        refine iteF ?_
        match xs, h2, hv, ha with
        | [u, v], _, hv, ha =>
        have hu := hv u List.mem_cons_self
        have hvv := hv v (List.mem_cons_of_mem _ List.mem_cons_self)
        refine ⟨_, rfl, a, _, 0, _, rfl, rfl, SqT.of ha, rfl, ?_⟩
        refine ⟨u, rfl, hu, fun H1 r s1 hr1 => ⟨_, rfl, ?_⟩⟩
        have ha1 := s1 _ _ ha
        cases r with
        | false =>
          refine iteT ?_
          refine k H1 false s1 ⟨fun h => (nomatch h), fun h => ?_⟩
          obtain ⟨c, q, e, hc, hq⟩ := IsQv.of ha h
          injection e with e1 e2
          exact absurd (hr1.mpr ⟨c, q.1, e1, hc, hq.col, hq.nd, hq.srt⟩) (by decide)
        | true =>
          refine iteF ?_
          obtain ⟨c, cols, rfl, hc, h1, h3, h4⟩ := hr1.mp rfl
          have cok : ∀ c ∈ cols, PyData.strOk c = true := by
            rcases hu.tu (K := K) with ⟨c', xs', e, hc', _, hvs⟩ | ⟨hne, _⟩
            · injection e with e
              subst e
              rw [hc] at hc'
              injection hc' with hc'
              injection hc' with hc'
              subst hc'
              exact strs_ok K hvs h1
            · exact absurd hc (hne c _ rfl)
          have isq : IsQv H (.ref a) → ∃ z, v = .str z ∧ (z = "" ∨ (colS z = true ∧ z ∉ cols)) ∧ (z = "" → cols ≠ []) := fun h => by
            obtain ⟨c', q, e, hc', hq⟩ := IsQv.of ha h
            injection e with e1 e2
            injection e2 with e2 _
            injection e1 with e1
            subst e1
            rw [hc] at hc'
            injection hc' with hc'
            injection hc' with hc'
            have ec : cols = q.1 := map_str_inj hc'
            exact ⟨q.2, e2, by rw [ec]; exact hq.last, by rw [ec]; exact hq.some⟩
          have isq2 : ∀ z, v = .str z → (z = "" ∨ (colS z = true ∧ z ∉ cols)) → (z = "" → cols ≠ []) → IsQv H (.ref a) := fun z e g1 g2 => ⟨a, (cols, z), rfl, ⟨c, by rw [ha, e], hc⟩, ⟨h1, h3, h4, g1, g2⟩⟩
          rcases (hvv.same s1).tx (K := K) with ⟨z, rfl, hz⟩ | ⟨hne, t2, ty2, hk2⟩
          · refine ⟨_, rfl, a, _, 1, _, rfl, rfl, SqT.of ha1, rfl, _, _, .type "str", .type "str", true, rfl, .ty "str", .base (.str z), kit_ty (by decide +kernel), _, rfl, ?_⟩
            refine iteF ?_
            refine ⟨_, rfl, a, _, 1, _, rfl, rfl, SqT.of ha1, rfl, rfl, _, rfl, ?_⟩
            by_cases he : z = ""
            · rw [decide_eq_true (congrArg V.str he)]
              refine iteT ?_
              refine ⟨_, rfl, a, _, 0, _, rfl, rfl, SqT.of ha1, rfl, by show 0 ≤ sizeLine; decide, fun e0 he0 => ?_⟩
              have s3 := same_new (o := .tup []) he0
              refine ⟨.tuple (cols.map PyData.str), .tuple (([] : List Str).map PyData.str), .tup (SqT.of (s3 _ _ (s1 _ _ hc))) (dp_strs _), .tup (SqT.of upd_same) (dp_strs []), shaped_tuple cok, shaped_tuple (fun c hc => nomatch hc), ?_⟩
              rw [PyData.eqv, eqv_strs]
              refine k _ _ (s1.trans s3) ?_
              by_cases hn : cols = []
              · rw [decide_eq_true hn]
                refine ⟨fun h => (nomatch h), fun h => ?_⟩
                obtain ⟨y, e, _, g⟩ := isq h
                injection e with e
                exact absurd hn (g (by rw [← e]; exact he))
              · rw [decide_eq_false hn]
                exact ⟨fun _ => isq2 z rfl (.inl he) fun _ => hn, fun _ => rfl⟩
            · rw [decide_eq_false (fun h => he (by injection h))]
              refine iteF ?_
              refine ⟨_, rfl, a, _, 1, _, rfl, rfl, SqT.of ha1, rfl, ?_⟩
              refine ⟨.str z, rfl, (hvv.same s1).tx, fun H2 r2 s2 hr2 => ⟨_, rfl, ?_⟩⟩
              have e2 := hr2.1 z rfl
              subst e2
              have ha2 := s2 _ _ ha1
              have s12 := s1.trans s2
              cases hcz : colS z with
              | false =>
                refine iteF ?_
                refine k H2 false s12 ⟨fun h => (nomatch h), fun h => ?_⟩
                obtain ⟨y, e, g, _⟩ := isq h
                injection e with e
                subst e
                rcases g with g | ⟨g, _⟩
                · exact absurd g he
                · rw [hcz] at g; cases g
              | true =>
                refine iteT ?_
                refine ⟨_, rfl, a, _, 1, _, rfl, rfl, SqT.of ha2, rfl, _, rfl, a, _, 0, _, rfl, rfl, SqT.of ha2, rfl, c, _, rfl, .inr (SqT.of (s12 _ _ hc)), rfl, flat_strs _, ?_⟩
                show Q (.bl (!inV (.str z) (cols.map V.str))) H2
                rw [inV_strs]
                refine k H2 _ s12 ?_
                by_cases hm : z ∈ cols
                · rw [decide_eq_true hm]
                  refine ⟨fun h => (nomatch h), fun h => ?_⟩
                  obtain ⟨y, e, g, _⟩ := isq h
                  injection e with e
                  subst e
                  exact absurd hm (g.resolve_left he).2
                · rw [decide_eq_false hm]
                  exact ⟨fun _ => isq2 z rfl (.inr ⟨hcz, hm⟩) fun h => absurd h he, fun _ => rfl⟩
          · refine ⟨_, rfl, a, _, 1, _, rfl, rfl, SqT.of ha1, rfl, _, _, .type t2, .type "str", false, rfl, .ty "str", ty2, kit_ty hk2, _, rfl, ?_⟩
            refine iteT ?_
            refine k H1 false s1 ⟨fun h => (nomatch h), fun h => ?_⟩
            obtain ⟨y, e, _⟩ := isq h
            exact absurd e (hne y)
      · rw [decide_eq_false (fun h => h2 (by injection h with h; omega))]
        refine iteT ?_
        refine k H false (Same.refl _) ⟨fun h => (nomatch h), fun h => ?_⟩
        obtain ⟨c, q, e, _⟩ := IsQv.of ha h
        rw [e] at h2
        exact absurd rfl h2
    · refine ⟨_, rfl, _, _, .type t, .type "tuple", false, rfl, .ty "tuple", ty, kit_ty hk, _, rfl, ?_⟩
      refine iteT ?_
      exact k H false (Same.refl _) ⟨fun h => (nomatch h), fun ⟨a, q, e, ⟨c, h, _⟩, _⟩ => absurd h (hne a _ e)⟩
end
end Qk
set_option maxRecDepth 100000
set_option maxHeartbeats 4000000
namespace Qk
open PySem PySem.Spec PyProof.Rows L2
section
variable {P : Program} {w : World} {K : PySem.W.Frag} {mg : Str → Option Value} {base : Heap}
def spOddW : Sp := fun vs H Q _ => ∃ (b l : Addr), vs = [.ref b] ∧ Bag H b l ∧ ∀ (H' : Hp) (v : V), WV 12 H' (old H) 1300000 21 v → Bag H' b l → Kp b H H' → Q v H'
abbrev nOddW : List Str := ["_law_bag_here", "_law_some", "_law_deep", "_law_k"]
theorem scOddW : FnScope nOddW ["_law_bag_here"] (defScope sOdd) := ⟨rfl, rfl, rfl, by decide +kernel, rfl, by decide +kernel, by decide +kernel⟩
theorem ok_oddW {f : Addr} {fd : FuncData} (F : Fun K "_law_odd" "_law_odd" sOdd f fd) (T : Txt K mg) (cO : Cal P w K mg base 2 "_law_one" ["_law_bag_here", "_law_some"] spOne) : FnOk P w K mg base CX0 3 f fd ["_law_bag_here"] spOddW := by
  refine F.ok scOddW (fun vs H Q E h => ?_) (fun cdv A outer s H vs Q E hr h => ?_)
  · obtain ⟨b, l, rfl, _⟩ := h
    rfl
  · obtain ⟨b, l, rfl, B, k⟩ := h
    have nd := scOddW.nd
    refine ⟨_, (pss_cons (ps_set (i := 1) nd rfl (by first | exact Or.inl rfl | exact Or.inr rfl) (pe_lst (show PA _ _ (tLits4 12 1300000 2 17) from (pa_lits4 (pe_lit4C pe_non (w4_non (by decide))) (pa_lits4 (pe_lit4C pe_bl (w4_bl _ (by decide))) (pa_lits4 (pe_lit4C pe_bl (w4_bl _ (by decide))) (pa_lits4 (pe_lit4C pe_int (w4_int _ (by decide +kernel) (by decide))) (pa_lits4 (pe_lit4Neg pe_int (by decide +kernel) (by decide)) (pa_lits4 (pe_lit4C pe_int (w4_int _ (by decide +kernel) (by decide))) (pa_lits4 (pe_lit4C pe_str (w4_str _ ⟨by decide +kernel, by decide, fun _ => by decide +kernel, by decide +kernel⟩ (by decide))) (pa_lits4 (pe_lit4C pe_str (w4_str _ ⟨by decide +kernel, by decide, fun _ => by decide +kernel, by decide +kernel⟩ (by decide))) (pa_lits4 (pe_lit4C pe_str (w4_str _ ⟨by decide +kernel, by decide, fun _ => by decide +kernel, by decide +kernel⟩ (by decide))) (pa_lits4 (pe_lit4le (c := 3) (n := 2) (pe_lit4T (c := 400050) (n := 1) (m := 0) pa_lits40) (by decide) (by decide)) (pa_lits4 (pe_lit4le (c := 3) (n := 2) (pe_lit4L (c := 400050) (n := 1) (m := 0) pa_lits40) (by decide) (by decide)) (pa_lits4 (pe_lit4D0 (by decide) (by decide)) (pa_lits4 (pe_lit4le (c := 400055) (n := 2) (pe_lit4T (c := 400050) (n := 1) (m := 1) (pa_lits4 (pe_lit4C pe_str (w4_str _ ⟨by decide +kernel, by decide, fun _ => by decide +kernel, by decide +kernel⟩ (by decide))) pa_lits40)) (by decide) (by decide)) (pa_lits4 (pe_lit4le (c := 400055) (n := 2) (pe_lit4L (c := 400050) (n := 1) (m := 1) (pa_lits4 (pe_lit4C pe_str (w4_str _ ⟨by decide +kernel, by decide, fun _ => by decide +kernel, by decide +kernel⟩ (by decide))) pa_lits40)) (by decide) (by decide)) (pa_lits4 (pe_lit4le (c := 800107) (n := 2) (pe_lit4T (c := 400050) (n := 1) (m := 2) (pa_lits4 (pe_lit4C pe_str (w4_str _ ⟨by decide +kernel, by decide, fun _ => by decide +kernel, by decide +kernel⟩ (by decide))) (pa_lits4 (pe_lit4C pe_str (w4_str _ ⟨by decide +kernel, by decide, fun _ => by decide +kernel, by decide +kernel⟩ (by decide))) pa_lits40))) (by decide) (by decide)) (pa_lits4 (pe_lit4le (c := 800107) (n := 2) (pe_lit4T (c := 400050) (n := 1) (m := 2) (pa_lits4 (pe_lit4C pe_str (w4_str _ ⟨by decide +kernel, by decide, fun _ => by decide +kernel, by decide +kernel⟩ (by decide))) (pa_lits4 (pe_lit4C pe_str (w4_str _ ⟨by decide +kernel, by decide, fun _ => by decide +kernel, by decide +kernel⟩ (by decide))) pa_lits40))) (by decide) (by decide)) (pa_lits4 (pe_lit4le (c := 800107) (n := 2) (pe_lit4T (c := 400050) (n := 1) (m := 2) (pa_lits4 (pe_lit4C pe_str (w4_str _ ⟨by decide +kernel, by decide, fun _ => by decide +kernel, by decide +kernel⟩ (by decide))) (pa_lits4 (pe_lit4C pe_str (w4_str _ ⟨by decide +kernel, by decide, fun _ => by decide +kernel, by decide +kernel⟩ (by decide))) pa_lits40))) (by decide) (by decide)) pa_lits40))))))))))))))))))))
      (pss_cons (ps_set (i := 1) nd rfl (by first | exact Or.inl rfl | exact Or.inr rfl) (pe_op op_cat (pv 1) (pe_lst (show PA _ _ (tLits4 12 1300000 2 7) from (pa_lits4 (pe_lit4le (c := 800107) (n := 2) (pe_lit4T (c := 400050) (n := 1) (m := 2) (pa_lits4 (pe_lit4le (c := 100015) (n := 1) (pe_lit4T (c := 100010) (n := 0) (m := 1) (pa_lits4 (pe_lit4C pe_str (w4_str _ ⟨by decide +kernel, by decide, fun _ => by decide +kernel, by decide +kernel⟩ (by decide))) pa_lits40)) (by decide) (by decide)) (pa_lits4 (pe_lit4C pe_str (w4_str _ ⟨by decide +kernel, by decide, fun _ => by decide +kernel, by decide +kernel⟩ (by decide))) pa_lits40))) (by decide) (by decide)) (pa_lits4 (pe_lit4le (c := 800107) (n := 2) (pe_lit4L (c := 400050) (n := 1) (m := 2) (pa_lits4 (pe_lit4le (c := 100015) (n := 1) (pe_lit4L (c := 100010) (n := 0) (m := 1) (pa_lits4 (pe_lit4C pe_str (w4_str _ ⟨by decide +kernel, by decide, fun _ => by decide +kernel, by decide +kernel⟩ (by decide))) pa_lits40)) (by decide) (by decide)) (pa_lits4 (pe_lit4C pe_str (w4_str _ ⟨by decide +kernel, by decide, fun _ => by decide +kernel, by decide +kernel⟩ (by decide))) pa_lits40))) (by decide) (by decide)) (pa_lits4 (pe_lit4le (c := 800107) (n := 2) (pe_lit4T (c := 400050) (n := 1) (m := 2) (pa_lits4 (pe_lit4le (c := 100015) (n := 1) (pe_lit4T (c := 100010) (n := 0) (m := 1) (pa_lits4 (pe_lit4C pe_str (w4_str _ ⟨by decide +kernel, by decide, fun _ => by decide +kernel, by decide +kernel⟩ (by decide))) pa_lits40)) (by decide) (by decide)) (pa_lits4 (pe_lit4C pe_str (w4_str _ ⟨by decide +kernel, by decide, fun _ => by decide +kernel, by decide +kernel⟩ (by decide))) pa_lits40))) (by decide) (by decide)) (pa_lits4 (pe_lit4le (c := 800107) (n := 2) (pe_lit4T (c := 400050) (n := 1) (m := 2) (pa_lits4 (pe_lit4le (c := 3) (n := 1) (pe_lit4T (c := 100010) (n := 0) (m := 0) pa_lits40) (by decide) (by decide)) (pa_lits4 (pe_lit4C pe_str (w4_str _ ⟨by decide +kernel, by decide, fun _ => by decide +kernel, by decide +kernel⟩ (by decide))) pa_lits40))) (by decide) (by decide)) (pa_lits4 (pe_lit4le (c := 800107) (n := 2) (pe_lit4T (c := 400050) (n := 1) (m := 2) (pa_lits4 (pe_lit4le (c := 3) (n := 1) (pe_lit4T (c := 100010) (n := 0) (m := 0) pa_lits40) (by decide) (by decide)) (pa_lits4 (pe_lit4C pe_str (w4_str _ ⟨by decide +kernel, by decide, fun _ => by decide +kernel, by decide +kernel⟩ (by decide))) pa_lits40))) (by decide) (by decide)) (pa_lits4 (pe_lit4le (c := 800107) (n := 2) (pe_lit4T (c := 400050) (n := 1) (m := 2) (pa_lits4 (pe_lit4le (c := 200027) (n := 1) (pe_lit4T (c := 100010) (n := 0) (m := 2) (pa_lits4 (pe_lit4C pe_str (w4_str _ ⟨by decide +kernel, by decide, fun _ => by decide +kernel, by decide +kernel⟩ (by decide))) (pa_lits4 (pe_lit4C pe_str (w4_str _ ⟨by decide +kernel, by decide, fun _ => by decide +kernel, by decide +kernel⟩ (by decide))) pa_lits40))) (by decide) (by decide)) (pa_lits4 (pe_lit4C pe_str (w4_str _ ⟨by decide +kernel, by decide, fun _ => by decide +kernel, by decide +kernel⟩ (by decide))) pa_lits40))) (by decide) (by decide)) (pa_lits4 (pe_lit4le (c := 800107) (n := 2) (pe_lit4T (c := 400050) (n := 1) (m := 2) (pa_lits4 (pe_lit4le (c := 200027) (n := 1) (pe_lit4T (c := 100010) (n := 0) (m := 2) (pa_lits4 (pe_lit4C pe_str (w4_str _ ⟨by decide +kernel, by decide, fun _ => by decide +kernel, by decide +kernel⟩ (by decide))) (pa_lits4 (pe_lit4C pe_str (w4_str _ ⟨by decide +kernel, by decide, fun _ => by decide +kernel, by decide +kernel⟩ (by decide))) pa_lits40))) (by decide) (by decide)) (pa_lits4 (pe_lit4C pe_str (w4_str _ ⟨by decide +kernel, by decide, fun _ => by decide +kernel, by decide +kernel⟩ (by decide))) pa_lits40))) (by decide) (by decide)) pa_lits40)))))))))))
      (pss_cons (ps_set (i := 1) nd rfl (by first | exact Or.inl rfl | exact Or.inr rfl) (pe_op op_cat (pv 1) (pe_lst (show PA _ _ (tLits4 12 1300000 2 6) from (pa_lits4 (pe_lit4le (c := 800107) (n := 2) (pe_lit4T (c := 400050) (n := 1) (m := 2) (pa_lits4 (pe_lit4le (c := 100015) (n := 1) (pe_lit4T (c := 100010) (n := 0) (m := 1) (pa_lits4 (pe_lit4C pe_str (w4_str _ ⟨by decide +kernel, by decide, fun _ => by decide +kernel, by decide +kernel⟩ (by decide))) pa_lits40)) (by decide) (by decide)) (pa_lits4 (pe_lit4C pe_non (w4_non (by decide))) pa_lits40))) (by decide) (by decide)) (pa_lits4 (pe_lit4le (c := 800107) (n := 2) (pe_lit4T (c := 400050) (n := 1) (m := 2) (pa_lits4 (pe_lit4C pe_str (w4_str _ ⟨by decide +kernel, by decide, fun _ => by decide +kernel, by decide +kernel⟩ (by decide))) (pa_lits4 (pe_lit4C pe_str (w4_str _ ⟨by decide +kernel, by decide, fun _ => by decide +kernel, by decide +kernel⟩ (by decide))) pa_lits40))) (by decide) (by decide)) (pa_lits4 (pe_lit4le (c := 800107) (n := 2) (pe_lit4T (c := 400050) (n := 1) (m := 2) (pa_lits4 (pe_lit4le (c := 100015) (n := 1) (pe_lit4T (c := 100010) (n := 0) (m := 1) (pa_lits4 (pe_lit4C pe_str (w4_str _ ⟨by decide +kernel, by decide, fun _ => by decide +kernel, by decide +kernel⟩ (by decide))) pa_lits40)) (by decide) (by decide)) (pa_lits4 (pe_lit4C pe_str (w4_str _ ⟨by decide +kernel, by decide, fun _ => by decide +kernel, by decide +kernel⟩ (by decide))) pa_lits40))) (by decide) (by decide)) (pa_lits4 (pe_lit4le (c := 800107) (n := 2) (pe_lit4T (c := 400050) (n := 1) (m := 2) (pa_lits4 (pe_lit4le (c := 100015) (n := 1) (pe_lit4T (c := 100010) (n := 0) (m := 1) (pa_lits4 (pe_lit4C pe_str (w4_str _ ⟨by decide +kernel, by decide, fun _ => by decide +kernel, by decide +kernel⟩ (by decide))) pa_lits40)) (by decide) (by decide)) (pa_lits4 (pe_lit4C pe_str (w4_str _ ⟨by decide +kernel, by decide, fun _ => by decide +kernel, by decide +kernel⟩ (by decide))) pa_lits40))) (by decide) (by decide)) (pa_lits4 (pe_lit4le (c := 800107) (n := 2) (pe_lit4T (c := 400050) (n := 1) (m := 2) (pa_lits4 (pe_lit4le (c := 100015) (n := 1) (pe_lit4T (c := 100010) (n := 0) (m := 1) (pa_lits4 (pe_lit4C pe_str (w4_str _ ⟨by decide +kernel, by decide, fun _ => by decide +kernel, by decide +kernel⟩ (by decide))) pa_lits40)) (by decide) (by decide)) (pa_lits4 (pe_lit4C pe_str (w4_str _ ⟨by decide +kernel, by decide, fun _ => by decide +kernel, by decide +kernel⟩ (by decide))) pa_lits40))) (by decide) (by decide)) (pa_lits4 (pe_lit4le (c := 800107) (n := 2) (pe_lit4T (c := 400050) (n := 1) (m := 2) (pa_lits4 (pe_lit4le (c := 200027) (n := 1) (pe_lit4T (c := 100010) (n := 0) (m := 2) (pa_lits4 (pe_lit4C pe_str (w4_str _ ⟨by decide +kernel, by decide, fun _ => by decide +kernel, by decide +kernel⟩ (by decide))) (pa_lits4 (pe_lit4C pe_str (w4_str _ ⟨by decide +kernel, by decide, fun _ => by decide +kernel, by decide +kernel⟩ (by decide))) pa_lits40))) (by decide) (by decide)) (pa_lits4 (pe_lit4C pe_str (w4_str _ ⟨by decide +kernel, by decide, fun _ => by decide +kernel, by decide +kernel⟩ (by decide))) pa_lits40))) (by decide) (by decide)) pa_lits40))))))))))
      (pss_cons (ps_set (i := 1) nd rfl (by first | exact Or.inl rfl | exact Or.inr rfl) (pe_op op_cat (pv 1) (pe_lst (show PA _ _ (tLits4 12 1300000 2 9) from (pa_lits4 (pe_lit4le (c := 1200159) (n := 2) (pe_lit4T (c := 400050) (n := 1) (m := 3) (pa_lits4 (pe_lit4le (c := 100015) (n := 1) (pe_lit4T (c := 100010) (n := 0) (m := 1) (pa_lits4 (pe_lit4C pe_str (w4_str _ ⟨by decide +kernel, by decide, fun _ => by decide +kernel, by decide +kernel⟩ (by decide))) pa_lits40)) (by decide) (by decide)) (pa_lits4 (pe_lit4C pe_str (w4_str _ ⟨by decide +kernel, by decide, fun _ => by decide +kernel, by decide +kernel⟩ (by decide))) (pa_lits4 (pe_lit4C pe_str (w4_str _ ⟨by decide +kernel, by decide, fun _ => by decide +kernel, by decide +kernel⟩ (by decide))) pa_lits40)))) (by decide) (by decide)) (pa_lits4 (pe_lit4le (c := 800107) (n := 2) (pe_lit4T (c := 400050) (n := 1) (m := 2) (pa_lits4 (pe_lit4le (c := 100015) (n := 1) (pe_lit4L (c := 100010) (n := 0) (m := 1) (pa_lits4 (pe_lit4C pe_str (w4_str _ ⟨by decide +kernel, by decide, fun _ => by decide +kernel, by decide +kernel⟩ (by decide))) pa_lits40)) (by decide) (by decide)) (pa_lits4 (pe_lit4C pe_str (w4_str _ ⟨by decide +kernel, by decide, fun _ => by decide +kernel, by decide +kernel⟩ (by decide))) pa_lits40))) (by decide) (by decide)) (pa_lits4 (pe_lit4Pow pe_int pe_int (by decide)) (pa_lits4 (pe_lit4Mul pe_str pe_int (by decide) (by decide) (by decide) (by decide) (by decide)) (pa_lits4 (pe_lit4D1 pe_str pe_int (by decide) (by decide)) (pa_lits4 (pe_lit4le (c := 400055) (n := 2) (pe_lit4L (c := 400050) (n := 1) (m := 1) (pa_lits4 (pe_lit4C pe_non (w4_non (by decide))) pa_lits40)) (by decide) (by decide)) (pa_lits4 (pe_lit4le (c := 400055) (n := 2) (pe_lit4L (c := 400050) (n := 1) (m := 1) (pa_lits4 (pe_lit4le (c := 3) (n := 1) (pe_lit4L (c := 100010) (n := 0) (m := 0) pa_lits40) (by decide) (by decide)) pa_lits40)) (by decide) (by decide)) (pa_lits4 (pe_lit4le (c := 800107) (n := 2) (pe_lit4T (c := 400050) (n := 1) (m := 2) (pa_lits4 (pe_lit4le (c := 3) (n := 1) (pe_lit4T (c := 100010) (n := 0) (m := 0) pa_lits40) (by decide) (by decide)) (pa_lits4 (pe_lit4C pe_non (w4_non (by decide))) pa_lits40))) (by decide) (by decide)) (pa_lits4 (pe_lit4le (c := 400055) (n := 2) (pe_lit4T (c := 400050) (n := 1) (m := 1) (pa_lits4 (pe_lit4C pe_str (w4_str _ ⟨by decide +kernel, by decide, fun _ => by decide +kernel, by decide +kernel⟩ (by decide))) pa_lits40)) (by decide) (by decide)) pa_lits40)))))))))))))
      (pss_cons (ps_expr (pe_bm PySem.F.plainAttrs_list PySem.F.slot_list_append PySem.F.type_list_append mt_append (pv 1) (pa_cons (show PE _ _ (tLit4 12 1300000 2) from (pe_lit4le (c := 800107) (n := 2) (pe_lit4T (c := 400050) (n := 1) (m := 2) (pa_lits4 (pe_lit4le (c := 100015) (n := 1) (pe_lit4T (c := 100010) (n := 0) (m := 1) (pa_lits4 (pe_lit4C pe_str (w4_str _ ⟨by decide +kernel, by decide, fun _ => by decide +kernel, by decide +kernel⟩ (by decide))) pa_lits40)) (by decide) (by decide)) (pa_lits4 (pe_lit4C pe_str (w4_str _ ⟨by decide +kernel, by decide, fun _ => by decide +kernel, by decide +kernel⟩ (by decide))) pa_lits40))) (by decide) (by decide))) pa_nil)))
      (pss_cons (ps_set (i := 2) nd rfl (by first | exact Or.inl rfl | exact Or.inr rfl) (show PE _ _ (tLit4 12 400050 1) from (pe_lit4le (c := 100015) (n := 1) (pe_lit4T (c := 100010) (n := 0) (m := 1) (pa_lits4 (pe_lit4C pe_str (w4_str _ ⟨by decide +kernel, by decide, fun _ => by decide +kernel, by decide +kernel⟩ (by decide))) pa_lits40)) (by decide) (by decide))))
      (pss_cons (ps_for PassesOwn.never rfl (pi_range1 (by rfl) T.range (pa_cons pe_int pa_nil)) (pg_name (i := 3) nd rfl (by first | exact Or.inl rfl | exact Or.inr rfl)) (pss_one (ps_set (i := 2) nd rfl (by first | exact Or.inl rfl | exact Or.inr rfl) (pe_tup (pa_cons (pv 2) pa_nil)))))
      (pss_one (ps_ret (pe_call cO.G hr rfl cO.m cO.kp cO.b .nil pass0 (pa_cons (pv 0) (pa_cons (pe_op op_cat (pv 1) (pe_lst (pa_cons (pv 2) pa_nil))) pa_nil)))))))))))), ?_⟩
    have dead : ∀ {H1 : Hp}, Same H H1 → ∀ {p : Addr}, H1 p = none → Same H (upd H1 p (.lst [])) := fun s p hp => s.trans (same_new hp)
    refine fun H1 v1 dd1 s1 l1 dw1 bw1 => ⟨by rw [l1, sizeLine_eq]; decide, fun p1 hp1 => ?_⟩
    have w1 : ∀ v ∈ v1, WV 12 H1 (old H) 1300000 2 v := fun v hv => by
      obtain ⟨d, hd, h⟩ := dw1.all v hv
      exact ⟨d, h, bw1 d hd⟩
    have t1 := s1.trans (same_new (o := .lst v1) hp1)
    refine ⟨_, rfl, fun H2 v2 dd2 s2 l2 dw2 bw2 => ⟨by rw [l2, sizeLine_eq]; decide, fun p2 hp2 => ?_⟩⟩
    have w2 : ∀ v ∈ v2, WV 12 H2 (old _) 1300000 2 v := fun v hv => by
      obtain ⟨d, hd, h⟩ := dw2.all v hv
      exact ⟨d, h, bw2 d hd⟩
    have n2 := same_new (o := .lst v2) hp2
    have a1 := n2 _ _ (s2 _ _ (upd_same (H := H1) (a := p1) (o := .lst v1)))
    refine ⟨p1, p2, v1, v2, rfl, rfl, a1, upd_same, by rw [l1, l2, sizeLine_eq]; decide, fun p3 hp3 => ?_⟩
    have n3 := same_new (o := .lst (v1 ++ v2)) hp3
    have t3 := t1.trans (s2.trans (n2.trans n3))
    have q3 : ∀ v ∈ v1 ++ v2, WV 12 (upd (upd H2 p2 (.lst v2)) p3 (.lst (v1 ++ v2))) (old H) 1300000 2 v := fun v hv => by
      rcases List.mem_append.mp hv with h | h
      · exact WV.same ((same_new hp1).trans (s2.trans (n2.trans n3))) (w1 v h)
      · exact WV.older t1 (WV.same (n2.trans n3) (w2 v h))
    have a3 : (upd (upd H2 p2 (.lst v2)) p3 (.lst (v1 ++ v2))) p3 = some (.lst (v1 ++ v2)) := upd_same
    have l3 : (v1 ++ v2).length = 17 + 7 := by rw [List.length_append, l1, l2]
    generalize upd (upd H2 p2 (.lst v2)) p3 (.lst (v1 ++ v2)) = H3 at t3 q3 a3 ⊢
    generalize v1 ++ v2 = v3 at q3 a3 l3 ⊢
    refine ⟨_, rfl, fun H4 v4 dd4 s4 l4 dw4 bw4 => ⟨by rw [l4, sizeLine_eq]; decide, fun p4 hp4 => ?_⟩⟩
    have w4 : ∀ v ∈ v4, WV 12 H4 (old _) 1300000 2 v := fun v hv => by
      obtain ⟨d, hd, h⟩ := dw4.all v hv
      exact ⟨d, h, bw4 d hd⟩
    have n4 := same_new (o := .lst v4) hp4
    refine ⟨p3, p4, v3, v4, rfl, rfl, n4 _ _ (s4 _ _ a3), upd_same, by rw [l3, l4, sizeLine_eq]; decide, fun p5 hp5 => ?_⟩
    have n5 := same_new (o := .lst (v3 ++ v4)) hp5
    have t5 := t3.trans (s4.trans (n4.trans n5))
    have q5 : ∀ v ∈ v3 ++ v4, WV 12 (upd (upd H4 p4 (.lst v4)) p5 (.lst (v3 ++ v4))) (old H) 1300000 2 v := fun v hv => by
      rcases List.mem_append.mp hv with h | h
      · exact WV.same (s4.trans (n4.trans n5)) (q3 v h)
      · exact WV.older t3 (WV.same (n4.trans n5) (w4 v h))
    have a5 : (upd (upd H4 p4 (.lst v4)) p5 (.lst (v3 ++ v4))) p5 = some (.lst (v3 ++ v4)) := upd_same
    have l5 : (v3 ++ v4).length = 17 + 7 + 6 := by rw [List.length_append, l3, l4]
    generalize upd (upd H4 p4 (.lst v4)) p5 (.lst (v3 ++ v4)) = H5 at t5 q5 a5 ⊢
    generalize v3 ++ v4 = v5 at q5 a5 l5 ⊢
    refine ⟨_, rfl, fun H6 v6 dd6 s6 l6 dw6 bw6 => ⟨by rw [l6, sizeLine_eq]; decide, fun p6 hp6 => ?_⟩⟩
    have w6 : ∀ v ∈ v6, WV 12 H6 (old _) 1300000 2 v := fun v hv => by
      obtain ⟨d, hd, h⟩ := dw6.all v hv
      exact ⟨d, h, bw6 d hd⟩
    have n6 := same_new (o := .lst v6) hp6
    refine ⟨p5, p6, v5, v6, rfl, rfl, n6 _ _ (s6 _ _ a5), upd_same, by rw [l5, l6, sizeLine_eq]; decide, fun p7 hp7 => ?_⟩
    have n7 := same_new (o := .lst (v5 ++ v6)) hp7
    have t7 := t5.trans (s6.trans (n6.trans n7))
    have q7 : ∀ v ∈ v5 ++ v6, WV 12 (upd (upd H6 p6 (.lst v6)) p7 (.lst (v5 ++ v6))) (fun c => old H c ∨ c = p7) 1300000 2 v := fun v hv => by
      refine WV.fresh hp7 ?_
      rcases List.mem_append.mp hv with h | h
      · exact WV.same (s6.trans n6) (q5 v h)
      · exact WV.older t5 (WV.same n6 (w6 v h))
    have a7 : (upd (upd H6 p6 (.lst v6)) p7 (.lst (v5 ++ v6))) p7 = some (.lst (v5 ++ v6)) := upd_same
    have l7 : (v5 ++ v6).length = 17 + 7 + 6 + 9 := by rw [List.length_append, l5, l6]
    have p7H : H p7 = none := by
      cases e : H p7 with
      | none => rfl
      | some o => rw [n6 _ _ (s6 _ _ (t5 _ _ e))] at hp7; cases hp7
    generalize upd (upd H6 p6 (.lst v6)) p7 (.lst (v5 ++ v6)) = H7 at t7 q7 a7 ⊢
    generalize v5 ++ v6 = v7 at q7 a7 l7 ⊢
    refine ⟨_, rfl, .inl ⟨rfl, _, SqL.of a7⟩, fun H8 x8 s8 w8 => ?_⟩
    have a8 := s8 _ _ a7
    refine ⟨p7, v7, _, rfl, rfl, a8, small1000 (by rw [l7]; decide), ?_⟩
    -- p7 is changed
    have p7o : ¬ old H p7 := fun ⟨o, e⟩ => by rw [p7H] at e; cases e
    have s9 : Same H (upd H8 p7 (.lst (v7 ++ [x8]))) := fun c o hc => by
      rw [upd_ne fun e => by rw [e, p7H] at hc; cases hc]
      exact s8 _ _ (t7 _ _ hc)
    have q9 : ∀ v ∈ v7 ++ [x8], WV 12 (upd H8 p7 (.lst (v7 ++ [x8]))) (fun c => old H c ∨ c = p7) 1300000 2 v := fun v hv => by
      refine WV.keep (A := fun c => old H c ∨ c = p7) (H := H8) (fun c o e na => ⟨by rw [upd_ne fun ec => na (.inr ec)]; exact e, na⟩) ?_
      rcases List.mem_append.mp hv with h | h
      · exact WV.same s8 (q7 v h)
      · rw [List.mem_singleton.mp h]
        refine WV.keep (fun c o e na => ⟨e, ?_⟩) w8
        rintro (⟨o', h'⟩ | h')
        · exact na ⟨o', t7 _ _ h'⟩
        · exact na ⟨_, by rw [h']; exact a7⟩
    have a9 : (upd H8 p7 (.lst (v7 ++ [x8]))) p7 = some (.lst (v7 ++ [x8])) := upd_same
    have l9 : (v7 ++ [x8]).length = 17 + 7 + 6 + 9 + 1 := by rw [List.length_append, l7]; rfl
    generalize upd H8 p7 (.lst (v7 ++ [x8])) = H9 at s9 q9 a9 ⊢
    generalize v7 ++ [x8] = v9 at q9 a9 l9 ⊢
    -- the deep one
    refine fun H10 x10 s10 w10 => ?_
    have a10 := s10 _ _ a9
    have w10' : WV 12 H10 (fun c => old H c ∨ c = p7) 400050 1 x10 := WV.keep (fun c o e na => ⟨e, by
      rintro (⟨o', h'⟩ | h')
      · exact na ⟨o', s9 _ _ h'⟩
      · exact na ⟨_, by rw [h']; exact a9⟩⟩) w10
    refine ⟨20, rfl, by decide, by decide, ?_⟩
    refine for_range (lo := 0) (n := 20) (fun i σ H' => ∃ v3 x, σ = [some (.ref b), some (.ref p7), some x, v3] ∧ Same H10 H' ∧ WV 12 H' (fun c => old H c ∨ c = p7) (400050 + 5 * i) (i + 1) x) ⟨_, _, rfl, Same.refl _, w10'⟩ ?_ ?_
    · rintro i σ H11 hi ⟨v3, x, rfl, s11, wx⟩
      refine ⟨_, rfl, by show 1 ≤ sizeLine; decide, fun u hu => ?_⟩
      have nu := same_new (o := .tup [x]) hu
      obtain ⟨d, g1, g2, g3⟩ := WV.same nu wx
      refine ⟨_, _, rfl, s11.trans nu, .tuple [d], .tup upd_same ?_ (by show 1 ≤ 12; decide) (.cons g1 .nil), by simp only [cost4, costAll4]; omega, ?_⟩
      · rintro (⟨o', h'⟩ | h')
        · rw [s11 _ _ (s10 _ _ (s9 _ _ h'))] at hu; cases hu
        · rw [h', s11 _ _ a10] at hu; cases hu
      · show max d.depth 0 + 1 ≤ i + 1 + 1
        have := Nat.max_le.mpr ⟨g3, Nat.zero_le (i + 1)⟩
        omega
    · rintro σ H11 ⟨v3, x, rfl, s11, wx⟩
      have a11 := s11 _ _ a10
      refine ⟨_, rfl, _, rfl, _, rfl, by show 1 ≤ sizeLine; decide, fun u hu => ?_⟩
      have nu := same_new (o := .lst [x]) hu
      refine ⟨p7, u, v9, [x], rfl, rfl, nu _ _ a11, upd_same, by rw [l9, sizeLine_eq]; show _ + 1 ≤ _; decide, fun z hz => ?_⟩
      have nz := same_new (o := .lst (v9 ++ [x])) hz
      have s13 : Same H (upd (upd H11 u (.lst [x])) z (.lst (v9 ++ [x]))) := s9.trans (s10.trans (s11.trans (nu.trans nz)))
      have zb : z ≠ b := by
        obtain ⟨o, e⟩ := B.at_
        exact fun ez => by rw [ez, nu _ _ (s11 _ _ (s10 _ _ (s9 _ _ e)))] at hz; cases hz
      refine ⟨b, l, z, _, rfl, B.same s13, zb, upd_same, by intro e; have := congrArg List.length e; rw [List.length_append] at this; simp at this, by rw [List.length_append, l9]; show _ + 1 < _; decide, fun v H14 hv B14 k14 => ?_⟩
      refine k H14 v ?_ B14 ((Kp.of s13).trans k14)
      have wv : WV 12 (upd (upd H11 u (.lst [x])) z (.lst (v9 ++ [x]))) (fun c => old H c ∨ c = p7) 1300000 21 v := by
        refine WV.same (nu.trans nz) ?_
        rcases List.mem_append.mp hv with h | h
        · exact WV.le (Nat.le_refl _) (by decide) (WV.same (s10.trans s11) (q9 v h))
        · rw [List.mem_singleton.mp h]
          exact WV.le (by decide) (Nat.le_refl _) wx
      refine WV.keep (fun c o e na => ?_) wv
      have nob : ¬ old H c := fun h => na (.inl h)
      refine ⟨k14 _ _ e fun ec => ?_, nob⟩
      obtain ⟨o', e'⟩ := B.at_
      exact nob ⟨o', by rw [ec]; exact e'⟩
theorem Flat.noSeq {H : Hp} {A : Addr → Prop} {x : V} (h : Flat H A x) : ∃ t : String, TyX K H x (.type t) ∧ kitB t "tuple" = some false ∧ kitB t "list" = some false := by
  rcases h with rfl | ⟨b, rfl⟩ | ⟨i, rfl⟩ | ⟨z, rfl, h1, h2⟩ | ⟨a, kvs, rfl, _, ha⟩
  · exact ⟨"NoneType", .base .non, by decide +kernel, by decide +kernel⟩
  · exact ⟨"bool", .base (.bl b), by decide +kernel, by decide +kernel⟩
  · exact ⟨"int", .base (.int i), by decide +kernel, by decide +kernel⟩
  · exact ⟨"str", .base (.str z), by decide +kernel, by decide +kernel⟩
  · exact ⟨"dict", .base (.dK ha), by decide +kernel, by decide +kernel⟩
def spBentW (n : Nat) : Sp := fun vs H Q _ => ∃ (b l : Addr) (x : V) (A : Addr → Prop) (m c : Nat), vs = [.ref b, x] ∧ Bag H b l ∧ A b ∧ Out H A ∧ WV m H A c n x ∧ 12 ≤ m ∧ m ≤ 30 ∧ ∀ (H' : Hp) (v : V), WV (m + 1) H' A (2 * c + 1300000) (n + 21) v → Bag H' b l → Kp b H H' → Q v H'
abbrev nBent : List Str := ["_law_bag_here", "_law_thing", "_law_way", "_law_found", "_law_at"]
theorem scBent : FnScope nBent ["_law_bag_here", "_law_thing"] (defScope sBent) := ⟨rfl, rfl, rfl, by decide +kernel, rfl, by decide +kernel, by decide +kernel⟩
def BJ (b l a : Addr) (j q M N L C : Nat) (A : Addr → Prop) (H1 : Hp) (g : Prop) (σ : L2.St) (H' : Hp) : Prop := ∃ (p : Addr) (ys : List V) (ds : List PyData), σ = [some (.ref b), some (.ref a), some (.int (j : Int)), some (.ref p), some (.int (q : Int))] ∧ H1 p = none ∧ H' p = some (.lst ys) ∧ ys.length ≤ L ∧ (g → q < ys.length) ∧ Bag H' b l ∧ Kp b H1 H' ∧ p ≠ b ∧ p ≠ sysModules ∧ D4A M H' (fun c => A c ∨ c = p) ys ds ∧ costAll4 ds ≤ C ∧ PyData.depthAll ds ≤ N
theorem bj_put {b l p : Addr} {M : Nat} {A : Addr → Prop} {H2 H5 : Hp} {o : HO} (hp : H2 p = none) (npb : p ≠ b) (npl : p ≠ l) (B5 : Bag H5 b l) (k : Kp b H2 H5) : Bag (upd H5 p o) b l ∧ Kp b H2 (upd H5 p o) ∧ ∀ ds ys, D4A M H5 (fun c => A c ∨ c = p) ys ds → D4A M (upd H5 p o) (fun c => A c ∨ c = p) ys ds :=
  ⟨B5.upd npb.symm npl.symm, fun c u hc nb => by
    rw [upd_ne (ne_of_none hc hp)]
    exact k c u hc nb, fun ds ys hy => D4A.keep (fun c u e na => ⟨by rw [upd_ne fun ec => na (.inr ec)]; exact e, na⟩) ds ys hy⟩
theorem bent_step {f : Addr} {fd : FuncData} {n kk : Nat} {spR : Sp} (F : Fun K "_law_bent" "_law_bent" sBent f fd) (T : Txt K mg) (cT : Cal P w K mg base 1 "_law_take" ["_law_bag_here", "_law_upto"] spTake) (cO : Cal P w K mg base 3 "_law_odd" ["_law_bag_here"] spOddW)
    (cR : Cal P w K mg base kk "_law_bent" ["_law_bag_here", "_law_thing"] spR) (hk3 : 3 ≤ kk) (hR : ∀ m, n = m + 1 → ∀ vs H Q, spBentW m vs H Q E0 → spR vs H Q E0) : FnOk P w K mg base CX0 (kk + 1) f fd ["_law_bag_here", "_law_thing"] (spBentW n) := by
  refine F.ok scBent (fun vs H Q E h => ?_) (fun cdv AA outer s H vs Q E hr h => ?_)
  · obtain ⟨b, l, x, A, m, c, rfl, _⟩ := h
    rfl
  · obtain ⟨b, l, x, A, m, cc, rfl, B, Ab, oA, hx, hm1, hm2, k⟩ := h
    have nd := scBent.nd
    have hr1 : Room 1 _ := hr.mono (by omega)
    have hr3 : Room 3 _ := hr.mono (by omega)
    refine ⟨_, (pss_cons (ps_set (i := 2) nd rfl (by first | exact Or.inl rfl | exact Or.inr rfl) (pe_call cT.G hr1 rfl cT.m cT.kp cT.b .nil pass0 (pa_cons (pv 0) (pa_cons pe_int pa_nil))))
      (pss_cons (ps_if (PW.pt (pw_or (pt_cmpR op_eq (pv 2) pe_int (nomark _)) (pw_or (pt_not (pt_val (pe_callB call_isiT (by rfl) T.isinstance (by decide +kernel) (pa_cons (pv 1) (pa_cons (pe_tup (pa_cons (pe_bltn (v := .ty "tuple") (by rfl) T.tuple (by decide +kernel) rfl) (pa_cons (pe_bltn (v := .ty "list") (by rfl) T.list (by decide +kernel) rfl) pa_nil))) pa_nil))))) (pw_or1 (pt_cmpR op_eq (pe_callB call_len_seq (by rfl) T.len PySem.boot_len (pa_cons (pv 1) pa_nil)) pe_int (nomark _)))))) (pss_one (ps_ret (pe_call cO.G hr3 rfl cO.m cO.kp cO.b .nil pass0 (pa_cons (pv 0) pa_nil)))) pss_nil)
      (pss_cons (ps_par (i := 3) (j := 4) rfl nd rfl rfl (by decide) rfl rfl (pa_cons (pe_callTy call_list_ofN (by rfl) T.list (by decide +kernel) (pa_cons (pv 1) pa_nil)) (pa_cons (pe_call cT.G hr1 rfl cT.m cT.kp cT.b .nil pass0 (pa_cons (pv 0) (pa_cons (pe_callB call_len_seq (by rfl) T.len PySem.boot_len (pa_cons (pv 1) pa_nil)) pa_nil))) pa_nil)) rfl)
      (Evl.pss_cut (ps_if (pt_cmpR op_lt (pv 2) pe_int (nomark _)) (pss_one (ps_asg (pe_call cR.G hr rfl cR.m cR.kp cR.b .nil pass0 (pa_cons (pv 0) (pa_cons (pe_ix ix_list (pv 3) (pv 4) fun _ _ => rfl) pa_nil))) (pg_sub (pv 3) (pv 4) set_list))) pss_nil)
      (Evl.pss_cut (ps_if (pt_cmpR op_eq (pv 2) pe_int (nomark _)) (pss_one (ps_expr (pe_bm PySem.F.plainAttrs_list PySem.F.slot_list_pop PySem.F.type_list_pop mt_popAt (pv 3) (pa_cons (pv 4) pa_nil)))) pss_nil)
      (Evl.pss_cut (ps_if (pt_cmpR op_eq (pv 2) pe_int (nomark _)) (pss_one (ps_expr (pe_bm PySem.F.plainAttrs_list PySem.F.slot_list_insert PySem.F.type_list_insert mt_insert (pv 3) (pa_cons (pv 4) (pa_cons (pe_ix ix_list (pv 3) (pv 4) fun _ _ => rfl) pa_nil))))) pss_nil)
      (Evl.pss_cut (ps_if (pt_cmpR op_eq (pv 2) pe_int (nomark _)) (pss_one (ps_set (i := 3) nd rfl (by first | exact Or.inl rfl | exact Or.inr rfl) (pe_revLN (pv 3)))) pss_nil)
      (pss_cons (ps_if (pt_cmpR op_eq (pv 2) pe_int (nomark _)) (pss_one (ps_ret (pe_ifExp (pt_val (pe_callB call_isi (by rfl) T.isinstance (by decide +kernel) (pa_cons (pv 1) (pa_cons (pe_bltn (v := .ty "list") (by rfl) T.list (by decide +kernel) rfl) pa_nil)))) (pe_callTy call_tuple_of (by rfl) T.tuple (by decide +kernel) (pa_cons (pv 3) pa_nil)) (pv 3)))) pss_nil)
      (pss_one (ps_ret (pe_ifExp (pt_val (pe_callB call_isi (by rfl) T.isinstance (by decide +kernel) (pa_cons (pv 1) (pa_cons (pe_bltn (v := .ty "list") (by rfl) T.list (by decide +kernel) rfl) pa_nil)))) (pv 3) (pe_callTy call_tuple_of (by rfl) T.tuple (by decide +kernel) (pa_cons (pv 3) pa_nil))))))))))))), ?_⟩
    refine ⟨_, rfl, b, l, 8, rfl, B, by decide, by decide, fun j H1 hj B1 k1 => ?_⟩
    have hA1 : ∀ c o, H c = some o → ¬ A c → H1 c = some o := fun c o e na => k1 c o e fun ec => na (by rw [ec]; exact Ab)
    have hx1 : WV m H1 A cc n x := WV.keep (fun c o e na => ⟨hA1 c o e na, na⟩) hx
    have oA1 : Out H1 A := fun c hc => by
      obtain ⟨o, e⟩ := oA c hc
      by_cases ec : c = b
      · obtain ⟨o', e'⟩ := B1.at_
        exact ⟨o', by rw [ec]; exact e'⟩
      · exact ⟨o, k1 _ _ e ec⟩
    -- odd
    have odd : ∀ {H2 : Hp}, Same H1 H2 → spOddW ([V.ref b] ++ []) H2 Q E0 := fun {H2} s => ⟨b, l, rfl, B1.same s, fun H' v hv B' k' => by
      refine k H' v ?_ B' (k1.trans ((Kp.of s).trans k'))
      refine WV.wide (by omega) (WV.le (by omega) (by omega) (WV.keep (fun c o e na => ⟨e, fun ha => ?_⟩) hv))
      obtain ⟨o', e'⟩ := oA1 c ha
      exact na ⟨o', s _ _ e'⟩⟩
    refine ⟨_, rfl, rfl, _, rfl, ?_⟩
    show if decide (V.int (j : Int) = V.int 0) = true then _ else _
    by_cases j0 : j = 0
    · rw [decide_eq_true (by rw [j0]; rfl)]
      refine iteT ?_
      refine iteT ?_
      exact ⟨_, rfl, odd (Same.refl _)⟩
    rw [decide_eq_false (fun h => j0 (by injection h with h; omega))]
    refine iteF ?_
    refine ⟨_, rfl, by show 2 ≤ sizeLine; decide, fun tp htp => ?_⟩
    have s2 := same_new (o := .tup [.ty "tuple", .ty "list"]) htp
    have flat : Flat H1 A x → ∃ t : String, TyX K (upd H1 tp (.tup [.ty "tuple", .ty "list"])) x (.type t) ∧ PySem.W.kitAny K (.type t) [.type "tuple", .type "list"] = some false := fun h => by
      obtain ⟨t, ty, k1, k2⟩ := Flat.noSeq (K := K) (Flat.keep (fun c o e na => ⟨s2 c o e, na⟩) h)
      exact ⟨t, ty, kitAny_cons (b := false) (kit_ty k1) (fun _ => kitAny_cons (b := false) (kit_ty k2) (fun _ => rfl) (fun h => nomatch h)) (fun h => nomatch h)⟩
    have hfl : Flat H1 A x ∨ ∃ n', n = n' + 1 ∧ ∃ a xs, x = .ref a ∧ ¬ A a ∧ (H1 a = some (.lst xs) ∨ H1 a = some (.tup xs)) ∧ xs.length ≤ m ∧ ∃ ds, D4A m H1 A xs ds ∧ costAll4 ds + 3 ≤ cc ∧ PyData.depthAll ds ≤ n' := by
      obtain ⟨d, hd, hc, hn⟩ := hx1
      cases hd with
      | non => exact .inl (.inl rfl)
      | bl b => exact .inl (.inr (.inl ⟨_, rfl⟩))
      | int i hi => exact .inl (.inr (.inr (.inl ⟨_, rfl⟩)))
      | str z hz => exact .inl (.inr (.inr (.inr (.inl ⟨_, rfl, hz.2.1, hz.2.2.1⟩))))
      | lst h1 h2 h3 h4 h5 =>
        rename_i a xs ds
        have hn' : PyData.depthAll ds + 1 ≤ n := hn
        have hc' : costAll4 ds + 3 ≤ cc := by simp only [cost4] at hc; exact hc
        cases n with
        | zero => omega
        | succ n' => exact .inr ⟨n', rfl, a, xs, rfl, h2, .inl h1, h4, ds, h5, hc', by omega⟩
      | tup h1 h2 h4 h5 =>
        rename_i a xs ds
        have hn' : PyData.depthAll ds + 1 ≤ n := hn
        have hc' : costAll4 ds + 3 ≤ cc := by simp only [cost4] at hc; exact hc
        cases n with
        | zero => omega
        | succ n' => exact .inr ⟨n', rfl, a, xs, rfl, h2, .inr h1, h4, ds, h5, hc', by omega⟩
      | dic0 h1 h2 => exact .inl (.inr (.inr (.inr (.inr ⟨_, _, rfl, h2, h1⟩))))
      | dic1 h1 h2 => exact .inl (.inr (.inr (.inr (.inr ⟨_, _, rfl, h2, h1⟩))))
    rcases hfl with hf | ⟨n', rfl, a, xs, rfl, na, ha1, hl, ds, hxs, hcd, hdd⟩
    · obtain ⟨t, ty, kk⟩ := flat hf
      refine ⟨_, tp, _, .type t, [.type "tuple", .type "list"], false, rfl, upd_same, .cons (.ty "tuple") (.cons (.ty "list") .nil), ty, kk, _, rfl, ?_⟩
      refine iteT ?_
      exact ⟨_, rfl, odd s2⟩
    have ha2 : (upd H1 tp (.tup [.ty "tuple", .ty "list"])) a = some (.lst xs) ∨ (upd H1 tp (.tup [.ty "tuple", .ty "list"])) a = some (.tup xs) := ha1.imp (s2 _ _) (s2 _ _)
    have hisT : ∃ t : String, TyX K (upd H1 tp (.tup [.ty "tuple", .ty "list"])) (.ref a) (.type t) ∧ PySem.W.kitAny K (.type t) [.type "tuple", .type "list"] = some true ∧ (t = "list" ∨ t = "tuple") := by
      rcases ha2 with h | h
      · exact ⟨"list", .base (.lst h), kitAny_cons (b := false) (kit_ty (by decide +kernel)) (fun _ => kitAny_cons (b := true) (kit_ty (by decide +kernel)) (fun h => nomatch h) (fun _ => rfl)) (fun h => nomatch h), .inl rfl⟩
      · exact ⟨"tuple", .base (.tup h), kitAny_cons (b := true) (kit_ty (by decide +kernel)) (fun h => nomatch h) (fun _ => rfl), .inr rfl⟩
    obtain ⟨t, ty, kk, _⟩ := hisT
    refine ⟨_, tp, _, .type t, [.type "tuple", .type "list"], true, rfl, upd_same, .cons (.ty "tuple") (.cons (.ty "list") .nil), ty, kk, _, rfl, ?_⟩
    refine iteF ?_
    have sq2 : ∀ {H3 : Hp}, (H3 a = some (.lst xs) ∨ H3 a = some (.tup xs)) → SqL K H3 a xs ∨ SqT K H3 a xs := fun h => h.imp SqL.of SqT.of
    refine ⟨_, rfl, a, xs, rfl, sq2 ha2, rfl, _, rfl, ?_⟩
    show if decide (V.int (xs.length : Int) = V.int 0) = true then _ else _
    by_cases l0 : xs.length = 0
    · rw [decide_eq_true (by rw [l0]; rfl)]
      refine iteT ?_
      exact ⟨_, rfl, odd s2⟩
    rw [decide_eq_false (fun h => l0 (by injection h with h; omega))]
    refine iteF ?_
    have B2 := B1.same s2
    have oA2 : Out (upd H1 tp (.tup [.ty "tuple", .ty "list"])) A := fun c hc => by
      obtain ⟨o, e⟩ := oA1 c hc
      exact ⟨o, s2 _ _ e⟩
    have hxs2 : D4A m (upd H1 tp (.tup [.ty "tuple", .ty "list"])) A xs ds := D4A.keep (fun c o e na => ⟨s2 c o e, na⟩) ds xs hxs
    have k2 : Kp b H (upd H1 tp (.tup [.ty "tuple", .ty "list"])) := k1.trans (Kp.of s2)
    clear odd flat hxs hx1 oA1 hA1 s2
    generalize upd H1 tp (.tup [.ty "tuple", .ty "list"]) = H2 at ha2 sq2 B2 oA2 hxs2 k2 ⊢
    have nab : a ≠ b := fun e => na (by rw [e]; exact Ab)
    refine ⟨_, rfl, a, xs, rfl, sq2 ha2, fun p hp nsp => ?_⟩
    have s3 := same_new (o := .lst xs) hp
    have npb : p ≠ b := B2.ne hp
    have ha3 := ha2.imp (s3 _ _) (s3 _ _)
    have B3 : Bag (upd H2 p (.lst xs)) b l := B2.same s3
    refine ⟨_, rfl, _, rfl, a, xs, rfl, sq2 ha3, b, l, _, rfl, B3, by omega, by omega, fun q H4 hq B4 k4 => ?_⟩
    have hql : q < xs.length := by omega
    refine ⟨_, _, rfl, ?_⟩
    have ha4 : H4 a = some (.lst xs) ∨ H4 a = some (.tup xs) := ha3.imp (fun h => k4 _ _ h nab) (fun h => k4 _ _ h nab)
    have hp4 : H4 p = some (.lst xs) := k4 _ _ upd_same npb
    have k24 : Kp b H2 H4 := (Kp.new hp).trans k4
    have hxs4 : D4A m H4 (fun c => A c ∨ c = p) xs ds := D4A.keep (A := fun c => A c ∨ c = p) (H := upd H2 p (.lst xs)) (fun c o e na => ⟨k4 _ _ e fun ec => na (.inl (by rw [ec]; exact Ab)), na⟩) ds xs (D4A.keep (fun c u e na => ⟨by rw [upd_ne (ne_of_none e hp)]; exact e, fun ha => ha.elim na fun ec => ne_of_none e hp ec⟩) ds xs hxs2)
    have pA : ¬ A p := fun h => by
      obtain ⟨o, e⟩ := oA2 p h
      rw [hp] at e
      cases e
    refine ⟨BJ b l a j q (m + 1) (n' + 21) m (if j < 4 then 2 * cc + 1299997 else cc) A H2 True, ?_, ?_⟩
    · refine ⟨_, rfl, _, _, rfl, rfl, _, rfl, ?_⟩
      refine ite2 (fun hc => ?_) (fun _ => ?_)
      · refine ⟨_, rfl, _, rfl, _, rfl, p, xs, (q : Int), xs[q], rfl, rfl, SqL.of hp4, atI_nat (List.getElem?_eq_getElem hql), ?_⟩
        obtain ⟨dq', hdq, hdq4⟩ := hxs4.get (List.getElem?_eq_getElem hql)
        have hdqd := depthAll_mem hdd dq' (List.mem_of_getElem? hdq)
        have hsp := cost4_split hdq
        refine hR n' rfl _ _ _ ⟨b, l, xs[q], fun c => A c ∨ c = p, m, cost4 dq', rfl, B4, .inl Ab, ?_, ⟨dq', hdq4, Nat.le_refl _, hdqd⟩, hm1, hm2, fun H5 v ⟨dv, hv, hcv, hnv⟩ B5 k5 => ?_⟩
        · rintro c (hc | rfl)
          · obtain ⟨o, e⟩ := oA2 c hc
            by_cases ec : c = b
            · obtain ⟨o', e'⟩ := B4.at_
              exact ⟨o', by rw [ec]; exact e'⟩
            · exact ⟨o, k24 _ _ e ec⟩
          · exact ⟨_, hp4⟩
        have hp5 := k5 _ _ hp4 npb
        refine ⟨_, rfl, _, rfl, ?_⟩
        refine setIx q hp5 hql ?_
        obtain ⟨B6, k6, v6⟩ := bj_put (M := m + 1) (A := A) (o := .lst (xs.set q v)) hp npb (B2.nel hp).symm B5 (k24.trans k5)
        have h5 : D4A (m + 1) H5 (fun c => A c ∨ c = p) xs ds := D4A.wide (by omega) ds xs (D4A.keep (A := fun c => A c ∨ c = p) (H := H4) (fun c o e na => ⟨k5 _ _ e fun ec => na (.inl (by rw [ec]; exact Ab)), na⟩) ds xs hxs4)
        have eset : xs.set q v = xs.take q ++ v :: xs.drop (q + 1) := by rw [List.set_eq_take_append_cons_drop, if_pos hql]
        refine ⟨p, xs.set q v, ds.take q ++ dv :: ds.drop (q + 1), rfl, hp, upd_same, by rw [List.length_set]; exact hl, fun _ => by rw [List.length_set]; exact hql, B6, k6, npb, nsp, v6 _ _ ?_, ?_, ?_⟩
        · rw [eset]
          exact (h5.takeD q).app (.cons hv (h5.dropD (q + 1)))
        · have j4 : j < 4 := by
            have := of_decide_eq_true hc
            omega
          rw [if_pos j4, costAll4_app]
          simp only [costAll4]
          omega
        · refine depthAll_le fun d hd => ?_
          rcases List.mem_append.mp hd with h | h
          · exact Nat.le_trans (depthAll_mem hdd d (List.mem_of_mem_take h)) (by omega)
          rcases List.mem_cons.mp h with rfl | h
          · exact hnv
          · exact Nat.le_trans (depthAll_mem hdd d (List.mem_of_mem_drop h)) (by omega)
      · exact ⟨p, xs, ds, rfl, hp, hp4, hl, fun _ => hql, B4, k24, npb, nsp, D4A.wide (by omega) ds xs hxs4, by split <;> omega, by omega⟩
    · rintro σ5 H5 ⟨p, ys, ds, rfl, hp, hp5, hl5, hq5, B5, k25, npb, nsp, hy5, hc5, hd5⟩
      refine ⟨BJ b l a j q (m + 1) (n' + 21) m (if j < 4 then 2 * cc + 1299997 else cc) A H2 (j = 5), ?_, ?_⟩
      · refine ⟨_, rfl, rfl, _, rfl, ?_⟩
        show if decide (V.int (j : Int) = V.int 4) = true then _ else _
        by_cases j4 : j = 4
        · rw [decide_eq_true (by rw [j4]; rfl)]
          refine iteT ?_
          have hq' := hq5 trivial
          refine ⟨_, rfl, .inl ⟨rfl, _, SqL.of hp5⟩, _, rfl, p, ys, (q : Int), q, ys[q], rfl, rfl, hp5, by omega, by omega, by rw [seqIndex_of (by omega) (by omega)]; rfl, List.getElem?_eq_getElem hq', ?_⟩
          obtain ⟨B6, k6, v6⟩ := bj_put (M := m + 1) (A := A) (o := .lst (ys.eraseIdx q)) hp npb (B2.nel hp).symm B5 k25
          obtain ⟨dq', hdq, _⟩ := hy5.get (List.getElem?_eq_getElem hq')
          have hsp := cost4_split hdq
          refine ⟨p, ys.eraseIdx q, ds.take q ++ ds.drop (q + 1), rfl, hp, upd_same, Nat.le_trans (List.length_eraseIdx_le ..) hl5, fun h => by omega, B6, k6, npb, nsp, v6 _ _ ?_, ?_, ?_⟩
          · rw [List.eraseIdx_eq_take_drop_succ]
            exact (hy5.takeD q).app (hy5.dropD (q + 1))
          · rw [costAll4_app]
            omega
          · refine depthAll_le fun d hd => ?_
            rcases List.mem_append.mp hd with h | h
            · exact depthAll_mem hd5 d (List.mem_of_mem_take h)
            · exact depthAll_mem hd5 d (List.mem_of_mem_drop h)
        · rw [decide_eq_false (fun h => j4 (by injection h with h; omega))]
          refine iteF ?_
          exact ⟨p, ys, ds, rfl, hp, hp5, hl5, fun _ => hq5 trivial, B5, k25, npb, nsp, hy5, hc5, hd5⟩
      · rintro σ6 H6 ⟨p, ys, ds, rfl, hp, hp6, hl6, hq6, B6, k26, npb, nsp, hy6, hc6, hd6⟩
        refine ⟨BJ b l a j q (m + 1) (n' + 21) (m + 1) (2 * cc + 1299997) A H2 False, ?_, ?_⟩
        · refine ⟨_, rfl, rfl, _, rfl, ?_⟩
          show if decide (V.int (j : Int) = V.int 5) = true then _ else _
          by_cases j5 : j = 5
          · rw [decide_eq_true (by rw [j5]; rfl)]
            refine iteT ?_
            have hq' := hq6 j5
            refine ⟨_, rfl, .inl ⟨rfl, _, SqL.of hp6⟩, _, rfl, _, rfl, _, rfl, p, ys, (q : Int), ys[q], rfl, rfl, SqL.of hp6, atI_nat (List.getElem?_eq_getElem hq'), p, ys, (q : Int), ys[q], rfl, rfl, hp6, Nat.lt_of_lt_of_le (show ys.length < 1000 by omega) (by rw [sizeLine_eq]; decide), by omega, by omega, ?_⟩
            obtain ⟨B7, k7, v7⟩ := bj_put (M := m + 1) (A := A) (o := .lst (ys.take q ++ [ys[q]] ++ ys.drop q)) hp npb (B2.nel hp).symm B6 k26
            obtain ⟨dq', hdq, hdq4⟩ := hy6.get (List.getElem?_eq_getElem hq')
            have hsp := cost4_split hdq
            have hsp2 : costAll4 ds = costAll4 (ds.take q) + costAll4 (ds.drop q) := by rw [← costAll4_app, List.take_append_drop]
            refine ⟨p, ys.take q ++ [ys[q]] ++ ys.drop q, ds.take q ++ [dq'] ++ ds.drop q, rfl, hp, upd_same, by simp; omega, fun h => h.elim, B7, k7, npb, nsp, v7 _ _ (((hy6.takeD q).app (.cons hdq4 .nil)).app (hy6.dropD q)), ?_, ?_⟩
            · rw [costAll4_app, costAll4_app, costAll4_one]
              rw [if_neg (by omega)] at hc6
              omega
            · refine depthAll_le fun d hd => ?_
              rcases List.mem_append.mp hd with h | h
              · rcases List.mem_append.mp h with h | h
                · exact depthAll_mem hd6 d (List.mem_of_mem_take h)
                · rw [List.mem_singleton.mp h]
                  exact depthAll_mem hd6 _ (List.mem_of_getElem? hdq)
              · exact depthAll_mem hd6 d (List.mem_of_mem_drop h)
          · rw [decide_eq_false (fun h => j5 (by injection h with h; omega))]
            refine iteF ?_
            exact ⟨p, ys, ds, rfl, hp, hp6, by omega, fun h => h.elim, B6, k26, npb, nsp, hy6, by split at hc6 <;> omega, hd6⟩
        · rintro σ7 H7 ⟨p, ys, ds, rfl, hp, hp7, hl7, _, B7, k27, npb, nsp, hy7, hc7, hd7⟩
          refine ⟨BJ b l a j q (m + 1) (n' + 21) (m + 1) (2 * cc + 1299997) A H2 False, ?_, ?_⟩
          · refine ⟨_, rfl, rfl, _, rfl, ?_⟩
            show if decide (V.int (j : Int) = V.int 6) = true then _ else _
            by_cases j6 : j = 6
            · rw [decide_eq_true (by rw [j6]; rfl)]
              refine iteT ?_
              refine ⟨_, rfl, p, ys, rfl, SqL.of hp7, fun r hr nsr => ?_⟩
              have nrb : r ≠ b := B7.ne hr
              have hr2 : H2 r = none := by
                cases e : H2 r with
                | none => rfl
                | some o => rw [k27 _ _ e nrb] at hr; cases hr
              refine ⟨r, ys.reverse, ds.reverse, rfl, hr2, upd_same, by rw [List.length_reverse]; exact hl7, fun h => h.elim, B7.new hr, k27.trans (Kp.new hr), nrb, nsr, ?_, by rw [costAll4_rev]; exact hc7, depthAll_le fun d hd => depthAll_mem hd7 d (List.mem_reverse.mp hd)⟩
              refine D4A.keep (A := fun c => A c ∨ c = p) (H := H7) (fun c o e na => ⟨by rw [upd_ne (ne_of_none e hr)]; exact e, ?_⟩) _ _ hy7.rev
              rintro (h | h)
              · exact na (.inl h)
              · exact ne_of_none e hr h
            · rw [decide_eq_false (fun h => j6 (by injection h with h; omega))]
              refine iteF ?_
              exact ⟨p, ys, ds, rfl, hp, hp7, hl7, fun h => h.elim, B7, k27, npb, nsp, hy7, hc7, hd7⟩
          · rintro σ8 H8 ⟨p, ys, ds, rfl, hp, hp8, hl8, _, B8, k28, npb, nsp, hy8, hc8, hd8⟩
            have ha8 : H8 a = some (.lst xs) ∨ H8 a = some (.tup xs) := ha2.imp (fun h => k28 _ _ h nab) (fun h => k28 _ _ h nab)
            have pA8 : ¬ A p := fun h => by
              obtain ⟨o, e⟩ := oA2 p h
              rw [hp] at e
              cases e
            have it8 : D4A (m + 1) H8 A ys ds := D4A.keep (fun c o e na => ⟨e, fun h => na (.inl h)⟩) ds ys hy8
            have finL : Q (.ref p) H8 := k H8 (.ref p) ⟨.list ds, .lst hp8 pA8 nsp hl8 it8, by simp only [cost4]; omega, by show PyData.depthAll ds + 1 ≤ _; omega⟩ B8 (k2.trans k28)
            have finT : ∀ r, H8 r = none → Q (.ref r) (upd H8 r (.tup ys)) := fun r hr => by
              have nA : ¬ A r := fun h => by
                obtain ⟨o, e⟩ := oA2 r h
                rw [k28 _ _ e (B8.ne hr)] at hr
                cases hr
              exact k _ (.ref r) ⟨.tuple ds, .tup upd_same nA hl8 (D4A.keep (fun c o e na => ⟨same_new (o := .tup ys) hr c o e, na⟩) ds ys it8), by simp only [cost4]; omega, by show PyData.depthAll ds + 1 ≤ _; omega⟩ (B8.new hr) ((k2.trans k28).trans (Kp.new hr))
            refine ⟨_, rfl, rfl, _, rfl, ?_⟩
            show if decide (V.int (j : Int) = V.int 7) = true then _ else _
            have isl : ∃ (t : String) (bb : Bool), TyX K H8 (.ref a) (.type t) ∧ PySem.W.kitOne K (.type t) (.type "list") = some bb := by
              rcases ha8 with h | h
              · exact ⟨"list", true, .base (.lst h), kit_ty (by decide +kernel)⟩
              · exact ⟨"tuple", false, .base (.tup h), kit_ty (by decide +kernel)⟩
            obtain ⟨t', bb, ty', kk'⟩ := isl
            by_cases j7 : j = 7
            · rw [decide_eq_true (by rw [j7]; rfl)]
              refine iteT ?_
              refine ⟨_, rfl, _, _, .type t', .type "list", bb, rfl, .ty "list", ty', kk', _, rfl, ?_⟩
              cases bb with
              | true =>
                refine iteT ?_
                exact ⟨_, rfl, p, ys, rfl, .inl ⟨SqL.of hp8, finT⟩⟩
              | false =>
                refine iteF ?_
                exact ⟨_, rfl, finL⟩
            · rw [decide_eq_false (fun h => j7 (by injection h with h; omega))]
              refine iteF ?_
              refine ⟨_, rfl, _, _, .type t', .type "list", bb, rfl, .ty "list", ty', kk', _, rfl, ?_⟩
              cases bb with
              | true =>
                refine iteT ?_
                exact ⟨_, rfl, finL⟩
              | false =>
                refine iteF ?_
                exact ⟨_, rfl, p, ys, rfl, .inl ⟨SqL.of hp8, finT⟩⟩
theorem ok_bentW {f : Addr} {fd : FuncData} (F : Fun K "_law_bent" "_law_bent" sBent f fd) (T : Txt K mg) (cT : Cal P w K mg base 1 "_law_take" ["_law_bag_here", "_law_upto"] spTake) (cO : Cal P w K mg base 3 "_law_odd" ["_law_bag_here"] spOddW)
    (hm : mg "_law_bent" = some (.ref f)) (kp : PySem.W.keepIn K (.ref f) = true) (bd : Binds K fd ["_law_bag_here", "_law_thing"] []) : ∀ n, FnOk P w K mg base CX0 (4 + n) f fd ["_law_bag_here", "_law_thing"] (spBentW n)
  | 0 => bent_step (kk := 3) (spR := fun _ _ _ _ => False) F T cT cO ⟨f, fd, F.ok scBent (fun vs H Q E h => h.elim) (fun cdv AA outer s H vs Q E hr h => h.elim), hm, kp, bd⟩ (by decide) (fun m e => by omega)
  | n + 1 => bent_step (kk := 4 + n) (spR := spBentW n) F T cT cO ⟨f, fd, ok_bentW F T cT cO hm kp bd n, hm, kp, bd⟩ (by omega) (fun m e vs H Q h => by
      have : n = m := by omega
      rw [this]
      exact h)
/-- _law_alike of two tuples of the same things, whatever these are -/
def spAlikeT : Sp := fun vs H Q _ => ∃ (a b : Addr) (xs : List V) (d : PyData), vs = [.ref a, .ref b] ∧ H a = some (.tup xs) ∧ H b = some (.tup xs) ∧ (∀ z ∈ xs, selfV z = true) ∧ D3 H (.ref a) d ∧ D3 H (.ref b) d ∧ d.showable = true ∧ d.shown.length ≤ sizeLine ∧ d.depth ≤ 60 ∧ Q (.bl true) H
theorem scAlikeW : FnScope ["_law_found", "_law_due_here"] ["_law_found", "_law_due_here"] (defScope sAlike) := ⟨rfl, rfl, rfl, by decide +kernel, rfl, by decide +kernel, by decide +kernel⟩
theorem ok_alikeT {f : Addr} {fd : FuncData} (F : Fun K "_law_alike" "_law_alike" sAlike f fd) (T : Txt K mg) : FnG P w K mg base 1 f fd ["_law_found", "_law_due_here"] spAlikeT := by
  refine okG F scAlikeW (fun vs H Q E h => ?_) (fun cdv A outer s H vs Q E hr hg h => ?_)
  · obtain ⟨a, b, xs, d, rfl, _⟩ := h
    rfl
  · obtain ⟨a, b, xs, d, rfl, ha, hb, hx, h1, h2, hs, hl, hd, k⟩ := h
    have hu : A.units + 3 < cLine := by
      have := hr.un
      have e : (A.deeper (envOfC "_law_alike" (defScope sAlike) s.heap.objs.size f cdv)).units = A.units + 3 := rfl
      omega
    refine ⟨_, pss_one (ps_ret (pe_and (pe_cmpR (op_eqT hu) (pv 0) (pv 1) (nomark _)) (pe_one (pe_cmpR op_eq (pe_callB (call_reprW hg hr.units) (by rfl) T.repr (by decide +kernel) (pa_cons (pv 0) pa_nil))
      (pe_callB (call_reprW hg hr.units) (by rfl) T.repr (by decide +kernel) (pa_cons (pv 1) pa_nil)) (nomark _))))), ?_⟩
    refine ⟨_, rfl, _, rfl, a, b, xs, rfl, rfl, SqT.of ha, SqT.of hb, hx, _, rfl, ?_⟩
    refine iteT ?_
    refine ⟨_, rfl, .ref a, d, rfl, h1, hs, hl, hd, _, rfl, .ref b, d, rfl, h2, hs, hl, hd, rfl, ?_⟩
    show Q (.bl (decide (V.str d.shown = V.str d.shown))) H
    rw [decide_eq_true rfl]
    exact k
theorem FnG.or {k : Nat} {f : Addr} {fd : FuncData} {ps : List Str} {sp sp' : Sp} (F : FnG P w K mg base k f fd ps sp) (F' : FnG P w K mg base k f fd ps sp') : FnG P w K mg base k f fd ps (fun vs H Q E => sp vs H Q E ∨ sp' vs H Q E) :=
  ⟨fun vs H Q E z => z.elim (F.len vs H Q E) (F'.len vs H Q E), fun A outer s H args us vs Q E hr hg e b r z => z.elim (F.run A outer s H args us vs Q E hr hg e b r) (F'.run A outer s H args us vs Q E hr hg e b r)⟩
theorem D4.self {mx : Nat} {H : Hp} {A : Addr → Prop} {x : V} {d : PyData} (h : D4 mx H A x d) : selfV x = true := by
  cases h <;> rfl
end
end Qk
set_option maxRecDepth 100000
set_option maxHeartbeats 4000000
namespace Qk
open PySem PySem.Spec PyProof.Rows L2
section
variable {P : Program} {w : World} {K : PySem.W.Frag} {mg : Str → Option Value} {base : Heap}
theorem scRow : FnScope ["question", "columns", "last"] ["question"] (defScope sRow) := ⟨rfl, rfl, rfl, by decide +kernel, rfl, by decide +kernel, by decide +kernel⟩
theorem ok_row {f : Addr} {fd : FuncData} (F : Fun K "row_of" "row_of" sRow f fd) (T : Txt K mg) : FnOk P w K mg base CX0 1 f fd ["question"] spRow := by
  refine F.ok scRow (fun vs H Q E h => ?_) (fun cdv A outer s H vs Q E hr h => ?_)
  · obtain ⟨q, cols, e, rfl, _⟩ := h
    rfl
  · obtain ⟨q, cols, e, rfl, ⟨c, hq, hc⟩, Z, k⟩ := h
    have nd := scRow.nd
    refine ⟨_, pss_cons (ps_asg (pv 0) (pg_tup (by rfl) (pgs_cons (pg_name (i := 1) nd rfl (Or.inl rfl)) (pgs_cons (pg_name (i := 2) nd rfl (Or.inl rfl)) pgs_nil))))
      (pss_cons (ps_if (pt_cmpR op_eq (pv 2) pe_str (nomark _)) (pss_one (ps_ret (pv 1))) pss_nil)
      (pss_one (ps_ret (pe_tup (StX.pa_star (pv 1) (pa_cons (pv 2) pa_nil)))))), ?_⟩
    refine ⟨_, rfl, q, _, rfl, SqT.of hq, rfl, _, _, rfl, _, _, rfl, rfl, _, rfl, rfl, _, rfl, ?_⟩
    by_cases he : e = ""
    · rw [decide_eq_true (congrArg V.str he)]
      refine iteT ?_
      refine ⟨_, rfl, k c H (Same.refl _) ?_⟩
      unfold rowC
      rw [if_pos he]
      exact hc
    · rw [decide_eq_false (fun h => he (by injection h))]
      refine iteF ?_
      have hz := Z.le
      rw [if_neg he] at hz
      refine ⟨_, rfl, c, _, rfl, .inl (SqT.of hc), _, rfl, ?_, fun d1 hd1 => ?_⟩
      · show (cols.map V.str ++ [V.str e]).length ≤ sizeLine
        rw [List.length_append, List.length_map, sizeLine_eq]
        simp
        omega
      refine k d1 _ (same_new hd1) ?_
      unfold rowC
      rw [if_neg he, List.map_append]
      exact upd_same
theorem scCols : FnScope ["question"] ["question"] (defScope sCols) := ⟨rfl, rfl, rfl, by decide +kernel, rfl, by decide +kernel, by decide +kernel⟩
theorem ok_cols {f : Addr} {fd : FuncData} (F : Fun K "columns_of" "columns_of" sCols f fd) (T : Txt K mg) (cR : Cal P w K mg base 1 "row_of" ["question"] spRow) : FnOk P w K mg base CX0 2 f fd ["question"] spCols := by
  refine F.ok scCols (fun vs H Q E h => ?_) (fun cdv A outer s H vs Q E hr h => ?_)
  · obtain ⟨q, cols, e, rfl, _⟩ := h
    rfl
  · obtain ⟨q, cols, e, rfl, hq, Z, k⟩ := h
    refine ⟨_, pss_one (ps_ret (pe_callTy call_tuple_of (by rfl) T.tuple (by decide +kernel) (pa_cons (pe_callB cr_sortedST (by rfl) T.sorted (by decide +kernel)
      (pa_cons (pe_call cR.G hr rfl cR.m cR.kp cR.b .nil pass0 (pa_cons (pv 0) pa_nil)) pa_nil)) pa_nil))), ?_⟩
    refine ⟨_, rfl, q, cols, e, rfl, hq, Z, fun t H1 s1 ht => ⟨t, rowC cols e, rfl, .inr (SqT.of ht), by have := Z.row_le; omega, fun us d2 hu2 hs2 hd2 => ⟨d2, _, rfl, .inl ⟨SqL.of upd_same, fun d3 hd3 => ?_⟩⟩⟩⟩
    refine k d3 _ (s1.trans ((same_new hd2).trans (same_new hd3))) ?_
    have eu : us = allC cols e := by
      rw [srt_eq hu2 hs2]
      unfold allC rowC
      split
      · exact srt_self Z.m.srt
      · rfl
    rw [eu]
    exact upd_same
theorem esz {cols : List Str} {e : Str} (Z : QZ cols e) : e.cps.size ≤ 1000 ∧ PyData.strOk e = true := by
  rcases Z.m.esub with rfl | h
  · exact ⟨by decide, by decide +kernel⟩
  · exact ⟨menu_sz _ h, menu_ok _ h⟩
/-- a question of the menu as a value of any kind -/
theorem spv_q {H : Hp} {t : Addr} {cols : List Str} {e : Str} (h : QAt H t cols e) (Z : QZ cols e) : SpV H (.ref t) := by
  obtain ⟨c, h1, h2⟩ := h
  refine ⟨fun _ => False, 2, .inr ⟨t, _, rfl, id, .inr h1, by show 2 ≤ 40; decide, fun y hy => ?_⟩⟩
  rcases List.mem_cons.mp hy with rfl | hy
  · refine .inr ⟨c, _, rfl, id, .inr h2, by rw [List.length_map]; exact Nat.le_trans Z.m.le (by decide), fun y hy => ?_⟩
    obtain ⟨z, hz, rfl⟩ := List.mem_map.mp hy
    exact fl_str (Nat.le_trans (menu_sz _ (Z.m.sub _ hz)) (by decide)) (fun _ => menu_ok _ (Z.m.sub _ hz)) H _
  · rw [List.mem_singleton.mp hy]
    exact (fl_str (Nat.le_trans (esz Z).1 (by decide)) (fun _ => (esz Z).2) H _).va
theorem QZ.qc {q : Qd} (Z : QZ q.1 q.2) : QC q := ⟨fun c hc => menu_col c (Z.m.sub c hc), Z.m.nd, Z.m.srt, Z.m.esub.imp id fun h => ⟨menu_col _ h, Z.ne⟩, Z.m.some⟩
theorem FnOk.imp {CX : CXT} {k : Nat} {f : Addr} {fd : FuncData} {ps : List Str} {sp sp' : Sp} (F : FnOk P w K mg base CX k f fd ps sp) (h : ∀ vs H Q E, sp' vs H Q E → sp vs H Q E) : FnOk P w K mg base CX k f fd ps sp' :=
  ⟨fun vs H Q E z => F.len vs H Q E (h _ _ _ _ z), fun A outer s H args us vs Q E hr e b r z => F.run A outer s H args us vs Q E hr e b r (h _ _ _ _ z)⟩
/-- an Asked whose list stands at l -/
def HasQ (H : Hp) (C a l : Addr) (xs : List V) : Prop := ∃ dx : Addr, H a = some (.ins C dx [("_questions", .ref l)]) ∧ H l = some (.lst xs)
theorem HasQ.hasL {H : Hp} {C a l : Addr} {xs : List V} (h : HasQ H C a l xs) : HasL H C a "_questions" l xs := by
  obtain ⟨dx, h1, h2⟩ := h
  exact ⟨dx, _, h1, rfl, h2⟩
theorem HasQ.same {H H' : Hp} {C a l : Addr} {xs : List V} (s : Same H H') (h : HasQ H C a l xs) : HasQ H' C a l xs := by
  obtain ⟨dx, h1, h2⟩ := h
  exact ⟨dx, s _ _ h1, s _ _ h2⟩
def AsV (H : Hp) (C a : Addr) (zs : List Qd) : Prop := ∃ l ys, HasQ H C a l ys ∧ QL H ys zs
theorem AsV.same {H H' : Hp} {C a : Addr} {zs : List Qd} (s : Same H H') (h : AsV H C a zs) : AsV H' C a zs := by
  obtain ⟨l, ys, h1, h2⟩ := h
  exact ⟨l, ys, h1.same s, h2.same s⟩
theorem AsV.kp {H H' : Hp} {C a b l0 : Addr} {zs : List Qd} (B : Bag H b l0) (k : Kp b H H') (h : AsV H C a zs) : AsV H' C a zs := by
  obtain ⟨l, ys, ⟨dx, h1, h2⟩, h3⟩ := h
  have na : a ≠ b := fun e => by
    obtain ⟨g, m, p, ns, hb, _⟩ := B
    rw [e, hb] at h1
    cases h1
  exact ⟨l, ys, ⟨dx, k _ _ h1 na, k _ _ h2 (B.ne_refs h2 h3.refs)⟩, h3.kp B k⟩
theorem Dist.le {qs zs : List Qd} (D : Dist qs zs) : zs.length ≤ qs.length := nodup_leQ _ _ D.nd fun z hz => (D.mem z).mp hz
theorem asked_set {H2 : Hp} {x C dx d : Addr} {ys : List V} {zs : List Qd} (hx2 : H2 x = some (.ins C dx [])) (hyd : H2 d = some (.lst ys)) (hq : QL H2 ys zs) :
    AsV (upd H2 x (.ins C dx (putF "_questions" (.ref d) []))) C x zs ∧ ∀ b o, H2 b = some o → b ≠ x → (upd H2 x (.ins C dx (putF "_questions" (.ref d) []))) b = some o := by
  have dx_ : d ≠ x := fun e => by rw [e, hx2] at hyd; cases hyd
  have qk : ∀ {v : Addr} {r : Qd}, QAt H2 v r.1 r.2 → QAt (upd H2 x (.ins C dx (putF "_questions" (.ref d) []))) v r.1 r.2 := fun {v r} ⟨c0, g1, g2⟩ =>
    ⟨c0, by rw [upd_ne fun e => by rw [e, hx2] at g1; cases g1]; exact g1, by rw [upd_ne fun e => by rw [e, hx2] at g2; cases g2]; exact g2⟩
  exact ⟨⟨d, ys, ⟨dx, upd_same, by rw [upd_ne dx_]; exact hyd⟩, Paired.mapP hq fun y r ⟨v, e, z⟩ => ⟨v, e, qk z⟩⟩, fun b o hb nb => by rw [upd_ne nb]; exact hb⟩
theorem scAInit : FnScope ["self", "questions", "different"] ["self", "questions"] (defScope sAInit) := ⟨rfl, rfl, rfl, by decide +kernel, rfl, by decide +kernel, by decide +kernel⟩
theorem scALen : FnScope ["self"] ["self"] (defScope sALen) := ⟨rfl, rfl, rfl, by decide +kernel, rfl, by decide +kernel, by decide +kernel⟩
theorem ok_alen {f C : Addr} {fd : FuncData} (F : Fun K "__len__" "Asked.__len__" sALen f fd) (T : Txt K mg) (TC : TxA K mg C) : FnOk P w K mg base CX0 1 f fd ["self"] (spLenF C "_questions") := by
  refine F.ok scALen (fun vs H Q E h => ?_) (fun cdv A outer s H vs Q E hr h => ?_)
  · obtain ⟨a, dx, l, fs, xs, rfl, _⟩ := h
    rfl
  · obtain ⟨a, dx, l, fs, xs, rfl, ha, hl, hx, k⟩ := h
    refine ⟨_, pss_one (ps_ret (pe_callB call_len_seq (by rfl) T.len PySem.boot_len (pa_cons (pe_fld (pv 0) rfl) pa_nil))), ?_⟩
    exact ⟨_, rfl, a, C, dx, fs, _, rfl, ha, TC.cl, TC.nQ, hl, l, xs, rfl, .inl (SqL.of hx), k⟩
theorem scAIter : FnScope ["self"] ["self"] (defScope sAIter) := ⟨rfl, rfl, rfl, by decide +kernel, rfl, by decide +kernel, by decide +kernel⟩
theorem ok_aitr {f C : Addr} {fd : FuncData} (F : Fun K "__iter__" "Asked.__iter__" sAIter f fd) (T : Txt K mg) (TC : TxA K mg C) : FnS P w K mg base 1 f fd ["self"] (spIterF C "_questions") := by
  refine okN F scAIter (fun n vs H Q E h => ?_) (fun cdv A outer s H vs Q E hr h => ?_)
  · obtain ⟨a, dx, l, fs, xs, rfl, _⟩ := h
    rfl
  · obtain ⟨a, dx, l, fs, xs, rfl, ha, hl, hx, k⟩ := h
    refine ⟨_, pss_one (ps_ret (pe_callB ItX.call_iterN (by rfl) T.iter (by decide +kernel) (pa_cons (pe_fld (pv 0) rfl) pa_nil))), ?_⟩
    exact ⟨_, rfl, a, C, dx, fs, _, rfl, ha, TC.cl, TC.nQ, hl, l, xs, rfl, SqL.of hx, fun it h1 h2 => k it h1 h2⟩
/-- == of two Asked -/
def spAEq (C : Addr) : Sp := fun vs H Q _ => ∃ (a b : Addr) (qs rs : List Qd), vs = [.ref a, .ref b] ∧ AsV H C a qs ∧ AsV H C b rs ∧ QZs qs ∧ QZs rs ∧ qs.length ≤ 300 ∧ rs.length ≤ 300 ∧ Q (.bl (decide (qs = rs))) H
theorem scAEq : FnScope ["self", "other"] ["self", "other"] (defScope sAEq) := ⟨rfl, rfl, rfl, by decide +kernel, rfl, by decide +kernel, by decide +kernel⟩
theorem QZs.fine' {qs : List Qd} (h : QZs qs) : ∀ q ∈ qs, Qfine q := fun q hq => (h q hq).fine
theorem ok_aeq {f C : Addr} {fd : FuncData} (F : Fun K "__eq__" "Asked.__eq__" sAEq f fd) (T : Txt K mg) (TC : TxA K mg C) : FnOk P w K mg base CX0 1 f fd ["self", "other"] (spAEq C) := by
  refine F.ok scAEq (fun vs H Q E h => ?_) (fun cdv A outer s H vs Q E hr h => ?_)
  · obtain ⟨a, b, qs, rs, rfl, _⟩ := h
    rfl
  · obtain ⟨a, b, qs, rs, rfl, ⟨l, xs, ⟨dx, ha, hl⟩, hq⟩, ⟨m, ys, ⟨dy, hb, hm⟩, hr'⟩, fq, fr, lq, lr, k⟩ := h
    refine ⟨_, pss_one (ps_ret (pe_and (pe_callB call_isi (by rfl) T.isinstance (by decide +kernel) (pa_cons (pv 1) (pa_cons (pe_glob (v := .ref C) rfl TC.mgC rfl) pa_nil))) (pe_one (pe_cmpR (op_eqD hr.units) (pe_fld (pv 0) rfl) (pe_fld (pv 1) rfl) (nomark _))))), ?_⟩
    refine ⟨_, rfl, _, _, .ref C, .ref C, true, rfl, .own C, TC.ty hb, kit_self, _, rfl, ?_⟩
    refine iteT ?_
    refine ⟨_, rfl, a, C, dx, _, _, rfl, ha, TC.cl, TC.nQ, rfl, _, rfl, b, C, dy, _, _, rfl, hb, TC.cl, TC.nQ, rfl, ?_⟩
    refine ⟨.list (qs.map dq), .list (rs.map dq), .lst (SqL.of hl) hq.dp, .lst (SqL.of hm) hr'.dp, (dok_qs3 fq.fine' lq).shaped, (dok_qs3 fr.fine' lr).shaped, ?_⟩
    rw [eqv_qs]
    exact k
theorem made_same {H : Hp} {x dx C : Addr} (nx : H x = none) (ndx : H dx = none) : Same H (upd (upd H dx (.own x)) x (.ins C dx [])) := fun c o e => by
  rw [upd_ne (ne_of_none e nx), upd_ne (ne_of_none e ndx)]
  exact e
def spAQns (C : Addr) : Sp := fun vs H Q _ => ∃ (a : Addr) (zs : List Qd), vs = [.ref a] ∧ AsV H C a zs ∧ ∀ (p : Addr) (xs : List V) (H' : Hp), Same H H' → H p = none → H' p = some (.lst xs) → QL H' xs zs → Q (.ref p) H'
theorem scAQns : FnScope ["self"] ["self"] (defScope sAQns) := ⟨rfl, rfl, rfl, by decide +kernel, rfl, by decide +kernel, by decide +kernel⟩
theorem ok_aqns {f C : Addr} {fd : FuncData} (F : Fun K "questions" "Asked.questions" sAQns f fd) (T : Txt K mg) (TC : TxA K mg C) : FnOk P w K mg base CX0 1 f fd ["self"] (spAQns C) := by
  refine F.ok scAQns (fun vs H Q E h => ?_) (fun cdv A outer s H vs Q E hr h => ?_)
  · obtain ⟨a, zs, rfl, _⟩ := h
    rfl
  · obtain ⟨a, zs, rfl, ⟨l, xs, ⟨dx, ha, hl⟩, hq⟩, k⟩ := h
    refine ⟨_, pss_one (ps_ret (pe_callTy call_list_of (by rfl) T.list (by decide +kernel) (pa_cons (pe_fld (pv 0) rfl) pa_nil))), ?_⟩
    exact ⟨_, rfl, a, C, dx, _, _, rfl, ha, TC.cl, TC.nQ, rfl, l, xs, rfl, .inl (SqL.of hl), fun p hp => k p xs _ (same_new hp) hp upd_same (hq.same (same_new hp))⟩
def spColumns (C : Addr) : Sp := fun vs H Q _ => ∃ (a l : Addr) (ys : List V) (zs : List Qd), vs = [.ref a] ∧ HasL H C a "_questions" l ys ∧ QL H ys zs ∧ QZs zs ∧
  ∀ (H' : Hp) (p : Addr) (cs : List Str), Same H H' → H p = none → H' p = some (.lst (cs.map V.str)) → cs.Nodup → sortedS cs = true → (∀ c, c ∈ cs ↔ ∃ z ∈ zs, c ∈ allC z.1 z.2) → Q (.ref p) H'
theorem scColumns : FnScope ["self", "question", "column"] ["self"] (defScope sColumns) := ⟨rfl, rfl, rfl, by decide +kernel, rfl, by decide +kernel, by decide +kernel⟩
theorem ok_columns {f C : Addr} {fd : FuncData} (F : Fun K "columns" "Asked.columns" sColumns f fd) (T : Txt K mg) (TC : TxA K mg C) (cC : Cal P w K mg base 2 "columns_of" ["question"] spCols) : FnOk P w K mg base CX0 3 f fd ["self"] (spColumns C) := by
  refine F.ok scColumns (fun vs H Q E h => ?_) (fun cdv A outer s H vs Q E hr h => ?_)
  · obtain ⟨a, l, ys, zs, rfl, _⟩ := h
    rfl
  · obtain ⟨a, l, ys, zs, rfl, ⟨dx, fs, ha, hl, hx⟩, hq, hz, k⟩ := h
    have nd := scColumns.nd
    refine ⟨_, pss_one (ps_ret (pe_callB (cr_sortT rfl) (by rfl) T.sorted (by decide +kernel) (pa_cons
      (by
        exact pe_sc2 (SO := fun D => TxtO P w D []) (rA := rAddT P w) (own := [("question", 1), ("column", 2)]) (vs1 := [2]) (wi1 := iTup K (tCall spCols [] (fun _ _ _ => False) _)) (g := gName 1) (g1 := gName 2) rfl nd (fun _ _ _ hh => txtO_ok (TxtSet.fresh w hh)) (pi_list (pe_fld (pv 0) rfl))
            (blkOk_by (N := ["self", "question", "column"]) (sc := defScope sColumns) (by decide +kernel)) (by decide) (fun _ _ _ _ _ => pg_name (i := 1) nd rfl (by first | exact Or.inl rfl | exact Or.inr rfl))
            (fun _ _ _ _ _ => pi_tup (pe_call cC.G hr rfl cC.m cC.kp cC.b .nil pass0 (pa_cons (pv 1) pa_nil))) (fun _ _ _ _ _ => pg_name (i := 2) nd rfl (by first | exact Or.inl rfl | exact Or.inr rfl)) (fun _ _ _ _ _ => pv 2) (fun _ _ _ _ _ => cr_addT)) pa_nil))), ?_⟩
    refine ⟨_, rfl, a, C, dx, fs, _, rfl, ha, TC.cl, TC.nQ, hl, l, rfl, ⟨_, SqL.of hx⟩, fun D hD => ?_⟩
    have sD := same_new (o := TxtO P w D []) hD
    have menuOf : ∀ cs : List Str, (∀ c, c ∈ cs → ∃ z ∈ zs, c ∈ allC z.1 z.2) → cs.Nodup → cs.length ≤ 34 := fun cs h1 h2 => by
      refine Nat.le_trans (nodup_len cs menu h2 fun c hc => ?_) (by decide)
      obtain ⟨z, m, hm⟩ := h1 c hc
      exact (hz z m).menu c hm
    refine Loop.list (K := K) (a := l) (xs := ys) (fun i G => Same H G ∧ ∃ cs, G D = some (TxtO P w D cs) ∧ cs.Nodup ∧ ∀ c, c ∈ cs ↔ ∃ z ∈ zs.take i, c ∈ allC z.1 z.2) ⟨sD, [], upd_same, .nil, fun c => by simp⟩ (fun i G _ h => SqL.of (h.1 _ _ hx)) ?_ ?_
    · rintro i y G hy ⟨s1, cs, hcs, nc, mc⟩
      obtain ⟨t0, z, rfl, hzi, hzt⟩ := (hq.same s1).at_ hy
      have Z := hz z (List.mem_of_getElem? hzi)
      have tk : zs.take (i + 1) = zs.take i ++ [z] := by rw [List.take_add_one, hzi]; rfl
      refine ⟨rfl, _, rfl, t0, z.1, z.2, rfl, hzt, Z, fun t G1 s2 ht => ⟨t, rfl, ⟨_, SqT.of ht⟩, ?_⟩⟩
      have hc1 := s2 _ _ hcs
      have tD : t ≠ D := fun e => by rw [e, hc1] at ht; cases ht
      refine Loop.tup (K := K) (a := t) (xs := (allC z.1 z.2).map V.str) (fun j G => Same H G ∧ G t = some (.tup ((allC z.1 z.2).map V.str)) ∧ ∃ ds, G D = some (TxtO P w D ds) ∧ ds.Nodup ∧ ∀ c, c ∈ ds ↔ (∃ z ∈ zs.take i, c ∈ allC z.1 z.2) ∨ c ∈ (allC z.1 z.2).take j)
        ⟨s1.trans s2, ht, cs, hc1, nc, fun c => by rw [mc c]; simp⟩ (fun j G _ h => SqT.of h.2.1) ?_ ?_
      · rintro j v G2 hv ⟨s3, ht2, ds, hds, ndd, md⟩
        rw [List.getElem?_map] at hv
        obtain ⟨c, hc, rfl⟩ := Option.map_eq_some_iff.mp hv
        have tk2 : (allC z.1 z.2).take (j + 1) = (allC z.1 z.2).take j ++ [c] := by rw [List.take_add_one, hc]; rfl
        have dl : ds.length ≤ 34 := menuOf ds (fun c hc => by
          rcases (md c).mp hc with ⟨z', m, hm⟩ | m
          · exact ⟨z', List.mem_of_mem_take m, hm⟩
          · exact ⟨z, List.mem_of_getElem? hzi, List.mem_of_mem_take m⟩) ndd
        refine ⟨rfl, _, rfl, D, c, ds, rfl, hds, by unfold scanBound; omega, fun es c1 c2 => ?_⟩
        have sU : Same H (upd G2 D (TxtO P w D es)) := fun b o hb => by
          rw [upd_ne (ne_of_none hb hD)]
          exact s3 _ _ hb
        refine ⟨sU, by rw [upd_ne tD]; exact ht2, es, upd_same, ?_, fun x => ?_⟩
        · by_cases m : c ∈ ds
          · rw [c1 m]
            exact ndd
          · exact (c2 m).nodup_iff.mpr (List.nodup_cons.mpr ⟨m, ndd⟩)
        · rw [tk2, List.mem_append, List.mem_singleton, ← or_assoc, ← md x]
          by_cases m : c ∈ ds
          · rw [c1 m]
            exact ⟨.inl, fun h => h.elim id fun e => e ▸ m⟩
          · rw [(c2 m).mem_iff, List.mem_cons]
            exact or_comm
      · rintro G2 ⟨s3, ht2, ds, hds, ndd, md⟩
        refine ⟨s3, ds, hds, ndd, fun c => ?_⟩
        rw [List.length_map, List.take_of_length_le (Nat.le_refl _)] at md
        rw [md c, tk]
        simp [List.mem_append, or_and_right, exists_or]
    · rintro G ⟨s1, cs, hcs, nc, mc⟩
      rw [hq.len, List.take_of_length_le (Nat.le_refl _)] at mc
      have cl : cs.length ≤ 34 := menuOf cs (fun c hc => (mc c).mp hc) nc
      refine ⟨D, cs, rfl, hcs, by omega, fun ws p hp hs hpn => ?_⟩
      have pN : H p = none := by
        cases e : H p with
        | none => rfl
        | some o =>
          have := s1 _ _ e
          rw [hpn] at this
          cases this
      exact k _ p ws (s1.trans (same_new hpn)) pN upd_same (hp.nodup_iff.mpr nc) hs fun c => hp.mem_iff.trans (mc c)
end
end Qk
set_option maxRecDepth 100000
set_option maxHeartbeats 4000000
namespace Qk
open PySem PySem.Spec PyProof.Rows L2
section
variable {P : Program} {w : World} {K : PySem.W.Frag} {mg : Str → Option Value} {base : Heap}
/-- what an Asked is beside the other types -/
structure TxN (K : PySem.W.Frag) (C : Addr) : Prop where
  kN : PySem.W.kitOne K (.ref C) (.type "tuple") = some false
  kT : ∀ t ∈ (["list", "tuple", "NoneType", "int"] : List String), PySem.W.kitOne K (.type t) (.ref C) = some false
  nF : ∀ t ∈ (["list", "tuple", "NoneType", "int"] : List String), PySem.W.notFirst K C (.type t) = true
theorem FnOk.or {CX : CXT} {k : Nat} {f : Addr} {fd : FuncData} {ps : List Str} {sp sp' : Sp} (F : FnOk P w K mg base CX k f fd ps sp) (F' : FnOk P w K mg base CX k f fd ps sp') : FnOk P w K mg base CX k f fd ps (fun vs H Q E => sp vs H Q E ∨ sp' vs H Q E) :=
  ⟨fun vs H Q E z => z.elim (F.len vs H Q E) (F'.len vs H Q E), fun A outer s H args us vs Q E hr e b r z => z.elim (F.run A outer s H args us vs Q E hr e b r) (F'.run A outer s H args us vs Q E hr e b r)⟩
def InsV (H : Hp) (C : Addr) (x : V) : Prop := ∃ a dx fs, x = .ref a ∧ H a = some (.ins C dx fs)
def spIsQN (C : Addr) : Sp := fun vs H Q _ => ∃ x, vs = [x] ∧ InsV H C x ∧ ∀ H', Same H H' → Q (.bl false) H'
theorem ok_isqN {f C : Addr} {fd : FuncData} (F : Fun K "is_question" "is_question" sIsQ f fd) (T : Txt K mg) (TC : TxA K mg C) (TN : TxN K C) (cA : Cal P w K mg base 2 "are_columns" ["thing"] spCv) (cL : Cal P w K mg base 2 "is_last" ["thing", "columns"] (spLastA K)) : FnOk P w K mg base CX0 3 f fd ["thing"] (spIsQN C) := by
  refine F.ok scIsQ (fun vs H Q E h => ?_) (fun cdv A outer s H vs Q E hr h => ?_)
  · obtain ⟨x, rfl, _⟩ := h
    rfl
  · obtain ⟨x, rfl, ⟨a, dx, fs, rfl, ha⟩, k⟩ := h
    have nd := scIsQ.nd
    refine ⟨_, pss_cons (ps_if (PW.pt (pw_or (pt_not (pt_val (pe_callB call_isi (by rfl) T.isinstance (by decide +kernel) (pa_cons (pv 0) (pa_cons (pe_bltn (v := .ty "tuple") (by rfl) T.tuple (by decide +kernel) rfl) pa_nil)))))
        (pw_or1 (pt_cmpR op_ne (pe_callB call_len_seq (by rfl) T.len PySem.boot_len (pa_cons (pv 0) pa_nil)) pe_int (nomark _))))) (pss_one (ps_ret pe_bl)) pss_nil)
      (pss_cons (ps_asg (pv 0) (pg_tup (by rfl) (pgs_cons (pg_name (i := 1) nd rfl (Or.inl rfl)) (pgs_cons (pg_name (i := 2) nd rfl (Or.inl rfl)) pgs_nil))))
      (pss_cons (ps_if (PW.pt (pw_or (pt_not (pt_val (pe_call cA.G hr rfl cA.m cA.kp cA.b .nil pass0 (pa_cons (pv 1) pa_nil))))
        (pw_or1 (pt_not (pt_val (pe_call cL.G hr rfl cL.m cL.kp cL.b .nil pass0 (pa_cons (pv 2) (pa_cons (pv 1) pa_nil)))))))) (pss_one (ps_ret pe_bl)) pss_nil)
      (pss_one (ps_ret (pe_or (pe_cmpR (op_neD hr.units) (pv 1) (pe_tup pa_nil) (nomark _)) (pe_one (pe_cmpR op_ne (pv 2) pe_str (nomark _)))))))), ?_⟩
    refine ⟨_, rfl, _, _, .ref C, .type "tuple", false, rfl, .ty "tuple", TC.ty ha, TN.kN, _, rfl, ?_⟩
    refine iteT ?_
    exact k H (Same.refl _)
def spIsQX (C : Addr) : Sp := fun vs H Q E => spQv vs H Q E ∨ spIsQN C vs H Q E
/-- a question among these -/
def AmongV (H : Hp) (x : V) (zs : List Qd) : Prop := ∃ t q, x = .ref t ∧ QAt H t q.1 q.2 ∧ q ∈ zs
theorem spv_ok {H : Hp} {t : Addr} {q : Qd} (h : QAt H t q.1 q.2) (hs : SpV H (.ref t)) (Z : QC q) : SeqAt.shaped (dq q) = true := by
  obtain ⟨c, h1, h2⟩ := h
  have g : ∀ {a : Addr} {xs : List V}, H a = some (.tup xs) → SpV H (.ref a) → ∀ y ∈ xs, SpV H y := fun {a xs} ha hs => by
    rcases hs.tu (K := []) with ⟨a', xs', e, ha', _, hx⟩ | ⟨hne, _⟩
    · injection e with e
      subst e
      rw [ha] at ha'
      injection ha' with ha'
      injection ha' with ha'
      rw [ha']
      exact hx
    · exact absurd ha (hne a xs rfl)
  have g1 := g h1 hs
  have g2 := g h2 (g1 _ List.mem_cons_self)
  have ok1 : ∀ c ∈ q.1, okS c = true := fun c m => by
    rcases (g2 (.str c) (List.mem_map_of_mem m)).tx (K := []) with ⟨z, e, f⟩ | ⟨ne, _⟩
    · injection e with e
      subst e
      have := col_ok (Z.col _ m) f
      unfold okS
      rw [this.1, decide_eq_true this.2]
      rfl
    · exact absurd rfl (ne c)
  have ok2 : okS q.2 = true := by
    rcases Z.last with e | ⟨hc, _⟩
    · rw [e]
      exact okS_empty
    · rcases (g1 (.str q.2) (List.mem_cons_of_mem _ List.mem_cons_self)).tx (K := []) with ⟨z, e, f⟩ | ⟨ne, _⟩
      · injection e with e
        have := col_ok hc (by rw [e]; exact f)
        unfold okS
        rw [this.1, decide_eq_true this.2]
        rfl
      · exact absurd rfl (ne q.2)
  have fq : fine (dq q) = true := by
    show (fine (.tuple (q.1.map PyData.str)) && (fine (.str q.2) && true)) = true
    rw [Bool.and_true, Bool.and_eq_true]
    exact ⟨fine_strs ok1, ok2⟩
  unfold SeqAt.shaped
  rw [(fine_lay _ fq).1, depth_q]
  rfl
def spAIn (C : Addr) : Sp := fun vs H Q _ => ∃ (a : Addr) (x : V) (zs : List Qd), vs = [.ref a, x] ∧ AsV H C a zs ∧ QZs zs ∧ zs.length ≤ 300 ∧ (SpV H x ∨ InsV H C x) ∧ ∀ (H' : Hp) (r : Bool), Same H H' → (r = true ↔ AmongV H x zs) → Q (.bl r) H'
theorem scAIn : FnScope ["self", "x"] ["self", "x"] (defScope sAIn) := ⟨rfl, rfl, rfl, by decide +kernel, rfl, by decide +kernel, by decide +kernel⟩
theorem ok_ain {f C : Addr} {fd : FuncData} (F : Fun K "__contains__" "Asked.__contains__" sAIn f fd) (T : Txt K mg) (TC : TxA K mg C) (cQ : Cal P w K mg base 3 "is_question" ["thing"] (spIsQX C)) : FnOk P w K mg base CX0 4 f fd ["self", "x"] (spAIn C) := by
  refine F.ok scAIn (fun vs H Q E h => ?_) (fun cdv A outer s H vs Q E hr h => ?_)
  · obtain ⟨a, t, zs, rfl, _⟩ := h
    rfl
  · obtain ⟨a, x, zs, rfl, ⟨l, xs, ⟨dx, ha, hl⟩, hq⟩, hz, h300, hx, k⟩ := h
    have hu65 : A.units + 3 + 65 < cLine := by
      have := hr.un
      have e : (A.deeper (envOfC "Asked.__contains__" (defScope sAIn) s.heap.objs.size f cdv)).units = A.units + 3 := rfl
      omega
    refine ⟨_, pss_one (ps_ret (pe_and (pe_call cQ.G hr rfl cQ.m cQ.kp cQ.b .nil pass0 (pa_cons (pv 1) pa_nil)) (pe_one (pe_cmpR (op_inD hu65) (pv 1) (pe_fld (pv 0) rfl) (by rfl))))), ?_⟩
    rcases hx with hx | hx
    · refine ⟨_, rfl, .inl ⟨x, rfl, hx, fun H1 r s1 hr1 => ⟨_, rfl, ?_⟩⟩⟩
      cases r with
      | false =>
        refine iteF ?_
        refine k H1 false s1 ⟨fun h => (nomatch h), fun ⟨t, q, e, hq', m⟩ => hr1.mpr ⟨t, q, e, hq', (hz q m).qc⟩⟩
      | true =>
        refine iteT ?_
        obtain ⟨t, q, rfl, hqt, Z⟩ := hr1.mp rfl
        refine ⟨_, rfl, _, rfl, a, C, dx, _, _, rfl, s1 _ _ ha, TC.cl, TC.nQ, rfl, dq q, zs.map dq, dp_q (hqt.same s1), .lst (SqL.of (s1 _ _ hl)) (hq.same s1).dp, spv_ok hqt hx Z, (dok_qs3 hz.fine' h300).shaped, ?_⟩
        rw [any_q]
        refine k H1 _ s1 ⟨fun h => ⟨t, q, rfl, hqt, of_decide_eq_true h⟩, fun ⟨t', q', e, hq', m⟩ => ?_⟩
        injection e with e
        subst e
        have : q = q' := by
          obtain ⟨c, g1, g2⟩ := hqt
          obtain ⟨c', g3, g4⟩ := hq'
          rw [g1] at g3
          injection g3 with g3
          injection g3 with g3
          injection g3 with g3 g5
          injection g3 with g3
          injection g5 with g5 _
          injection g5 with g5
          subst g3
          rw [g2] at g4
          injection g4 with g4
          injection g4 with g4
          exact Prod.ext (map_str_inj g4) g5
        rw [this]
        exact decide_eq_true m
    · refine ⟨_, rfl, .inr ⟨x, rfl, hx, fun H1 s1 => ⟨_, rfl, ?_⟩⟩⟩
      refine iteF ?_
      refine k H1 false s1 ⟨fun h => (nomatch h), fun ⟨t, q, e, ⟨c, h1, _⟩, _⟩ => ?_⟩
      obtain ⟨a', dx', fs, e', h'⟩ := hx
      rw [e'] at e
      injection e with e
      rw [e, h1] at h'
      cases h'
end
end Qk
set_option maxRecDepth 100000
set_option maxHeartbeats 4000000
namespace Qk
open PySem PySem.Spec PyProof.Rows L2
section
variable {P : Program} {w : World} {K : PySem.W.Frag} {mg : Str → Option Value} {base : Heap}
theorem InsV.same {H H' : Hp} {C : Addr} {x : V} (s : Same H H') (h : InsV H C x) : InsV H' C x := by
  obtain ⟨a, dx, fs, e, h⟩ := h
  exact ⟨a, dx, fs, e, s _ _ h⟩
theorem spv_at {G G' : Hp} {t : Addr} {xs : List V} (s : Same G G') (h : SpV G (.ref t)) (ht : G' t = some (.tup xs)) : G t = some (.tup xs) ∧ ∀ y ∈ xs, SpV G y := by
  obtain ⟨A, n, h⟩ := h
  have flat : Flat G A (.ref t) → False := fun h => by
    rcases h with h | ⟨b, h⟩ | ⟨i, h⟩ | ⟨z, h, _⟩ | ⟨a, kvs, h, _, ha⟩
    · cases h
    · cases h
    · cases h
    · cases h
    · injection h with h
      subst h
      rw [s _ _ ha] at ht
      cases ht
  cases n with
  | zero => exact (flat h).elim
  | succ n =>
    rcases h with h | ⟨a, ys, e, na, ha, hl, hy⟩
    · exact (flat h).elim
    · injection e with e
      subst e
      rcases ha with ha | ha
      · rw [s _ _ ha] at ht
        cases ht
      · have h2 := s _ _ ha
        rw [ht] at h2
        injection h2 with h2
        injection h2 with h2
        subst h2
        exact ⟨ha, fun y hm => ⟨A, n, hy y hm⟩⟩
theorem spv_back {G G' : Hp} {t : Addr} {cols : List Str} {e : Str} (s : Same G G') (h : SpV G (.ref t)) (ht : QAt G' t cols e) : QAt G t cols e := by
  obtain ⟨c, h1, h2⟩ := ht
  obtain ⟨g1, g2⟩ := spv_at s h h1
  obtain ⟨g3, _⟩ := spv_at s (g2 _ List.mem_cons_self) h2
  exact ⟨c, g1, g3⟩
theorem QAt.uniqQ {G : Hp} {t : Addr} {p q : Qd} (h : QAt G t p.1 p.2) (h' : QAt G t q.1 q.2) : p = q := by
  obtain ⟨c, g1, g2⟩ := h
  obtain ⟨c', g3, g4⟩ := h'
  rw [g1] at g3
  injection g3 with g3
  injection g3 with g3
  injection g3 with g3 g5
  injection g3 with g3
  injection g5 with g5 _
  injection g5 with g5
  subst g3
  rw [g2] at g4
  injection g4 with g4
  injection g4 with g4
  exact Prod.ext (map_str_inj g4) g5
/-- a value of any kind, or an Asked -/
def ElV (H : Hp) (C : Addr) (x : V) : Prop := SpV H x ∨ InsV H C x
theorem ElV.same {H H' : Hp} {C : Addr} {x : V} (s : Same H H') (h : ElV H C x) : ElV H' C x := h.imp (fun h => h.same s) fun h => h.same s
theorem IsQv.same {H H' : Hp} {x : V} (s : Same H H') (h : IsQv H x) : IsQv H' x := by
  obtain ⟨t, q, e, h, c⟩ := h
  exact ⟨t, q, e, h.same s, c⟩
theorem IsQv.back {H H' : Hp} {C : Addr} {x : V} (s : Same H H') (e : ElV H C x) (h : IsQv H' x) : IsQv H x := by
  obtain ⟨t, q, rfl, h, c⟩ := h
  rcases e with e | ⟨a, dx, fs, e, hi⟩
  · exact ⟨t, q, rfl, spv_back s e h, c⟩
  · injection e with e
    subst e
    obtain ⟨c', h1, _⟩ := h
    rw [s _ _ hi] at h1
    cases h1
/-- what is handed in: a list or a tuple of such values, or another value -/
def ThV (K : PySem.W.Frag) (H : Hp) (C : Addr) (x : V) : Prop := (∃ a xs, x = .ref a ∧ (H a = some (.lst xs) ∨ H a = some (.tup xs)) ∧ xs.length < 300 ∧ ∀ y ∈ xs, ElV H C y) ∨
  ((∀ a xs, x = .ref a → ¬ (H a = some (.lst xs) ∨ H a = some (.tup xs))) ∧ ∃ o t, (∀ a, x = .ref a → H a = some o) ∧ (∀ xs, o ≠ .lst xs ∧ o ≠ .tup xs) ∧ (∀ H' : Hp, Same H H' → TyX K H' x t) ∧ PySem.W.kitOne K t (.type "list") = some false ∧ PySem.W.kitOne K t (.type "tuple") = some false)
theorem ThV.same {K : PySem.W.Frag} {H H' : Hp} {C : Addr} {x : V} (s : Same H H') (h : ThV K H C x) : ThV K H' C x := by
  rcases h with ⟨a, xs, e, ha, hl, hx⟩ | ⟨hn, o, t, ho, hne, ty, k1, k2⟩
  · exact .inl ⟨a, xs, e, ha.imp (s _ _) (s _ _), hl, fun y hy => (hx y hy).same s⟩
  · refine .inr ⟨fun a xs e h => ?_, o, t, fun a e => s _ _ (ho a e), hne, fun H2 s2 => ty H2 (s.trans s2), k1, k2⟩
    have := s _ _ (ho a e)
    rcases h with h | h
    · rw [this] at h
      injection h with h
      exact (hne xs).1 h
    · rw [this] at h
      injection h with h
      exact (hne xs).2 h
/-- a list or a tuple of questions -/
def AllQ (H : Hp) (x : V) : Prop := ∃ a xs, x = .ref a ∧ (H a = some (.lst xs) ∨ H a = some (.tup xs)) ∧ ∀ y ∈ xs, IsQv H y
theorem AllQ.same {H H' : Hp} {x : V} (s : Same H H') (h : AllQ H x) : AllQ H' x := by
  obtain ⟨a, xs, e, ha, hx⟩ := h
  exact ⟨a, xs, e, ha.imp (s _ _) (s _ _), fun y hy => (hx y hy).same s⟩
theorem AllQ.back {K : PySem.W.Frag} {H H' : Hp} {C : Addr} {x : V} (s : Same H H') (t : ThV K H C x) (h : AllQ H' x) : AllQ H x := by
  obtain ⟨a, xs, rfl, ha, hx⟩ := h
  rcases t with ⟨a', ys, e, ha', _, hy⟩ | ⟨_, o, _, ho, hne, _⟩
  · injection e with e
    subst e
    have hh : xs = ys := by
      rcases ha' with g | g <;> rcases ha with f | f <;> rw [s _ _ g] at f <;> injection f with f <;> first | (injection f with f; exact f.symm) | cases f
    subst hh
    exact ⟨a, xs, rfl, ha', fun y hm => (hx y hm).back s (hy y hm)⟩
  · have := s _ _ (ho a rfl)
    rcases ha with f | f
    · rw [this] at f
      injection f with f
      exact absurd f (hne xs).1
    · rw [this] at f
      injection f with f
      exact absurd f (hne xs).2
/-- the questions of such a list -/
theorem AllQ.qs {K : PySem.W.Frag} {H : Hp} {C : Addr} {x : V} (t : ThV K H C x) (h : AllQ H x) : ∃ a xs qs, x = .ref a ∧ (H a = some (.lst xs) ∨ H a = some (.tup xs)) ∧ QL H xs qs ∧ xs.length < 300 ∧ ∀ q ∈ qs, QC q ∧ ∀ c ∈ q.1, PyData.strOk c = true := by
  obtain ⟨a, xs, rfl, ha, hx⟩ := h
  rcases t with ⟨a', ys, e, ha', hl, hy⟩ | ⟨hn, _⟩
  · injection e with e
    subst e
    have hh : xs = ys := by
      rcases ha' with g | g <;> rcases ha with f | f <;> rw [g] at f <;> injection f with f <;> first | (injection f with f; exact f.symm) | cases f
    subst hh
    have mk : ∀ ys : List V, (∀ y ∈ ys, IsQv H y) → (∀ y ∈ ys, ElV H C y) → ∃ qs, QL H ys qs ∧ ∀ q ∈ qs, QC q ∧ ∀ c ∈ q.1, PyData.strOk c = true := by
      intro ys
      induction ys with
      | nil => exact fun _ _ => ⟨[], .nil, fun q hq => (nomatch hq)⟩
      | cons y ys ih =>
        intro g1 g2
        obtain ⟨qs, h1, h2⟩ := ih (fun z hz => g1 z (List.mem_cons_of_mem _ hz)) fun z hz => g2 z (List.mem_cons_of_mem _ hz)
        obtain ⟨t, q, rfl, hq, c⟩ := g1 y List.mem_cons_self
        refine ⟨q :: qs, .cons ⟨t, rfl, hq⟩ h1, fun r hr => ?_⟩
        rcases List.mem_cons.mp hr with rfl | hr
        · refine ⟨c, ?_⟩
          rcases g2 (.ref t) List.mem_cons_self with s | ⟨a2, dx, fs, e, hi⟩
          · obtain ⟨c', k1, k2⟩ := hq
            obtain ⟨_, k3⟩ := spv_at (Same.refl _) s k1
            obtain ⟨_, k4⟩ := spv_at (Same.refl _) (k3 _ List.mem_cons_self) k2
            exact strs_ok ([] : PySem.W.Frag) k4 c.col
          · injection e with e
            subst e
            obtain ⟨c', k1, _⟩ := hq
            rw [hi] at k1
            cases k1
        · exact h2 r hr
    obtain ⟨qs, h1, h2⟩ := mk xs hx hy
    exact ⟨a, xs, qs, rfl, ha, h1, hl, h2⟩
  · exact absurd ha (hn a xs rfl)
def spAreQsV (K : PySem.W.Frag) (C : Addr) : Sp := fun vs H Q _ => ∃ x, vs = [x] ∧ ThV K H C x ∧ ∀ (H' : Hp) (r : Bool), Same H H' → (r = true ↔ AllQ H x) → Q (.bl r) H'
theorem scAreQsW : FnScope ["thing", "one"] ["thing"] (defScope sAreQs) := ⟨rfl, rfl, rfl, by decide +kernel, rfl, by decide +kernel, by decide +kernel⟩
theorem ok_areqsV {f C : Addr} {fd : FuncData} (F : Fun K "are_questions" "are_questions" sAreQs f fd) (T : Txt K mg) (cI : Cal P w K mg base 3 "is_question" ["thing"] (spIsQX C)) : FnOk P w K mg base CX0 4 f fd ["thing"] (spAreQsV K C) := by
  refine F.ok scAreQsW (fun vs H Q E h => ?_) (fun cdv A outer s H vs Q E hr h => ?_)
  · obtain ⟨x, rfl, _⟩ := h
    rfl
  · obtain ⟨x, rfl, hx, k⟩ := h
    have nd := scAreQsW.nd
    refine ⟨_, pss_one (ps_ret (pe_and (pe_callB call_isiT (by rfl) T.isinstance (by decide +kernel) (pa_cons (pv 0) (pa_cons (pe_tup (pa_cons (pe_bltn (v := .ty "list") (by rfl) T.list (by decide +kernel) rfl) (pa_cons (pe_bltn (v := .ty "tuple") (by rfl) T.tuple (by decide +kernel) rfl) pa_nil))) pa_nil)))
      (pe_one (pe_callB (cr_all rfl) (by rfl) T.all (by decide +kernel) (pa_cons (pe_lc (own := [("one", 1)]) (g := gName 1) (tt := tYes) rfl nd (PI.or (pi_list (pv 0)) (pi_tup (pv 0))) (blkOk_by (N := ["thing", "one"]) (sc := defScope sAreQs) (by decide +kernel))
        (fun _ _ _ _ _ => pg_name (i := 1) nd rfl (by first | exact Or.inl rfl | exact Or.inr rfl)) (fun _ _ _ _ _ => pts_nil) (fun _ _ _ _ _ => pe_call cI.G hr rfl cI.m cI.kp cI.b .nil pass0 (pa_cons (pv 1) pa_nil))) pa_nil))))), ?_⟩
    refine ⟨_, rfl, by show 2 ≤ sizeLine; decide, fun tp htp => ?_⟩
    have s0 := same_new (o := .tup [.ty "list", .ty "tuple"]) htp
    rcases id hx with ⟨a, xs, rfl, ha, hl, hv⟩ | ⟨hn, o, t, ho, hne, ty, k1, k2⟩
    · have fin : ∀ {G : Hp} {bs : List Bool}, Same H G → (bs.all id = true ↔ ∀ y ∈ xs, IsQv H y) → Q (.bl (bs.all id)) G := fun {G bs} s hb => k G _ s (hb.trans ⟨fun h => ⟨a, xs, rfl, ha, h⟩, fun ⟨a', ys, e, ha', h⟩ => by
        injection e with e
        subst e
        have hh : xs = ys := by
          rcases ha' with g | g <;> rcases ha with f | f <;> rw [g] at f <;> injection f with f <;> first | (injection f with f; exact f.symm) | cases f
        rw [hh]
        exact h⟩)
      have step : ∀ {G0 : Hp} {D : Addr}, Same H G0 → G0 D = none → ∀ (i : Nat) (x : V) (H1 : Hp) (bs : List Bool), xs[i]? = some x → Same G0 H1 → H1 D = some (.lst (bs.map V.bl)) → bs.length = i → (bs.all id = true ↔ ∀ y ∈ xs.take i, IsQv H y) →
          spIsQX C [x] H1 (fun v H2 => ∃ us, H2 D = some (.lst us) ∧ us.length < 1000 ∧ (∃ r : Bool, v = .bl r ∧ Same G0 (upd H2 D (.lst (us ++ [V.bl r]))) ∧ us = bs.map V.bl ∧ ((bs ++ [r]).all id = true ↔ ∀ y ∈ xs.take (i + 1), IsQv H y))) E0 := by
        intro G0 D s hD i x H1 bs hx s1 hDl hb hi
        have il : i < 300 := Nat.lt_trans (List.getElem?_eq_some_iff.mp hx).1 hl
        have el := hv x (List.mem_of_getElem? hx)
        have s01 := s.trans s1
        have go : ∀ {H2 : Hp} {r : Bool}, Same H1 H2 → (r = true ↔ IsQv H1 x) → ∃ us, H2 D = some (.lst us) ∧ us.length < 1000 ∧ (∃ r' : Bool, V.bl r = .bl r' ∧ Same G0 (upd H2 D (.lst (us ++ [V.bl r']))) ∧ us = bs.map V.bl ∧ ((bs ++ [r']).all id = true ↔ ∀ y ∈ xs.take (i + 1), IsQv H y)) := fun {H2 r} s2 hr => by
          refine ⟨_, s2 _ _ hDl, by rw [List.length_map]; omega, r, rfl, fun b o hb2 => ?_, rfl, ?_⟩
          · rw [upd_ne (ne_of_none hb2 hD)]
            exact s2 _ _ (s1 _ _ hb2)
          · rw [List.take_add_one, hx, List.all_append, Bool.and_eq_true, hi]
            simp only [Option.toList_some, List.mem_append, List.mem_singleton, List.all_cons, List.all_nil, id, Bool.and_true]
            constructor
            · rintro ⟨h1, h2⟩ y (hy | rfl)
              · exact h1 y hy
              · exact (hr.mp h2).back s01 el
            · intro h
              exact ⟨fun y hy => h y (.inl hy), hr.mpr ((h x (.inr rfl)).same s01)⟩
        rcases el with el | el
        · exact .inl ⟨x, rfl, el.same s01, fun H2 r s2 hr => go s2 hr⟩
        · refine .inr ⟨x, rfl, el.same s01, fun H2 s2 => go s2 ⟨fun h => (nomatch h), fun ⟨t, q, e, ⟨c, h1, _⟩, _⟩ => ?_⟩⟩
          obtain ⟨a', dx', fs, e', h'⟩ := el.same s01
          rw [e'] at e
          injection e with e
          rw [e, h1] at h'
          cases h'
      rcases ha with ha' | ha'
      · refine ⟨_, tp, _, .type "list", [.type "list", .type "tuple"], true, rfl, upd_same, .cons (.ty "list") (.cons (.ty "tuple") .nil), .base (.lst (s0 _ _ ha')), ?_, _, rfl, ?_⟩
        · exact kitAny_cons (b := true) (kit_ty (by decide +kernel)) (fun h => by cases h) (fun _ => rfl)
        refine iteT ?_
        have ha0 := s0 _ _ ha'
        generalize upd H tp (.tup [.ty "list", .ty "tuple"]) = H0 at s0 ha0 ⊢
        refine .inl ⟨_, rfl, a, rfl, ⟨_, SqL.of ha0⟩, fun D hD => ?_⟩
        refine lc_list (K := K) (a := a) (xs := xs) (fun i H' => Same H0 H' ∧ ∃ bs : List Bool, H' D = some (.lst (bs.map V.bl)) ∧ bs.length = i ∧ (bs.all id = true ↔ ∀ y ∈ xs.take i, IsQv H y)) ⟨same_new hD, [], upd_same, rfl, by simp⟩ (fun i H' _ h => SqL.of (h.1 _ _ ha0)) ?_ ?_
        · rintro i x H1 hxi ⟨s1, bs, hDl, hb, hi⟩
          have g := step s0 hD i x H1 bs hxi s1 hDl hb hi
          refine ⟨rfl, Exists.intro _ ⟨rfl, ?_⟩⟩
          have fin2 : ∀ {v : V} {H2 : Hp}, (∃ us, H2 D = some (.lst us) ∧ us.length < 1000 ∧ (∃ r : Bool, v = .bl r ∧ Same H0 (upd H2 D (.lst (us ++ [V.bl r]))) ∧ us = bs.map V.bl ∧ ((bs ++ [r]).all id = true ↔ ∀ y ∈ xs.take (i + 1), IsQv H y))) →
              ∃ acc, H2 D = some (.lst acc) ∧ acc.length < sizeLine ∧ (Same H0 (upd H2 D (.lst (acc ++ [v]))) ∧ ∃ bs : List Bool, (upd H2 D (.lst (acc ++ [v]))) D = some (.lst (bs.map V.bl)) ∧ bs.length = i + 1 ∧ (bs.all id = true ↔ ∀ y ∈ xs.take (i + 1), IsQv H y)) := by
            rintro v H2 ⟨us, h1, h2, r, rfl, h3, h4, h5⟩
            exact ⟨us, h1, small1000 (Nat.le_of_lt h2), h3, bs ++ [r], by rw [upd_same, h4, List.map_append]; rfl, by rw [List.length_append, hb]; rfl, h5⟩
          rcases g with ⟨x', e, g1, g2⟩ | ⟨x', e, g1, g2⟩
          · exact .inl ⟨x', e, g1, fun H2 r s hr => fin2 (g2 H2 r s hr)⟩
          · exact .inr ⟨x', e, g1, fun H2 s => fin2 (g2 H2 s)⟩
        · rintro H1 ⟨s1, bs, hDl, hb, hi⟩
          rw [List.take_of_length_le (Nat.le_refl _)] at hi
          exact ⟨D, bs, rfl, SqL.of hDl, fin (s0.trans s1) hi⟩
      · refine ⟨_, tp, _, .type "tuple", [.type "list", .type "tuple"], true, rfl, upd_same, .cons (.ty "list") (.cons (.ty "tuple") .nil), .base (.tup (s0 _ _ ha')), ?_, _, rfl, ?_⟩
        · exact kitAny_cons (b := false) (kit_ty (by decide +kernel)) (fun _ => kitAny_cons (b := true) (kit_ty (by decide +kernel)) (fun h => by cases h) (fun _ => rfl)) (fun h => by cases h)
        refine iteT ?_
        have ha0 := s0 _ _ ha'
        generalize upd H tp (.tup [.ty "list", .ty "tuple"]) = H0 at s0 ha0 ⊢
        refine .inr ⟨_, rfl, a, rfl, ⟨_, SqT.of ha0⟩, fun D hD => ?_⟩
        refine lc_tup (K := K) (a := a) (xs := xs) (fun i H' => Same H0 H' ∧ ∃ bs : List Bool, H' D = some (.lst (bs.map V.bl)) ∧ bs.length = i ∧ (bs.all id = true ↔ ∀ y ∈ xs.take i, IsQv H y)) ⟨same_new hD, [], upd_same, rfl, by simp⟩ (fun i H' _ h => SqT.of (h.1 _ _ ha0)) ?_ ?_
        · rintro i x H1 hxi ⟨s1, bs, hDl, hb, hi⟩
          have g := step s0 hD i x H1 bs hxi s1 hDl hb hi
          refine ⟨rfl, Exists.intro _ ⟨rfl, ?_⟩⟩
          have fin2 : ∀ {v : V} {H2 : Hp}, (∃ us, H2 D = some (.lst us) ∧ us.length < 1000 ∧ (∃ r : Bool, v = .bl r ∧ Same H0 (upd H2 D (.lst (us ++ [V.bl r]))) ∧ us = bs.map V.bl ∧ ((bs ++ [r]).all id = true ↔ ∀ y ∈ xs.take (i + 1), IsQv H y))) →
              ∃ acc, H2 D = some (.lst acc) ∧ acc.length < sizeLine ∧ (Same H0 (upd H2 D (.lst (acc ++ [v]))) ∧ ∃ bs : List Bool, (upd H2 D (.lst (acc ++ [v]))) D = some (.lst (bs.map V.bl)) ∧ bs.length = i + 1 ∧ (bs.all id = true ↔ ∀ y ∈ xs.take (i + 1), IsQv H y)) := by
            rintro v H2 ⟨us, h1, h2, r, rfl, h3, h4, h5⟩
            exact ⟨us, h1, small1000 (Nat.le_of_lt h2), h3, bs ++ [r], by rw [upd_same, h4, List.map_append]; rfl, by rw [List.length_append, hb]; rfl, h5⟩
          rcases g with ⟨x', e, g1, g2⟩ | ⟨x', e, g1, g2⟩
          · exact .inl ⟨x', e, g1, fun H2 r s hr => fin2 (g2 H2 r s hr)⟩
          · exact .inr ⟨x', e, g1, fun H2 s => fin2 (g2 H2 s)⟩
        · rintro H1 ⟨s1, bs, hDl, hb, hi⟩
          rw [List.take_of_length_le (Nat.le_refl _)] at hi
          exact ⟨D, bs, rfl, SqL.of hDl, fin (s0.trans s1) hi⟩
    · refine ⟨_, tp, _, t, [.type "list", .type "tuple"], false, rfl, upd_same, .cons (.ty "list") (.cons (.ty "tuple") .nil), ty _ s0, ?_, _, rfl, ?_⟩
      · exact kitAny_cons (b := false) k1 (fun _ => kitAny_cons (b := false) k2 (fun _ => rfl) (fun h => by cases h)) (fun h => by cases h)
      refine iteF ?_
      exact k _ false s0 ⟨fun h => (nomatch h), fun ⟨a, xs, e, ha, _⟩ => absurd ha (hn a xs e)⟩
end
end Qk
set_option maxRecDepth 100000
set_option maxHeartbeats 4000000
namespace Qk
open PySem PySem.Spec PyProof.Rows L2
section
variable {P : Program} {w : World} {K : PySem.W.Frag} {mg : Str → Option Value} {base : Heap}
structure TxE (K : PySem.W.Frag) (mg : Str → Option Value) (CW CM CN CK : Addr) : Prop where
  erW : ErC K CW
  erM : ErC K CM
  erN : ErC K CN
  noW : PySem.W.findIn K (.ref CW) "place" = some none
  noM : PySem.W.findIn K (.ref CM) "limit" = some none
  noN : PySem.W.findIn K (.ref CN) "question" = some none
  mW : mg "Wrong" = some (.ref CW)
  mM : mg "TooMany" = some (.ref CM)
  mN : mg "NoQuestion" = some (.ref CN)
  mke : mg "KeysError" = some (.ref CK)
  teM : PySem.W.exmOne K (.ref CM) (.ref CK) = some true
  teN : PySem.W.exmOne K (.ref CN) (.ref CK) = some true
  kMN : PySem.W.kitOne K (.ref CM) (.ref CN) = some false
  kNM : PySem.W.kitOne K (.ref CN) (.ref CM) = some false
/-- self.f = x -/
def spInitE (K : PySem.W.Frag) (f : Str) : Sp := fun vs H Q _ => ∃ (a C : Addr) (x : V), vs = [.ref a, x] ∧ OexC K C ∧ PySem.W.findIn K (.ref C) f = some none ∧ H a = some (exo a C none) ∧
  ∀ d, H d = none → d ≠ a → Q .non (upd (upd H d (exd d [(f, x)])) a (exo a C (some d)))
theorem scWInit : FnScope ["self", "place"] ["self", "place"] (defScope sWInit) := ⟨rfl, rfl, rfl, by decide +kernel, rfl, by decide +kernel, by decide +kernel⟩
theorem ok_winit {f : Addr} {fd : FuncData} (F : Fun K "__init__" "Wrong.__init__" sWInit f fd) : FnOk P w K mg base CX0 1 f fd ["self", "place"] (spInitE K "place") := by
  refine F.ok scWInit (fun vs H Q E h => ?_) (fun cdv A outer s H vs Q E hr h => ?_)
  · obtain ⟨a, C, x, rfl, _⟩ := h
    rfl
  · obtain ⟨a, C, x, rfl, T, no, ha, q⟩ := h
    exact ⟨_, pss_one (ps_ost (pv 0) (pv 1)), _, rfl, _, rfl, a, C, rfl, T, no, .inl ⟨ha, fun d hd hda => q d hd hda⟩⟩
theorem scMInit : FnScope ["self", "limit"] ["self", "limit"] (defScope sMInit) := ⟨rfl, rfl, rfl, by decide +kernel, rfl, by decide +kernel, by decide +kernel⟩
theorem ok_minit {f : Addr} {fd : FuncData} (F : Fun K "__init__" "TooMany.__init__" sMInit f fd) : FnOk P w K mg base CX0 1 f fd ["self", "limit"] (spInitE K "limit") := by
  refine F.ok scMInit (fun vs H Q E h => ?_) (fun cdv A outer s H vs Q E hr h => ?_)
  · obtain ⟨a, C, x, rfl, _⟩ := h
    rfl
  · obtain ⟨a, C, x, rfl, T, no, ha, q⟩ := h
    exact ⟨_, pss_one (ps_ost (pv 0) (pv 1)), _, rfl, _, rfl, a, C, rfl, T, no, .inl ⟨ha, fun d hd hda => q d hd hda⟩⟩
/-- what a raise leaves of the heap -/
theorem raised {H1 : Hp} {e d C : Addr} {f : Str} {x : V} (he : H1 e = none) (hde : d ≠ e) : upd (del (upd (upd (upd H1 e (exo e C none)) d (exd d [(f, x)])) e (exo e C (some d))) e) d (.xd [(f, x)]) = upd H1 d (.xd [(f, x)]) := by
  funext b
  by_cases hbd : b = d
  · rw [hbd, upd_same, upd_same]
  · rw [upd_ne hbd, upd_ne hbd]
    by_cases hbe : b = e
    · rw [hbe, del_same, he]
    · rw [del_ne hbe, upd_ne hbe, upd_ne hbd, upd_ne hbe]
theorem scNInit : FnScope ["self", "question"] ["self", "question"] (defScope sNInit) := ⟨rfl, rfl, rfl, by decide +kernel, rfl, by decide +kernel, by decide +kernel⟩
theorem ok_ninit {f : Addr} {fd : FuncData} (F : Fun K "__init__" "NoQuestion.__init__" sNInit f fd) : FnOk P w K mg base CX0 1 f fd ["self", "question"] (spInitE K "question") := by
  refine F.ok scNInit (fun vs H Q E h => ?_) (fun cdv A outer s H vs Q E hr h => ?_)
  · obtain ⟨a, C, x, rfl, _⟩ := h
    rfl
  · obtain ⟨a, C, x, rfl, T, no, ha, q⟩ := h
    exact ⟨_, pss_one (ps_ost (pv 0) (pv 1)), _, rfl, _, rfl, a, C, rfl, T, no, .inl ⟨ha, fun d hd hda => q d hd hda⟩⟩
/-- too many -/
def ManyE (CM : Addr) (H : Hp) (E : XK) : Prop := ∀ (H' : Hp) (d : Addr), Same H H' → H' d = none → E (.ref CM) (some d) (upd H' d (.xd [("limit", .int 48)]))
theorem ManyE.pre {CM : Addr} {H H1 : Hp} {E : XK} (s : Same H H1) (h : ManyE CM H E) : ManyE CM H1 E := fun H' d s' hd => h H' d (s.trans s') hd
/-- what comes of questions: an Asked, or too many -/
def NewQ (C CM : Addr) (H : Hp) (qs : List Qd) (Q : VK) (E : XK) : Prop := ∀ zs, Dist qs zs → (zs.length ≤ 48 → ∀ (H' : Hp) (x : Addr), Same H H' → AsV H' C x zs → Q (.ref x) H') ∧ (48 < zs.length → ManyE CM H E)
theorem NewQ.pre {C CM : Addr} {H H1 : Hp} {qs : List Qd} {Q : VK} {E : XK} (s : Same H H1) (h : NewQ C CM H qs Q E) : NewQ C CM H1 qs Q E := fun zs D => ⟨fun l H' x s' hA => (h zs D).1 l H' x (s.trans s') hA, fun l => ((h zs D).2 l).pre s⟩
def spAInitE (C CM : Addr) : Sp := fun vs H Q E => ∃ (x dx a : Addr) (xs : List V) (qs : List Qd) (H0 : Hp), vs = [.ref x, .ref a] ∧ H x = some (.ins C dx []) ∧ Same H0 H ∧ H0 x = none ∧ (H0 a = some (.lst xs) ∨ H0 a = some (.tup xs)) ∧ QL H0 xs qs ∧ QZs qs ∧ xs.length < 300 ∧
  (∀ (H' : Hp) (d : Addr) (zs : List Qd), Same H0 H' → Dist qs zs → 48 < zs.length → H' d = none → E (.ref CM) (some d) (upd H' d (.xd [("limit", .int 48)]))) ∧
  (∀ (H' : Hp) (zs : List Qd), Same H0 H' → AsV H' C x zs → Dist qs zs → zs.length ≤ 48 → Q .non H')
theorem ok_ainitE {f C CW CM CN CK fW fM : Addr} {fd fdW fdM : FuncData} (F : Fun K "__init__" "Asked.__init__" sAInit f fd) (T : Txt K mg) (TC : TxA K mg C) (TE : TxE K mg CW CM CN CK)
    (iW : PySem.W.findIn K (.ref CW) "__init__" = some (some (.ref fW))) (tW : PySem.W.typeIn K (.ref fW) = some (.type "function")) (FW : FnOk P w K mg base CX0 1 fW fdW ["self", "place"] (spInitE K "place")) (bW : Binds K fdW ["self", "place"] [])
    (iM : PySem.W.findIn K (.ref CM) "__init__" = some (some (.ref fM))) (tM : PySem.W.typeIn K (.ref fM) = some (.type "function")) (FM : FnOk P w K mg base CX0 1 fM fdM ["self", "limit"] (spInitE K "limit")) (bM : Binds K fdM ["self", "limit"] [])
    (cQ : Cal P w K mg base 4 "are_questions" ["thing"] (spAreQsV K C)) : FnOk P w K mg base (L2.CX P w) 5 f fd ["self", "questions"] (spAInitE C CM) := by
  refine F.okX scAInit (fun vs H Q E h => ?_) (fun cdv A outer s H vs Q E hr h => ?_)
  · obtain ⟨x, dx, a, xs, qs, H0, rfl, _⟩ := h
    rfl
  · obtain ⟨x, dx, a, xs, qs, H0, rfl, hx, s0, hx0, ha, hq, hz, hl, kM, k⟩ := h
    have nd := scAInit.nd
    obtain ⟨tl, htl⟩ := T.limit
    have hr2 : Room 2 _ := hr.mono (by decide)
    have hu80 : A.units + 3 + 80 < cLine := by
      have := hr.un
      have e : (A.deeper (envOfC "Asked.__init__" (defScope sAInit) s.heap.objs.size f cdv)).units = A.units + 3 := rfl
      omega
    have hu16 : A.units + 3 + 16 < cLine := by omega
    refine ⟨_, pss_cons (ps_if (pt_not (pt_val (pe_call cQ.G hr rfl cQ.m cQ.kp cQ.b .nil pass0 (pa_cons (pv 1) pa_nil)))) (pss_one (ps_raise rfl (takes_of rfl rfl rfl rfl) (pmk_oex TE.erW.o iW tW FW hr2 bW .nil pass0 rfl TE.mW (pa_cons pe_int pa_nil)))) pss_nil)
      (pss_cons (ps_set (i := 2) nd rfl (Or.inl rfl) (pe_callB (cr_sortSetQ rfl hu80) (by rfl) T.sorted (by decide +kernel) (pa_cons (pe_callTy (cr_setQ rfl hu16) (by rfl) T.set (by decide +kernel) (pa_cons (pv 1) pa_nil)) pa_nil)))
      (pss_cons (ps_if (pt_cmpR op_gt (pe_callB call_len_seq (by rfl) T.len PySem.boot_len (pa_cons (pv 2) pa_nil)) (pe_glob (v := .int 48) rfl htl ⟨tl, rfl⟩) (nomark _)) (pss_one (ps_raise rfl (takes_of rfl rfl rfl rfl) (pmk_oex TE.erM.o iM tM FM hr2 bM .nil pass0 rfl TE.mM (pa_cons (pe_glob (v := .int 48) rfl htl ⟨tl, rfl⟩) pa_nil)))) pss_nil)
      (pss_one (ps_fld (pv 0) (pv 2) rfl)))), ?_⟩
    have qz : ∀ y ∈ xs, ∃ t q, y = V.ref t ∧ QAt H0 t q.1 q.2 ∧ q ∈ qs := fun y hy => hq.mem y hy
    have hv : ThV K H0 C (.ref a) := .inl ⟨a, xs, rfl, ha, hl, fun y hy => by
      obtain ⟨t, q, rfl, hqt, m⟩ := qz y hy
      exact .inl (spv_q hqt (hz q m))⟩
    have hall : AllQ H0 (.ref a) := ⟨a, xs, rfl, ha, fun y hy => by
      obtain ⟨t, q, rfl, hqt, m⟩ := qz y hy
      exact ⟨t, q, rfl, hqt, (hz q m).qc⟩⟩
    refine ⟨_, rfl, .ref a, rfl, hv.same s0, fun H1 r s1 hr1 => ⟨_, rfl, ?_⟩⟩
    have s01 := s0.trans s1
    have er : r = true := hr1.mpr (hall.same s0)
    subst er
    refine iteF ?_
    have hq1 := hq.same s01
    refine ⟨_, rfl, a, xs, qs, rfl, ha.imp (fun h => SqL.of (s01 _ _ h)) (fun h => SqT.of (s01 _ _ h)), hq1, hl, fun p M hp S => ?_⟩
    have sp := same_new (o := SetQ w p M) hp
    refine ⟨p, M, rfl, upd_same, fun m hm => (S.at_ m hm).same sp, fun m hm c hc => (hz _ ((S.mem _).mp (List.mem_map_of_mem hm))).strOk c hc, fun ys zs d hd hql hpm hup hsub => ?_⟩
    have sd := same_new (o := .lst ys) hd
    have D : Dist qs zs := ⟨hpm.nodup_iff.mpr S.nd, hup, fun q => hpm.mem_iff.trans (S.mem q)⟩
    have sA := s01.trans (sp.trans sd)
    have hyd : (upd (upd H1 p (SetQ w p M)) d (.lst ys)) d = some (.lst ys) := upd_same
    have ly : ys.length = zs.length := hql.len
    have hyl : ys.length < 1000 := by
      have h1 : zs.length ≤ qs.length := nodup_leQ _ _ D.nd fun z hz => (D.mem z).mp hz
      have h2 := hq.len
      omega
    refine ⟨_, rfl, _, _, rfl, .inl (SqL.of hyd), _, 48, rfl, rfl, _, rfl, ?_⟩
    by_cases h48 : (48 : Int) < (ys.length : Int)
    · rw [decide_eq_true h48]
      refine iteT ?_
      refine ⟨by show 1 ≤ 1000; decide, fun e he => ⟨e, CM, _, rfl, TE.erM.o, TE.noM, upd_same, fun d2 hd2 hda => ⟨rfl, d2, [("limit", .int 48)], upd_same, by rw [upd_ne hda]; exact upd_same, ?_, ?_⟩⟩⟩
      · rw [upd_ne hda] at hd2
        exact hd2
      · rw [upd_ne hda] at hd2
        rw [raised he hda]
        exact kM _ d2 zs sA D (by omega) hd2
    · rw [decide_eq_false h48]
      refine iteF ?_
      have hx2 := (s1.trans (sp.trans sd)) _ _ hx
      refine ⟨_, rfl, _, rfl, x, C, dx, [], rfl, hx2, TC.cl, TC.nQ, by show 0 < 1000; decide, ?_⟩
      obtain ⟨g1, g2⟩ := asked_set (C := C) (dx := dx) hx2 hyd (hql.same sd)
      exact k _ zs (fun b o hb => g2 b o (sA _ _ hb) (ne_of_none hb hx0)) g1 D (by omega)
/-- an Asked of questions, whatever is wanted of it -/
theorem mkQR {H : Hp} {C CM d x dx : Addr} {xs : List V} {qs : List Qd} {R : VK} {E : XK} (hd : H d = some (.lst xs) ∨ H d = some (.tup xs)) (hq : QL H xs qs) (hz : QZs qs) (hl : xs.length < 300) (nx : H x = none) (ndx : H dx = none)
    (k : ∀ zs, Dist qs zs → (zs.length ≤ 48 → ∀ H' : Hp, Same H H' → AsV H' C x zs → R .non H') ∧ (48 < zs.length → ManyE CM H E)) : spAInitE C CM [.ref x, .ref d] (upd (upd H dx (.own x)) x (.ins C dx [])) R E :=
  ⟨x, dx, d, xs, qs, H, rfl, upd_same, made_same nx ndx, nx, hd, hq, hz, hl, fun H' d' zs s D l hd' => (k zs D).2 l H' d' s hd', fun H' zs s hA D l => (k zs D).1 l H' s hA⟩
theorem mkQ {H : Hp} {C CM d x dx : Addr} {xs : List V} {qs : List Qd} {Q : VK} {E : XK} (hd : H d = some (.lst xs) ∨ H d = some (.tup xs)) (hq : QL H xs qs) (hz : QZs qs) (hl : xs.length < 300) (nx : H x = none) (ndx : H dx = none) (k : NewQ C CM H qs Q E) :
    spAInitE C CM [.ref x, .ref d] (upd (upd H dx (.own x)) x (.ins C dx [])) (fun v H' => v = .non ∧ Q (.ref x) H') E :=
  mkQR hd hq hz hl nx ndx fun zs D => ⟨fun l H' s hA => ⟨rfl, (k zs D).1 l H' x s hA⟩, (k zs D).2⟩
def gAnd (zs ws : List Qd) : List Qd := zs.filter fun q => decide (q ∈ ws)
def gSub (zs ws : List Qd) : List Qd := zs.filter fun q => !decide (q ∈ ws)
def gOr (zs ws : List Qd) : List Qd := zs ++ ws
def spABin (C CM : Addr) (g : List Qd → List Qd → List Qd) : Sp := fun vs H Q E => ∃ (a b : Addr) (zs ws : List Qd), vs = [.ref a, .ref b] ∧ AsV H C a zs ∧ AsV H C b ws ∧ QZs zs ∧ QZs ws ∧ zs.length ≤ 48 ∧ ws.length ≤ 48 ∧ NewQ C CM H (g zs ws) Q E
theorem scAOr : FnScope ["self", "other"] ["self", "other"] (defScope sAOr) := ⟨rfl, rfl, rfl, by decide +kernel, rfl, by decide +kernel, by decide +kernel⟩
section
variable {C CM fI : Addr} {fdI : FuncData}
theorem ok_aor {f : Addr} {fd : FuncData} (F : Fun K "__or__" "Asked.__or__" sAOr f fd) (T : Txt K mg) (TC : TxA K mg C) (M : Mk K C fI) (FI : FnOk P w K mg base (L2.CX P w) 5 fI fdI ["self", "questions"] (spAInitE C CM)) (bI : Binds K fdI ["self", "questions"] []) :
    FnOk P w K mg base (L2.CX P w) 7 f fd ["self", "other"] (spABin C CM gOr) := by
  refine F.okX scAOr (fun vs H Q E h => ?_) (fun cdv A outer s H vs Q E hr h => ?_)
  · obtain ⟨a, b, zs, ws, rfl, _⟩ := h
    rfl
  · obtain ⟨a, b, zs, ws, rfl, ⟨l, xs, ⟨dx, ha, hl⟩, hq⟩, ⟨m, ys, ⟨dy, hb, hm⟩, hr'⟩, az, aw, lz48, lw48, k⟩ := h
    refine ⟨_, pss_one (ps_ret (pe_mkS M FI hr rfl TC.mgC bI (fun σ => passAt (takes_of rfl rfl rfl rfl) σ) (pa_cons (pe_lst (StX.pa_star (pe_fld (pv 0) rfl) (StX.pa_star (pe_fld (pv 1) rfl) pa_nil))) pa_nil))), ?_⟩
    have l1 := hq.len
    have l2 := hr'.len
    refine ⟨_, rfl, a, C, dx, _, _, rfl, ha, TC.cl, TC.nQ, rfl, l, xs, rfl, .inr (SqL.of hl), _, rfl, b, C, dy, _, _, rfl, hb, TC.cl, TC.nQ, rfl, m, ys, rfl, .inr (SqL.of hm), ?_, fun d hd x dx' nx ndx nex => ?_⟩
    · rw [List.length_append, List.append_nil, sizeLine_eq]
      omega
    · have s1 := same_new (o := .lst (xs ++ (ys ++ []))) hd
      refine mkQ (qs := zs ++ ws) (.inl upd_same) ?_ ?_ ?_ nx ndx (k.pre s1)
      · exact paired_app (hq.same s1) (Eq.mpr (congrArg (fun z => QL (upd H d (.lst (xs ++ (ys ++ [])))) z ws) (List.append_nil ys)) (hr'.same s1))
      · intro q hq'
        exact (List.mem_append.mp hq').elim (az q) (aw q)
      · rw [List.append_nil, List.length_append]
        omega
abbrev nAB : List Str := ["self", "other", "question"]
theorem scAAnd : FnScope nAB ["self", "other"] (defScope sAAnd) := ⟨rfl, rfl, rfl, by decide +kernel, rfl, by decide +kernel, by decide +kernel⟩
theorem ok_aand {f : Addr} {fd : FuncData} (F : Fun K "__and__" "Asked.__and__" sAAnd f fd) (T : Txt K mg) (TC : TxA K mg C) (M : Mk K C fI) (FI : FnOk P w K mg base (L2.CX P w) 5 fI fdI ["self", "questions"] (spAInitE C CM)) (bI : Binds K fdI ["self", "questions"] []) :
    FnOk P w K mg base (L2.CX P w) 7 f fd ["self", "other"] (spABin C CM gAnd) := by
  refine F.okX scAAnd (fun vs H Q E h => ?_) (fun cdv A outer s H vs Q E hr h => ?_)
  · obtain ⟨a, b, zs, ws, rfl, _⟩ := h
    rfl
  · obtain ⟨a, b, zs, ws, rfl, ⟨l, xs, ⟨dx, ha, hl⟩, hq⟩, ⟨m, ys, ⟨dy, hb, hm⟩, hr'⟩, az, aw, lz48, lw48, k⟩ := h
    have nd := scAAnd.nd
    have hu65 : A.units + 3 + 65 < cLine := by
      have := hr.un
      have e : (A.deeper (envOfC "Asked.__and__" (defScope sAAnd) s.heap.objs.size f cdv)).units = A.units + 3 := rfl
      omega
    refine ⟨_, pss_one (ps_ret (pe_mkS M FI hr rfl TC.mgC bI (fun σ => passAt (takes_of rfl rfl rfl rfl) σ) (pa_cons (pe_lc (own := [("question", 2)]) (g := gName 2) rfl nd (pi_list (pe_fld (pv 0) rfl)) (blkOk_by (N := nAB) (sc := defScope sAAnd) (by decide +kernel))
      (fun _ _ _ _ _ => pg_name (i := 2) nd rfl (by first | exact Or.inl rfl | exact Or.inr rfl)) (fun _ _ _ _ _ => pts_one (pt_cmpR (r := rInD K) (tb := tFld K (tVar 1) "_questions") (op_inD hu65) (pv 2) (pe_fld (pv 1) rfl) (by rfl))) (fun _ _ _ _ _ => pv 2)) pa_nil))), ?_⟩
    have l1 := hq.len
    have l2 := hr'.len
    refine ⟨_, rfl, a, C, dx, _, _, rfl, ha, TC.cl, TC.nQ, rfl, l, rfl, ⟨_, SqL.of hl⟩, fun D hD => ?_⟩
    refine lc_list (K := K) (a := l) (xs := xs) (fun i H' => ∃ us : List V, Same H H' ∧ H' D = some (.lst us) ∧ us.length ≤ i ∧ QL H' us ((zs.take i).filter fun q => decide (q ∈ ws))) ⟨[], same_new hD, upd_same, Nat.le_refl _, .nil⟩ (fun i H' _ ⟨_, s, _⟩ => SqL.of (s _ _ hl)) ?_ ?_
    · rintro i x H1 hx ⟨us, s1, hUl, ul, qu⟩
      have hil : i < xs.length := (List.getElem?_eq_some_iff.mp hx).1
      obtain ⟨o, q, rfl, hqi, hqa⟩ := (hq.same s1).at_ hx
      have Z := az q (List.mem_of_getElem? hqi)
      have et : zs.take (i + 1) = zs.take i ++ [q] := by rw [List.take_add_one, hqi]; rfl
      rw [et, List.filter_append]
      refine ⟨rfl, Exists.intro _ ⟨rfl, Exists.intro _ ⟨rfl, b, C, dy, _, _, rfl, s1 _ _ hb, TC.cl, TC.nQ, rfl, dq q, ws.map dq, dp_q hqa, .lst (SqL.of (s1 _ _ hm)) (hr'.same s1).dp, (dok_q Z.fine).shaped, (dok_qs aw.fine' (by omega)).shaped, _, rfl, ?_⟩⟩⟩
      rw [any_q]
      cases hb' : decide (q ∈ ws) with
      | false =>
        refine iteF ?_
        refine ⟨us, s1, hUl, by omega, ?_⟩
        rw [List.filter_cons, hb', if_neg (by decide), List.filter_nil, List.append_nil]
        exact qu
      | true =>
        refine iteT ?_
        refine ⟨_, rfl, us, hUl, small1000 (by omega), us ++ [.ref o], fun b' o' hb2 => ?_, upd_same, by rw [List.length_append]; simp; omega, ?_⟩
        · rw [upd_ne (ne_of_none hb2 hD)]
          exact s1 _ _ hb2
        · rw [List.filter_cons, hb', if_pos rfl, List.filter_nil]
          exact QL.off (xs := us) hUl (qu.snoc (q := q) hqa)
    · rintro H1 ⟨us, s1, hUl, ul, qu⟩ x dx' nx ndx nex
      rw [l1, List.take_of_length_le (Nat.le_refl _)] at qu
      exact mkQ (qs := gAnd zs ws) (.inl hUl) qu (fun q hq' => az q (List.mem_filter.mp hq').1) (by omega) nx ndx (k.pre s1)
theorem scASub : FnScope nAB ["self", "other"] (defScope sASub) := ⟨rfl, rfl, rfl, by decide +kernel, rfl, by decide +kernel, by decide +kernel⟩
theorem ok_asub {f : Addr} {fd : FuncData} (F : Fun K "__sub__" "Asked.__sub__" sASub f fd) (T : Txt K mg) (TC : TxA K mg C) (M : Mk K C fI) (FI : FnOk P w K mg base (L2.CX P w) 5 fI fdI ["self", "questions"] (spAInitE C CM)) (bI : Binds K fdI ["self", "questions"] []) :
    FnOk P w K mg base (L2.CX P w) 7 f fd ["self", "other"] (spABin C CM gSub) := by
  refine F.okX scASub (fun vs H Q E h => ?_) (fun cdv A outer s H vs Q E hr h => ?_)
  · obtain ⟨a, b, zs, ws, rfl, _⟩ := h
    rfl
  · obtain ⟨a, b, zs, ws, rfl, ⟨l, xs, ⟨dx, ha, hl⟩, hq⟩, ⟨m, ys, ⟨dy, hb, hm⟩, hr'⟩, az, aw, lz48, lw48, k⟩ := h
    have nd := scASub.nd
    have hu65 : A.units + 3 + 65 < cLine := by
      have := hr.un
      have e : (A.deeper (envOfC "Asked.__sub__" (defScope sASub) s.heap.objs.size f cdv)).units = A.units + 3 := rfl
      omega
    refine ⟨_, pss_one (ps_ret (pe_mkS M FI hr rfl TC.mgC bI (fun σ => passAt (takes_of rfl rfl rfl rfl) σ) (pa_cons (pe_lc (own := [("question", 2)]) (g := gName 2) rfl nd (pi_list (pe_fld (pv 0) rfl)) (blkOk_by (N := nAB) (sc := defScope sASub) (by decide +kernel))
      (fun _ _ _ _ _ => pg_name (i := 2) nd rfl (by first | exact Or.inl rfl | exact Or.inr rfl)) (fun _ _ _ _ _ => pts_one (pt_cmpR (r := rNotInD K) (tb := tFld K (tVar 1) "_questions") (op_notInD hu65) (pv 2) (pe_fld (pv 1) rfl) (by rfl))) (fun _ _ _ _ _ => pv 2)) pa_nil))), ?_⟩
    have l1 := hq.len
    have l2 := hr'.len
    refine ⟨_, rfl, a, C, dx, _, _, rfl, ha, TC.cl, TC.nQ, rfl, l, rfl, ⟨_, SqL.of hl⟩, fun D hD => ?_⟩
    refine lc_list (K := K) (a := l) (xs := xs) (fun i H' => ∃ us : List V, Same H H' ∧ H' D = some (.lst us) ∧ us.length ≤ i ∧ QL H' us ((zs.take i).filter fun q => !decide (q ∈ ws))) ⟨[], same_new hD, upd_same, Nat.le_refl _, .nil⟩ (fun i H' _ ⟨_, s, _⟩ => SqL.of (s _ _ hl)) ?_ ?_
    · rintro i x H1 hx ⟨us, s1, hUl, ul, qu⟩
      have hil : i < xs.length := (List.getElem?_eq_some_iff.mp hx).1
      obtain ⟨o, q, rfl, hqi, hqa⟩ := (hq.same s1).at_ hx
      have Z := az q (List.mem_of_getElem? hqi)
      have et : zs.take (i + 1) = zs.take i ++ [q] := by rw [List.take_add_one, hqi]; rfl
      rw [et, List.filter_append]
      refine ⟨rfl, Exists.intro _ ⟨rfl, Exists.intro _ ⟨rfl, b, C, dy, _, _, rfl, s1 _ _ hb, TC.cl, TC.nQ, rfl, dq q, ws.map dq, dp_q hqa, .lst (SqL.of (s1 _ _ hm)) (hr'.same s1).dp, (dok_q Z.fine).shaped, (dok_qs aw.fine' (by omega)).shaped, _, rfl, ?_⟩⟩⟩
      rw [any_q]
      cases hb' : decide (q ∈ ws) with
      | true =>
        refine iteF ?_
        refine ⟨us, s1, hUl, by omega, ?_⟩
        rw [List.filter_cons, hb', if_neg (by decide), List.filter_nil, List.append_nil]
        exact qu
      | false =>
        refine iteT ?_
        refine ⟨_, rfl, us, hUl, small1000 (by omega), us ++ [.ref o], fun b' o' hb2 => ?_, upd_same, by rw [List.length_append]; simp; omega, ?_⟩
        · rw [upd_ne (ne_of_none hb2 hD)]
          exact s1 _ _ hb2
        · rw [List.filter_cons, hb', if_pos (by decide), List.filter_nil]
          exact QL.off (xs := us) hUl (qu.snoc (q := q) hqa)
    · rintro H1 ⟨us, s1, hUl, ul, qu⟩ x dx' nx ndx nex
      rw [l1, List.take_of_length_le (Nat.le_refl _)] at qu
      exact mkQ (qs := gSub zs ws) (.inl hUl) qu (fun q hq' => az q (List.mem_filter.mp hq').1) (by omega) nx ndx (k.pre s1)
def spAWithin (C : Addr) : Sp := fun vs H Q _ => ∃ (a b : Addr) (zs ws : List Qd), vs = [.ref a, .ref b] ∧ AsV H C a zs ∧ AsV H C b ws ∧ QZs zs ∧ QZs ws ∧ zs.length ≤ 300 ∧ ws.length ≤ 300 ∧ ∀ H', Same H H' → Q (.bl (zs.all fun q => decide (q ∈ ws))) H'
theorem scAWithin : FnScope nAB ["self", "other"] (defScope sAWithin) := ⟨rfl, rfl, rfl, by decide +kernel, rfl, by decide +kernel, by decide +kernel⟩
theorem ok_awithin {f fC : Addr} {fd fdC : FuncData} (F : Fun K "within" "Asked.within" sAWithin f fd) (T : Txt K mg) (TC : TxA K mg C) (OI : OwnIn K C fC) (FC : FnOk P w K mg base CX0 4 fC fdC ["self", "x"] (spAIn C)) (bC : Binds K fdC ["self", "x"] []) :
    FnOk P w K mg base CX0 5 f fd ["self", "other"] (spAWithin C) := by
  refine F.ok scAWithin (fun vs H Q E h => ?_) (fun cdv A outer s H vs Q E hr h => ?_)
  · obtain ⟨a, b, zs, ws, rfl, _⟩ := h
    rfl
  · obtain ⟨a, b, zs, ws, rfl, ⟨l, xs, ⟨dx, ha, hl⟩, hq⟩, hB, hz, hw, lz, lw, k⟩ := h
    have nd := scAWithin.nd
    obtain ⟨m, ys, ⟨dy, hb, hm⟩, hr'⟩ := id hB
    refine ⟨_, pss_one (ps_ret (pe_callB (cr_all rfl) (by rfl) T.all (by decide +kernel) (pa_cons (pe_lc (own := [("question", 2)]) (g := gName 2) (tt := tYes) rfl nd (pi_list (pe_fld (pv 0) rfl)) (blkOk_by (N := nAB) (sc := defScope sAWithin) (by decide +kernel))
      (fun _ _ _ _ _ => pg_name (i := 2) nd rfl (by first | exact Or.inl rfl | exact Or.inr rfl)) (fun _ _ _ _ _ => pts_nil) (fun _ _ _ _ _ => pe_cmpR (r := rInO C (spAIn C) false) (op_inO OI FC hr bC) (pv 2) (pv 1) (by rfl))) pa_nil))), ?_⟩
    have l1 := hq.len
    refine ⟨_, rfl, a, C, dx, _, _, rfl, ha, TC.cl, TC.nQ, rfl, l, rfl, ⟨_, SqL.of hl⟩, fun D hD => ?_⟩
    refine lc_list (K := K) (a := l) (xs := xs) (fun i H' => Same H H' ∧ H' D = some (.lst (((zs.take i).map fun q => decide (q ∈ ws)).map V.bl))) ⟨same_new hD, upd_same⟩ (fun i H' _ h => SqL.of (h.1 _ _ hl)) ?_ ?_
    · rintro i x H1 hx ⟨s1, hDl⟩
      have hil : i < xs.length := (List.getElem?_eq_some_iff.mp hx).1
      obtain ⟨o, q, rfl, hqi, hqa⟩ := (hq.same s1).at_ hx
      have Z := hz q (List.mem_of_getElem? hqi)
      have et : zs.take (i + 1) = zs.take i ++ [q] := by rw [List.take_add_one, hqi]; rfl
      refine ⟨rfl, Exists.intro _ ⟨rfl, Exists.intro _ ⟨rfl, b, dy, _, rfl, s1 _ _ hb, b, .ref o, ws, rfl, hB.same s1, hw, lw, .inl (spv_q hqa Z), fun H2 r s2 hr2 => ⟨_, rfl, _, s2 _ _ hDl, small1000 (by simp; omega), fun b' o' hb2 => ?_, ?_⟩⟩⟩⟩
      · rw [upd_ne (ne_of_none hb2 hD)]
        exact s2 _ _ (s1 _ _ hb2)
      · have er : r = decide (q ∈ ws) := by
          by_cases m : q ∈ ws
          · rw [decide_eq_true m]
            exact hr2.mpr ⟨o, q, rfl, hqa, m⟩
          · rw [decide_eq_false m]
            cases hrr : r with
            | false => rfl
            | true =>
              obtain ⟨t', q', e, hq', m'⟩ := hr2.mp hrr
              injection e with e
              subst e
              exact absurd (QAt.uniqQ (p := q) (q := q') hqa hq' ▸ m') m
        rw [upd_same, et, List.map_append, List.map_append, er]
        rfl
    · rintro H1 ⟨s1, hDl⟩
      rw [l1, List.take_of_length_le (Nat.le_refl _)] at hDl
      refine ⟨D, _, rfl, SqL.of hDl, ?_⟩
      rw [List.all_map]
      exact k H1 s1
def spAWith (C CM : Addr) : Sp := fun vs H Q E => ∃ (a t : Addr) (zs : List Qd) (q : Qd), vs = [.ref a, .ref t] ∧ AsV H C a zs ∧ QZs zs ∧ zs.length ≤ 48 ∧ QAt H t q.1 q.2 ∧ QZ q.1 q.2 ∧ NewQ C CM H (zs ++ [q]) Q E
theorem scAWith : FnScope ["self", "question"] ["self", "question"] (defScope sAWith) := ⟨rfl, rfl, rfl, by decide +kernel, rfl, by decide +kernel, by decide +kernel⟩
theorem ok_awith {f : Addr} {fd : FuncData} (F : Fun K "with_question" "Asked.with_question" sAWith f fd) (T : Txt K mg) (TC : TxA K mg C) (M : Mk K C fI) (FI : FnOk P w K mg base (L2.CX P w) 5 fI fdI ["self", "questions"] (spAInitE C CM)) (bI : Binds K fdI ["self", "questions"] []) :
    FnOk P w K mg base (L2.CX P w) 7 f fd ["self", "question"] (spAWith C CM) := by
  refine F.okX scAWith (fun vs H Q E h => ?_) (fun cdv A outer s H vs Q E hr h => ?_)
  · obtain ⟨a, t, zs, q, rfl, _⟩ := h
    rfl
  · obtain ⟨a, t, zs, q, rfl, ⟨l, xs, ⟨dx, ha, hl⟩, hq⟩, hz, l48, hqt, Z, k⟩ := h
    refine ⟨_, pss_one (ps_ret (pe_mkS M FI hr rfl TC.mgC bI (fun σ => passAt (takes_of rfl rfl rfl rfl) σ) (pa_cons (pe_lst (StX.pa_star (pe_fld (pv 0) rfl) (pa_cons (pv 1) pa_nil))) pa_nil))), ?_⟩
    have l1 := hq.len
    refine ⟨_, rfl, a, C, dx, _, _, rfl, ha, TC.cl, TC.nQ, rfl, l, xs, rfl, .inr (SqL.of hl), _, rfl, ?_, fun d hd x dx' nx ndx nex => ?_⟩
    · rw [List.length_append, List.length_singleton, sizeLine_eq]
      omega
    · have s1 := same_new (o := .lst (xs ++ [.ref t])) hd
      refine mkQ (qs := zs ++ [q]) (.inl upd_same) ((hq.same s1).snoc (q := q) (hqt.same s1)) ?_ (by rw [List.length_append]; simp; omega) nx ndx (k.pre s1)
      intro z hz'
      rcases List.mem_append.mp hz' with h | h
      · exact hz z h
      · rw [List.mem_singleton.mp h]
        exact Z
def spAWithoutE (C CM CN : Addr) : Sp := fun vs H Q E => ∃ (a : Addr) (x : V) (zs : List Qd), vs = [.ref a, x] ∧ AsV H C a zs ∧ QZs zs ∧ zs.length ≤ 48 ∧ (SpV H x ∨ InsV H C x) ∧
  (∀ (t : Addr) (q : Qd), x = .ref t → QAt H t q.1 q.2 → q ∈ zs → NewQ C CM H (zs.filter fun z => !decide (z = q)) Q E) ∧
  (¬ AmongV H x zs → ∀ (H' : Hp) (d : Addr), Same H H' → H' d = none → E (.ref CN) (some d) (upd H' d (.xd [("question", x)])))
abbrev nAWo : List Str := ["self", "question", "one"]
theorem scAWithout : FnScope nAWo ["self", "question"] (defScope sAWithout) := ⟨rfl, rfl, rfl, by decide +kernel, rfl, by decide +kernel, by decide +kernel⟩
theorem ok_awithoutE {f fC CW CN CK fN : Addr} {fd fdC fdN : FuncData} (F : Fun K "without" "Asked.without" sAWithout f fd) (T : Txt K mg) (TC : TxA K mg C) (TE : TxE K mg CW CM CN CK) (M : Mk K C fI) (FI : FnOk P w K mg base (L2.CX P w) 5 fI fdI ["self", "questions"] (spAInitE C CM)) (bI : Binds K fdI ["self", "questions"] [])
    (OI : OwnIn K C fC) (FC : FnOk P w K mg base CX0 4 fC fdC ["self", "x"] (spAIn C)) (bC : Binds K fdC ["self", "x"] [])
    (iC : PySem.W.findIn K (.ref CN) "__init__" = some (some (.ref fN))) (tI : PySem.W.typeIn K (.ref fN) = some (.type "function")) (FN : FnOk P w K mg base CX0 1 fN fdN ["self", "question"] (spInitE K "question")) (bN : Binds K fdN ["self", "question"] []) : FnOk P w K mg base (L2.CX P w) 7 f fd ["self", "question"] (spAWithoutE C CM CN) := by
  refine F.okX scAWithout (fun vs H Q E h => ?_) (fun cdv A outer s H vs Q E hr h => ?_)
  · obtain ⟨a, x, zs, rfl, _⟩ := h
    rfl
  · obtain ⟨a, x, zs, rfl, hA, hz, l48, hx, k1, k2⟩ := h
    have hr2 : Room 2 _ := hr.mono (by decide)
    obtain ⟨l, xs, ⟨dx, ha, hl⟩, hq⟩ := id hA
    have nd := scAWithout.nd
    refine ⟨_, pss_cons (ps_if (pt_cmpR (op_notInO OI FC (hr.mono (by decide)) bC) (pv 1) (pv 0) (by rfl)) (pss_one (ps_raise rfl (takes_of rfl rfl rfl rfl) (pmk_oex TE.erN.o iC tI FN hr2 bN .nil pass0 rfl TE.mN (pa_cons (pv 1) pa_nil)))) pss_nil)
      (pss_one (ps_ret (pe_mkS M FI hr rfl TC.mgC bI (fun σ => passAt (takes_of rfl rfl rfl rfl) σ) (pa_cons (pe_lc (own := [("one", 2)]) (g := gName 2) rfl nd (pi_list (pe_fld (pv 0) rfl)) (blkOk_by (N := nAWo) (sc := defScope sAWithout) (by decide +kernel))
      (fun _ _ _ _ _ => pg_name (i := 2) nd rfl (by first | exact Or.inl rfl | exact Or.inr rfl)) (fun _ _ _ _ _ => pts_one (pt_cmpR (r := rNeD K) (op_neD hr.units) (pv 2) (pv 1) (nomark _))) (fun _ _ _ _ _ => pv 2)) pa_nil)))), ?_⟩
    have l1 := hq.len
    refine ⟨_, rfl, _, rfl, a, dx, _, rfl, ha, a, x, zs, rfl, hA, hz, by omega, hx, fun H1 r s1 hr1 => ⟨_, rfl, _, rfl, ?_⟩⟩
    cases r with
    | false =>
      refine iteT ?_
      have hno : ¬ AmongV H x zs := fun h => absurd (hr1.mpr h) (by decide)
      refine ⟨_, rfl, by show 1 ≤ 1000; decide, fun e he => ⟨e, CN, _, rfl, TE.erN.o, TE.noN, upd_same, fun d hd hda => ⟨rfl, d, [("question", x)], upd_same, by rw [upd_ne hda]; exact upd_same, ?_, ?_⟩⟩⟩
      · rw [upd_ne hda] at hd
        exact hd
      · rw [upd_ne hda] at hd
        rw [raised he hda]
        exact k2 hno H1 d s1 hd
    | true =>
    refine iteF ?_
    obtain ⟨t, q, rfl, hqt, qm⟩ := hr1.mp rfl
    have Z := hz q qm
    have k := k1 t q rfl hqt qm
    have hl1 := s1 _ _ hl
    have hq1 := hq.same s1
    refine ⟨_, rfl, a, C, dx, _, _, rfl, s1 _ _ ha, TC.cl, TC.nQ, rfl, l, rfl, ⟨_, SqL.of hl1⟩, fun D hD => ?_⟩
    refine lc_list (K := K) (a := l) (xs := xs) (fun i H' => ∃ us : List V, Same H1 H' ∧ H' D = some (.lst us) ∧ us.length ≤ i ∧ QL H' us ((zs.take i).filter fun z => !decide (z = q))) ⟨[], same_new hD, upd_same, Nat.le_refl _, .nil⟩ (fun i H' _ ⟨_, s, _⟩ => SqL.of (s _ _ hl1)) ?_ ?_
    · rintro i x H2 hx ⟨us, s2, hUl, ul, qu⟩
      have hil : i < xs.length := (List.getElem?_eq_some_iff.mp hx).1
      obtain ⟨o, z, rfl, hzi, hza⟩ := (hq1.same s2).at_ hx
      have Zz := hz z (List.mem_of_getElem? hzi)
      have et : zs.take (i + 1) = zs.take i ++ [z] := by rw [List.take_add_one, hzi]; rfl
      rw [et, List.filter_append]
      refine ⟨rfl, Exists.intro _ ⟨rfl, Exists.intro _ ⟨rfl, dq z, dq q, dp_q hza, dp_q ((hqt.same s1).same s2), (dok_q Zz.fine).shaped, (dok_q Z.fine).shaped, _, rfl, ?_⟩⟩⟩
      rw [eqv_q]
      cases hb' : decide (z = q) with
      | true =>
        refine iteF ?_
        refine ⟨us, s2, hUl, by omega, ?_⟩
        rw [List.filter_cons, hb', if_neg (by decide), List.filter_nil, List.append_nil]
        exact qu
      | false =>
        refine iteT ?_
        refine ⟨_, rfl, us, hUl, small1000 (by omega), us ++ [.ref o], fun b' o' hb2 => ?_, upd_same, by rw [List.length_append]; simp; omega, ?_⟩
        · rw [upd_ne (ne_of_none hb2 hD)]
          exact s2 _ _ hb2
        · rw [List.filter_cons, hb', if_pos (by decide), List.filter_nil]
          exact QL.off (xs := us) hUl (qu.snoc (q := z) hza)
    · rintro H2 ⟨us, s2, hUl, ul, qu⟩ x dx' nx ndx nex
      rw [l1, List.take_of_length_le (Nat.le_refl _)] at qu
      exact mkQ (qs := zs.filter fun z => !decide (z = q)) (.inl hUl) qu (fun q hq' => hz q (List.mem_filter.mp hq').1) (by omega) nx ndx (k.pre (s1.trans s2))
end
end
end Qk
set_option maxRecDepth 100000
set_option maxHeartbeats 4000000
namespace Qk
open PySem PySem.Spec PyProof.Rows L2
section
variable {P : Program} {w : World} {K : PySem.W.Frag} {mg : Str → Option Value} {base : Heap}
structure RnOk (kvs : List (Key × V)) (nm : List Str) (f : Str → Str) : Prop where
  at_ : ∀ c ∈ nm, valV kvs (Sum.inr c) = some (.str (f c))
  inj : ∀ c ∈ nm, ∀ d ∈ nm, f c = f d → c = d
  men : ∀ c ∈ nm, f c ∈ menu
theorem map_nd {f : Str → Str} {nm : List Str} (inj : ∀ c ∈ nm, ∀ d ∈ nm, f c = f d → c = d) : ∀ {r : List Str}, r.Nodup → (∀ c ∈ r, c ∈ nm) → (r.map f).Nodup
  | [], _, _ => List.nodup_nil
  | x :: r, h, hs => by
    obtain ⟨h1, h2⟩ := List.nodup_cons.mp h
    rw [List.map_cons, List.nodup_cons]
    refine ⟨fun hm => ?_, map_nd inj h2 fun c hc => hs c (List.mem_cons_of_mem _ hc)⟩
    obtain ⟨y, hy, e⟩ := List.mem_map.mp hm
    have := inj y (hs y (List.mem_cons_of_mem _ hy)) x (hs x List.mem_cons_self) e
    exact h1 (this ▸ hy)
def renQ (f : Str → Str) (q : Qd) : Qd := (srt (q.1.map f), if q.2 = "" then "" else f q.2)
def inN (nm : List Str) (q : Qd) : Prop := (∀ c ∈ q.1, c ∈ nm) ∧ (q.2 = "" ∨ q.2 ∈ nm)
theorem renQ_plain {f : Str → Str} {q : Qd} (h : q.2 = "") : (renQ f q).2 = "" := by
  unfold renQ
  rw [if_pos h]
theorem renQ_last {f : Str → Str} {q : Qd} (h : q.2 ≠ "") : (renQ f q).2 = f q.2 := by
  unfold renQ
  rw [if_neg h]
theorem mem_ren1 {f : Str → Str} {q : Qd} {c : Str} : c ∈ (renQ f q).1 ↔ ∃ d ∈ q.1, f d = c := by
  show c ∈ srt (q.1.map f) ↔ _
  rw [(srt_perm _).mem_iff, List.mem_map]
theorem ren1_len {f : Str → Str} {q : Qd} : (renQ f q).1.length = q.1.length := by
  show (srt (q.1.map f)).length = _
  rw [(srt_perm _).length_eq, List.length_map]
section
variable {kvs : List (Key × V)} {nm : List Str} {f : Str → Str}
theorem RnOk.row (R : RnOk kvs nm f) {r : List Str} (h : Row r) (hs : ∀ c ∈ r, c ∈ nm) : Row (r.map f) :=
  ⟨map_nd R.inj h.nd hs, fun c hc => by
    obtain ⟨d, hd, rfl⟩ := List.mem_map.mp hc
    exact R.men d (hs d hd), by rw [List.length_map]; exact h.pos, by rw [List.length_map]; exact h.le⟩
theorem RnOk.qz (R : RnOk kvs nm f) {q : Qd} (z : QZ q.1 q.2) (hs : inN nm q) : QZ (renQ f q).1 (renQ f q).2 := by
  have hf2 : ∀ c, c ∈ nm → f c ≠ "" := fun c hc => menu_ne _ (R.men c hc)
  refine ⟨⟨?_, ?_, ?_, ?_, ?_, ?_⟩, ?_, ?_⟩
  · exact (srt_perm _).nodup_iff.mpr (map_nd R.inj z.m.nd hs.1)
  · exact pw_sortedS (srt_pw _)
  · intro c hc
    obtain ⟨d, hd, rfl⟩ := mem_ren1.mp hc
    exact R.men d (hs.1 d hd)
  · by_cases h : q.2 = ""
    · exact .inl (renQ_plain h)
    · rw [renQ_last h]
      exact .inr (R.men _ (hs.2.resolve_left h))
  · rw [ren1_len]
    exact z.m.le
  · intro h e
    have hq : q.2 = "" := Classical.byContradiction fun n => by
      rw [renQ_last n] at h
      exact hf2 _ (hs.2.resolve_left n) h
    refine z.m.some hq ?_
    have := congrArg List.length e
    rw [ren1_len] at this
    exact List.eq_nil_of_length_eq_zero this
  · intro h
    by_cases e : q.2 = ""
    · rw [renQ_plain e] at h
      obtain ⟨d, hd, e2⟩ := mem_ren1.mp h
      exact hf2 d (hs.1 d hd) e2
    · rw [renQ_last e] at h
      obtain ⟨d, hd, e2⟩ := mem_ren1.mp h
      have := R.inj d (hs.1 d hd) q.2 (hs.2.resolve_left e) e2
      exact z.ne (this ▸ hd)
  · rw [ren1_len]
    have := z.le
    by_cases e : q.2 = ""
    · rw [if_pos (renQ_plain e)]
      have := z.m.le
      omega
    · have e2 : (renQ f q).2 ≠ "" := by rw [renQ_last e]; exact hf2 _ (hs.2.resolve_left e)
      rw [if_neg e2]
      rw [if_neg e] at this
      exact this
end
theorem putK_new {acc : List (Key × V)} {k : Key} {v : V} (h : ∀ p ∈ acc, p.1 ≠ k) : putK acc k v = acc ++ [(k, v)] := by
  unfold putK
  rw [if_neg]
  intro e
  obtain ⟨p, hp, e2⟩ := List.any_eq_true.mp e
  exact h p hp (of_decide_eq_true e2)
theorem mergeK_new : ∀ (more acc : List (Key × V)), (acc ++ more).Pairwise (fun p q => p.1 ≠ q.1) → mergeK acc more = acc ++ more
  | [], acc, _ => by rw [List.append_nil]; rfl
  | p :: more, acc, h => by
    have h1 := List.pairwise_append.mp h
    have e : putK acc p.1 p.2 = acc ++ [p] := putK_new fun q hq => h1.2.2 q hq p List.mem_cons_self
    show mergeK (putK acc p.1 p.2) more = _
    have h2 : ((acc ++ [p]) ++ more).Pairwise (fun p q => p.1 ≠ q.1) := by
      rw [List.append_assoc]
      exact h
    rw [e, mergeK_new more (acc ++ [p]) h2, List.append_assoc]
    rfl
theorem zipKV_pw : ∀ {xs : List Str} {ys : List V}, xs.Nodup → (zipKV xs ys).Pairwise (fun p q => p.1 ≠ q.1)
  | [], _, _ => .nil
  | x :: xs, [], _ => .nil
  | x :: xs, y :: ys, h => by
    obtain ⟨h1, h2⟩ := List.nodup_cons.mp h
    refine .cons (fun p hp e => ?_) (zipKV_pw h2)
    obtain ⟨⟨a, b⟩, hab, rfl⟩ := List.mem_map.mp hp
    have : x = a := by injection e
    exact h1 (this ▸ (List.of_mem_zip hab).1)
theorem valV_zip : ∀ {xs ys : List Str} {c : Str}, c ∈ xs → xs.length ≤ ys.length → ∃ i : Nat, xs[i]? = some c ∧ ∃ d, ys[i]? = some d ∧ valV (zipKV xs (ys.map V.str)) (Sum.inr c) = some (.str d)
  | x :: xs, y :: ys, c, hc, hl => by
    by_cases e : x = c
    · exact ⟨0, by rw [e]; rfl, y, rfl, valV_pos (p := (Sum.inr x, V.str y)) (by rw [e])⟩
    · have hc' : c ∈ xs := (List.mem_cons.mp hc).resolve_left fun h => e h.symm
      obtain ⟨i, h1, d, h2, h3⟩ := valV_zip hc' (Nat.le_of_succ_le_succ hl)
      exact ⟨i + 1, h1, d, h2, (valV_neg (p := (Sum.inr x, V.str y)) fun h => e (by injection h)).trans h3⟩
  | x :: xs, [], c, _, hl => by simp at hl
theorem nodup_at {ys : List Str} (h : ys.Nodup) {i j : Nat} {d : Str} (h1 : ys[i]? = some d) (h2 : ys[j]? = some d) : i = j := by
  obtain ⟨l1, e1⟩ := List.getElem?_eq_some_iff.mp h1
  obtain ⟨l2, e2⟩ := List.getElem?_eq_some_iff.mp h2
  exact (List.getElem_inj h).mp (e1.trans e2.symm)
theorem rn_zip {xs ys : List Str} (hx : xs.Nodup) (hy : ys.Nodup) (hl : xs.length ≤ ys.length) (hm : ∀ c ∈ ys, c ∈ menu) : ∃ f, RnOk (mergeK [] (zipKV xs (ys.map V.str))) xs f := by
  have e0 : mergeK [] (zipKV xs (ys.map V.str)) = zipKV xs (ys.map V.str) := mergeK_new _ [] (by rw [List.nil_append]; exact zipKV_pw hx)
  rw [e0]
  have key : ∀ c, ∃ d, c ∈ xs → ∃ i : Nat, xs[i]? = some c ∧ ys[i]? = some d ∧ valV (zipKV xs (ys.map V.str)) (Sum.inr c) = some (.str d) := fun c => by
    by_cases hc : c ∈ xs
    · obtain ⟨i, h1, d, h2, h3⟩ := valV_zip hc hl
      exact ⟨d, fun _ => ⟨i, h1, h2, h3⟩⟩
    · exact ⟨"", fun h => (hc h).elim⟩
  obtain ⟨f, hf⟩ := Classical.axiomOfChoice key
  refine ⟨f, fun c hc => ?_, fun c hc d hd e => ?_, fun c hc => ?_⟩
  · obtain ⟨i, _, _, h⟩ := hf c hc
    exact h
  · obtain ⟨i, h1, h2, _⟩ := hf c hc
    obtain ⟨j, g1, g2, _⟩ := hf d hd
    rw [e] at h2
    have := nodup_at hy h2 g2
    subst this
    rw [h1] at g1
    exact Option.some.inj g1
  · obtain ⟨i, _, h2, _⟩ := hf c hc
    exact hm _ (List.mem_of_getElem? h2)
def spRenQ : Sp := fun vs H Q _ => ∃ (t d : Addr) (q : Qd) (kvs : List (Key × V)) (nm : List Str) (f : Str → Str), vs = [.ref t, .ref d] ∧ QAt H t q.1 q.2 ∧ QZ q.1 q.2 ∧ H d = some (.dK kvs) ∧ RnOk kvs nm f ∧ inN nm q ∧ ∀ (H' : Hp) (r : Addr), Same H H' → QAt H' r (renQ f q).1 (renQ f q).2 → Q (.ref r) H'
abbrev nRenQ : List Str := ["question", "names", "columns", "last", "renamed", "column"]
theorem scRenQ : FnScope nRenQ ["question", "names"] (defScope sRenQ) := ⟨rfl, rfl, rfl, by decide +kernel, rfl, by decide +kernel, by decide +kernel⟩
theorem RnOk.get {kvs : List (Key × V)} {nm : List Str} {f : Str → Str} (R : RnOk kvs nm f) {H : Hp} {d : Addr} {c : Str} (hd : H d = some (.dK kvs)) (hc : c ∈ nm) : DGet H d (.str c) (some (.str (f c))) := by
  have := DGet.k (k := Sum.inr c) hd
  rw [R.at_ c hc] at this
  exact this
theorem ok_renq {f : Addr} {fd : FuncData} (F : Fun K "renamed_question" "renamed_question" sRenQ f fd) (T : Txt K mg) : FnOk P w K mg base CX0 1 f fd ["question", "names"] spRenQ := by
  refine F.ok scRenQ (fun vs H Q E h => ?_) (fun cdv A outer s H vs Q E hr h => ?_)
  · obtain ⟨t, d, q, kvs, nm, g, rfl, _⟩ := h
    rfl
  · obtain ⟨t, d, q, kvs, nm, g, rfl, hq, Z, hd, R, hin, k⟩ := h
    have nd := scRenQ.nd
    have hu1 : A.units + 3 + 1 < cLine := by
      have := hr.un
      have e : (A.deeper (envOfC "renamed_question" (defScope sRenQ) s.heap.objs.size f cdv)).units = A.units + 3 := rfl
      omega
    refine ⟨_, pss_cons (ps_asg (pv 0) (pg_tup (by rfl) (pgs_cons (pg_name (i := 2) nd rfl (by first | exact Or.inl rfl | exact Or.inr rfl)) (pgs_cons (pg_name (i := 3) nd rfl (by first | exact Or.inl rfl | exact Or.inr rfl)) pgs_nil))))
      (pss_cons (ps_set (i := 4) nd rfl (by first | exact Or.inl rfl | exact Or.inr rfl) (pe_callTy call_tuple_of (by rfl) T.tuple (by decide +kernel) (pa_cons (pe_callB cr_sortedST (by rfl) T.sorted (by decide +kernel) (pa_cons
        (pe_lc (own := [("column", 5)]) (g := gName 5) (tt := tYes) rfl nd (pi_tup (pv 2)) (blkOk_by (N := nRenQ) (sc := defScope sRenQ) (by decide +kernel)) (fun _ _ _ _ _ => pg_name (i := 5) nd rfl (by first | exact Or.inl rfl | exact Or.inr rfl)) (fun _ _ _ _ _ => pts_nil) (fun _ _ _ _ _ => pe_dget hu1 (pv 1) (pv 5) (fun _ _ => rfl))) pa_nil)) pa_nil)))
      (pss_cons (ps_if (pt_cmpR op_eq (pv 3) pe_str (nomark _)) (pss_one (ps_ret (pe_tup (pa_cons (pv 4) (pa_cons pe_str pa_nil))))) pss_nil)
      (pss_one (ps_ret (pe_tup (pa_cons (pv 4) (pa_cons (pe_dget hu1 (pv 1) (pv 3) (fun _ _ => rfl)) pa_nil))))))), ?_⟩
    obtain ⟨c, h1, h2⟩ := id hq
    refine ⟨_, rfl, t, _, rfl, SqT.of h1, rfl, _, _, rfl, _, _, rfl, rfl, ?_⟩
    refine ⟨_, rfl, c, rfl, ⟨_, SqT.of h2⟩, fun D hD => ?_⟩
    refine lc_tup (K := K) (a := c) (xs := q.1.map V.str) (fun i H' => Same H H' ∧ H' D = some (.lst (((q.1.take i).map g).map V.str))) ⟨same_new hD, upd_same⟩ (fun i H' _ h => SqT.of (h.1 _ _ h2)) ?_ ?_
    · rintro i x H1 hx ⟨s1, hDl⟩
      rw [List.getElem?_map] at hx
      obtain ⟨z, hz, rfl⟩ := Option.map_eq_some_iff.mp hx
      have il : i < q.1.length := (List.getElem?_eq_some_iff.mp hz).1
      have zm := hin.1 z (List.mem_of_getElem? hz)
      have et : q.1.take (i + 1) = q.1.take i ++ [z] := by rw [List.take_add_one, hz]; rfl
      refine ⟨rfl, Exists.intro _ ⟨rfl, Exists.intro _ ⟨rfl, d, .str (g z), rfl, R.get (s1 _ _ hd) zm, _, hDl, small1000 (by have := Z.m.le; simp; omega), fun b o hb => ?_, ?_⟩⟩⟩
      · rw [upd_ne (ne_of_none hb hD)]
        exact s1 _ _ hb
      · rw [upd_same, et, List.map_append, List.map_append]
        rfl
    · rintro H1 ⟨s1, hDl⟩
      rw [List.length_map, List.take_of_length_le (Nat.le_refl _)] at hDl
      refine ⟨D, q.1.map g, rfl, .inl (SqL.of hDl), by rw [List.length_map]; have := Z.m.le; omega, fun ws p hw hs hp => ?_⟩
      refine ⟨p, _, rfl, .inl ⟨SqL.of upd_same, fun e he => ?_⟩⟩
      have s2 := s1.trans ((same_new (o := .lst (ws.map V.str)) hp).trans (same_new (o := .tup (ws.map V.str)) he))
      have ew : ws = (renQ g q).1 := srt_eq hw hs
      have he2 : (upd (upd H1 p (.lst (ws.map V.str))) e (.tup (ws.map V.str))) e = some (.tup ((renQ g q).1.map V.str)) := by rw [upd_same, ew]
      generalize upd (upd H1 p (.lst (ws.map V.str))) e (.tup (ws.map V.str)) = H2 at s2 he2 ⊢
      refine ⟨_, rfl, rfl, _, rfl, ?_⟩
      by_cases h0 : q.2 = ""
      · rw [decide_eq_true (congrArg V.str h0)]
        refine iteT ?_
        refine ⟨_, rfl, by show 2 ≤ sizeLine; decide, fun r hr0 => ?_⟩
        have s3 := same_new (o := .tup [.ref e, .str ""]) hr0
        refine k _ r (s2.trans s3) ⟨e, ?_, s3 _ _ he2⟩
        rw [upd_same, renQ_plain h0]
      · rw [decide_eq_false (fun h => h0 (by injection h))]
        refine iteF ?_
        refine ⟨_, rfl, _, rfl, _, rfl, d, .str (g q.2), rfl, R.get (s2 _ _ hd) (hin.2.resolve_left h0), by show 2 ≤ sizeLine; decide, fun r hr0 => ?_⟩
        have s3 := same_new (o := .tup [.ref e, .str (g q.2)]) hr0
        refine k _ r (s2.trans s3) ⟨e, ?_, s3 _ _ he2⟩
        rw [upd_same, renQ_last h0]
def spARenE (C CM : Addr) : Sp := fun vs H Q E => ∃ (a d : Addr) (zs : List Qd) (kvs : List (Key × V)) (nm : List Str) (f : Str → Str), vs = [.ref a, .ref d] ∧ AsV H C a zs ∧ QZs zs ∧ zs.length ≤ 48 ∧ H d = some (.dK kvs) ∧ RnOk kvs nm f ∧ (∀ q ∈ zs, inN nm q) ∧ NewQ C CM H (zs.map (renQ f)) Q E
abbrev nARen : List Str := ["self", "names", "question"]
theorem scARen : FnScope nARen ["self", "names"] (defScope sARen) := ⟨rfl, rfl, rfl, by decide +kernel, rfl, by decide +kernel, by decide +kernel⟩
theorem ok_arenE {f C CM fI : Addr} {fd fdI : FuncData} (F : Fun K "renamed" "Asked.renamed" sARen f fd) (T : Txt K mg) (TC : TxA K mg C) (M : Mk K C fI) (FI : FnOk P w K mg base (L2.CX P w) 5 fI fdI ["self", "questions"] (spAInitE C CM)) (bI : Binds K fdI ["self", "questions"] [])
    (cR : Cal P w K mg base 1 "renamed_question" ["question", "names"] spRenQ) : FnOk P w K mg base (L2.CX P w) 7 f fd ["self", "names"] (spARenE C CM) := by
  refine F.okX scARen (fun vs H Q E h => ?_) (fun cdv A outer s H vs Q E hr h => ?_)
  · obtain ⟨a, d, zs, kvs, nm, g, rfl, _⟩ := h
    rfl
  · obtain ⟨a, d, zs, kvs, nm, g, rfl, ⟨l, xs, ⟨dx, ha, hl⟩, hq⟩, hz, l48, hd, R, hin, k⟩ := h
    have nd := scARen.nd
    have hr1 : Room 1 _ := hr.mono (by decide)
    refine ⟨_, pss_one (ps_ret (pe_mkS M FI hr rfl TC.mgC bI (fun σ => passAt (takes_of rfl rfl rfl rfl) σ) (pa_cons (pe_lc (own := [("question", 2)]) (g := gName 2) (tt := tYes) rfl nd (pi_list (pe_fld (pv 0) rfl)) (blkOk_by (N := nARen) (sc := defScope sARen) (by decide +kernel))
      (fun _ _ _ _ _ => pg_name (i := 2) nd rfl (by first | exact Or.inl rfl | exact Or.inr rfl)) (fun _ _ _ _ _ => pts_nil) (fun _ _ _ _ _ => pe_call cR.G hr1 rfl cR.m cR.kp cR.b .nil pass0 (pa_cons (pv 2) (pa_cons (pv 1) pa_nil)))) pa_nil))), ?_⟩
    have l1 := hq.len
    refine ⟨_, rfl, a, C, dx, _, _, rfl, ha, TC.cl, TC.nQ, rfl, l, rfl, ⟨_, SqL.of hl⟩, fun D hD => ?_⟩
    refine lc_list (K := K) (a := l) (xs := xs) (fun i H' => ∃ us : List V, Same H H' ∧ H' D = some (.lst us) ∧ us.length = i ∧ QL H' us ((zs.take i).map (renQ g))) ⟨[], same_new hD, upd_same, rfl, .nil⟩ (fun i H' _ ⟨_, s, _⟩ => SqL.of (s _ _ hl)) ?_ ?_
    · rintro i x H1 hx ⟨us, s1, hUl, ul, qu⟩
      have hil : i < xs.length := (List.getElem?_eq_some_iff.mp hx).1
      obtain ⟨o, q, rfl, hqi, hqa⟩ := (hq.same s1).at_ hx
      have qm := List.mem_of_getElem? hqi
      have et : zs.take (i + 1) = zs.take i ++ [q] := by rw [List.take_add_one, hqi]; rfl
      rw [et, List.map_append]
      refine ⟨rfl, Exists.intro _ ⟨rfl, Exists.intro _ ⟨rfl, o, d, q, kvs, nm, g, rfl, hqa, hz q qm, s1 _ _ hd, R, hin q qm, fun H2 r s2 hr2 => ?_⟩⟩⟩
      refine ⟨us, s2 _ _ hUl, small1000 (by omega), us ++ [.ref r], fun b' o' hb2 => ?_, upd_same, by rw [List.length_append]; simp; omega, ?_⟩
      · rw [upd_ne (ne_of_none hb2 hD)]
        exact s2 _ _ (s1 _ _ hb2)
      · exact QL.off (xs := us) (s2 _ _ hUl) ((qu.same s2).snoc (q := renQ g q) hr2)
    · rintro H1 ⟨us, s1, hUl, ul, qu⟩ x dx' nx ndx nex
      rw [l1, List.take_of_length_le (Nat.le_refl _)] at qu
      refine mkQ (qs := zs.map (renQ g)) (.inl hUl) qu (fun q hq' => ?_) (by omega) nx ndx (k.pre s1)
      obtain ⟨p, hp, rfl⟩ := List.mem_map.mp hq'
      exact R.qz (hz p hp) (hin p hp)
end
end Qk
set_option maxRecDepth 100000
set_option maxHeartbeats 4000000
namespace Qk
open PySem PySem.Spec PyProof.Rows L2
section
variable {P : Program} {w : World} {K : PySem.W.Frag} {mg : Str → Option Value} {base : Heap}
/-- the class Asked and its errors, with all that the law asks of them -/
structure SA (P : Program) (w : World) (K : PySem.W.Frag) (mg : Str → Option Value) (base : Heap) (C CW CM CN CK : Addr) where
  T : TxA K mg C
  N : TxN K C
  E : TxE K mg CW CM CN CK
  (fI fE fO fA fS fL fN fT fQ fC fD fX fW fR : Addr)
  (dI dE dO dA dS dL dN dT dQ dC dD dX dW dR : FuncData)
  mkK : Mk K C fI
  gI : FnOk P w K mg base (L2.CX P w) 5 fI dI ["self", "questions"] (spAInitE C CM)
  bI : Binds K dI ["self", "questions"] []
  oE : OwnEq K C fE
  gE : FnOk P w K mg base CX0 1 fE dE ["self", "other"] (spAEq C)
  bE : Binds K dE ["self", "other"] []
  nf : PySem.W.notFirst K C (.ref C) = true
  oO : OwnBin K C fO "__or__"
  gO : FnOk P w K mg base (L2.CX P w) 7 fO dO ["self", "other"] (spABin C CM gOr)
  bO : Binds K dO ["self", "other"] []
  oA : OwnBin K C fA "__and__"
  gA : FnOk P w K mg base (L2.CX P w) 7 fA dA ["self", "other"] (spABin C CM gAnd)
  bA : Binds K dA ["self", "other"] []
  oS : OwnBin K C fS "__sub__"
  gS : FnOk P w K mg base (L2.CX P w) 7 fS dS ["self", "other"] (spABin C CM gSub)
  bS : Binds K dS ["self", "other"] []
  oL : OwnLen K C fL
  gL : FnOk P w K mg base CX0 1 fL dL ["self"] (spLenF C "_questions")
  bL : Binds K dL ["self"] []
  oIt : OwnIt K C fT
  gIt : FnS P w K mg base 1 fT dT ["self"] (spIterF C "_questions")
  bIt : Binds K dT ["self"] []
  mQ : Meth K C "questions" fQ
  gQ : FnOk P w K mg base CX0 1 fQ dQ ["self"] (spAQns C)
  bQ : Binds K dQ ["self"] []
  mC : Meth K C "columns" fC
  gC : FnOk P w K mg base CX0 3 fC dC ["self"] (spColumns C)
  bC : Binds K dC ["self"] []
  mD : Meth K C "within" fD
  gD : FnOk P w K mg base CX0 5 fD dD ["self", "other"] (spAWithin C)
  bD : Binds K dD ["self", "other"] []
  mX : Meth K C "with_question" fX
  gX : FnOk P w K mg base (L2.CX P w) 7 fX dX ["self", "question"] (spAWith C CM)
  bX : Binds K dX ["self", "question"] []
  mW : Meth K C "without" fW
  gW : FnOk P w K mg base (L2.CX P w) 7 fW dW ["self", "question"] (spAWithoutE C CM CN)
  bW : Binds K dW ["self", "question"] []
  mR : Meth K C "renamed" fR
  gR : FnOk P w K mg base (L2.CX P w) 7 fR dR ["self", "names"] (spARenE C CM)
  bR : Binds K dR ["self", "names"] []
/-- the columns of questions, ascending -/
structure ColsQ (zs : List Qd) (cs : List Str) : Prop where
  nd : cs.Nodup
  srt : sortedS cs = true
  mem : ∀ c, c ∈ cs ↔ ∃ z ∈ zs, c ∈ allC z.1 z.2
theorem ColsQ.uniq {zs : List Qd} {cs ds : List Str} (h : ColsQ zs cs) (g : ColsQ zs ds) : cs = ds := perm_sorted ((List.perm_ext_iff_of_nodup h.nd g.nd).mpr fun c => (h.mem c).trans (g.mem c).symm) (sortedS_pw h.srt) (sortedS_pw g.srt)
/-- what is told of an Asked -/
def toldD (zs : List Qd) (cs : List Str) : PyData := .tuple [.str "told", .list [.list (zs.map dq), .list (cs.map PyData.str), .int zs.length, .list (zs.map dq)]]
def ToldV (K : PySem.W.Frag) (H : Hp) (v : V) (zs : List Qd) : Prop := ∃ cs, ColsQ zs cs ∧ Dp K H v (toldD zs cs)
/-- what comes of an error -/
def EchT (CM CN : Addr) (Q : VK) : XK := fun cls d H => ∃ (dd : Addr) (x : V), d = some dd ∧
  ((cls = .ref CM ∧ H dd = some (.xd [("limit", x)]) ∧ ∀ (H' : Hp) (p : Addr), Same H H' → H' p = some (.tup [.str "many", x]) → Q (.ref p) H') ∨
   (cls = .ref CN ∧ H dd = some (.xd [("question", x)]) ∧ ∀ (H' : Hp) (p : Addr), Same H H' → H' p = some (.tup [.str "none", x]) → Q (.ref p) H'))
/-- what comes of an Asked -/
def VchT (K : PySem.W.Frag) (C : Addr) (Q : VK) : VK := fun v H => ∃ (a : Addr) (zs : List Qd), v = .ref a ∧ AsV H C a zs ∧ QZs zs ∧ zs.length ≤ 48 ∧ ∀ (H' : Hp) (v' : V), Same H H' → ToldV K H' v' zs → Q v' H'
def TToldA (K : PySem.W.Frag) (C CM CN : Addr) : (XK → Hp → VK → Prop) → Hp → VK → Prop := fun tl H Q => ∀ Q' : VK, (∀ v G, VchT K C Q v G → Q' v G) → tl (EchT CM CN Q) H Q'
abbrev nTold : List Str := ["_law_act", "_law_found", "e"]
theorem scTold : FnScope nTold ["_law_act"] (defScope sTold) := ⟨rfl, rfl, rfl, by decide +kernel, rfl, by decide +kernel, by decide +kernel⟩
theorem three {α : Type} : ∀ {l : List α}, l.length = 3 → ∃ a b c, l = [a, b, c]
  | [a, b, c], _ => ⟨a, b, c, rfl⟩
theorem AsV.hasL {H : Hp} {C a : Addr} {zs : List Qd} (h : AsV H C a zs) : ∃ (dx l : Addr) (ys : List V), H a = some (.ins C dx [("_questions", .ref l)]) ∧ H l = some (.lst ys) ∧ QL H ys zs := by
  obtain ⟨l, ys, ⟨dx, h1, h2⟩, h3⟩ := h
  exact ⟨dx, l, ys, h1, h2, h3⟩
theorem told_givesA {X : Cx} {g C CW CM CN CK : Addr} {cdg : Value} {q : Str} (SC : SA X.prog X.w X.K X.mg X.base C CW CM CN CK) (T : Txt X.K X.mg) (hr0 : Room 6 X.A) :
    LamX.GivesTo X nTold "_law_told" (defScope sTold) g cdg (defBody sTold) "_law_act" q (TToldA X.K C CM CN) := by
  intro f c' s H Q tl act hc h
  have nd := scTold.nd
  have TE := SC.E
  have hr5 : Room 5 (X.A.deeper (envOfC "_law_told" (defScope sTold) s.heap.objs.size g cdg)) := hr0.deeper _
  have hr1 : Room 1 (X.A.deeper (envOfC "_law_told" (defScope sTold) s.heap.objs.size g cdg)) := hr5.mono (by decide)
  have hr2 : Room 2 (X.A.deeper (envOfC "_law_told" (defScope sTold) s.heap.objs.size g cdg)) := hr5.mono (by decide)
  have hr3 : Room 3 (X.A.deeper (envOfC "_law_told" (defScope sTold) s.heap.objs.size g cdg)) := hr5.mono (by decide)
  have hr4 : Room 4 (X.A.deeper (envOfC "_law_told" (defScope sTold) s.heap.objs.size g cdg)) := hr5.mono (by decide)
  refine ⟨_, pss_one (ps_try_asE (X := (cxOf C8.CX0 X.prog X.w X.K X.mg X.base nTold "_law_told" (defScope sTold) g cdg X.A X.stack s H C8.E0).nox) (i := 2) (c := .ref CK)
      (tb := fun W D σ G => ∃ Ech : XK, (∀ cls d σ' G', Ech cls d G' → σ'.length = 3 → W cls d σ' G') ∧ σ[0]? = some (some (.ref f)) ∧ G c' = some (LamX.CodeO c' q) ∧ tl Ech G fun v G' => D.nx (σ.set 1 (some v)) G')
      (pss_one (ps_ret (pe_tup (pa_cons pe_str (pa_cons (pe_lst (pa_cons (pe_meth0 (pv 1) SC.T.cl SC.mQ SC.gQ hr1 SC.bQ .nil pass0) (pa_cons (pe_meth0 (pv 1) SC.T.cl SC.mC SC.gC hr3 SC.bC .nil pass0) (pa_cons (pe_callB (r := rLenOwn C "_questions") (call_lenOwn SC.oL SC.gL SC.bL hr2) (by rfl) T.len (by decide +kernel) (pa_cons (pv 1) pa_nil)) (pa_cons (pe_callTy (call_listOwnF rfl SC.oIt SC.gIt SC.bIt SC.oL SC.gL SC.bL hr4) (by rfl) T.list (by decide +kernel) (pa_cons (pv 1) pa_nil)) pa_nil))))) pa_nil))))) rfl rfl nd rfl rfl ⟨rfl, by decide, .inl TE.mke⟩ (fun W pn xe tk _ => ?_)
      (fun a oe cls d pn hz hf => (pss_cons (ps_if (PW.pt (pw_and (pt_val (pe_callB (r := rIsXf X.K a cls d) (call_isXf hz hf) (by rfl) T.isinstance (by decide +kernel) (pa_cons (pv 2) (pa_cons (pe_glob (v := .ref CM) rfl TE.mM rfl) pa_nil)))) (pw_and1 (pt_not (pt_val (pe_callB (r := rIsXf X.K a cls d) (call_isXf hz hf) (by rfl) T.isinstance (by decide +kernel) (pa_cons (pv 2) (pa_cons (pe_glob (v := .ref CN) rfl TE.mN rfl) pa_nil)))))))) (pss_one (ps_ret (pe_tup (pa_cons pe_str (pa_cons (pe_xf TE.erM.x TE.noM hz hf (pv 2)) pa_nil))))) pss_nil)
      (pss_cons (ps_if (PW.pt (pw_and (pt_val (pe_callB (r := rIsXf X.K a cls d) (call_isXf hz hf) (by rfl) T.isinstance (by decide +kernel) (pa_cons (pv 2) (pa_cons (pe_glob (v := .ref CN) rfl TE.mN rfl) pa_nil)))) (pw_and1 (pt_not (pt_val (pe_callB (r := rIsXf X.K a cls d) (call_isXf hz hf) (by rfl) T.isinstance (by decide +kernel) (pa_cons (pv 2) (pa_cons (pe_glob (v := .ref CM) rfl TE.mM rfl) pa_nil)))))))) (pss_one (ps_ret (pe_tup (pa_cons pe_str (pa_cons (pe_xf TE.erN.x TE.noN hz hf (pv 2)) pa_nil))))) pss_nil)
      (pss_one (ps_ret (pe_tup (pa_cons pe_str (pa_cons pe_int pa_nil))))))))), ?_⟩
  · refine ⟨fun pins s' σ H' D I h' => ?_⟩
    obtain ⟨Ech, hW, h1, h2, h3⟩ := h'
    have hp := fun p1 p2 => act _ pn xe Ech p1 p2 (takes_len tk) hW
    exact (pss_one (ps_set (i := 1) nd rfl (Or.inl rfl) (hp _ _))).run pins s' σ H' D I ⟨h1, h2, h3⟩
  · refine ⟨EchT CM CN Q, fun cls d σ' G h5 l5 => ?_, rfl, hc, h _ fun v G hv => ?_⟩
    · obtain ⟨dd, x, rfl, hh⟩ := h5
      obtain ⟨a0, a1, a2, rfl⟩ := three l5
      rcases hh with ⟨rfl, hx, k⟩ | ⟨rfl, hx, k⟩
      · refine ⟨TE.teM, fun e he => ?_⟩
        refine ⟨_, rfl, CM, dd, _, .ref CM, .ref CM, true, rfl, rfl, rfl, .own CM, hx, TE.erM, kit_self, _, rfl, ?_⟩
        refine iteT ?_
        refine ⟨_, rfl, CM, dd, _, .ref CN, .ref CN, false, rfl, rfl, rfl, .own CN, hx, TE.erM, TE.kMN, _, rfl, ?_⟩
        refine iteT ?_
        refine ⟨_, rfl, rfl, rfl, dd, _, x, rfl, hx, rfl, by show 2 ≤ sizeLine; decide, fun p hp => ?_⟩
        exact k _ p (same_new hp) upd_same
      · refine ⟨TE.teN, fun e he => ?_⟩
        refine ⟨_, rfl, CN, dd, _, .ref CM, .ref CM, false, rfl, rfl, rfl, .own CM, hx, TE.erN, TE.kNM, _, rfl, ?_⟩
        refine iteF ?_
        refine iteF ?_
        refine ⟨_, rfl, CN, dd, _, .ref CN, .ref CN, true, rfl, rfl, rfl, .own CN, hx, TE.erN, kit_self, _, rfl, ?_⟩
        refine iteT ?_
        refine ⟨_, rfl, CN, dd, _, .ref CM, .ref CM, false, rfl, rfl, rfl, .own CM, hx, TE.erN, TE.kNM, _, rfl, ?_⟩
        refine iteT ?_
        refine ⟨_, rfl, rfl, rfl, dd, _, x, rfl, hx, rfl, by show 2 ≤ sizeLine; decide, fun p hp => ?_⟩
        exact k _ p (same_new hp) upd_same
    · obtain ⟨a, zs, rfl, hS, hZ, l48, k⟩ := hv
      obtain ⟨dx, l, xs, ha, hl, hT⟩ := hS.hasL
      have le := hT.len
      refine ⟨_, rfl, a, dx, _, rfl, ha, rfl, a, zs, rfl, hS, fun p us H2 s2 hp2 hpl2 hu2 => ?_⟩
      refine ⟨_, rfl, a, dx, _, rfl, s2 _ _ ha, rfl, a, l, xs, zs, rfl, ⟨dx, _, s2 _ _ ha, rfl, s2 _ _ hl⟩, hT.same s2, hZ, fun H3 c cs s3 hc3 hcl3 ncs scs mcs => ?_⟩
      have s13 := s2.trans s3
      refine ⟨_, rfl, a, l, xs, rfl, ⟨dx, _, s13 _ _ ha, rfl, s13 _ _ hl⟩, by omega, ?_⟩
      refine ⟨_, rfl, a, l, xs, rfl, ⟨dx, _, s13 _ _ ha, rfl, s13 _ _ hl⟩, by omega, fun e he => ?_⟩
      have s4 := same_new (o := .lst xs) he
      refine ⟨by show 4 ≤ sizeLine; decide, fun o ho => ?_⟩
      have s5 := same_new (o := .lst [.ref p, .ref c, .int (xs.length : Int), .ref e]) ho
      refine ⟨by show 2 ≤ sizeLine; decide, fun t ht => ?_⟩
      have s6 := same_new (o := .tup [.str "told", .ref o]) ht
      have s56 := s5.trans s6
      have s46 := s4.trans s56
      refine k _ (.ref t) (s13.trans s46) ⟨cs, ⟨ncs, scs, mcs⟩, ?_⟩
      refine .tup (SqT.of upd_same) (.cons (.str _) (.cons (.lst (SqL.of (s6 _ _ upd_same)) (.cons (.lst (SqL.of (s46 _ _ (s3 _ _ hpl2))) (hu2.same (s3.trans s46)).dp) (.cons (.lst (SqL.of (s46 _ _ hcl3)) (dp_strs _)) (.cons ?_ (.cons (.lst (SqL.of (s56 _ _ upd_same)) (hT.same (s13.trans s46)).dp) .nil))))) .nil))
      rw [le]
      exact .int _
end
end Qk
set_option maxRecDepth 100000
set_option maxHeartbeats 4000000
namespace Qk
open PySem PySem.Spec PyProof.Rows L2
section
variable {P : Program} {w : World} {K : PySem.W.Frag} {mg : Str → Option Value} {base : Heap}
/-- the columns of a question, as the law has them -/
def spLAll : Sp := fun vs H Q _ => ∃ (q : Addr) (cols : List Str) (e : Str), vs = [.ref q] ∧ QAt H q cols e ∧ QZ cols e ∧ ∀ (p : Addr) (H' : Hp), Same H H' → H p = none → H' p = some (.lst ((rowC cols e).map V.str)) → Q (.ref p) H'
theorem scLAll : FnScope ["_law_question"] ["_law_question"] (defScope sLAll) := ⟨rfl, rfl, rfl, by decide +kernel, rfl, by decide +kernel, by decide +kernel⟩
theorem ok_lall {f : Addr} {fd : FuncData} (F : Fun K "_law_all" "_law_all" sLAll f fd) (T : Txt K mg) : FnOk P w K mg base CX0 1 f fd ["_law_question"] spLAll := by
  refine F.ok scLAll (fun vs H Q E h => ?_) (fun cdv A outer s H vs Q E hr h => ?_)
  · obtain ⟨q, cols, e, rfl, _⟩ := h
    rfl
  · obtain ⟨q, cols, e, rfl, ⟨c, hq, hc⟩, Z, k⟩ := h
    refine ⟨_, (pss_one (ps_ret (pe_op op_cat (pe_callTy call_list_of (by rfl) T.list (by decide +kernel) (pa_cons (pe_ix ix_tup (pv 0) pe_int fun _ _ => rfl) pa_nil)) (pe_op op_rep (pe_lst (pa_cons (pe_ix ix_tup (pv 0) pe_int fun _ _ => rfl) pa_nil)) (pe_callTy call_int1 (by rfl) T.int (by decide +kernel) (pa_cons (pe_cmpR op_ne (pe_ix ix_tup (pv 0) pe_int fun _ _ => rfl) pe_str (nomark _)) pa_nil)))))), ?_⟩
    refine ⟨_, rfl, q, _, 0, _, rfl, rfl, SqT.of hq, rfl, c, _, rfl, .inr (SqT.of hc), fun p hp => ?_⟩
    have s1 := same_new (o := .lst (cols.map V.str)) hp
    refine ⟨_, rfl, q, _, 1, _, rfl, rfl, SqT.of (s1 _ _ hq), rfl, by show 1 ≤ sizeLine; decide, fun d hd => ?_⟩
    have s2 := same_new (o := .lst [V.str e]) hd
    refine ⟨_, rfl, q, _, 1, _, rfl, rfl, SqT.of (s2 _ _ (s1 _ _ hq)), rfl, rfl, .inr ⟨_, rfl, ?_⟩⟩
    have hdl : (upd (upd H p (.lst (cols.map V.str))) d (.lst [V.str e])) d = some (.lst [V.str e]) := upd_same
    have hpl := s2 _ _ (show (upd H p (.lst (cols.map V.str))) p = _ from upd_same)
    have s12 := s1.trans s2
    generalize upd (upd H p (.lst (cols.map V.str))) d (.lst [V.str e]) = H2 at s12 hdl hpl ⊢
    refine ⟨d, _, _, rfl, rfl, hdl, ?_, ?_, ?_, fun r hr => ?_⟩
    · split <;> decide
    · split <;> decide
    · split <;> (rw [sizeLine_eq]; simp)
    have s3 := same_new (o := .lst (List.replicate (if (!decide (V.str e = V.str "")) = true then (1 : Int) else 0).toNat [V.str e]).flatten) hr
    refine ⟨p, r, _, _, rfl, rfl, s3 _ _ hpl, upd_same, ?_, fun u hu => ?_⟩
    · rw [sizeLine_eq, List.length_map]
      have := Z.m.le
      split <;> simp <;> omega
    have s4 := same_new (o := .lst (cols.map V.str ++ (List.replicate (if (!decide (V.str e = V.str "")) = true then (1 : Int) else 0).toNat [V.str e]).flatten)) hu
    have uN : H u = none := by
      cases e' : H u with
      | none => rfl
      | some o => rw [s3 _ _ (s12 _ _ e')] at hu; cases hu
    refine k u _ (s12.trans (s3.trans s4)) uN ?_
    rw [upd_same]
    unfold rowC
    by_cases he : e = ""
    · rw [if_pos he, decide_eq_true (congrArg V.str he)]
      simp
    · rw [if_neg he, decide_eq_false (fun h => he (by injection h))]
      simp
/-- sorted(set(..)) of the columns of all -/
def spLCols : Sp := fun vs H Q _ => ∃ (a : Addr) (xs : List V) (zs : List Qd), vs = [.ref a] ∧ H a = some (.lst xs) ∧ QL H xs zs ∧ QZs zs ∧ xs.length ≤ 60 ∧
  ∀ (H' : Hp) (p : Addr) (cs : List Str), Same H H' → H p = none → H' p = some (.lst (cs.map V.str)) → cs.Nodup → sortedS cs = true → (∀ c, c ∈ cs ↔ ∃ z ∈ zs, c ∈ allC z.1 z.2) → Q (.ref p) H'
abbrev nLC : List Str := ["_law_questions_here", "_law_question", "_law_found"]
theorem scLCols : FnScope nLC ["_law_questions_here"] (defScope sLCols) := ⟨rfl, rfl, rfl, by decide +kernel, rfl, by decide +kernel, by decide +kernel⟩
theorem ok_lcols {f : Addr} {fd : FuncData} (F : Fun K "_law_columns" "_law_columns" sLCols f fd) (T : Txt K mg) (cA : Cal P w K mg base 1 "_law_all" ["_law_question"] spLAll) : FnOk P w K mg base CX0 2 f fd ["_law_questions_here"] spLCols := by
  refine F.ok scLCols (fun vs H Q E h => ?_) (fun cdv A outer s H vs Q E hr h => ?_)
  · obtain ⟨a, xs, zs, rfl, _⟩ := h
    rfl
  · obtain ⟨a, xs, zs, rfl, ha, hq, hz, hl, k⟩ := h
    have nd := scLCols.nd
    refine ⟨_, (pss_cons (ps_set (i := 2) nd rfl (by first | exact Or.inl rfl | exact Or.inr rfl) (pe_lst pa_nil))
      (pss_cons (ps_for PassesOwn.never rfl (pi_list (pv 0)) (pg_name (i := 1) nd rfl (by first | exact Or.inl rfl | exact Or.inr rfl)) (pss_one (ps_set (i := 2) nd rfl (by first | exact Or.inl rfl | exact Or.inr rfl) (pe_op op_cat (pv 2) (pe_call cA.G hr rfl cA.m cA.kp cA.b .nil pass0 (pa_cons (pv 1) pa_nil))))))
      (pss_one (ps_ret (pe_callB (Qk.cr_sortT rfl) (by rfl) T.sorted (by decide +kernel) (pa_cons (pe_callTy (cr_setW rfl) (by rfl) T.set (by decide +kernel) (pa_cons (pv 2) pa_nil)) pa_nil)))))), ?_⟩
    refine ⟨by decide, fun p hp => ?_⟩
    have s1 := same_new (o := .lst []) hp
    refine ⟨_, rfl, a, rfl, ⟨_, SqL.of (s1 _ _ ha)⟩, for_list (K := K) (a := a) (xs := xs) (fun i σ G => ∃ (g : Option V) (p : Addr) (cs : List Str), σ = [some (.ref a), g, some (.ref p)] ∧ Same H G ∧ G p = some (.lst (cs.map V.str)) ∧ cs.length ≤ 12 * i ∧ ∀ c, c ∈ cs ↔ ∃ z ∈ zs.take i, c ∈ allC z.1 z.2)
      ⟨none, p, [], rfl, s1, upd_same, Nat.le_refl _, fun c => by simp⟩ (fun i σ G _ ⟨_, _, _, _, s, _⟩ => SqL.of (s _ _ ha)) ?_ ?_⟩
    · rintro i x σ G hx ⟨g, p, cs, rfl, s1, hp, hcl, hm⟩
      obtain ⟨t, z, rfl, hzi, hzt⟩ := (hq.same s1).at_ hx
      have Z := hz z (List.mem_of_getElem? hzi)
      have il : i < 60 := Nat.lt_of_lt_of_le (List.getElem?_eq_some_iff.mp hx).1 hl
      have tk : zs.take (i + 1) = zs.take i ++ [z] := by rw [List.take_add_one, hzi]; rfl
      refine ⟨_, rfl, _, rfl, t, z.1, z.2, rfl, hzt, Z, fun r G1 s2 hrN hr => ?_⟩
      have rl := Z.row_le
      refine ⟨p, r, _, _, rfl, rfl, s2 _ _ hp, hr, by rw [sizeLine_eq, List.length_map, List.length_map]; omega, fun u hu => ?_⟩
      refine ⟨_, u, cs ++ rowC z.1 z.2, rfl, s1.trans (s2.trans (same_new hu)), by rw [upd_same, List.map_append], by rw [List.length_append]; omega, fun c => ?_⟩
      rw [List.mem_append, hm c, mem_row, tk]
      simp [List.mem_append, or_and_right, exists_or]
    · rintro σ G ⟨g, p, cs, rfl, s1, hp, hcl, hm⟩
      rw [hq.len, List.take_of_length_le (Nat.le_refl _)] at hm
      refine ⟨_, rfl, p, cs, rfl, .inl (SqL.of hp), by omega, fun d ys hd nd2 hmem hyl => ?_⟩
      have yl : ys.length ≤ 34 := by
        refine Nat.le_trans (nodup_len ys menu nd2 fun c hc => ?_) (by decide)
        obtain ⟨z, m, hc2⟩ := (hm c).mp ((hmem c).mp hc)
        exact (hz z m).menu c hc2
      refine ⟨d, ys, rfl, upd_same, by omega, fun ws u hpm hs hu => ?_⟩
      have s2 := s1.trans ((same_new (o := TxtO P w d ys) hd).trans (same_new (o := .lst (ws.map V.str)) hu))
      have uN : H u = none := by
        cases e' : H u with
        | none => rfl
        | some o => exact absurd ((same_new (o := TxtO P w d ys) hd _ _ (s1 _ _ e')).symm.trans hu) (by simp)
      exact k _ u ws s2 uN upd_same (hpm.nodup_iff.mpr nd2) hs fun c => hpm.mem_iff.trans ((hmem c).trans (hm c))
end
end Qk
set_option maxRecDepth 100000
set_option maxHeartbeats 4000000
namespace Qk
open PySem PySem.Spec PyProof.Rows L2
section
variable {P : Program} {w : World} {K : PySem.W.Frag} {mg : Str → Option Value} {base : Heap}
theorem QL.nt {H : Hp} {xs : List V} {qs : List Qd} (h : QL H xs qs) : QL (NT H) xs qs := Paired.mapP h fun x q ⟨t, e, c, h1, h2⟩ => ⟨t, e, c, NT.of h1 (fun _ e => (nomatch e)), NT.of h2 fun _ e => (nomatch e)⟩
theorem AsV.nt {H : Hp} {C a : Addr} {zs : List Qd} (h : AsV H C a zs) : AsV (NT H) C a zs := by
  obtain ⟨l, xs, ⟨dx, h1, h2⟩, h3⟩ := h
  exact ⟨l, xs, ⟨dx, NT.of h1 (fun _ e => (nomatch e)), NT.of h2 fun _ e => (nomatch e)⟩, h3.nt⟩
mutual
theorem D4.nt {mx : Nat} {H : Hp} {A : Addr → Prop} : ∀ {x : V} {d : PyData}, D4 mx H A x d → D4 mx (NT H) A x d
  | _, _, .non => .non
  | _, _, .bl b => .bl b
  | _, _, .int i h => .int i h
  | _, _, .str x h => .str x h
  | _, _, .lst h na ns hl hx => .lst (NT.of h fun _ e => (nomatch e)) na ns hl (D4A.nt hx)
  | _, _, .tup h na hl hx => .tup (NT.of h fun _ e => (nomatch e)) na hl (D4A.nt hx)
  | _, _, .dic0 h na => .dic0 (NT.of h fun _ e => (nomatch e)) na
  | _, _, .dic1 h na => .dic1 (NT.of h fun _ e => (nomatch e)) na
theorem D4A.nt {mx : Nat} {H : Hp} {A : Addr → Prop} : ∀ {xs : List V} {ds : List PyData}, D4A mx H A xs ds → D4A mx (NT H) A xs ds
  | _, _, .nil => .nil
  | _, _, .cons h t => .cons (D4.nt h) (D4A.nt t)
end
theorem WV.nt {mx c n : Nat} {H : Hp} {A : Addr → Prop} {x : V} (h : WV mx H A c n x) : WV mx (NT H) A c n x := by
  obtain ⟨d, h1, h2⟩ := h
  exact ⟨d, h1.nt, h2⟩
abbrev WB (b : Addr) (m c n : Nat) (G : Hp) (x : V) : Prop := WV m G (fun a => a = b) c n x
theorem WB.kpn {b : Addr} {m c n : Nat} {G G' : Hp} {x : V} (k : KpN b G G') (h : WB b m c n G x) : WB b m c n G' x := WV.keep (fun a o e na => ⟨k a o e na, na⟩) h.nt
theorem QL.kpn {b l : Addr} {H H' : Hp} {xs : List V} {qs : List Qd} (B : Bag H b l) (k : KpN b H H') (h : QL H xs qs) : QL H' xs qs := h.nt.kp B.nt k
theorem AsV.kpn {b l C a : Addr} {H H' : Hp} {zs : List Qd} (B : Bag H b l) (k : KpN b H H') (h : AsV H C a zs) : AsV H' C a zs := h.nt.kp B.nt k
theorem KpN.lst {b p : Addr} {H H' : Hp} {xs : List V} (k : KpN b H H') (h : H p = some (.lst xs)) (n : p ≠ b) : H' p = some (.lst xs) := k p _ (NT.of h fun _ e => (nomatch e)) n
theorem KpN.tup {b l p : Addr} {H H' : Hp} {xs : List V} (B : Bag H b l) (k : KpN b H H') (h : H p = some (.tup xs)) : H' p = some (.tup xs) := k p _ (NT.of h fun _ e => (nomatch e)) fun e => by
  obtain ⟨_, _, _, _, hb, _⟩ := B
  rw [e, hb] at h
  cases h
theorem KpN.of_same {b : Addr} {H H' : Hp} (s : Same H H') : KpN b H H' := KpN.of_kp (Kp.of s)
theorem Bag.ext {H H' : Hp} {b l : Addr} (e : LamX.ExtN H H') (B : Bag H b l) : Bag H' b l := B.nt.same (NT.ext e)
theorem Tabs.same {T : List (Addr × Str)} {H H' : Hp} (t : LamX.Tabs T H) (s : Same H H') : LamX.Tabs T H' := LamX.Tabs.ext t s
theorem Bag.isl {H : Hp} {b l : Addr} (B : Bag H b l) : ∃ xs, H b = some (.lst xs) := by
  obtain ⟨_, _, _, _, hb, _⟩ := B
  exact ⟨_, hb⟩
/-- where _law_told stands -/
structure ToldF (K : PySem.W.Frag) (mg : Str → Option Value) where
  g : Addr
  (dV kV doc pm cdv ct oc : Value)
  (an od : Option Addr)
  osl : Array (Option Value)
  hm : mg "_law_told" = some (.ref g)
  hk : PySem.W.keepIn K (.ref g) = true
  lk : K.lookup g = some ⟨oc, od, .func (PySem.W.fnOf "_law_told" "_law_told" (defArgs sTold) (defBody sTold) (defScope sTold) dV kV doc pm an cdv ct), osl⟩
  hcg : PySem.W.codeIn K cdv "_law_told" = true
  hb : L2.Binds K (PySem.W.fnOf "_law_told" "_law_told" (defArgs sTold) (defBody sTold) (defScope sTold) dV kV doc pm an cdv ct) ["_law_act"] []
/-- a def whose lambdas stand in the table P of its code object c -/
structure MkL (base : Heap) (mg : Str → Option Value) (T : List (Addr × Str)) (x : Str) (c P : Addr) : Prop where
  TB : LamX.TabB base mg c P
  mem : (P, x ++ ".<locals>." ++ "<lambda>") ∈ T
  un : ∀ p ∈ T, p.1 = P → p.2 = x ++ ".<locals>." ++ "<lambda>"
theorem pe_told {X : Cx} {C CW CM CN CK c P : Addr} {Tb : List (Addr × Str)} {x : Str} {params : Arguments} {body : Expr} {scope : Scope} {t : XK → TE} {p lpos pos : Pos} (TF : ToldF X.K X.mg) (SC : SA X.prog X.w X.K X.mg X.base C CW CM CN CK) (T : Txt X.K X.mg) (hg : Gl X "_law_told")
    (ML : MkL X.base X.mg Tb x c P) (hq : X.env.qual = x ++ ".<locals>.") (hcode : X.env.code = .ref c) (hr : Room 10 X.A) (L : LamX.LamS X.env.scope scope) (hdef : defaultsOf params X.env = ([], []))
    (hbind : ∀ (q : Str) (cl : List (Str × Addr)) (pm cv ctv : Value), bindArgs (PySem.W.kla_fn "<lambda>" q params body scope cl pm cv ctv) ⟨[], []⟩ = pure [])
    (hbody : ∀ (A : Around) (outer : List Env) (s : Shared) (H : Hp) (E : XK) (f c' : Addr), Room 8 (A.deeper (LamX.lamEnv X scope s.heap.objs.size f c')) → PE (LamX.lamCx X A outer s H E scope f c') body (t E)) :
    PE X (.Call (.Name "_law_told" p) [.Lambda params body scope lpos] [] pos) (LamX.tLam Tb (TToldA X.K C CM CN) t) :=
  LamX.pe_lamcall (k := 8) hg TF.hm TF.hk TF.lk TF.hcg TF.hb scTold rfl (by first | exact Or.inl rfl | exact Or.inr (Or.inl rfl)) (told_givesA SC T (hr.mono (by decide))) ML.TB hcode (by rw [hq]; exact ML.mem) (by rw [hq]; exact ML.un) hr L hdef hbind hbody
/-- where a told Shelf and a due one are alike -/
def spAlikeX (K : PySem.W.Frag) : Sp := fun vs H Q E => spAlikeD K vs H Q E ∨ spAlikeT vs H Q E
theorem alike_pair {H : Hp} {a b : Addr} {z : Str} {n : Nat} {Q : VK} {E : XK} (ha : H a = some (.tup [.str z, .int (n : Int)])) (hb : H b = some (.tup [.str z, .int (n : Int)])) (hz : okS z = true) (hn : n ≤ 1000) (k : Q (.bl true) H) : spAlikeX K [.ref a, .ref b] H Q E := by
  refine .inl ⟨.ref a, .ref b, .tuple [.str z, .int (n : Int)], rfl, .tup (SqT.of ha) (.cons (.str _) (.cons (.int _) .nil)), .tup (SqT.of hb) (.cons (.str _) (.cons (.int _) .nil)), ⟨?_, by show max 0 (max 0 0) + 1 ≤ 50; decide, by show 210 + 2 + (64 + 2 + 0) + 3 ≤ 1000000; decide⟩, k⟩
  show (fine (.str z) && (decide ((n : Int).natAbs < 10 ^ 60) && true)) = true
  rw [decide_eq_true (show (n : Int).natAbs < 10 ^ 60 by omega)]
  have := fine_strs (xs := [z]) fun c hc => by rw [List.mem_singleton.mp hc]; exact hz
  have h2 : (fine (.str z) && fineAll []) = true := this
  rw [Bool.and_eq_true] at h2
  rw [h2.1]
  rfl
theorem Rd.ext {H H' : Hp} (e : LamX.ExtN H H') {a : Addr} {u : HO} (n : ∀ ps, u ≠ .tbl ps) (h : Rd H a u) : Rd H' a u := by
  rcases h with h | ⟨o, h⟩
  · exact .inl (e _ _ h n)
  · exact .inr ⟨o, e _ _ h fun ps g => (nomatch g)⟩
mutual
theorem Dp.ext {H H' : Hp} (e : LamX.ExtN H H') : ∀ (d : PyData) (v : V), Dp K H v d → Dp K H' v d
  | .none, _, h => by cases h; exact .non
  | .bool _, _, h => by cases h; exact .bl _
  | .int _, _, h => by cases h; exact .int _
  | .str _, _, h => by cases h; exact .str _
  | .list ds, _, h => by
    cases h with
    | lst h1 h2 => exact .lst (h1.imp (Rd.ext e fun ps g => (nomatch g)) id) (Dp.extAll e ds _ h2)
  | .tuple ds, _, h => by
    cases h with
    | tup h1 h2 => exact .tup (h1.imp (Rd.ext e fun ps g => (nomatch g)) id) (Dp.extAll e ds _ h2)
  | .dict _, _, h => by cases h
theorem Dp.extAll {H H' : Hp} (e : LamX.ExtN H H') : ∀ (ds : List PyData) (vs : List V), DpAll K H vs ds → DpAll K H' vs ds
  | [], _, h => by cases h; exact .nil
  | d :: ds, _, h => by
    cases h with
    | cons h1 h2 => exact .cons (Dp.ext e d _ h1) (Dp.extAll e ds _ h2)
end
theorem ColsQ.ok {zs : List Qd} {cs : List Str} (h : ColsQ zs cs) (hz : QZs zs) : (∀ c ∈ cs, okS c = true) ∧ cs.length ≤ 34 := by
  have m : ∀ c ∈ cs, c ∈ menu := fun c hc => by
    obtain ⟨z, hm, h'⟩ := (h.mem c).mp hc
    exact (hz z hm).menu c h'
  exact ⟨fun c hc => menu_okS c (m c hc), Nat.le_trans (nodup_len cs menu h.nd m) (by decide)⟩
theorem dok_toldQ {zs : List Qd} {cs : List Str} (hz : QZs zs) (h : ColsQ zs cs) (hl : zs.length ≤ 48) : DOk (toldD zs cs) := by
  obtain ⟨ok, cl⟩ := h.ok hz
  have f1 := fine_qs hz.fine'
  have c1 := cost_qs hz.fine'
  refine ⟨?_, ?_, ?_⟩
  · show (fine (.str "told") && ((fineAll (zs.map dq) && (fineAll (cs.map PyData.str) && (decide ((zs.length : Int).natAbs < 10 ^ 60) && (fineAll (zs.map dq) && true)))) && true)) = true
    rw [f1, fine_strs ok, decide_eq_true (show (zs.length : Int).natAbs < 10 ^ 60 by omega)]
    decide +kernel
  · have d1 := depth_qs zs
    have d3 := depth_strs cs
    show max 0 (max (max (PyData.depthAll (zs.map dq) + 1) (max (PyData.depthAll (cs.map PyData.str) + 1) (max 0 (max (PyData.depthAll (zs.map dq) + 1) 0))) + 1) 0) + 1 ≤ 50
    omega
  · show 210 + 2 + ((costAll (zs.map dq) + 3 + 2 + (costAll (cs.map PyData.str) + 3 + 2 + (64 + 2 + (costAll (zs.map dq) + 3 + 2 + 0)))) + 3 + 2 + 0) + 3 ≤ 1000000
    rw [cost_strs]
    omega
theorem ToldV.ext {H H' : Hp} {v : V} {zs : List Qd} (e : LamX.ExtN H H') (h : ToldV K H v zs) : ToldV K H' v zs := by
  obtain ⟨cs, c, d⟩ := h
  exact ⟨cs, c, Dp.ext e _ _ d⟩
theorem alike_told {H : Hp} {v u : V} {zs : List Qd} {Q : VK} {E : XK} (h1 : ToldV K H v zs) (h2 : ToldV K H u zs) (hz : QZs zs) (hl : zs.length ≤ 48) (k : Q (.bl true) H) : spAlikeX K [v, u] H Q E := by
  obtain ⟨cs, c1, d1⟩ := h1
  obtain ⟨ds, c2, d2⟩ := h2
  rw [c2.uniq c1] at d2
  exact .inl ⟨v, u, toldD zs cs, rfl, d1, d2, dok_toldQ hz c1 hl, k⟩
/-- what is told of questions, or that they are too many -/
def TDQ (K : PySem.W.Frag) (H : Hp) (v : V) (qs : List Qd) : Prop := ∃ zs, Dist qs zs ∧ ((zs.length ≤ 48 ∧ ToldV K H v zs) ∨ (48 < zs.length ∧ ∃ p, v = .ref p ∧ H p = some (.tup [.str "many", .int 48])))
theorem TDQ.ext {H H' : Hp} {v : V} {qs : List Qd} (s : LamX.ExtN H H') (h : TDQ K H v qs) : TDQ K H' v qs := by
  obtain ⟨zs, D, h⟩ := h
  exact ⟨zs, D, h.imp (fun h => ⟨h.1, h.2.ext s⟩) fun ⟨l, p, e, h⟩ => ⟨l, p, e, s _ _ h fun _ g => (nomatch g)⟩⟩
theorem TDQ.same {H H' : Hp} {v : V} {qs : List Qd} (s : Same H H') (h : TDQ K H v qs) : TDQ K H' v qs := h.ext (LamX.ExtN.of s)
theorem TDQ.alike {H : Hp} {v u : V} {qs rs : List Qd} {Q : VK} {E : XK} (h1 : TDQ K H v qs) (h2 : TDQ K H u rs) (hm : ∀ q, q ∈ qs ↔ q ∈ rs) (hz : QZs qs) (k : Q (.bl true) H) : spAlikeX K [v, u] H Q E := by
  obtain ⟨zs, D1, h1⟩ := h1
  obtain ⟨ws, D2, h2⟩ := h2
  have e : zs = ws := Dist.uniq D1 D2 hm
  subst e
  have hzz : QZs zs := fun q hq => hz q ((D1.mem q).mp hq)
  rcases h1 with ⟨l1, h1⟩ | ⟨l1, p, rfl, h1⟩
  · rcases h2 with ⟨l2, h2⟩ | ⟨l2, _⟩
    · exact alike_told h1 h2 hzz l1 k
    · omega
  · rcases h2 with ⟨l2, _⟩ | ⟨l2, q, rfl, h2⟩
    · omega
    · exact alike_pair (n := 48) h1 h2 (by decide +kernel) (by decide) k
section
variable {C CM CN : Addr} {Q Q' : VK} {H : Hp} {qs : List Qd}
theorem told_newQ (hQ : ∀ v G, VchT K C Q v G → Q' v G) (hz : QZs qs) (k : ∀ H' v, Same H H' → TDQ K H' v qs → Q v H') : NewQ C CM H qs Q' (EchT CM CN Q) := fun zs D =>
  ⟨fun hl H' x s hS => hQ _ _ ⟨x, zs, rfl, hS, fun q hq => hz q ((D.mem q).mp hq), hl, fun H'' v s' tv => k H'' v (s.trans s') ⟨zs, D, .inl ⟨hl, tv⟩⟩⟩,
   fun hl H' d s hd => ⟨d, .int 48, rfl, .inl ⟨rfl, upd_same, fun H'' p s' hp => k _ (.ref p) (s.trans ((same_new hd).trans s')) ⟨zs, D, .inr ⟨hl, p, rfl, hp⟩⟩⟩⟩⟩
end
def spDue (K : PySem.W.Frag) : Sp := fun vs H Q _ => ∃ (o : Addr) (ys : List V) (qs : List Qd), vs = [.ref o] ∧ H o = some (.lst ys) ∧ QL H ys qs ∧ QZs qs ∧ ys.length < 300 ∧ ∀ (H' : Hp) (v : V), Same H H' → TDQ K H' v qs → Q v H'
abbrev nDue : List Str := ["_law_some", "_law_due_here"]
theorem scDue : FnScope nDue ["_law_some"] (defScope sDue) := ⟨rfl, rfl, rfl, by decide +kernel, rfl, by decide +kernel, by decide +kernel⟩
theorem ok_due {f : Addr} {fd : FuncData} (F : Fun K "_law_due" "_law_due" sDue f fd) (T : Txt K mg) (cC : Cal P w K mg base 2 "_law_columns" ["_law_questions_here"] spLCols) : FnOk P w K mg base CX0 3 f fd ["_law_some"] (spDue K) := by
  refine F.ok scDue (fun vs H Q E h => ?_) (fun cdv A outer s H vs Q E hr h => ?_)
  · obtain ⟨o, ys, qs, rfl, _⟩ := h
    rfl
  · obtain ⟨o, ys, qs, rfl, ho, hq, hz, hl, k⟩ := h
    have nd := scDue.nd
    have hu80 : A.units + 3 + 80 < cLine := by
      have := hr.un
      have e : (A.deeper (envOfC "_law_due" (defScope sDue) s.heap.objs.size f cdv)).units = A.units + 3 := rfl
      omega
    have hu16 : A.units + 3 + 16 < cLine := by omega
    refine ⟨_, (pss_cons (ps_set (i := 1) nd rfl (by first | exact Or.inl rfl | exact Or.inr rfl) (pe_callB (cr_sortSetQ rfl hu80) (by rfl) T.sorted (by decide +kernel) (pa_cons (pe_callTy (cr_setQ rfl hu16) (by rfl) T.set (by decide +kernel) (pa_cons (pv 0) pa_nil)) pa_nil)))
      (pss_cons (ps_if (pt_cmpR op_gt (pe_callB call_len_seq (by rfl) T.len PySem.boot_len (pa_cons (pv 1) pa_nil)) pe_int (nomark _)) (pss_one (ps_ret (pe_tup (pa_cons pe_str (pa_cons pe_int pa_nil))))) pss_nil)
      (pss_one (ps_ret (pe_tup (pa_cons pe_str (pa_cons (pe_lst (pa_cons (pv 1) (pa_cons (pe_call cC.G hr rfl cC.m cC.kp cC.b .nil pass0 (pa_cons (pv 1) pa_nil)) (pa_cons (pe_callB call_len_seq (by rfl) T.len PySem.boot_len (pa_cons (pv 1) pa_nil)) (pa_cons (pv 1) pa_nil))))) pa_nil))))))), ?_⟩
    refine ⟨_, rfl, o, ys, qs, rfl, .inl (SqL.of ho), hq, hl, fun p M hp S => ?_⟩
    have sp := same_new (o := SetQ w p M) hp
    refine ⟨p, M, rfl, upd_same, fun m hm => (S.at_ m hm).same sp, fun m hm c hc => (hz _ ((S.mem _).mp (List.mem_map_of_mem hm))).strOk c hc, fun us zs d hd hql hpm hup hsub => ?_⟩
    have sd := same_new (o := .lst us) hd
    have D : Dist qs zs := ⟨hpm.nodup_iff.mpr S.nd, hup, fun q => hpm.mem_iff.trans (S.mem q)⟩
    have sA := sp.trans sd
    have hyd : (upd (upd H p (SetQ w p M)) d (.lst us)) d = some (.lst us) := upd_same
    have hql2 := hql.same sd
    have ly : us.length = zs.length := hql.len
    have hzz : QZs zs := fun q hq => hz q ((D.mem q).mp hq)
    refine ⟨_, rfl, _, _, rfl, .inl (SqL.of hyd), _, 48, rfl, rfl, _, rfl, ?_⟩
    by_cases h48 : (48 : Int) < (us.length : Int)
    · rw [decide_eq_true h48]
      refine iteT ?_
      refine ⟨by show 2 ≤ sizeLine; decide, fun t ht => ?_⟩
      exact k _ (.ref t) (sA.trans (same_new ht)) ⟨zs, D, .inr ⟨by omega, t, rfl, upd_same⟩⟩
    · rw [decide_eq_false h48]
      refine iteF ?_
      refine ⟨_, rfl, _, rfl, d, us, zs, rfl, hyd, hql2, hzz, by omega, fun H2 c cs s2 hc2 hcl ncs scs mcs => ?_⟩
      have hd2 := s2 _ _ hyd
      have hq2 := hql2.same s2
      refine ⟨_, rfl, d, us, rfl, .inl (SqL.of hd2), _, rfl, by show 4 ≤ sizeLine; decide, fun z hz' => ?_⟩
      have s6 := same_new (o := .lst [.ref d, .ref c, .int (us.length : Int), .ref d]) hz'
      refine ⟨by show 2 ≤ sizeLine; decide, fun t ht => ?_⟩
      have s7 := same_new (o := .tup [.str "told", .ref z]) ht
      have s67 := s6.trans s7
      refine k _ (.ref t) (sA.trans (s2.trans s67)) ⟨zs, D, .inl ⟨by omega, cs, ⟨ncs, scs, mcs⟩, ?_⟩⟩
      refine .tup (SqT.of upd_same) (.cons (.str _) (.cons (.lst (SqL.of (s7 _ _ upd_same)) (.cons (.lst (SqL.of (s67 _ _ hd2)) (hq2.same s67).dp) (.cons (.lst (SqL.of (s67 _ _ hcl)) (dp_strs _)) (.cons ?_ (.cons (.lst (SqL.of (s67 _ _ hd2)) (hq2.same s67).dp) .nil))))) .nil))
      rw [ly]
      exact .int _
theorem Bag.out {G : Hp} {b l : Addr} (B : Bag G b l) : Out G (fun c => c = b) := fun c e => by
  obtain ⟨o, h⟩ := B.at_
  exact ⟨o, by rw [e]; exact h⟩
theorem alike_none2 {mx c : Nat} {H : Hp} {A : Addr → Prop} {a b : Addr} {z : Str} {x : V} {Q : VK} {E : XK} (ha : H a = some (.tup [.str z, x])) (hb : H b = some (.tup [.str z, x])) (hx : WV mx H A c 58 x) (hz : (z.cps.toList.all (fun c => decide (c < 16 ^ 8)) = true) ∧ z.cps.size ≤ 10000) (hc : c ≤ 16000000) (k : Q (.bl true) H) :
    spAlikeT [.ref a, .ref b] H Q E := by
  obtain ⟨d, h1, h2, h3⟩ := hx
  have hf : fine4 (.tuple [.str z, d]) = true := by
    simp only [fine4, fineAll4, Bool.and_eq_true, Bool.and_true]
    exact ⟨⟨hz.1, decide_eq_true hz.2⟩, D4.fine d x h1⟩
  refine ⟨a, b, _, .tuple [.str z, d], rfl, ha, hb, fun y hy => ?_, .tup ha (.cons (.str z) (.cons (D4.d3 d x h1) .nil)), .tup hb (.cons (.str z) (.cons (D4.d3 d x h1) .nil)), showable4 _ hf, ?_, ?_, k⟩
  · rcases List.mem_cons.mp hy with rfl | hy
    · rfl
    · rw [List.mem_singleton.mp hy]
      exact D4.self h1
  · have := shown_le4 _ hf
    have hz2 := hz.2
    simp only [cost4, costAll4] at this
    rw [sizeLine_eq]
    omega
  · show max 0 (max d.depth 0) + 1 ≤ 60
    have := Nat.max_le.mpr ⟨h3, Nat.zero_le 58⟩
    omega
end
end Qk
set_option maxRecDepth 100000
set_option maxHeartbeats 4000000
namespace Qk
open PySem PySem.Spec PyProof.Rows L2
section
variable {P : Program} {w : World} {K : PySem.W.Frag} {mg : Str → Option Value} {base : Heap}
def spTruth : Sp := fun vs H Q _ => ∃ b : Bool, vs = [.bl b, .bl b] ∧ Q (.bl true) H
theorem scTruth : FnScope ["_law_told_here", "_law_due_here"] ["_law_told_here", "_law_due_here"] (defScope sTruth) := ⟨rfl, rfl, rfl, by decide +kernel, rfl, by decide +kernel, by decide +kernel⟩
theorem ok_truth {f : Addr} {fd : FuncData} (F : Fun K "_law_truth" "_law_truth" sTruth f fd) (T : Txt K mg) : FnOk P w K mg base CX0 1 f fd ["_law_told_here", "_law_due_here"] spTruth := by
  refine F.ok scTruth (fun vs H Q E h => ?_) (fun cdv A outer s H vs Q E hr h => ?_)
  · obtain ⟨b, rfl, _⟩ := h
    rfl
  · obtain ⟨b, rfl, k⟩ := h
    refine ⟨_, pss_one (ps_ret (pe_and (pe_or (pe_cmpR op_isBl (pv 0) pe_bl (nomark _)) (pe_one (pe_cmpR op_isBl (pv 0) pe_bl (nomark _)))) (pe_one (pe_cmpR op_eq (pv 0) (pv 1) (nomark _))))), ?_⟩
    cases b with
    | true =>
      refine ⟨_, rfl, true, true, rfl, rfl, ?_⟩
      refine ⟨true, rfl, ?_⟩
      refine iteT ?_
      refine ⟨_, rfl, ?_⟩
      refine iteT ?_
      refine ⟨_, rfl, _, rfl, rfl, ?_⟩
      show Q (.bl (decide (V.bl true = V.bl true))) H
      rw [decide_eq_true rfl]
      exact k
    | false =>
      refine ⟨_, rfl, false, true, rfl, rfl, ?_⟩
      refine ⟨false, rfl, ?_⟩
      refine iteF ?_
      refine ⟨_, rfl, false, false, rfl, rfl, ?_⟩
      refine ⟨true, rfl, ?_⟩
      refine iteT ?_
      refine ⟨_, rfl, _, rfl, rfl, ?_⟩
      show Q (.bl (decide (V.bl false = V.bl false))) H
      rw [decide_eq_true rfl]
      exact k
theorem nm_sub13 {a m : Nat} : ∀ c ∈ nm a m, c ∈ menu13 := fun c hc => by
  have h := List.mem_of_mem_drop (List.mem_of_mem_take hc)
  exact (List.mem_append.mp h).elim id id
theorem menu13_sub : ∀ c ∈ menu13, c ∈ menu := by decide +kernel
def spNamesN : Sp := fun vs H Q _ => ∃ (b l : Addr) (m : Nat), vs = [.ref b, .int (m : Int)] ∧ m ≤ 12 ∧ Bag H b l ∧
  ∀ (xs : List Str) (p : Addr) (H' : Hp), xs.Nodup → (∀ c ∈ xs, c ∈ menu13) → xs.length = m → p ≠ b → H' p = some (.lst (xs.map V.str)) → Bag H' b l → Kp b H H' → Q (.ref p) H'
theorem ok_namesN {f : Addr} {fd : FuncData} (F : Fun K "_law_names" "_law_names" sNames f fd) (T : Txt K mg) (cT : Cal P w K mg base 1 "_law_take" ["_law_bag_here", "_law_upto"] spTake) : FnOk P w K mg base CX0 2 f fd ["_law_bag_here", "_law_many"] spNamesN := by
  refine F.ok scNames (fun vs H Q E h => ?_) (fun cdv A outer s H vs Q E hr h => ?_)
  · obtain ⟨b, l, m, rfl, _⟩ := h
    rfl
  · obtain ⟨b, l, m, rfl, hm, B, k⟩ := h
    have nd := scNames.nd
    refine ⟨_, pss_cons (ps_set (i := 2) nd rfl (Or.inl rfl) (pe_split pe_str pe_str))
      (pss_cons (ps_set (i := 3) nd rfl (Or.inl rfl) (pe_call cT.G hr rfl cT.m cT.kp cT.b .nil pass0 (pa_cons (pv 0) (pa_cons pe_int pa_nil))))
      (pss_one (ps_ret (pe_slice sl_list (pe_op op_cat (pv 2) (pv 2)) (po_some (pv 3)) (po_some (pe_op op_add (pv 3) (pv 1))))))), ?_⟩
    refine ⟨⟨_, rfl⟩, "a b aa ab z zzzzzzzz job view power status ask quicklyx fghmndct", " ", rfl, rfl, rfl, by decide, fun p hp => ?_⟩
    rw [split13]
    have npb : p ≠ b := B.ne hp
    refine ⟨_, rfl, b, l, 13, rfl, B.new hp, by decide, by decide, fun j H1 hj B1 k1 => ?_⟩
    have hp1 := k1 _ _ upd_same npb
    refine ⟨_, rfl, _, rfl, p, p, _, _, rfl, rfl, hp1, hp1, by decide, fun q hq => ?_⟩
    refine ⟨_, rfl, _, rfl, _, rfl, _, rfl, _, _, rfl, rfl, _, rfl, q, _, rfl, SqL.of upd_same, fun r hr => ?_⟩
    have ej : ((j : Int) + (m : Int)) = ((j + m : Nat) : Int) := by omega
    have e1 : cutV (menu13.map V.str ++ menu13.map V.str) (some (j : Int)) (some ((j : Int) + (m : Int))) = (nm j m).map V.str := by
      rw [ej, ← List.map_append]
      exact cut_mid (by show j + m ≤ 26; omega)
    rw [e1]
    obtain ⟨f1, f2, f3⟩ := nm_facts (show j < 13 by omega) hm
    refine k (nm j m) r _ f1 nm_sub13 f3 ((B1.new hq).ne hr) upd_same ((B1.new hq).new hr) ((Kp.new hp).trans (k1.trans ((Kp.new hq).trans (Kp.new hr))))
def RowIn (xs r : List Str) : Prop := Row r ∧ ∀ c ∈ r, c ∈ xs
structure GrowN (xs : List Str) (H0 : Hp) (b l p : Addr) (n : Nat) (H : Hp) : Prop where
  bag : Bag H b l
  kp : Kp b H0 H
  qs : ∃ (ys : List V) (qs : List Qd), H p = some (.lst ys) ∧ QL H ys qs ∧ QZs qs ∧ (∀ q ∈ qs, inN xs q) ∧ qs.length = n
theorem GrowN.step {xs : List Str} {H0 H H' : Hp} {b l p : Addr} {n : Nat} (g : GrowN xs H0 b l p n H) (npb : p ≠ b) (B : Bag H' b l) (k : Kp b H H') : GrowN xs H0 b l p n H' := by
  obtain ⟨ys, qs, h1, h2, h3, h5, h4⟩ := g.qs
  exact ⟨B, g.kp.trans k, ys, qs, k _ _ h1 npb, h2.kp g.bag k, h3, h5, h4⟩
theorem GrowN.push {xs : List Str} {H0 H : Hp} {b l p q : Addr} {n : Nat} {c : List Str} {e : Str} (g : GrowN xs H0 b l p n H) (hp0 : H0 p = none) (npb : p ≠ b) (nlp : l ≠ p) (hq : QAt H q c e) (Z : QZ c e) (hin : inN xs (c, e)) :
    ∃ ys, H p = some (.lst ys) ∧ ys.length = n ∧ GrowN xs H0 b l p (n + 1) (upd H p (.lst (ys ++ [.ref q]))) := by
  obtain ⟨ys, qs, h1, h2, h3, h5, h4⟩ := g.qs
  refine ⟨ys, h1, by rw [h2.len]; exact h4, g.bag.upd npb.symm nlp, fun c' o hc ncb => ?_, ys ++ [.ref q], qs ++ [(c, e)], upd_same, QL.off (xs := ys) h1 (h2.snoc (q := (c, e)) hq), fun x hx => ?_, fun x hx => ?_, by rw [List.length_append, h4]; rfl⟩
  · rw [upd_ne (ne_of_none hc hp0)]
    exact g.kp _ _ hc ncb
  · rcases List.mem_append.mp hx with m | m
    · exact h3 x m
    · rw [List.mem_singleton.mp m]
      exact Z
  · rcases List.mem_append.mp hx with m | m
    · exact h5 x m
    · rw [List.mem_singleton.mp m]
      exact hin
def spQuestionsN : Sp := fun vs H Q _ => ∃ (b l a : Addr) (xs : List Str) (m : Nat), vs = [.ref b, .ref a, .int (m : Int)] ∧ Bag H b l ∧ a ≠ b ∧ H a = some (.lst (xs.map V.str)) ∧ Row xs ∧ m ≤ 20 ∧
  ∀ (p : Addr) (H' : Hp), H p = none → p ≠ b → l ≠ p → GrowN xs H b l p m H' → Q (.ref p) H'
abbrev nQnsN : List Str := ["_law_bag_here", "_law_names_here", "_law_many", "_law_k", "_law_rows", "_law_found", "_law_row"]
theorem scQnsN : FnScope nQnsN ["_law_bag_here", "_law_names_here", "_law_many"] (defScope sQuestions) := ⟨rfl, rfl, rfl, by decide +kernel, rfl, by decide +kernel, by decide +kernel⟩
theorem ok_questionsN {f : Addr} {fd : FuncData} (F : Fun K "_law_questions" "_law_questions" sQuestions f fd) (T : Txt K mg) (cT : Cal P w K mg base 1 "_law_take" ["_law_bag_here", "_law_upto"] spTake) (cO : Cal P w K mg base 2 "_law_one" ["_law_bag_here", "_law_some"] spOne)
    (cM : Cal P w K mg base 2 "_law_mixed" ["_law_bag_here", "_law_things"] spMixed) (cQ : Cal P w K mg base 2 "_law_question_of" ["_law_bag_here", "_law_row"] spQOf) : FnOk P w K mg base CX0 3 f fd ["_law_bag_here", "_law_names_here", "_law_many"] spQuestionsN := by
  refine F.ok scQnsN (fun vs H Q E h => ?_) (fun cdv A outer s H vs Q E hr h => ?_)
  · obtain ⟨b, l, a, xs, m, rfl, _⟩ := h
    rfl
  · obtain ⟨b, l, a, xs, m, rfl, B, nab, ha, R, hm, k⟩ := h
    have nd := scQnsN.nd
    have hr1 : Room 1 _ := hr.mono (by decide)
    refine ⟨_, pss_cons (ps_par (i := 4) (j := 5) rfl nd rfl rfl (by decide) rfl rfl (pa_cons (pe_lc (own := [("_law_k", 3)]) (g := gName 3) (tt := tYes) rfl nd
          (pi_range1 (by rfl) T.range (pa_cons (pe_op op_add pe_int (pe_call cT.G hr1 rfl cT.m cT.kp cT.b .nil pass0 (pa_cons (pv 0) (pa_cons pe_int pa_nil)))) pa_nil)) (blkOk_by (N := nQnsN) (sc := defScope sQuestions) (by decide +kernel))
          (fun _ _ _ _ _ => pg_name (i := 3) nd rfl (by first | exact Or.inl rfl | exact Or.inr rfl)) (fun _ _ _ _ _ => pts_nil) (fun _ _ _ _ _ => pe_call cM.G hr rfl cM.m cM.kp cM.b .nil pass0 (pa_cons (pv 0) (pa_cons (pv 1) pa_nil)))) (pa_cons (pe_lst pa_nil) pa_nil)) (by rfl))
      (pss_cons (ps_for PassesOwn.never rfl (pi_range1 (by rfl) T.range (pa_cons (pv 2) pa_nil)) (pg_name (i := 3) nd rfl (by first | exact Or.inl rfl | exact Or.inr rfl))
        (Evl.pss_cut (ps_set (i := 6) nd rfl (by first | exact Or.inl rfl | exact Or.inr rfl) (pe_ifExp (pt_cmpR op_gt (pe_call cT.G hr1 rfl cT.m cT.kp cT.b .nil pass0 (pa_cons (pv 0) (pa_cons pe_int pa_nil))) pe_int (nomark _))
            (pe_call cO.G hr rfl cO.m cO.kp cO.b .nil pass0 (pa_cons (pv 0) (pa_cons (pv 4) pa_nil))) (pe_call cM.G hr rfl cM.m cM.kp cM.b .nil pass0 (pa_cons (pv 0) (pa_cons (pv 1) pa_nil)))))
          (pss_one (ps_expr (pe_bm PySem.F.plainAttrs_list PySem.F.slot_list_append PySem.F.type_list_append mt_append (pv 5) (pa_cons (pe_call cQ.G hr rfl cQ.m cQ.kp cQ.b .nil pass0 (pa_cons (pv 0) (pa_cons (pv 6) pa_nil))) pa_nil))))))
      (pss_one (ps_ret (pv 5)))), ?_⟩
    have hl := R.le
    refine ⟨_, rfl, b, l, 3, rfl, B, by decide, by decide, fun j H1 hj B1 k1 => ⟨_, _, rfl, rfl, ((1 + j : Nat) : Int), by show [V.int (1 + (j : Int))] = _; rw [show (1 + (j : Int)) = ((1 + j : Nat) : Int) by omega], by omega, by omega, fun D hD => ?_⟩⟩
    have ha1 := k1 _ _ ha nab
    have Db := B1.ne hD
    have lD := B1.nel hD
    have naD : a ≠ D := ne_of_none ha1 hD
    have s2 := same_new (o := .lst []) hD
    have D0 : H D = none := by
      cases e : H D with
      | none => rfl
      | some o =>
        rw [k1 _ _ e Db] at hD
        cases hD
    refine lc_range (lo := 0) (n := 1 + j) (fun i H' => Bag H' b l ∧ Kp b H H' ∧ ∃ ys rs, H' D = some (.lst ys) ∧ LL H' ys rs ∧ (∀ r ∈ rs, RowIn xs r) ∧ ys.length = i) ⟨B1.same s2, k1.trans (Kp.of s2), [], [], upd_same, .nil, (fun r hr => nomatch hr), rfl⟩ ?_ ?_
    · rintro i H2 hi ⟨B2, k2, ys, rs, hd2, hL, hR, hy⟩
      refine ⟨rfl, Exists.intro _ ⟨rfl, Exists.intro _ ⟨rfl, b, l, a, _, rfl, B2, nab, k2 _ _ ha nab, by rw [List.length_map]; omega, fun zs p H3 hpm hpn hpb hp3 B3 k3 => ?_⟩⟩⟩
      obtain ⟨z, rfl, hz⟩ := perm_strs hpm
      have hd3 := k3 _ _ hd2 Db
      have hL3 := hL.kp B2 k3
      have pD : p ≠ D := fun e => by rw [e, hd2] at hpn; cases hpn
      refine ⟨ys, hd3, small1000 (by omega), B3.upd Db.symm lD, fun c o hc ncb => ?_, ys ++ [.ref p], rs ++ [z], upd_same, ?_, fun r hr => ?_, by rw [List.length_append, hy]; rfl⟩
      · rw [upd_ne (ne_of_none hc D0)]
        exact k3 _ _ (k2 _ _ hc ncb) ncb
      · have off : ∀ {vs : List V} {ws : List (List Str)}, (∀ x ∈ vs, x ≠ V.ref D) → LL H3 vs ws → LL (upd H3 D (.lst (ys ++ [.ref p]))) vs ws := by
          intro vs ws hne h
          induction h with
          | nil => exact .nil
          | @cons x r vs' ws' h1 _ ih =>
            obtain ⟨t, e, g⟩ := h1
            have tD : t ≠ D := fun z => hne x List.mem_cons_self (by rw [e, z])
            exact .cons ⟨t, e, by rw [upd_ne tD]; exact g⟩ (ih fun y hy => hne y (List.mem_cons_of_mem _ hy))
        refine off (fun x hx e => ?_) (paired_app hL3 (.cons ⟨p, rfl, hp3⟩ .nil))
        rcases List.mem_append.mp hx with m1 | m1
        · obtain ⟨t, r, e1, hr1, e2⟩ := hL.mem x m1
          have et : t = D := by rw [e1] at e; injection e
          rw [et, hd2] at e2
          injection e2 with e2
          injection e2 with e2
          have rr := (hR r hr1).1
          obtain ⟨c0, r', er⟩ : ∃ c0 r', r = c0 :: r' := by
            cases h : r with
            | nil => have := rr.pos; rw [h] at this; exact absurd this (by decide)
            | cons c0 r' => exact ⟨c0, r', rfl⟩
          rw [er] at e2
          obtain ⟨t2, e3⟩ := hL.refs (V.str c0) (by rw [e2]; exact List.mem_cons_self)
          cases e3
        · rw [List.mem_singleton.mp m1] at e
          injection e with e
          exact pD e
      · rcases List.mem_append.mp hr with m1 | m1
        · exact hR r m1
        · rw [List.mem_singleton.mp m1]
          exact ⟨⟨hz.nodup_iff.mpr R.nd, fun c hc => R.sub _ (hz.mem_iff.mp hc), by rw [hz.length_eq]; exact R.pos, by rw [hz.length_eq]; exact R.le⟩, fun c hc => hz.mem_iff.mp hc⟩
    · rintro H2 ⟨B2, k2, ys, rs, hd2, hL, hR, hy⟩
      refine ⟨by decide, fun p hp => ⟨_, _, rfl, ?_⟩⟩
      have s3 := same_new (o := .lst []) hp
      have pb := B2.ne hp
      have lp := B2.nel hp
      have p0 : H p = none := by
        cases e : H p with
        | none => rfl
        | some o =>
          rw [k2 _ _ e pb] at hp
          cases hp
      have Dp' : D ≠ p := ne_of_none hd2 hp
      refine ⟨_, rfl, (m : Int), rfl, by omega, by omega, ?_⟩
      refine for_range (lo := 0) (n := m) (fun i σ H' => (∃ v3 v6, σ = [some (.ref b), some (.ref a), some (.int (m : Int)), v3, some (.ref D), some (.ref p), v6]) ∧ GrowN xs H b l p i H' ∧ H' D = some (.lst ys) ∧ LL H' ys rs)
        ⟨⟨_, _, rfl⟩, ⟨B2.same s3, k2.trans (Kp.of s3), [], [], upd_same, .nil, (fun q hq => nomatch hq), (fun q hq => nomatch hq), rfl⟩, s3 _ _ hd2, hL.same s3⟩ ?_ ?_
      · rintro i σ H3 hi ⟨⟨v3, v6, rfl⟩, G, hd3, hL3⟩
        refine ⟨fun σ' H' => ∃ (t : Addr) (r : List Str), σ' = [some (.ref b), some (.ref a), some (.int (m : Int)), some (.int (0 + (i : Int))), some (.ref D), some (.ref p), some (.ref t)] ∧ GrowN xs H b l p i H' ∧ H' D = some (.lst ys) ∧ LL H' ys rs ∧ H' t = some (.lst (r.map V.str)) ∧ RowIn xs r, ?_, ?_⟩
        · refine ⟨_, rfl, b, l, 3, rfl, G.bag, by decide, by decide, fun j2 H4 hj2 B4 k4 => ⟨_, 0, rfl, rfl, _, rfl, ?_⟩⟩
          have G4 := G.step pb B4 k4
          have hd4 := k4 _ _ hd3 Db
          have hL4 := hL3.kp G.bag k4
          refine ite2 (fun _ => ?_) (fun _ => ?_)
          · refine ⟨_, rfl, _, rfl, b, l, D, ys, rfl, B4, Db, hd4, by intro e; rw [e] at hy; simp at hy; omega, by omega, fun x H5 hx B5 k5 => ?_⟩
            obtain ⟨t, r, rfl, hr5, htr⟩ := (hL4.kp B4 k5).mem x hx
            exact ⟨t, r, rfl, G4.step pb B5 k5, k5 _ _ hd4 Db, hL4.kp B4 k5, htr, hR r hr5⟩
          · refine ⟨_, rfl, _, rfl, b, l, a, _, rfl, B4, nab, G4.kp _ _ ha nab, by rw [List.length_map]; omega, fun zs t H5 hpm htn htb ht5 B5 k5 => ?_⟩
            obtain ⟨z, rfl, hz⟩ := perm_strs hpm
            exact ⟨t, z, rfl, G4.step pb B5 k5, k5 _ _ hd4 Db, hL4.kp B4 k5, ht5, ⟨hz.nodup_iff.mpr R.nd, fun c hc => R.sub _ (hz.mem_iff.mp hc), by rw [hz.length_eq]; exact R.pos, by rw [hz.length_eq]; exact R.le⟩, fun c hc => hz.mem_iff.mp hc⟩
        · rintro σ4 H4 ⟨t, r, rfl, G4, hd4, hL4, ht4, Rr⟩
          obtain ⟨ys4, qs4, hp4, _⟩ := id G4.qs
          refine ⟨_, rfl, .inl ⟨rfl, _, SqL.of hp4⟩, _, rfl, _, rfl, b, l, t, r, rfl, G4.bag, G4.bag.ne_strs ht4, .inl ht4, Rr.1, fun q c e H5 hq5 ok5 B5 k5 => ?_⟩
          obtain ⟨us, g1, g2, g3⟩ := (G4.step pb B5 k5).push p0 pb lp hq5 (ok5.qz Rr.1) ⟨fun z hz => Rr.2 z (ok5.sub z hz), ok5.esub.imp id fun h => Rr.2 _ h⟩
          have hd5 := k5 _ _ hd4 Db
          refine ⟨p, us, _, rfl, rfl, g1, small1000 (by omega), ⟨_, _, rfl⟩, g3, by rw [upd_ne Dp']; exact hd5, ?_⟩
          have hL5 := hL4.kp G4.bag k5
          have off : ∀ {vs : List V} {ws : List (List Str)}, (∀ r ∈ ws, Row r) → LL H5 vs ws → LL (upd H5 p (.lst (us ++ [.ref q]))) vs ws := by
            intro vs ws hw h
            induction h with
            | nil => exact .nil
            | @cons x r' vs' ws' h1 _ ih =>
              obtain ⟨t', e', g'⟩ := h1
              have tp : t' ≠ p := fun z => by
                rw [z, g1] at g'
                injection g' with g'
                injection g' with g'
                have rr := hw r' List.mem_cons_self
                obtain ⟨c0, r'', er⟩ : ∃ c0 r'', r' = c0 :: r'' := by
                  cases h : r' with
                  | nil => have := rr.pos; rw [h] at this; exact absurd this (by decide)
                  | cons c0 r'' => exact ⟨c0, r'', rfl⟩
                obtain ⟨ysg, qsg, hg1, hg2, _⟩ := (G4.step pb B5 k5).qs
                rw [g1] at hg1
                injection hg1 with hg1
                injection hg1 with hg1
                subst hg1
                obtain ⟨t2, e3⟩ := hg2.refs (V.str c0) (by rw [g', er]; exact List.mem_cons_self)
                cases e3
              exact .cons ⟨t', e', by rw [upd_ne tp]; exact g'⟩ (ih fun r0 h0 => hw r0 (List.mem_cons_of_mem _ h0))
          exact off (fun r hr => (hR r hr).1) hL5
      · rintro σ H3 ⟨⟨v3, v6, rfl⟩, G, hd3, hL3⟩
        exact ⟨_, rfl, k p H3 p0 pb lp G⟩
theorem rangedOf_take {ns p : List Str} {j : Nat} {c : Str} (h : ns[j]? = some c) : rangedOf (ns.take (j + 1)) p = rangedOf (ns.take j) p ++ (if c ∈ p then [] else [(p, c)]) := by
  have et : ns.take (j + 1) = ns.take j ++ [c] := by rw [List.take_add_one, h]; rfl
  unfold rangedOf left
  rw [et, List.filter_append, List.map_append]
  by_cases hm : c ∈ p
  · rw [if_pos hm]
    simp [hm]
  · rw [if_neg hm]
    simp [hm]
theorem parts_le {ns : List Str} {i : Nat} (h : ns.length ≤ 5) : (partsOf (ns.take i)).length ≤ 32 := by
  rw [parts_len]
  have : (ns.take i).length ≤ 5 := by rw [List.length_take]; omega
  exact Nat.pow_le_pow_right (n := 2) (by decide) this
structure Asc (ns : List Str) : Prop where
  nd : ns.Nodup
  srt : sortedS ns = true
  sub : ∀ c ∈ ns, c ∈ menu
  le : ns.length ≤ 5
theorem Asc.qm {ns p : List Str} (A : Asc ns) (h : p.Sublist ns) : p.Nodup ∧ sortedS p = true ∧ (∀ c ∈ p, c ∈ menu) ∧ p.length ≤ 5 :=
  ⟨A.nd.sublist h, pw_sortedS ((sortedS_pw A.srt).sublist h), fun c hc => A.sub c (h.subset hc), Nat.le_trans h.length_le A.le⟩
theorem Asc.plain {ns p : List Str} (A : Asc ns) (h : p.Sublist ns) (ne : p ≠ []) : QZ p "" := by
  obtain ⟨h1, h2, h3, h4⟩ := A.qm h
  exact ⟨⟨h1, h2, h3, .inl rfl, by omega, fun _ => ne⟩, fun hc => menu_ne _ (h3 _ hc) rfl, by rw [if_pos rfl]; omega⟩
theorem Asc.ranged {ns p : List Str} {c : Str} (A : Asc ns) (h : p.Sublist ns) (hc : c ∈ ns) (hn : c ∉ p) : QZ p c := by
  obtain ⟨h1, h2, h3, h4⟩ := A.qm h
  have hm := A.sub c hc
  refine ⟨⟨h1, h2, h3, .inr hm, by omega, fun e => absurd e (menu_ne _ hm)⟩, hn, ?_⟩
  split <;> omega
theorem Asc.every {ns : List Str} (A : Asc ns) : QZs (everyQ ns) := by
  intro q hq
  rcases mem_every.mp hq with h | h
  · obtain ⟨h1, h2, h3⟩ := mem_plain.mp h
    rw [h3]
    exact A.plain (parts_sub ns _ h1) h2
  · unfold rangedQ at h
    obtain ⟨p, hp, hr⟩ := List.mem_flatMap.mp h
    obtain ⟨e1, e2, e3⟩ := mem_ranged.mp hr
    rw [e1]
    exact A.ranged (parts_sub ns _ hp) e2 e3
theorem every_len {ns : List Str} (h : ns.length ≤ 5) : (everyQ ns).length ≤ 192 := by
  have h1 := parts_le (ns := ns) (i := ns.length) h
  rw [List.take_length] at h1
  unfold everyQ
  rw [List.length_flatMap]
  have key : ∀ ps : List (List Str), (ps.map fun p => (everyOf ns p).length).sum ≤ 6 * ps.length := fun ps => by
    induction ps with
    | nil => exact Nat.le_refl 0
    | cons p ps ih =>
      rw [List.map_cons, List.sum_cons, List.length_cons]
      have e : (everyOf ns p).length ≤ 6 := by
        unfold everyOf rangedOf left
        rw [List.length_append, List.length_map]
        have := List.length_filter_le (fun c => !decide (c ∈ p)) ns
        split <;> simp <;> omega
      omega
  have := key (partsOf ns)
  omega
def spEvery : Sp := fun vs H Q _ => ∃ (a : Addr) (ns : List Str), vs = [.ref a] ∧ H a = some (.lst (ns.map V.str)) ∧ Asc ns ∧ ∀ (p : Addr) (H' : Hp) (xs : List V), Same H H' → H' p = some (.lst xs) → QL H' xs (everyQ ns) → Q (.ref p) H'
abbrev nEvery : List Str := ["_law_names_here", "_law_sets", "_law_found", "_law_name", "_law_some"]
theorem scEvery : FnScope nEvery ["_law_names_here"] (defScope sEvery) := ⟨rfl, rfl, rfl, by decide +kernel, rfl, by decide +kernel, by decide +kernel⟩
theorem ok_every {f : Addr} {fd : FuncData} (F : Fun K "_law_every" "_law_every" sEvery f fd) (T : Txt K mg) : FnOk P w K mg base CX0 1 f fd ["_law_names_here"] spEvery := by
  refine F.ok scEvery (fun vs H Q E h => ?_) (fun cdv A outer s H vs Q E hr h => ?_)
  · obtain ⟨a, ns, rfl, _⟩ := h
    rfl
  · obtain ⟨a, ns, rfl, ha, As, k⟩ := h
    have nd := scEvery.nd
    have hl := As.le
    refine ⟨_, pss_cons (ps_par (i := 1) (j := 2) rfl nd rfl rfl (by decide) rfl rfl (pa_cons (pe_lst (pa_cons (pe_tup pa_nil) pa_nil)) (pa_cons (pe_lst pa_nil) pa_nil)) (by rfl))
      (pss_cons (ps_for PassesOwn.never rfl (pi_list (pv 0)) (pg_name (i := 3) nd rfl (by first | exact Or.inl rfl | exact Or.inr rfl))
        (pss_one (ps_set (i := 1) nd rfl (by first | exact Or.inl rfl | exact Or.inr rfl) (pe_op op_cat (pv 1)
          (pe_lc (own := [("_law_some", 4)]) (g := gName 4) (tt := tYes) rfl nd (pi_list (pv 1)) (blkOk_by (N := nEvery) (sc := defScope sEvery) (by decide +kernel)) (fun _ _ _ _ _ => pg_name (i := 4) nd rfl (by first | exact Or.inl rfl | exact Or.inr rfl)) (fun _ _ _ _ _ => pts_nil)
            (fun _ _ _ _ _ => pe_op (r := rCatA K) op_catA (pv 4) (pe_tup (pa_cons (pv 3) pa_nil))))))))
      (pss_cons (ps_for PassesOwn.never rfl (pi_list (pv 1)) (pg_name (i := 4) nd rfl (by first | exact Or.inl rfl | exact Or.inr rfl))
        (Evl.pss_cut (ps_if (pt_cmpR (op_neD hr.units) (pv 4) (pe_tup pa_nil) (nomark _)) (pss_one (ps_expr (pe_bm PySem.F.plainAttrs_list PySem.F.slot_list_append PySem.F.type_list_append mt_append (pv 2) (pa_cons (pe_tup (pa_cons (pv 4) (pa_cons pe_str pa_nil))) pa_nil)))) pss_nil)
        (pss_one (ps_set (i := 2) nd rfl (by first | exact Or.inl rfl | exact Or.inr rfl) (pe_op op_cat (pv 2)
          (pe_lc (own := [("_law_name", 3)]) (g := gName 3) rfl nd (pi_list (pv 0)) (blkOk_by (N := nEvery) (sc := defScope sEvery) (by decide +kernel)) (fun _ _ _ _ _ => pg_name (i := 3) nd rfl (by first | exact Or.inl rfl | exact Or.inr rfl))
            (fun _ _ _ _ _ => pts_one (pt_cmpR (r := rIn K true) op_notIn_seq (pv 3) (pv 4) (by rfl))) (fun _ _ _ _ _ => pe_tup (pa_cons (pv 4) (pa_cons (pv 3) pa_nil)))))))))
      (pss_one (ps_ret (pv 2))))), ?_⟩
    refine ⟨by decide, fun e he => ⟨by show 1 ≤ sizeLine; decide, fun st hst => ⟨by decide, fun fo hfo => ⟨_, _, rfl, ?_⟩⟩⟩⟩
    have se := same_new (o := .tup []) he
    have ss := same_new (o := .lst [.ref e]) hst
    have sf := same_new (o := .lst []) hfo
    have s0 : Same H _ := se.trans (ss.trans sf)
    have nst : st ≠ fo := ne_of_none upd_same hfo
    have h0 : H fo = none := (se.trans ss).free hfo
    have hst1 := sf _ _ (upd_same (H := upd H e (.tup [])) (a := st) (o := .lst [.ref e]))
    have he1 := sf _ _ (ss _ _ (upd_same (H := H) (a := e) (o := .tup [])))
    have hfo1 : (upd (upd (upd H e (.tup [])) st (.lst [.ref e])) fo (.lst [])) fo = some (.lst []) := upd_same
    generalize upd (upd (upd H e (.tup [])) st (.lst [.ref e])) fo (.lst []) = H1 at s0 hst1 he1 hfo1 ⊢
    refine ⟨_, rfl, a, rfl, ⟨_, SqL.of (s0 _ _ ha)⟩, for_list (K := K) (a := a) (xs := ns.map V.str) (fun i σ H' => ∃ (st : Addr) (v : Option V) (xs : List V), σ = [some (.ref a), some (.ref st), some (.ref fo), v, none] ∧ Same H H' ∧ st ≠ fo ∧ H' fo = some (.lst []) ∧ H' st = some (.lst xs) ∧ TL H' xs (partsOf (ns.take i)))
      ⟨st, none, [.ref e], rfl, s0, nst, hfo1, hst1, .cons ⟨e, rfl, he1⟩ .nil⟩ (fun i σ H' _ ⟨_, _, _, _, s, _⟩ => SqL.of (s _ _ ha)) ?_ ?_⟩
    · rintro i x σ H2 hi ⟨st, v, xs, rfl, s2, nst, hfo2, hst2, tl⟩
      rw [List.getElem?_map] at hi
      obtain ⟨c, hc, rfl⟩ := Option.map_eq_some_iff.mp hi
      have pl := parts_le (i := i) hl
      have xl : xs.length ≤ 32 := by rw [tl.len]; exact pl
      refine ⟨_, rfl, _, rfl, st, rfl, ⟨_, SqL.of hst2⟩, fun D hD => ?_⟩
      refine lc_list (K := K) (a := st) (xs := xs) (fun j H' => ∃ ys : List V, Same H2 H' ∧ H' D = some (.lst ys) ∧ TL H' ys (((partsOf (ns.take i)).take j).map fun r => r ++ [c])) ⟨[], same_new hD, upd_same, .nil⟩ (fun j H' _ ⟨_, s, _⟩ => SqL.of (s _ _ hst2)) ?_ ?_
      · rintro j x H3 hj ⟨ys, s3, hDl, tl3⟩
        obtain ⟨t, r, rfl, hr', ht⟩ := (tl.same s3).at_ hj
        have rl : r.length ≤ 5 := by
          have := (parts_sub _ r (List.mem_of_getElem? hr')).length_le
          rw [List.length_take] at this
          omega
        have yl : ys.length ≤ 32 := by rw [tl3.len, List.length_map, List.length_take]; omega
        have fin : ∀ (H6 : Hp) (y : Addr), Same H3 H6 → H6 y = some (.tup ((r ++ [c]).map V.str)) → ∃ acc, H6 D = some (.lst acc) ∧ acc.length < sizeLine ∧ ∃ ys : List V, Same H2 (upd H6 D (.lst (acc ++ [.ref y]))) ∧ (upd H6 D (.lst (acc ++ [.ref y]))) D = some (.lst ys) ∧
            TL (upd H6 D (.lst (acc ++ [.ref y]))) ys (((partsOf (ns.take i)).take (j + 1)).map fun r => r ++ [c]) := fun H6 y s6 hy => by
          have hD6 := s6 _ _ hDl
          refine ⟨ys, hD6, small1000 (by omega), ys ++ [.ref y], fun b o hb => ?_, upd_same, ?_⟩
          · rw [upd_ne (ne_of_none hb hD)]
            exact s6 _ _ (s3 _ _ hb)
          · rw [List.take_add_one, hr', List.map_append]
            exact TL.off (xs := ys) hD6 ((tl3.same s6).snoc (r := r ++ [c]) hy)
        refine ⟨rfl, Exists.intro _ ⟨rfl, _, rfl, by show 1 ≤ sizeLine; decide, fun t1 ht1 => ?_⟩⟩
        have s6 := same_new (o := .tup [.str c]) ht1
        refine ⟨t, t1, r.map V.str, [.str c], rfl, rfl, SqT.of (s6 _ _ ht), SqT.of upd_same, by rw [List.length_map, sizeLine_eq]; show r.length + 1 ≤ _; omega, fun hnil => ?_, (fun _ h => nomatch h), fun hne _ p hp => ?_⟩
        · have rn : r = [] := List.map_eq_nil_iff.mp hnil
          refine fin _ t1 s6 ?_
          rw [rn]
          exact upd_same
        · refine fin _ p (s6.trans (same_new hp)) ?_
          rw [List.map_append]
          exact upd_same
      · rintro H3 ⟨ys, s3, hDl, tl3⟩
        rw [tl.len, List.take_of_length_le (Nat.le_refl _)] at tl3
        have yl : ys.length ≤ 32 := by rw [tl3.len, List.length_map]; exact pl
        refine ⟨st, D, xs, ys, rfl, rfl, s3 _ _ hst2, hDl, by rw [sizeLine_eq]; omega, fun q hq => ?_⟩
        have nfq : fo ≠ q := ne_of_none (s3 _ _ hfo2) hq
        refine ⟨q, _, xs ++ ys, rfl, s2.trans (s3.trans (same_new hq)), nfq.symm, by rw [upd_ne nfq]; exact s3 _ _ hfo2, upd_same, ?_⟩
        rw [partsOf_take hc]
        exact paired_app ((tl.same s3).same (same_new hq)) (tl3.same (same_new hq))
    · rintro σ H2 ⟨st, v, xs, rfl, s2, nst, hfo2, hst2, tl⟩
      rw [List.length_map, List.take_of_length_le (Nat.le_refl _)] at tl
      have pl := parts_le (ns := ns) (i := ns.length) hl
      rw [List.take_length] at pl
      have xl : xs.length ≤ 32 := by rw [tl.len]; exact pl
      refine ⟨_, rfl, st, rfl, ⟨_, SqL.of hst2⟩, for_list (K := K) (a := st) (xs := xs) (fun j σ H' => ∃ (fo : Addr) (v4 : Option V) (es : List V), σ = [some (.ref a), some (.ref st), some (.ref fo), v, v4] ∧ Same H H' ∧ H fo = none ∧ st ≠ fo ∧ H' st = some (.lst xs) ∧ TL H' xs (partsOf ns) ∧ H' fo = some (.lst es) ∧ es.length ≤ 6 * j ∧ QL H' es (((partsOf ns).take j).flatMap (everyOf ns)))
        ⟨fo, none, [], rfl, s2, h0, nst, hst2, tl, hfo2, Nat.le_refl _, .nil⟩ (fun j σ H' _ ⟨_, _, _, _, _, _, _, h, _⟩ => SqL.of h) ?_ ?_⟩
      · rintro j x σ H3 hj ⟨fo, v4, es, rfl, s3, h0, nst, hst3, tl3, hfo3, el, ql⟩
        have hjl : j < 32 := Nat.lt_of_lt_of_le (List.getElem?_eq_some_iff.mp hj).1 xl
        obtain ⟨t, r, rfl, hr', ht⟩ := tl3.at_ hj
        have et : (partsOf ns).take (j + 1) = (partsOf ns).take j ++ [r] := by rw [List.take_add_one, hr']; rfl
        obtain ⟨q1, q2, q3, q4⟩ := As.qm (parts_sub ns r (List.mem_of_getElem? hr'))
        have rm : ∀ c ∈ r, PyData.strOk c = true := fun c hc => menu_ok _ (q3 c hc)
        refine ⟨fun σ' H' => ∃ (es : List V), σ' = [some (.ref a), some (.ref st), some (.ref fo), v, some (.ref t)] ∧ Same H H' ∧ H' st = some (.lst xs) ∧ TL H' xs (partsOf ns) ∧ H' t = some (.tup (r.map V.str)) ∧ H' fo = some (.lst es) ∧ es.length ≤ 6 * j + 1 ∧
            QL H' es (((partsOf ns).take j).flatMap (everyOf ns) ++ (if r = [] then [] else [((r, ("" : Str)) : Qd)])), ?_, ?_⟩
        · refine ⟨_, rfl, by decide, fun e0 he0 => ?_⟩
          have s4 := same_new (o := .tup []) he0
          refine ⟨.tuple (r.map PyData.str), .tuple (([] : List Str).map PyData.str), .tup (SqT.of (s4 _ _ ht)) (dp_strs _), .tup (SqT.of upd_same) (dp_strs []), shaped_tuple rm, shaped_tuple (fun c hc => (nomatch hc)), _, rfl, ?_⟩
          show if (!PyData.eqv (.tuple (r.map PyData.str)) (.tuple (([] : List Str).map PyData.str))) = true then _ else _
          rw [PyData.eqv, eqv_strs]
          by_cases hn : r = []
          · rw [decide_eq_true hn]
            refine iteF ?_
            refine ⟨es, rfl, s3.trans s4, s4 _ _ hst3, tl3.same s4, s4 _ _ ht, s4 _ _ hfo3, by omega, ?_⟩
            rw [if_pos hn, List.append_nil]
            exact ql.same s4
          · rw [decide_eq_false hn]
            refine iteT ?_
            refine ⟨_, rfl, .inl ⟨rfl, _, SqL.of (s4 _ _ hfo3)⟩, _, rfl, by show 2 ≤ sizeLine; decide, fun q hq => ?_⟩
            have s5 := s4.trans (same_new (o := .tup [.ref t, .str ""]) hq)
            have hfo5 := s5 _ _ hfo3
            refine ⟨fo, _, _, rfl, rfl, hfo5, small1000 (by omega), ?_⟩
            have nt : t ≠ fo := fun e => by rw [e, hfo3] at ht; cases ht
            refine ⟨es ++ [.ref q], rfl, fun z o hz => ?_, by rw [upd_ne nst]; exact s5 _ _ hst3, TL.off (xs := es) hfo5 (tl3.same s5), by rw [upd_ne nt]; exact s5 _ _ ht, upd_same, by rw [List.length_append]; simp; omega, ?_⟩
            · rw [upd_ne (ne_of_none hz h0)]
              exact s5 _ _ (s3 _ _ hz)
            · rw [if_neg hn]
              exact QL.off (xs := es) hfo5 ((ql.same s5).snoc (q := ((r, "") : Qd)) ⟨t, upd_same, s5 _ _ ht⟩)
        · rintro σ' H4 ⟨es, rfl, s4, hst4, tl4, ht4, hfo4, el4, ql4⟩
          have ha4 := s4 _ _ ha
          refine ⟨_, rfl, _, rfl, a, rfl, ⟨_, SqL.of ha4⟩, fun D hD => ?_⟩
          refine lc_list (K := K) (a := a) (xs := ns.map V.str) (fun i H' => ∃ ds : List V, Same H4 H' ∧ H' D = some (.lst ds) ∧ ds.length ≤ i ∧ QL H' ds (rangedOf (ns.take i) r)) ⟨[], same_new hD, upd_same, Nat.le_refl _, .nil⟩ (fun i H' _ ⟨_, s, _⟩ => SqL.of (s _ _ ha4)) ?_ ?_
          · rintro i x H5 hx ⟨ds, s5, hDl, dl, ql5⟩
            rw [List.getElem?_map] at hx
            obtain ⟨c, hc, rfl⟩ := Option.map_eq_some_iff.mp hx
            have hi5 : i < 5 := Nat.lt_of_lt_of_le (List.getElem?_eq_some_iff.mp hc).1 hl
            have ht5 := s5 _ _ ht4
            refine ⟨rfl, Exists.intro _ ⟨rfl, _, rfl, t, _, rfl, .inr (SqT.of ht5), rfl, flat_strs _, _, rfl, ?_⟩⟩
            show if (!inV (.str c) (r.map V.str)) = true then _ else _
            rw [inV_strs, rangedOf_take hc]
            by_cases hm : c ∈ r
            · rw [decide_eq_true hm, if_pos hm, List.append_nil]
              refine iteF ?_
              exact ⟨ds, s5, hDl, by omega, ql5⟩
            · rw [decide_eq_false hm, if_neg hm]
              refine iteT ?_
              refine ⟨_, rfl, _, rfl, by show 2 ≤ sizeLine; decide, fun q hq => ?_⟩
              have s6 := same_new (o := .tup [.ref t, .str c]) hq
              refine ⟨ds, s6 _ _ hDl, small1000 (by omega), ds ++ [.ref q], fun z o hz => ?_, upd_same, by rw [List.length_append]; simp; omega, ?_⟩
              · rw [upd_ne (ne_of_none hz hD)]
                exact s6 _ _ (s5 _ _ hz)
              · exact QL.off (xs := ds) (s6 _ _ hDl) ((ql5.same s6).snoc (q := ((r, c) : Qd)) ⟨t, upd_same, s6 _ _ ht5⟩)
          · rintro H5 ⟨ds, s5, hDl, dl, ql5⟩
            rw [List.length_map] at dl ql5
            rw [List.take_of_length_le (Nat.le_refl _)] at ql5
            have hfo5 := s5 _ _ hfo4
            refine ⟨fo, D, es, ds, rfl, rfl, hfo5, hDl, by rw [sizeLine_eq]; omega, fun q hq => ?_⟩
            have s6 := same_new (o := .lst (es ++ ds)) hq
            have s46 := s5.trans s6
            have hst6 := s46 _ _ hst4
            refine ⟨q, _, es ++ ds, rfl, s4.trans s46, (s4.trans s5).free hq, ne_of_none (s5 _ _ hst4) hq, hst6, tl4.same s46, upd_same, by rw [List.length_append]; omega, ?_⟩
            rw [et, List.flatMap_append, List.flatMap_cons, List.flatMap_nil, List.append_nil]
            unfold everyOf
            rw [← List.append_assoc]
            exact paired_app (ql4.same s46) (ql5.same s6)
      · rintro σ H3 ⟨fo, v4, es, rfl, s3, h0, nst, hst3, tl3, hfo3, el, ql⟩
        rw [tl.len, List.take_of_length_le (Nat.le_refl _)] at ql
        exact ⟨_, rfl, k fo H3 es s3 hfo3 ql⟩
end
end Qk
set_option maxRecDepth 100000
set_option maxHeartbeats 4000000
namespace Qk
open PySem PySem.Spec PyProof.Rows L2
section
variable {P : Program} {w : World} {K : PySem.W.Frag} {mg : Str → Option Value} {base : Heap}
/-- two lists of questions, and an Asked of each -/
structure StS (T : List (Addr × Str)) (C a1 a2 o1 o2 : Addr) (y1 y2 : List V) (q1 q2 z1 z2 : List Qd) (G : Hp) : Prop where
  A1 : AsV G C a1 z1
  A2 : AsV G C a2 z2
  d1 : G o1 = some (.lst y1)
  d2 : G o2 = some (.lst y2)
  q1 : QL G y1 q1
  q2 : QL G y2 q2
  t : LamX.Tabs T G
structure FcS (q1 q2 z1 z2 : List Qd) : Prop where
  h1 : QZs q1
  h2 : QZs q2
  D1 : Dist q1 z1
  D2 : Dist q2 z2
  l1 : q1.length ≤ 48
  l2 : q2.length ≤ 48
theorem FcS.e1 {q1 q2 z1 z2 : List Qd} (F : FcS q1 q2 z1 z2) : QZs z1 ∧ z1.length ≤ 48 := ⟨fun q hq => F.h1 q ((F.D1.mem q).mp hq), Nat.le_trans F.D1.le F.l1⟩
theorem FcS.e2 {q1 q2 z1 z2 : List Qd} (F : FcS q1 q2 z1 z2) : QZs z2 ∧ z2.length ≤ 48 := ⟨fun q hq => F.h2 q ((F.D2.mem q).mp hq), Nat.le_trans F.D2.le F.l2⟩
section
variable {T : List (Addr × Str)} {C a1 a2 o1 o2 : Addr} {y1 y2 : List V} {q1 q2 z1 z2 : List Qd} {G G' : Hp}
theorem StS.same (h : StS T C a1 a2 o1 o2 y1 y2 q1 q2 z1 z2 G) (s : Same G G') : StS T C a1 a2 o1 o2 y1 y2 q1 q2 z1 z2 G' := ⟨h.A1.same s, h.A2.same s, s _ _ h.d1, s _ _ h.d2, h.q1.same s, h.q2.same s, Tabs.same h.t s⟩
theorem StS.ext (h : StS T C a1 a2 o1 o2 y1 y2 q1 q2 z1 z2 G) (e : LamX.ExtN G G') (t' : LamX.Tabs T G') : StS T C a1 a2 o1 o2 y1 y2 q1 q2 z1 z2 G' :=
  ⟨h.A1.nt.same (NT.ext e), h.A2.nt.same (NT.ext e), e _ _ h.d1 (fun _ g => (nomatch g)), e _ _ h.d2 (fun _ g => (nomatch g)), h.q1.nt.same (NT.ext e), h.q2.nt.same (NT.ext e), t'⟩
end
/-- two made alike are equal -/
theorem newQ_eq {C CM : Addr} {H : Hp} {qs zs : List Qd} {Q : VK} {E : XK} (D : Dist qs zs) (l : zs.length ≤ 48) (k : ∀ (H' : Hp) (x : Addr), Same H H' → AsV H' C x zs → Q (.ref x) H') : NewQ C CM H qs Q E := fun ws D' => by
  have e : ws = zs := Dist.uniq D' D fun _ => Iff.rfl
  subst e
  exact ⟨fun _ => k, fun l' => by omega⟩
theorem Dist.self {zs qs : List Qd} (D : Dist qs zs) : Dist zs zs := ⟨D.nd, D.up, fun _ => Iff.rfl⟩
theorem NewQ.refs {C CM : Addr} {H : Hp} {qs : List Qd} {Q : VK} {E : XK} (k : NewQ C CM H qs Q E) : NewQ C CM H qs (fun v H' => ∃ r, v = .ref r ∧ Q v H') E := fun zs D => ⟨fun l H' x s hA => ⟨x, rfl, (k zs D).1 l H' x s hA⟩, (k zs D).2⟩
def spSums (T : List (Addr × Str)) (C : Addr) : Sp := fun vs H Q _ => ∃ (a1 a2 o1 o2 : Addr) (y1 y2 : List V) (q1 q2 z1 z2 : List Qd), vs = [.ref a1, .ref a2, .ref o1, .ref o2] ∧ StS T C a1 a2 o1 o2 y1 y2 q1 q2 z1 z2 H ∧ FcS q1 q2 z1 z2 ∧ ∀ H', LamX.ExtN H H' → LamX.Tabs T H' → Q (.bl true) H'
abbrev nSu : List Str := ["_law_one_here", "_law_other", "_law_first", "_law_second", "_law_both", "_law_left", "_law_question"]
theorem scSu : FnScope nSu ["_law_one_here", "_law_other", "_law_first", "_law_second"] (defScope sSums) := ⟨rfl, rfl, rfl, by decide +kernel, rfl, by decide +kernel, by decide +kernel⟩
theorem ok_sums {Tb : List (Addr × Str)} {f c Pt C CW CM CN CK : Addr} {fd : FuncData} (F : FunC K "_law_sums_right" "_law_sums_right" sSums f fd c) (T : Txt K mg) (SC : SA P w K mg base C CW CM CN CK) (TF : ToldF K mg) (ML : MkL base mg Tb "_law_sums_right" c Pt)
    (cTr : Cal P w K mg base 1 "_law_truth" ["_law_told_here", "_law_due_here"] spTruth)
    (cD : Cal P w K mg base 3 "_law_due" ["_law_some"] (spDue K))
    (cA : CalG P w K mg base 1 "_law_alike" ["_law_found", "_law_due_here"] (spAlikeX K)) : FnG P w K mg base 11 f fd ["_law_one_here", "_law_other", "_law_first", "_law_second"] (spSums Tb C) := by
  refine okGC F scSu (fun vs H Q E h => ?_) (fun AA outer s H vs Q E hr hg h => ?_)
  · obtain ⟨a1, a2, o1, o2, y1, y2, q1, q2, z1, z2, rfl, _⟩ := h
    rfl
  · obtain ⟨a1, a2, o1, o2, y1, y2, q1, q2, z1, z2, rfl, S0, FC, k⟩ := h
    have nd := scSu.nd
    have hr10 : Room 10 _ := hr
    have hr7 : Room 7 _ := hr.mono (by decide)
    have hr5 : Room 5 _ := hr.mono (by decide)
    have hr3 : Room 3 _ := hr.mono (by decide)
    have hr2 : Room 2 _ := hr.mono (by decide)
    have hr1 : Room 1 _ := hr.mono (by decide)
    have hu65 : AA.units + 3 + 65 < cLine := by
      have := hr.un
      have e : (AA.deeper (envOfC "_law_sums_right" (defScope sSums) s.heap.objs.size f (.ref c))).units = AA.units + 3 := rfl
      omega
    refine ⟨_, (pss_cons (ps_if (pt_not (pt_val (pe_callg cA.G hr1 hg rfl cA.m cA.kp cA.b (pa_cons (pe_told TF SC T rfl ML rfl rfl hr10 (LamX.lamS_by (by rfl)) rfl (fun _ _ _ _ _ => rfl) (fun A outer s H E f c0 hrL => (pe_op (op_binX (op := .BitOr) SC.oO SC.gO (hrL.mono (by decide)) SC.bO (fun σ => passes_lam σ)) (pv 0) (pv 1)))) (pa_cons (pe_call cD.G hr3 rfl cD.m cD.kp cD.b .nil pass0 (pa_cons (pe_op op_cat (pv 2) (pv 3)) pa_nil)) pa_nil))))) (pss_one (ps_ret pe_bl)) pss_nil)
      (pss_cons (ps_setLc (i := 4) (own := [("_law_question", 6)]) (g := gName 6) rfl nd rfl (by rfl) (sw_true rfl (by rfl) rfl (by decide)) (pi_list (pv 2)) (blkOk_by (N := nSu) (sc := defScope sSums) (by decide +kernel)) (fun _ _ _ _ _ => (pg_name (i := 6) nd rfl (by first | exact Or.inl rfl | exact Or.inr rfl))) (fun _ _ _ _ _ => pts_one (pt_cmpR (r := rInD K) (tb := tVar 3) (op_inD hu65) (pv 6) (pv 3) (by rfl))) (fun _ _ _ _ _ => (pv 6)))
      (pss_cons (ps_setLc (i := 5) (own := [("_law_question", 6)]) (g := gName 6) rfl nd rfl (by rfl) (sw_true rfl (by rfl) rfl (by decide)) (pi_list (pv 2)) (blkOk_by (N := nSu) (sc := defScope sSums) (by decide +kernel)) (fun _ _ _ _ _ => (pg_name (i := 6) nd rfl (by first | exact Or.inl rfl | exact Or.inr rfl))) (fun _ _ _ _ _ => pts_one (pt_cmpR (r := rNotInD K) (tb := tVar 3) (op_notInD hu65) (pv 6) (pv 3) (by rfl))) (fun _ _ _ _ _ => (pv 6)))
      (pss_cons (ps_if (pt_not (pt_val (pe_callg cA.G hr1 hg rfl cA.m cA.kp cA.b (pa_cons (pe_told TF SC T rfl ML rfl rfl hr10 (LamX.lamS_by (by rfl)) rfl (fun _ _ _ _ _ => rfl) (fun A outer s H E f c0 hrL => (pe_op (op_binX (op := .BitAnd) SC.oA SC.gA (hrL.mono (by decide)) SC.bA (fun σ => passes_lam σ)) (pv 0) (pv 1)))) (pa_cons (pe_call cD.G hr3 rfl cD.m cD.kp cD.b .nil pass0 (pa_cons (pv 4) pa_nil)) pa_nil))))) (pss_one (ps_ret pe_bl)) pss_nil)
      (pss_cons (ps_if (pt_not (pt_val (pe_callg cA.G hr1 hg rfl cA.m cA.kp cA.b (pa_cons (pe_told TF SC T rfl ML rfl rfl hr10 (LamX.lamS_by (by rfl)) rfl (fun _ _ _ _ _ => rfl) (fun A outer s H E f c0 hrL => (pe_op (op_binX (op := .Sub) SC.oS SC.gS (hrL.mono (by decide)) SC.bS (fun σ => passes_lam σ)) (pv 0) (pv 1)))) (pa_cons (pe_call cD.G hr3 rfl cD.m cD.kp cD.b .nil pass0 (pa_cons (pv 5) pa_nil)) pa_nil))))) (pss_one (ps_ret pe_bl)) pss_nil)
      (pss_cons (ps_if (PW.pt (pw_or (pt_not (pt_val (pe_call cTr.G hr1 rfl cTr.m cTr.kp cTr.b .nil pass0 (pa_cons (pe_meth (pv 0) SC.T.cl SC.mD SC.gD hr5 SC.bD .nil pass0 (pa_cons (pv 1) pa_nil)) (pa_cons (pe_cmpR (op_eqD hr1.units) (pv 5) (pe_lst pa_nil) (nomark _)) pa_nil))))) (pw_or1 (pt_cmpR op_notBl (pe_meth (pv 0) SC.T.cl SC.mD SC.gD hr5 SC.bD .nil pass0 (pa_cons (pv 0) pa_nil)) pe_bl (nomark _))))) (pss_one (ps_ret pe_bl)) pss_nil)
      (pss_one (ps_ret (pe_and (pe_cmpR (op_eqO SC.oE SC.gE hr1 SC.bE) (pe_op (op_binX (op := .BitOr) SC.oO SC.gO hr7 SC.bO (fun σ => passAt LamX.takes0 σ)) (pv 0) (pv 0)) (pv 0) (nomark _)) (pe_and (pe_cmpR (op_eqO SC.oE SC.gE hr1 SC.bE) (pe_op (op_binX (op := .BitAnd) SC.oA SC.gA hr7 SC.bA (fun σ => passAt LamX.takes0 σ)) (pv 0) (pv 0)) (pv 0) (nomark _)) (pe_one (pe_cmpR op_eq (pe_callB (r := rLenOwn C "_questions") (call_lenOwn SC.oL SC.gL SC.bL hr2) (by rfl) T.len (by decide +kernel) (pa_cons (pe_op (op_binX (op := .Sub) SC.oS SC.gS hr7 SC.bS (fun σ => passAt LamX.takes0 σ)) (pv 0) (pv 0)) pa_nil)) pe_int (nomark _))))))))))))), ?_⟩
    obtain ⟨Z1, lz1⟩ := FC.e1
    obtain ⟨Z2, lz2⟩ := FC.e2
    have ly1 := S0.q1.len
    have ly2 := S0.q2.len
    have l1 := FC.l1
    have l2 := FC.l2
    have Zor : QZs (gOr z1 z2) := fun q hq => (List.mem_append.mp hq).elim (Z1 q) (Z2 q)
    have Zand : QZs (gAnd z1 z2) := fun q hq => Z1 q (List.mem_filter.mp hq).1
    have Zsub : QZs (gSub z1 z2) := fun q hq => Z1 q (List.mem_filter.mp hq).1
    -- or
    refine ⟨S0.t, fun H2 e2 t2 Q' hQ => ?_⟩
    have S2 := S0.ext e2 t2
    obtain ⟨d1, _, _, g1, _, _⟩ := S2.A1.hasL
    obtain ⟨d2, _, _, g2, _, _⟩ := S2.A2.hasL
    refine (fun cont => ⟨_, rfl, _, rfl, a1, d1, a2, d2, _, _, rfl, g1, rfl, g2, a1, a2, z1, z2, rfl, S2.A1, S2.A2, Z1, Z2, lz1, lz2, (told_newQ hQ Zor cont).refs⟩) ?_
    intro H3 v3 s3 td3
    have S3 := S2.same s3
    refine ⟨_, rfl, _, rfl, o1, o2, y1, y2, rfl, rfl, S3.d1, S3.d2, by rw [sizeLine_eq]; omega, fun p hp => ?_⟩
    have m1 := same_new (o := .lst (y1 ++ y2)) hp
    refine ⟨p, _, q1 ++ q2, rfl, upd_same, paired_app (S3.q1.same m1) (S3.q2.same m1), fun q hq => (List.mem_append.mp hq).elim (FC.h1 q) (FC.h2 q), by rw [List.length_append]; omega, fun H4 u4 s4 td4 => ?_⟩
    dsimp only [L2.tNil, List.append_nil]
    refine (td3.same (m1.trans s4)).alike td4 (fun q => ?_) Zor ⟨_, rfl, ?_⟩
    · show q ∈ z1 ++ z2 ↔ _
      rw [List.mem_append, List.mem_append, FC.D1.mem, FC.D2.mem]
    refine iteF ?_
    have s24 := s3.trans (m1.trans s4)
    have S4 := S2.same s24
    have K4 : LamX.ExtN H H4 := e2.trans (LamX.ExtN.of s24)
    clear td3 td4 g1 g2 S3 m1 hp
    -- both
    refine ⟨_, rfl, o1, rfl, ⟨_, SqL.of S4.d1⟩, fun D hD => ?_⟩
    refine lc_list (K := K) (a := o1) (xs := y1) (fun i H' => ∃ us : List V, Same H4 H' ∧ H' D = some (.lst us) ∧ us.length ≤ i ∧ QL H' us ((q1.take i).filter fun q => decide (q ∈ q2))) ⟨[], same_new hD, upd_same, Nat.le_refl _, .nil⟩ (fun i H' _ ⟨_, s, _⟩ => SqL.of (s _ _ S4.d1)) ?_ ?_
    · rintro i x H1 hx ⟨us, s1, hUl, ul, qu⟩
      have hil : i < y1.length := (List.getElem?_eq_some_iff.mp hx).1
      have S1 := S4.same s1
      obtain ⟨o, q, rfl, hqi, hqa⟩ := S1.q1.at_ hx
      have Z := FC.h1 q (List.mem_of_getElem? hqi)
      have et : q1.take (i + 1) = q1.take i ++ [q] := by rw [List.take_add_one, hqi]; rfl
      rw [et, List.filter_append]
      refine ⟨rfl, Exists.intro _ ⟨rfl, Exists.intro _ ⟨rfl, dq q, q2.map dq, dp_q hqa, .lst (SqL.of S1.d2) S1.q2.dp, (dok_q Z.fine).shaped, (dok_qs3 FC.h2.fine' (by omega)).shaped, _, rfl, ?_⟩⟩⟩
      rw [any_q]
      cases hb' : decide (q ∈ q2) with
      | false =>
        refine iteF ?_
        refine ⟨us, s1, hUl, by omega, ?_⟩
        rw [List.filter_cons, hb', if_neg (by decide), List.filter_nil, List.append_nil]
        exact qu
      | true =>
        refine iteT ?_
        refine ⟨_, rfl, us, hUl, small1000 (by omega), us ++ [.ref o], fun b' o' hb2 => ?_, upd_same, by rw [List.length_append]; simp; omega, ?_⟩
        · rw [upd_ne (ne_of_none hb2 hD)]
          exact s1 _ _ hb2
        · rw [List.filter_cons, hb', if_pos rfl, List.filter_nil]
          exact QL.off (xs := us) hUl (qu.snoc (q := q) hqa)
    rintro H5 ⟨us, s5, hU, ul, qu0⟩
    have qu : QL H5 us (gAnd q1 q2) := by
      rw [ly1, List.take_of_length_le (Nat.le_refl _)] at qu0
      exact qu0
    have S5 := S4.same s5
    -- left
    refine ⟨_, rfl, o1, rfl, ⟨_, SqL.of S5.d1⟩, fun D2 hD2 => ?_⟩
    refine lc_list (K := K) (a := o1) (xs := y1) (fun i H' => ∃ us : List V, Same H5 H' ∧ H' D2 = some (.lst us) ∧ us.length ≤ i ∧ QL H' us ((q1.take i).filter fun q => !decide (q ∈ q2))) ⟨[], same_new hD2, upd_same, Nat.le_refl _, .nil⟩ (fun i H' _ ⟨_, s, _⟩ => SqL.of (s _ _ S5.d1)) ?_ ?_
    · rintro i x H1 hx ⟨us, s1, hUl, ul, qu⟩
      have hil : i < y1.length := (List.getElem?_eq_some_iff.mp hx).1
      have S1 := S5.same s1
      obtain ⟨o, q, rfl, hqi, hqa⟩ := S1.q1.at_ hx
      have Z := FC.h1 q (List.mem_of_getElem? hqi)
      have et : q1.take (i + 1) = q1.take i ++ [q] := by rw [List.take_add_one, hqi]; rfl
      rw [et, List.filter_append]
      refine ⟨rfl, Exists.intro _ ⟨rfl, Exists.intro _ ⟨rfl, dq q, q2.map dq, dp_q hqa, .lst (SqL.of S1.d2) S1.q2.dp, (dok_q Z.fine).shaped, (dok_qs3 FC.h2.fine' (by omega)).shaped, _, rfl, ?_⟩⟩⟩
      rw [any_q]
      cases hb' : decide (q ∈ q2) with
      | true =>
        refine iteF ?_
        refine ⟨us, s1, hUl, by omega, ?_⟩
        rw [List.filter_cons, hb', if_neg (by decide), List.filter_nil, List.append_nil]
        exact qu
      | false =>
        refine iteT ?_
        refine ⟨_, rfl, us, hUl, small1000 (by omega), us ++ [.ref o], fun b' o' hb2 => ?_, upd_same, by rw [List.length_append]; simp; omega, ?_⟩
        · rw [upd_ne (ne_of_none hb2 hD2)]
          exact s1 _ _ hb2
        · rw [List.filter_cons, hb', if_pos (by decide), List.filter_nil]
          exact QL.off (xs := us) hUl (qu.snoc (q := q) hqa)
    rintro H6 ⟨vs, s6, hV, vl, qv0⟩
    have qv : QL H6 vs (gSub q1 q2) := by
      rw [ly1, List.take_of_length_le (Nat.le_refl _)] at qv0
      exact qv0
    have S6 := S5.same s6
    have hU6 := s6 _ _ hU
    have qu6 := qu.same s6
    have K6 := K4.trans (LamX.ExtN.of (s5.trans s6))
    clear qu qu0 qv0 hU S5 S4 hD hD2 s5
    -- and
    refine ⟨S6.t, fun H7 e7 t7 Q' hQ => ?_⟩
    have S7 := S6.ext e7 t7
    obtain ⟨d1, _, _, g1, _, _⟩ := S7.A1.hasL
    obtain ⟨d2, _, _, g2, _, _⟩ := S7.A2.hasL
    have hU7 := e7 _ _ hU6 fun _ g => (nomatch g)
    have hV7 := e7 _ _ hV fun _ g => (nomatch g)
    have qu7 := qu6.nt.same (NT.ext e7)
    have qv7 := qv.nt.same (NT.ext e7)
    refine (fun cont => ⟨_, rfl, _, rfl, a1, d1, a2, d2, _, _, rfl, g1, rfl, g2, a1, a2, z1, z2, rfl, S7.A1, S7.A2, Z1, Z2, lz1, lz2, (told_newQ hQ Zand cont).refs⟩) ?_
    intro H8 v8 s8 td8
    refine ⟨_, rfl, D, us, gAnd q1 q2, rfl, s8 _ _ hU7, qu7.same s8, fun q hq => FC.h1 q (List.mem_filter.mp hq).1, by omega, fun H9 u9 s9 td9 => ?_⟩
    dsimp only [L2.tNil, List.append_nil]
    refine (td8.same s9).alike td9 (fun q => ?_) Zand ⟨_, rfl, ?_⟩
    · show q ∈ z1.filter _ ↔ q ∈ q1.filter _
      rw [List.mem_filter, List.mem_filter, decide_eq_true_iff, decide_eq_true_iff, FC.D1.mem, FC.D2.mem]
    refine iteF ?_
    have s79 := s8.trans s9
    have S9 := S7.same s79
    have hV9 := s79 _ _ hV7
    have qv9 := qv7.same s79
    have K9 := K6.trans (e7.trans (LamX.ExtN.of s79))
    clear td8 td9 g1 g2 S7 qu7 qv7 hU7 hV7 qu6 hU6 qv hV S6
    -- without
    refine ⟨S9.t, fun H7 e7 t7 Q' hQ => ?_⟩
    have S7 := S9.ext e7 t7
    obtain ⟨d1, _, _, g1, _, _⟩ := S7.A1.hasL
    obtain ⟨d2, _, _, g2, _, _⟩ := S7.A2.hasL
    have hV7 := e7 _ _ hV9 fun _ g => (nomatch g)
    have qv7 := qv9.nt.same (NT.ext e7)
    refine (fun cont => ⟨_, rfl, _, rfl, a1, d1, a2, d2, _, _, rfl, g1, rfl, g2, a1, a2, z1, z2, rfl, S7.A1, S7.A2, Z1, Z2, lz1, lz2, (told_newQ hQ Zsub cont).refs⟩) ?_
    intro H8 v8 s8 td8
    refine ⟨_, rfl, D2, vs, gSub q1 q2, rfl, s8 _ _ hV7, qv7.same s8, fun q hq => FC.h1 q (List.mem_filter.mp hq).1, by omega, fun Ha u9 s9 td9 => ?_⟩
    dsimp only [L2.tNil, List.append_nil]
    refine (td8.same s9).alike td9 (fun q => ?_) Zsub ⟨_, rfl, ?_⟩
    · show q ∈ z1.filter _ ↔ q ∈ q1.filter _
      rw [List.mem_filter, List.mem_filter, FC.D1.mem, decide_eq_decide.mpr (FC.D2.mem q)]
    refine iteF ?_
    have s79 := s8.trans s9
    have Sa := S7.same s79
    have hVa := s79 _ _ hV7
    have qva := qv7.same s79
    have Ka := K9.trans (e7.trans (LamX.ExtN.of s79))
    clear td8 td9 g1 g2 S7 qv7 hV7 S9 qv9 hV9
    -- within
    obtain ⟨d1, _, _, g1, _, _⟩ := Sa.A1.hasL
    refine ⟨_, rfl, a1, d1, _, rfl, g1, rfl, _, rfl, a1, a2, z1, z2, rfl, Sa.A1, Sa.A2, Z1, Z2, by omega, by omega, fun Hb sb => ?_⟩
    have Sb := Sa.same sb
    have hVb := sb _ _ hVa
    have qvb := qva.same sb
    refine ⟨_, rfl, by show 0 ≤ sizeLine; decide, fun p hp => ?_⟩
    have n1 := same_new (o := .lst []) hp
    have Zv : QZs (gSub q1 q2) := fun q hq => FC.h1 q (List.mem_filter.mp hq).1
    have lv := qvb.len
    refine ⟨.list ((gSub q1 q2).map dq), .list ([].map dq), .lst (SqL.of (n1 _ _ hVb)) (qvb.same n1).dp, .lst (SqL.of upd_same) .nil, (dok_qs3 Zv.fine' (by omega)).shaped, by decide, ?_⟩
    have eb : (z1.all fun q => decide (q ∈ z2)) = PyData.eqv (.list ((gSub q1 q2).map dq)) (.list (([] : List Qd).map dq)) := by
      rw [eqv_qs]
      by_cases h : gSub q1 q2 = []
      · rw [decide_eq_true h, List.all_eq_true]
        intro q hq
        have h1 := (FC.D1.mem q).mp hq
        have h2 : q ∉ gSub q1 q2 := by rw [h]; simp
        by_cases m : q ∈ q2
        · exact decide_eq_true ((FC.D2.mem q).mpr m)
        · exact absurd (List.mem_filter.mpr ⟨h1, by rw [decide_eq_false m]; rfl⟩) h2
      · rw [decide_eq_false h]
        refine Bool.eq_false_iff.mpr fun g => h (List.eq_nil_iff_forall_not_mem.mpr fun q hq => ?_)
        obtain ⟨h1, h2⟩ := List.mem_filter.mp hq
        have := of_decide_eq_true (List.all_eq_true.mp g q ((FC.D1.mem q).mpr h1))
        rw [decide_eq_true ((FC.D2.mem q).mp this)] at h2
        cases h2
    rw [eb]
    refine ⟨_, rfl, _, rfl, ?_⟩
    refine iteF ?_
    have Sc := Sb.same n1
    obtain ⟨d3, _, _, g3, _, _⟩ := Sc.A1.hasL
    refine ⟨_, rfl, a1, d3, _, rfl, g3, rfl, _, rfl, a1, a1, z1, z1, rfl, Sc.A1, Sc.A1, Z1, Z1, by omega, by omega, fun Hd sd => ?_⟩
    have ea : (z1.all fun q => decide (q ∈ z1)) = true := List.all_eq_true.mpr fun q hq => decide_eq_true hq
    refine ⟨_, true, rfl, rfl, _, rfl, ?_⟩
    rw [ea, decide_eq_true rfl]
    refine iteF ?_
    have Sd := Sc.same sd
    have Kd := Ka.trans (LamX.ExtN.of (sb.trans (n1.trans sd)))
    clear Sc Sb Sa hVb qvb hVa qva g3 g1
    -- the same with itself
    have one : ∀ {g : List Qd → List Qd → List Qd}, (∀ q, q ∈ g z1 z1 ↔ q ∈ z1) → Dist (g z1 z1) z1 := fun h => ⟨FC.D1.nd, FC.D1.up, fun q => (h q).symm⟩
    have eqs : ∀ {G : Hp} {x : Addr} {Q : VK}, AsV G C x z1 → AsV G C a1 z1 → Q (.bl true) G → rOwn K C (spAEq C) false (.ref x) (.ref a1) G Q := fun {G x Q} hx ha q => by
      obtain ⟨dx, _, _, gx, _, _⟩ := hx.hasL
      obtain ⟨da, _, _, ga, _, _⟩ := ha.hasL
      refine ⟨x, dx, _, .ref C, rfl, gx, SC.T.ty ga, SC.nf, x, a1, z1, z1, rfl, hx, ha, Z1, Z1, by omega, by omega, _, rfl, ?_⟩
      rw [decide_eq_true rfl]
      exact q
    obtain ⟨d4, _, _, g4, _, _⟩ := Sd.A1.hasL
    refine ⟨_, rfl, _, rfl, a1, d4, a1, d4, _, _, rfl, g4, rfl, g4, a1, a1, z1, z1, rfl, Sd.A1, Sd.A1, Z1, Z1, lz1, lz1, newQ_eq (one (g := gOr) fun q => by show q ∈ z1 ++ z1 ↔ _; rw [List.mem_append, or_self]) lz1 fun He x se hx => ⟨x, rfl, ?_⟩⟩
    have Se := Sd.same se
    refine ⟨_, rfl, eqs hx Se.A1 ⟨_, rfl, ?_⟩⟩
    refine iteT ?_
    obtain ⟨d5, _, _, g5, _, _⟩ := Se.A1.hasL
    refine ⟨_, rfl, _, rfl, a1, d5, a1, d5, _, _, rfl, g5, rfl, g5, a1, a1, z1, z1, rfl, Se.A1, Se.A1, Z1, Z1, lz1, lz1, newQ_eq (one (g := gAnd) fun q => by show q ∈ z1.filter _ ↔ _; rw [List.mem_filter, decide_eq_true_iff, and_self]) lz1 fun Hf x2 sf hx2 => ⟨x2, rfl, ?_⟩⟩
    have Sf := Se.same sf
    refine ⟨_, rfl, eqs hx2 Sf.A1 ⟨_, rfl, ?_⟩⟩
    refine iteT ?_
    obtain ⟨d6, _, _, g6, _, _⟩ := Sf.A1.hasL
    have en : gSub z1 z1 = [] := List.eq_nil_iff_forall_not_mem.mpr fun q hq => by
      obtain ⟨h1, h2⟩ := List.mem_filter.mp hq
      rw [decide_eq_true h1] at h2
      cases h2
    refine ⟨_, rfl, _, rfl, a1, d6, a1, d6, _, _, rfl, g6, rfl, g6, a1, a1, z1, z1, rfl, Sf.A1, Sf.A1, Z1, Z1, lz1, lz1, newQ_eq (zs := []) (by rw [en]; exact ⟨.nil, List.Pairwise.nil, fun _ => Iff.rfl⟩) (by decide) fun Hg x3 sg hx3 => ⟨x3, rfl, ?_⟩⟩
    obtain ⟨d7, l7, y7, g7, g8, g9⟩ := hx3.hasL
    have e7 := g9.len
    refine ⟨x3, l7, y7, rfl, ⟨d7, _, g7, rfl, g8⟩, by rw [e7]; decide, rfl, ?_⟩
    have ez : (y7.length : Int) = 0 := by rw [e7]; rfl
    show Q (.bl (decide (V.int (y7.length : Int) = V.int 0))) Hg
    rw [ez, decide_eq_true rfl]
    have sA := se.trans (sf.trans sg)
    exact k Hg (Kd.trans (LamX.ExtN.of sA)) (Sd.same sA).t
end
end Qk
set_option maxRecDepth 100000
set_option maxHeartbeats 4000000
namespace Qk
open PySem PySem.Spec PyProof.Rows L2
section
variable {P : Program} {w : World} {K : PySem.W.Frag} {mg : Str → Option Value} {base : Heap}
theorem paired_takeL {α β : Type} {F : α → β → Prop} : ∀ {xs : List α} {ys : List β} (n : Nat), Paired F xs ys → Paired F (xs.take n) (ys.take n)
  | _, _, 0, _ => by rw [List.take_zero, List.take_zero]; exact .nil
  | _, _, n + 1, .nil => .nil
  | _, _, n + 1, .cons r t => by rw [List.take_succ_cons, List.take_succ_cons]; exact .cons r (paired_takeL n t)
theorem tC_of {v : V} {σ : L2.St} {H : Hp} {Q : VK} (h : Q v H) : L2.tC v σ H Q := h
theorem every_in {ns : List Str} {q : Qd} (h : q ∈ everyQ ns) : inN ns q := by
  rcases mem_every.mp h with h | h
  · obtain ⟨h1, h2, h3⟩ := mem_plain.mp h
    exact ⟨fun c hc => (parts_sub ns _ h1).subset hc, .inl h3⟩
  · unfold rangedQ at h
    obtain ⟨p, hp, hr⟩ := List.mem_flatMap.mp h
    obtain ⟨e1, e2, e3⟩ := mem_ranged.mp hr
    exact ⟨fun c hc => (parts_sub ns _ hp).subset (by rw [← e1]; exact hc), .inr e2⟩
theorem inN.le {xs ys : List Str} {q : Qd} (h : inN xs q) (s : ∀ c ∈ xs, c ∈ ys) : inN ys q := ⟨fun c hc => s c (h.1 c hc), h.2.imp id fun m => s _ m⟩
/-- two lists of questions over columns of the menu -/
structure TwoQ (q1 q2 : List Qd) : Prop where
  h1 : QZs q1
  h2 : QZs q2
  l1 : q1.length ≤ 48
  l2 : q2.length ≤ 48
  n1 : ∀ q ∈ q1, inN menu13 q
  n2 : ∀ q ∈ q2, inN menu13 q
def spTwoQ : Sp := fun vs H Q _ => ∃ (b l : Addr), vs = [.ref b] ∧ Bag H b l ∧ ∀ (t o1 o2 : Addr) (y1 y2 : List V) (q1 q2 : List Qd) (H' : Hp), H' t = some (.tup [.ref o1, .ref o2]) → H' o1 = some (.lst y1) → H' o2 = some (.lst y2) → QL H' y1 q1 → QL H' y2 q2 → TwoQ q1 q2 → Bag H' b l → Kp b H H' → Q (.ref t) H'
abbrev nTwo : List Str := ["_law_bag_here", "_law_names_here", "_law_every_here", "_law_sizes", "_law_k"]
theorem scTwo : FnScope nTwo ["_law_bag_here"] (defScope sTwo) := ⟨rfl, rfl, rfl, by decide +kernel, rfl, by decide +kernel, by decide +kernel⟩
theorem ok_two {f : Addr} {fd : FuncData} (F : Fun K "_law_two" "_law_two" sTwo f fd) (T : Txt K mg)
    (cT : Cal P w K mg base 1 "_law_take" ["_law_bag_here", "_law_upto"] spTake)
    (cO : Cal P w K mg base 2 "_law_one" ["_law_bag_here", "_law_some"] spOne)
    (cM : Cal P w K mg base 2 "_law_mixed" ["_law_bag_here", "_law_things"] spMixed)
    (cN : Cal P w K mg base 2 "_law_names" ["_law_bag_here", "_law_many"] spNamesN)
    (cS : Cal P w K mg base 3 "_law_questions" ["_law_bag_here", "_law_names_here", "_law_many"] spQuestionsN)
    (cE : Cal P w K mg base 1 "_law_every" ["_law_names_here"] spEvery) : FnOk P w K mg base CX0 4 f fd ["_law_bag_here"] spTwoQ := by
  refine F.ok scTwo (fun vs H Q E h => ?_) (fun cdv A outer s H vs Q E hr h => ?_)
  · obtain ⟨b, l, rfl, _⟩ := h
    rfl
  · obtain ⟨b, l, rfl, B, k⟩ := h
    have nd := scTwo.nd
    have hr1 : Room 1 _ := hr.mono (by decide)
    have hr2 : Room 2 _ := hr.mono (by decide)
    have hr3 : Room 3 _ := hr.mono (by decide)
    refine ⟨_, (pss_cons (ps_if (pt_cmpR op_gt (pe_call cT.G hr1 rfl cT.m cT.kp cT.b .nil pass0 (pa_cons (pv 0) (pa_cons pe_int pa_nil))) pe_int (nomark _)) (pss_cons (ps_set (i := 1) nd rfl (by first | exact Or.inl rfl | exact Or.inr rfl) (pe_call cN.G hr2 rfl cN.m cN.kp cN.b .nil pass0 (pa_cons (pv 0) (pa_cons (pe_op op_add pe_int (pe_call cT.G hr1 rfl cT.m cT.kp cT.b .nil pass0 (pa_cons (pv 0) (pa_cons pe_int pa_nil)))) pa_nil))))
      (pss_one (ps_ret (pe_tup (pa_cons (pe_call cS.G hr3 rfl cS.m cS.kp cS.b .nil pass0 (pa_cons (pv 0) (pa_cons (pv 1) (pa_cons (pe_call cT.G hr1 rfl cT.m cT.kp cT.b .nil pass0 (pa_cons (pv 0) (pa_cons pe_int pa_nil))) pa_nil)))) (pa_cons (pe_call cS.G hr3 rfl cS.m cS.kp cS.b .nil pass0 (pa_cons (pv 0) (pa_cons (pv 1) (pa_cons (pe_call cT.G hr1 rfl cT.m cT.kp cT.b .nil pass0 (pa_cons (pv 0) (pa_cons pe_int pa_nil))) pa_nil)))) pa_nil)))))) pss_nil)
      (pss_cons (ps_set (i := 2) nd rfl (by first | exact Or.inl rfl | exact Or.inr rfl) (pe_call cE.G hr1 rfl cE.m cE.kp cE.b .nil pass0 (pa_cons (pe_callB cr_sortedST (by rfl) T.sorted (by decide +kernel) (pa_cons (pe_call cN.G hr2 rfl cN.m cN.kp cN.b .nil pass0 (pa_cons (pv 0) (pa_cons pe_int pa_nil))) pa_nil)) pa_nil)))
      (pss_cons (ps_setLc (i := 3) (own := [("_law_k", 4)]) (g := gName 4) (tt := tYes) rfl nd rfl (by rfl) (sw_true rfl (by rfl) rfl (by decide)) (pi_range1 (by rfl) T.range (pa_cons pe_int pa_nil)) (blkOk_by (N := nTwo) (sc := defScope sTwo) (by decide +kernel)) (fun _ _ _ _ _ => (pg_name (i := 4) nd rfl (by first | exact Or.inl rfl | exact Or.inr rfl))) (fun _ _ _ _ _ => pts_nil) (fun _ _ _ _ _ => (pe_call cO.G hr2 rfl cO.m cO.kp cO.b .nil pass0 (pa_cons (pv 0) (pa_cons (pe_lst (pa_cons pe_int (pa_cons pe_int (pa_cons pe_int (pa_cons pe_int (pa_cons pe_int pa_nil)))))) pa_nil)))))
      (pss_one (ps_ret (pe_tup (pa_cons (pe_slice sl_list (pe_call cM.G hr2 rfl cM.m cM.kp cM.b .nil pass0 (pa_cons (pv 0) (pa_cons (pv 2) pa_nil))) po_none (po_some (pe_ix ix_list (pv 3) pe_int fun _ _ => rfl))) (pa_cons (pe_slice sl_list (pe_call cM.G hr2 rfl cM.m cM.kp cM.b .nil pass0 (pa_cons (pv 0) (pa_cons (pv 2) pa_nil))) po_none (po_some (pe_ix ix_list (pv 3) pe_int fun _ _ => rfl))) pa_nil)))))))), ?_⟩
    refine ⟨_, rfl, b, l, 4, rfl, B, by decide, by decide, fun j H1 hj B1 k1 => ⟨_, _, rfl, rfl, _, rfl, ?_⟩⟩
    refine ite2 (fun _ => ?_) (fun _ => ?_)
    · -- small ones
      refine ⟨_, rfl, _, rfl, b, l, 6, rfl, B1, by decide, by decide, fun j2 H2 hj2 B2 k2 => ⟨_, _, rfl, rfl, b, l, 1 + j2, by show [V.ref b, V.int (1 + (j2 : Int))] = _; rw [show (1 + (j2 : Int)) = ((1 + j2 : Nat) : Int) by omega], by omega, B2, fun xs p H3 xnd xsub xlen pb hp B3 k3 => ?_⟩⟩
      have R : Row xs := ⟨xnd, fun c hc => menu13_sub c (xsub c hc), by rw [xlen]; omega, by rw [xlen]; omega⟩
      refine ⟨_, rfl, _, rfl, _, rfl, b, l, 10, rfl, B3, by decide, by decide, fun j4 H4 hj4 B4 k4 => ⟨b, l, p, xs, j4, rfl, B4, pb, k4 _ _ hp pb, R, by omega, fun p5 H5 p5n p5b _ G5 => ?_⟩⟩
      obtain ⟨y5, q5, h5, hq5, hz5, hi5, hl5⟩ := G5.qs
      have B5 := G5.bag
      have hp5 := G5.kp _ _ (k4 _ _ hp pb) pb
      refine ⟨_, rfl, _, rfl, _, rfl, b, l, 10, rfl, B5, by decide, by decide, fun j6 H6 hj6 B6 k6 => ⟨b, l, p, xs, j6, rfl, B6, pb, k6 _ _ hp5 pb, R, by omega, fun p7 H7 p7n p7b _ G7 => ?_⟩⟩
      obtain ⟨y7, q7, h7, hq7, hz7, hi7, hl7⟩ := G7.qs
      have B7 := G7.bag
      have k57 := k6.trans G7.kp
      refine ⟨by show 2 ≤ sizeLine; decide, fun t ht => ?_⟩
      have st := same_new (o := .tup [.ref p5, .ref p7]) ht
      have KA := ((((k1.trans k2).trans k3).trans k4).trans G5.kp).trans k57
      exact k t p5 p7 y5 y7 q5 q7 _ upd_same (st _ _ (k57 _ _ h5 p5b)) (st _ _ h7) ((hq5.kp B5 k57).same st) (hq7.same st) ⟨hz5, hz7, by omega, by omega, fun q hq => (hi5 q hq).le xsub, fun q hq => (hi7 q hq).le xsub⟩ (B7.same st) (KA.trans (Kp.of st))
    · -- out of all over five
      refine ⟨_, rfl, b, l, 5, rfl, by decide, B1, fun xs p H2 xnd xsub xlen pb hp B2 k2 => ?_⟩
      refine ⟨p, xs, rfl, .inl (SqL.of hp), by omega, fun ws p9 hws hsrt hp9 => ?_⟩
      have s9 := same_new (o := .lst (ws.map V.str)) hp9
      have A9 : Asc ws := ⟨hws.nodup_iff.mpr xnd, hsrt, fun c hc => menu13_sub c (xsub c (hws.mem_iff.mp hc)), by rw [hws.length_eq, xlen]; decide⟩
      have w13 : ∀ c ∈ ws, c ∈ menu13 := fun c hc => xsub c (hws.mem_iff.mp hc)
      refine ⟨p9, ws, rfl, upd_same, A9, fun p10 H10 x10 s10 h10 q10 => ?_⟩
      have s210 := s9.trans s10
      have B10 := B2.same s210
      have l192 := every_len A9.le
      have l10 := q10.len
      have p10b : p10 ≠ b := B10.ne_refs h10 q10.refs
      have k10 := (k1.trans k2).trans (Kp.of s210)
      -- sizes
      refine ⟨2, rfl, by decide, by decide, fun D hD => ?_⟩
      have Db := B10.ne hD
      have n10 := same_new (o := .lst []) hD
      have k10D := k10.trans (Kp.of n10)
      have D0 : H D = none := by
        cases e : H D with
        | none => rfl
        | some o =>
          rw [k10 _ _ e Db] at hD
          cases hD
      have lD := B10.nel hD
      refine lc_range (lo := 0) (n := 2) (fun i H' => Bag H' b l ∧ Kp b H H' ∧ H' p10 = some (.lst x10) ∧ QL H' x10 (everyQ ws) ∧ ∃ ms : List Nat, H' D = some (.lst (ms.map fun (m : Nat) => V.int (m : Int))) ∧ (∀ m ∈ ms, m ≤ 48) ∧ ms.length = i) ⟨B10.same n10, k10D, n10 _ _ h10, q10.same n10, [], upd_same, (fun m hm => nomatch hm), rfl⟩ ?_ ?_
      · rintro i H2 hi ⟨B2, k2, h2, q2, ms, hd2, hm2, hl2⟩
        refine ⟨rfl, Exists.intro _ ⟨rfl, by show 5 ≤ sizeLine; decide, fun p3 hp3 => ?_⟩⟩
        have n3 := same_new (o := .lst [V.int 20, V.int 30, V.int 47, V.int 48, V.int 48]) hp3
        refine ⟨b, l, p3, _, rfl, B2.same n3, B2.ne hp3, upd_same, by decide, by show 5 < 1000; decide, fun x H4 hx B4 k4 => ?_⟩
        obtain ⟨m, rfl, hm⟩ : ∃ m : Nat, x = .int (m : Int) ∧ m ≤ 48 := by
          rcases List.mem_cons.mp hx with rfl | hx
          · exact ⟨20, rfl, by decide⟩
          rcases List.mem_cons.mp hx with rfl | hx
          · exact ⟨30, rfl, by decide⟩
          rcases List.mem_cons.mp hx with rfl | hx
          · exact ⟨47, rfl, by decide⟩
          rcases List.mem_cons.mp hx with rfl | hx
          · exact ⟨48, rfl, by decide⟩
          · exact ⟨48, List.mem_singleton.mp hx, by decide⟩
        have B3 := B2.same n3
        have k34 := (Kp.of (b := b) n3).trans k4
        have hd4 := k4 _ _ (n3 _ _ hd2) Db
        have nD : p10 ≠ D := ne_of_none h10 hD
        refine ⟨_, hd4, small1000 (by rw [List.length_map]; omega), B4.upd Db.symm lD, fun c o hc ncb => ?_, ?_, QL.off hd4 ((q2.same n3).kp B3 k4), ms ++ [m], by rw [upd_same, List.map_append]; rfl, fun z hz => ?_, by rw [List.length_append, hl2]; rfl⟩
        · rw [upd_ne (ne_of_none hc D0)]
          exact k34 _ _ (k2 _ _ hc ncb) ncb
        · rw [upd_ne nD]
          exact k34 _ _ h2 p10b
        · rcases List.mem_append.mp hz with hz | hz
          · exact hm2 z hz
          · rw [List.mem_singleton.mp hz]
            exact hm
      · rintro H2 ⟨B2, k2, h2, q2, ms, hd2, hm2, hl2⟩
        obtain ⟨m0, m1, rfl⟩ : ∃ m0 m1, ms = [m0, m1] := by
          match ms, hl2 with
          | [m0, m1], _ => exact ⟨m0, m1, rfl⟩
        have g0 := hm2 m0 (by simp)
        have g1 := hm2 m1 (by simp)
        refine ⟨_, rfl, _, rfl, b, l, p10, x10, rfl, B2, p10b, h2, by omega, fun y3 p3 H3 hpm3 h3n h3b h3 B3 k3 => ?_⟩
        obtain ⟨z3, q3, hpq3⟩ := paired_perm hpm3 (q2.kp B2 k3)
        have hd3 := k3 _ _ hd2 Db
        refine ⟨_, rfl, ?_⟩
        refine tC_of ?_
        refine rIx 0 hd3 rfl ⟨_, rfl, p3, _, rfl, SqL.of h3, fun p4 hp4 => ?_⟩
        rw [show cutV y3 none (some (m0 : Int)) = y3.take m0 from cut_to m0 y3]
        have n4 := same_new (o := .lst (y3.take m0)) hp4
        have q4 : QL (upd H3 p4 (.lst (y3.take m0))) (y3.take m0) (z3.take m0) := QL.same n4 (paired_takeL m0 q3)
        have B4 := B3.same n4
        have h4 := k3 _ _ h2 p10b
        have h44 : (upd H3 p4 (.lst (y3.take m0))) p4 = some (.lst (y3.take m0)) := upd_same
        have p4b := B3.ne hp4
        refine ⟨_, rfl, _, rfl, b, l, p10, x10, rfl, B4, p10b, n4 _ _ h4, by omega, fun y5 p5 H5 hpm5 h5n h5b h5 B5 k5 => ?_⟩
        obtain ⟨z5, q5, hpq5⟩ := paired_perm hpm5 (((q2.kp B2 k3).same n4).kp B4 k5)
        have hd5 := k5 _ _ (n4 _ _ hd3) Db
        refine ⟨_, rfl, ?_⟩
        refine tC_of ?_
        refine rIx 1 hd5 rfl ⟨_, rfl, p5, _, rfl, SqL.of h5, fun p6 hp6 => ?_⟩
        rw [show cutV y5 none (some (m1 : Int)) = y5.take m1 from cut_to m1 y5]
        have n6 := same_new (o := .lst (y5.take m1)) hp6
        refine ⟨by show 2 ≤ sizeLine; decide, fun t ht => ?_⟩
        have nt := same_new (o := .tup [.ref p4, .ref p6]) ht
        have n6t := n6.trans nt
        have KA := (((k2.trans k3).trans (Kp.of n4)).trans k5).trans (Kp.of n6t)
        have zz : ∀ {z : List Qd} {m : Nat}, z.Perm (everyQ ws) → ∀ q ∈ z.take m, q ∈ everyQ ws := fun hp q hq => hp.mem_iff.mp (List.mem_of_mem_take hq)
        exact k t p4 p6 (y3.take m0) (y5.take m1) (z3.take m0) (z5.take m1) _ upd_same (n6t _ _ (k5 _ _ h44 p4b)) (nt _ _ upd_same) ((q4.kp B4 k5).same n6t) (QL.same n6t (paired_takeL m1 q5))
          ⟨fun q hq => A9.every q (zz hpq3 q hq), fun q hq => A9.every q (zz hpq5 q hq), by rw [List.length_take]; omega, by rw [List.length_take]; omega, fun q hq => (every_in (zz hpq3 q hq)).le w13, fun q hq => (every_in (zz hpq5 q hq)).le w13⟩ (B5.same n6t) KA
end
end Qk
set_option maxRecDepth 100000
set_option maxHeartbeats 4000000
namespace Qk
open PySem PySem.Spec PyProof.Rows L2
section
variable {P : Program} {w : World} {K : PySem.W.Frag} {mg : Str → Option Value} {base : Heap}
theorem menuC_of {c : Str} (h : c ∈ menu) : c ∈ menuC := List.mem_cons_of_mem _ h
theorem menuC_ok : ∀ c ∈ menuC, okS c = true ∧ colS c = true ∧ c.cps.size ≤ 8 := by
  intro c hc
  have := List.all_eq_true.mp (show (menuC.all fun c => okS c && colS c && decide (c.cps.size ≤ 8)) = true by decide +kernel) c hc
  rw [Bool.and_eq_true, Bool.and_eq_true] at this
  exact ⟨this.1.1, this.1.2, of_decide_eq_true this.2⟩
theorem menuC_tx : ∀ c ∈ menuC, TxOk c := by
  intro c hc
  have := List.all_eq_true.mp (show (menuC.all fun c => (c.cps.toList.all fun x => decide (x < 16 ^ 8)) && decide (c.cps.size ≤ 1000) && PyData.strOk c) = true by decide +kernel) c hc
  rw [Bool.and_eq_true, Bool.and_eq_true] at this
  exact ⟨this.1.1, by have := of_decide_eq_true this.1.2; omega, fun _ => this.2, fun _ => hc⟩
theorem menu_tx : ∀ c ∈ menu, TxOk c := fun c hc => menuC_tx c (menuC_of hc)
theorem d4_strs {mx : Nat} {G : Hp} {A : Addr → Prop} : ∀ {r : List Str}, (∀ c ∈ r, c ∈ menu) → D4A mx G A (r.map V.str) (r.map PyData.str)
  | [], _ => .nil
  | c :: r, h => .cons (.str c (menu_tx c (h c List.mem_cons_self))) (d4_strs fun x hx => h x (List.mem_cons_of_mem _ hx))
theorem cost4_strs : ∀ {r : List Str}, (∀ c ∈ r, c ∈ menu) → costAll4 (r.map PyData.str) ≤ 10012 * r.length
  | [], _ => Nat.zero_le _
  | c :: r, h => by
    have h1 := menu_sz c (h c List.mem_cons_self)
    have h2 := cost4_strs fun x hx => h x (List.mem_cons_of_mem _ hx)
    simp only [List.map_cons, costAll4, cost4, List.length_cons]
    omega
theorem d4_q {G : Hp} {A : Addr → Prop} {t : Addr} {q : Qd} (h : QAt G t q.1 q.2) (Z : QZ q.1 q.2) (nA : ∀ c xs, G c = some (.tup xs) → ¬ A c) : D4 12 G A (.ref t) (dq q) ∧ cost4 (dq q) ≤ 131000 ∧ (dq q).depth ≤ 2 := by
  obtain ⟨c, h1, h2⟩ := h
  have te : TxOk q.2 := by
    rcases Z.m.esub with e | e
    · rw [e]
      exact ⟨by decide, by decide, fun _ => by decide +kernel, by decide +kernel⟩
    · exact menu_tx _ e
  have se : q.2.cps.size ≤ 1000 := by
    rcases Z.m.esub with e | e
    · rw [e]
      decide
    · exact menu_sz _ e
  have hc := cost4_strs Z.m.sub
  have hl := Z.m.le
  refine ⟨.tup h1 (nA _ _ h1) (by show 2 ≤ 12; decide) (.cons (.tup h2 (nA _ _ h2) (by rw [List.length_map]; exact hl) (d4_strs Z.m.sub)) (.cons (.str q.2 te) .nil)), ?_, ?_⟩
  · show (costAll4 (q.1.map PyData.str) + 3 + 2 + ((10 * q.2.cps.size + 10) + 2 + 0)) + 3 ≤ _
    omega
  · rw [depth_q]
    decide
theorem wv_q {G : Hp} {A : Addr → Prop} {t : Addr} {q : Qd} (h : QAt G t q.1 q.2) (Z : QZ q.1 q.2) (nA : ∀ c xs, G c = some (.tup xs) → ¬ A c) : WV 12 G A 131000 2 (.ref t) := by
  obtain ⟨h1, h2, h3⟩ := d4_q h Z nA
  exact ⟨_, h1, h2, h3⟩
theorem wv_l {G : Hp} {A : Addr → Prop} {c r : Addr} {q : Qd} (hc : G c = some (.tup (q.1.map V.str))) (hr : G r = some (.lst [.ref c, .str q.2])) (nr : r ≠ sysModules) (nAr : ¬ A r) (Z : QZ q.1 q.2) (nA : ∀ c xs, G c = some (.tup xs) → ¬ A c) : WV 12 G A 131000 2 (.ref r) := by
  have te : TxOk q.2 := by
    rcases Z.m.esub with e | e
    · rw [e]
      exact ⟨by decide, by decide, fun _ => by decide +kernel, by decide +kernel⟩
    · exact menu_tx _ e
  have se : q.2.cps.size ≤ 1000 := by
    rcases Z.m.esub with e | e
    · rw [e]
      decide
    · exact menu_sz _ e
  have hcs := cost4_strs Z.m.sub
  have hl := Z.m.le
  refine ⟨.list [.tuple (q.1.map PyData.str), .str q.2], .lst hr nAr nr (by show 2 ≤ 12; decide) (.cons (.tup hc (nA _ _ hc) (by rw [List.length_map]; exact hl) (d4_strs Z.m.sub)) (.cons (.str q.2 te) .nil)), ?_, ?_⟩
  · show (costAll4 (q.1.map PyData.str) + 3 + 2 + ((10 * q.2.cps.size + 10) + 2 + 0)) + 3 ≤ _
    omega
  · show max (PyData.depthAll (q.1.map PyData.str) + 1) (max 0 0) + 1 ≤ 2
    rw [depth_strs]
    decide
theorem Bag.noTup {G : Hp} {b l : Addr} (B : Bag G b l) : ∀ c xs, G c = some (.tup xs) → ¬ c = b := fun c xs h e => by
  obtain ⟨g, m, p, ns, hb, _⟩ := B
  rw [e, hb] at h
  cases h
end
end Qk
set_option maxRecDepth 100000
set_option maxHeartbeats 4000000
namespace Qk
open PySem PySem.Spec PyProof.Rows L2
section
variable {P : Program} {w : World} {K : PySem.W.Frag} {mg : Str → Option Value} {base : Heap}
theorem QAt.ext {H H' : Hp} {t : Addr} {cols : List Str} {e : Str} (x : LamX.ExtN H H') (h : QAt H t cols e) : QAt H' t cols e := by
  obtain ⟨c, h1, h2⟩ := h
  exact ⟨c, x _ _ h1 (fun _ g => (nomatch g)), x _ _ h2 fun _ g => (nomatch g)⟩
theorem QAt.kpn {b l : Addr} {H H' : Hp} {t : Addr} {cols : List Str} {e : Str} (h : QAt H t cols e) (B : Bag H b l) (k : KpN b H H') : QAt H' t cols e := by
  obtain ⟨c, h1, h2⟩ := h
  exact ⟨c, k.tup B h1, k.tup B h2⟩
/-- what stands while single questions are tried -/
structure StG (T : List (Addr × Str)) (C b l a1 o1 : Addr) (y1 : List V) (q1 z1 : List Qd) (G : Hp) : Prop where
  B : Bag G b l
  A : AsV G C a1 z1
  d : G o1 = some (.lst y1)
  q : QL G y1 q1
  t : LamX.Tabs T G
structure FcG (q1 z1 : List Qd) : Prop where
  h : QZs q1
  D : Dist q1 z1
  le : q1.length ≤ 48
theorem FcG.e {q1 z1 : List Qd} (F : FcG q1 z1) : QZs z1 ∧ z1.length ≤ 48 := ⟨fun q hq => F.h q ((F.D.mem q).mp hq), Nat.le_trans F.D.le F.le⟩
section
variable {T : List (Addr × Str)} {C b l a1 o1 : Addr} {y1 : List V} {q1 z1 : List Qd} {G G' : Hp}
theorem StG.kpn (h : StG T C b l a1 o1 y1 q1 z1 G) (k : KpN b G G') (B' : Bag G' b l) (t' : LamX.Tabs T G') : StG T C b l a1 o1 y1 q1 z1 G' :=
  ⟨B', h.A.kpn h.B k, k.lst h.d (h.B.ne_refs h.d h.q.refs), h.q.kpn h.B k, t'⟩
theorem StG.same (h : StG T C b l a1 o1 y1 q1 z1 G) (s : Same G G') : StG T C b l a1 o1 y1 q1 z1 G' := h.kpn (KpN.of_same s) (h.B.same s) (Tabs.same h.t s)
theorem StG.ext (h : StG T C b l a1 o1 y1 q1 z1 G) (e : LamX.ExtN G G') (t' : LamX.Tabs T G') : StG T C b l a1 o1 y1 q1 z1 G' := h.kpn (KpN.of_ext e) (h.B.ext e) t'
theorem StG.kp (h : StG T C b l a1 o1 y1 q1 z1 G) (k : Kp b G G') (B' : Bag G' b l) : StG T C b l a1 o1 y1 q1 z1 G' := h.kpn (KpN.of_kp k) B' (Tabs.of_kp h.t h.B.isl k)
end
def spSing (T : List (Addr × Str)) (C : Addr) : Sp := fun vs H Q _ => ∃ (b l a1 o1 : Addr) (y1 : List V) (q1 z1 : List Qd), vs = [.ref b, .ref a1, .ref o1] ∧ StG T C b l a1 o1 y1 q1 z1 H ∧ FcG q1 z1 ∧ ∀ H', Bag H' b l → KpN b H H' → LamX.Tabs T H' → Q (.bl true) H'
abbrev nSi : List Str := ["_law_bag_here", "_law_one_here", "_law_first", "_law_more", "_law_question", "_law_things", "_law_due_here", "_law_thing"]
theorem scSi : FnScope nSi ["_law_bag_here", "_law_one_here", "_law_first"] (defScope sSingles) := ⟨rfl, rfl, rfl, by decide +kernel, rfl, by decide +kernel, by decide +kernel⟩
theorem ok_singles {Tb : List (Addr × Str)} {f c Pt C CW CM CN CK : Addr} {fd : FuncData} (F : FunC K "_law_singles_right" "_law_singles_right" sSingles f fd c) (T : Txt K mg) (SC : SA P w K mg base C CW CM CN CK) (TF : ToldF K mg) (ML : MkL base mg Tb "_law_singles_right" c Pt)
    (cM : Cal P w K mg base 2 "_law_mixed" ["_law_bag_here", "_law_things"] spMixed)
    (cN : Cal P w K mg base 2 "_law_names" ["_law_bag_here", "_law_many"] spNamesN)
    (cQ : Cal P w K mg base 2 "_law_question_of" ["_law_bag_here", "_law_row"] spQOf)
    (cOd : Cal P w K mg base 3 "_law_odd" ["_law_bag_here"] spOddW)
    (cBe : Cal P w K mg base 6 "_law_bent" ["_law_bag_here", "_law_thing"] (spBentW 2))
    (cIs : Cal P w K mg base 3 "_law_is_question" ["_law_thing"] spQv)
    (cD : Cal P w K mg base 3 "_law_due" ["_law_some"] (spDue K))
    (cA : CalG P w K mg base 1 "_law_alike" ["_law_found", "_law_due_here"] (spAlikeX K)) : FnG P w K mg base 11 f fd ["_law_bag_here", "_law_one_here", "_law_first"] (spSing Tb C) := by
  refine okGC F scSi (fun vs H Q E h => ?_) (fun AA outer s H vs Q E hr hg h => ?_)
  · obtain ⟨b, l, a1, o1, y1, q1, z1, rfl, _⟩ := h
    rfl
  · obtain ⟨b, l, a1, o1, y1, q1, z1, rfl, S0, FC, k⟩ := h
    have nd := scSi.nd
    have hr10 : Room 10 _ := hr
    have hr6 : Room 6 _ := hr.mono (by decide)
    have hr3 : Room 3 _ := hr.mono (by decide)
    have hr2 : Room 2 _ := hr.mono (by decide)
    have hr1 : Room 1 _ := hr.mono (by decide)
    have hu65 : AA.units + 3 + 65 < cLine := by
      have := hr.un
      have e : (AA.deeper (envOfC "_law_singles_right" (defScope sSingles) s.heap.objs.size f (.ref c))).units = AA.units + 3 := rfl
      omega
    have huT : AA.units + 3 < cLine := by omega
    refine ⟨_, (pss_cons (ps_set (i := 3) nd rfl (by first | exact Or.inl rfl | exact Or.inr rfl) (pe_call cQ.G hr2 rfl cQ.m cQ.kp cQ.b .nil pass0 (pa_cons (pv 0) (pa_cons (pe_call cM.G hr2 rfl cM.m cM.kp cM.b .nil pass0 (pa_cons (pv 0) (pa_cons (pe_call cN.G hr2 rfl cN.m cN.kp cN.b .nil pass0 (pa_cons (pv 0) (pa_cons pe_int pa_nil))) pa_nil))) pa_nil))))
      (pss_cons (ps_for PassesOwn.never rfl (pi_list (pe_op op_cat (pe_slice sl_list (pv 2) po_none (po_some pe_int)) (pe_lst (pa_cons (pv 3) pa_nil)))) (pg_name (i := 4) nd rfl (by first | exact Or.inl rfl | exact Or.inr rfl)) (pss_one (ps_if (pt_not (pt_val (pe_callg cA.G hr1 hg rfl cA.m cA.kp cA.b (pa_cons (pe_told TF SC T rfl ML rfl rfl hr10 (LamX.lamS_by (by rfl)) rfl (fun _ _ _ _ _ => rfl) (fun A outer s H E f c0 hrL => (pe_meth (pv 1) SC.T.cl SC.mX SC.gX (hrL.mono (by decide)) SC.bX .nil passAll_lam (pa_cons (pv 4) pa_nil)))) (pa_cons (pe_call cD.G hr3 rfl cD.m cD.kp cD.b .nil pass0 (pa_cons (pe_op op_cat (pv 2) (pe_lst (pa_cons (pv 4) pa_nil))) pa_nil)) pa_nil))))) (pss_one (ps_ret pe_bl)) pss_nil)))
      (pss_cons (ps_if (pt_cmpR (op_neT huT) (pe_told TF SC T rfl ML rfl rfl hr10 (LamX.lamS_by (by rfl)) rfl (fun _ _ _ _ _ => rfl) (fun A outer s H E f c0 hrL => (pe_meth (pv 1) SC.T.cl SC.mW SC.gW (hrL.mono (by decide)) SC.bW .nil passAll_lam (pa_cons (pv 1) pa_nil)))) (pe_tup (pa_cons pe_str (pa_cons (pv 1) pa_nil))) (nomark _)) (pss_one (ps_ret pe_bl)) pss_nil)
      (pss_cons (ps_set (i := 5) nd rfl (by first | exact Or.inl rfl | exact Or.inr rfl) (pe_op op_cat (pe_op op_cat (pe_slice sl_list (pv 2) po_none (po_some pe_int)) (pe_lst (pa_cons (pv 3) (pa_cons (pe_call cOd.G hr3 rfl cOd.m cOd.kp cOd.b .nil pass0 (pa_cons (pv 0) pa_nil)) (pa_cons (pe_call cBe.G hr6 rfl cBe.m cBe.kp cBe.b .nil pass0 (pa_cons (pv 0) (pa_cons (pv 3) pa_nil))) pa_nil))))) (pe_lc (own := [("_law_question", 4)]) (g := gName 4) (tt := tYes) rfl nd (pi_list (pe_slice sl_list (pv 2) po_none (po_some pe_int))) (blkOk_by (N := nSi) (sc := defScope sSingles) (by decide +kernel)) (fun _ _ _ _ _ => (pg_name (i := 4) nd rfl (by first | exact Or.inl rfl | exact Or.inr rfl))) (fun _ _ _ _ _ => pts_nil) (fun _ _ _ _ _ => (pe_callTy (T := "list") (r := rListN K) call_list_ofN (by rfl) T.list (by decide +kernel) (pa_cons (pv 4) pa_nil))))))
      (pss_cons (ps_for PassesOwn.never rfl (pi_list (pv 5)) (pg_name (i := 7) nd rfl (by first | exact Or.inl rfl | exact Or.inr rfl)) (pss_cons (ps_set (i := 6) nd rfl (by first | exact Or.inl rfl | exact Or.inr rfl) (pe_tup (pa_cons pe_str (pa_cons (pv 7) pa_nil))))
      (Evl.pss_cut (ps_if (PW.pt (pw_and (pt_val (pe_call cIs.G hr3 rfl cIs.m cIs.kp cIs.b .nil pass0 (pa_cons (pv 7) pa_nil))) (pw_and1 (pt_cmpR (r := rInD K) (tb := tVar 2) (op_inD hu65) (pv 7) (pv 2) (by rfl))))) (pss_one (ps_set (i := 6) nd rfl (by first | exact Or.inl rfl | exact Or.inr rfl) (pe_call cD.G hr3 rfl cD.m cD.kp cD.b .nil pass0 (pa_cons (pe_lc (own := [("_law_question", 4)]) (g := gName 4) rfl nd (pi_list (pv 2)) (blkOk_by (N := nSi) (sc := defScope sSingles) (by decide +kernel)) (fun _ _ _ _ _ => (pg_name (i := 4) nd rfl (by first | exact Or.inl rfl | exact Or.inr rfl))) (fun _ _ _ _ _ => pts_one (pt_cmpR (r := rNeD K) (op_neD hr1.units) (pv 4) (pv 7) (nomark _))) (fun _ _ _ _ _ => (pv 4))) pa_nil)))) pss_nil)
      (pss_one (ps_if (pt_not (pt_val (pe_callg cA.G hr1 hg rfl cA.m cA.kp cA.b (pa_cons (pe_told TF SC T rfl ML rfl rfl hr10 (LamX.lamS_by (by rfl)) rfl (fun _ _ _ _ _ => rfl) (fun A outer s H E f c0 hrL => (pe_meth (pv 1) SC.T.cl SC.mW SC.gW (hrL.mono (by decide)) SC.bW .nil passAll_lam (pa_cons (pv 7) pa_nil)))) (pa_cons (pv 6) pa_nil))))) (pss_one (ps_ret pe_bl)) pss_nil)))))
      (pss_one (ps_ret pe_bl))))))), ?_⟩
    -- one question more
    refine ⟨_, rfl, _, rfl, _, rfl, b, l, 3, rfl, by decide, S0.B, fun xs p0 H1 xnd xsub xlen pb hp B1 k1 => ?_⟩
    refine ⟨b, l, p0, _, rfl, B1, pb, hp, by rw [List.length_map, xlen]; decide, fun ys p2 H2 hpm hn2 h2b h2 B2 k2 => ?_⟩
    obtain ⟨vs, rfl, hvs⟩ := perm_strs hpm
    have R : Row vs := ⟨hvs.nodup_iff.mpr xnd, fun c hc => menu13_sub c (xsub c (hvs.mem_iff.mp hc)), by rw [hvs.length_eq, xlen]; decide, by rw [hvs.length_eq, xlen]; decide⟩
    refine ⟨b, l, p2, vs, rfl, B2, h2b, .inl h2, R, fun tm cm em H3 hqm okm B3 k3 => ?_⟩
    have Zm := okm.qz R
    have k03 := (k1.trans k2).trans k3
    have S3 := S0.kp k03 B3
    have K3 : KpN b H H3 := KpN.of_kp k03
    clear k1 k2 k3 B1 B2 B3 hp h2 hpm hn2 hvs
    refine ⟨_, rfl, _, rfl, o1, y1, rfl, SqL.of S3.d, fun p4 hp4 => ?_⟩
    have e2 : cutV y1 none (some (2 : Int)) = y1.take 2 := cut_to 2 y1
    refine ⟨_, rfl, by show 1 ≤ sizeLine; decide, fun p5 hp5 => ?_⟩
    have ly := S3.q.len
    have lq := FC.le
    have n4 := same_new (o := .lst (cutV y1 none (some (2 : Int)))) hp4
    have n5 := same_new (o := .lst [V.ref tm]) hp5
    refine ⟨p4, p5, y1.take 2, [.ref tm], rfl, rfl, n5 _ _ (by rw [← e2]; exact upd_same), upd_same, by rw [sizeLine_eq, List.length_take]; show min 2 _ + 1 ≤ _; omega, fun p6 hp6 => ?_⟩
    have n6 := same_new (o := .lst (y1.take 2 ++ [V.ref tm])) hp6
    have n46 := n4.trans (n5.trans n6)
    have big : ∀ G, upd (upd (upd H3 p4 (.lst (cutV y1 none (some (2 : Int))))) p5 (.lst [V.ref tm])) p6 (.lst (y1.take 2 ++ [V.ref tm])) = G → StG Tb C b l a1 o1 y1 q1 z1 G ∧ QAt G tm cm em ∧ KpN b H G ∧ QL G (y1.take 2 ++ [V.ref tm]) (q1.take 2 ++ [(cm, em)]) ∧ G p6 = some (.lst (y1.take 2 ++ [V.ref tm])) := fun G hG => by
      subst hG
      exact ⟨S3.same n46, hqm.same n46, K3.trans (KpN.of_same n46), (QL.same n46 (paired_takeL 2 S3.q)).snoc (q := (cm, em)) (hqm.same n46), upd_same⟩
    generalize hG : upd (upd (upd H3 p4 _) p5 _) p6 _ = G6
    obtain ⟨S6, hqm6, K6, q6, h6⟩ := big G6 hG
    have p6b : p6 ≠ b := S6.B.ne_refs h6 q6.refs
    clear big hG n46 n6 hp6 n5 hp5 n4 hp4
    have z6 : QZs (q1.take 2 ++ [(cm, em)]) := fun q hq => by
      rcases List.mem_append.mp hq with h | h
      · exact FC.h q (List.mem_of_mem_take h)
      · rw [List.mem_singleton.mp h]
        exact Zm
    generalize y1.take 2 ++ [V.ref tm] = it6 at q6 h6
    generalize q1.take 2 ++ [(cm, em)] = qs6 at q6 z6
    refine ⟨p6, rfl, ⟨_, SqL.of h6⟩, ?_⟩
    refine for_list (K := K) (a := p6) (xs := it6) (fun j σ G => StG Tb C b l a1 o1 y1 q1 z1 G ∧ KpN b G6 G ∧ ∃ v4, σ = [some (.ref b), some (.ref a1), some (.ref o1), some (.ref tm), v4, none, none, none]) ⟨S6, KpN.refl, _, rfl⟩ (fun j σ G _ h => SqL.of (h.2.1.lst h6 p6b)) ?_ ?_
    · rintro j x σ G' hxj ⟨S', K', v4, rfl⟩
      obtain ⟨t, q, rfl, hqj, ht⟩ := (q6.kpn S6.B K').at_ hxj
      have Zq := z6 q (List.mem_of_getElem? hqj)
      refine ⟨S'.t, fun H2 e2 t2 Q' hQ => ?_⟩
      have S2 := S'.ext e2 t2
      have ht2 : QAt H2 t q.1 q.2 := (show QAt G' t q.1 q.2 from ht).ext e2
      obtain ⟨lS, xS, ⟨dS, hA, hL⟩, hTS⟩ := id S2.A
      have zq : QZs (z1 ++ [q]) := fun r hr => by
        rcases List.mem_append.mp hr with h | h
        · exact FC.e.1 r h
        · rw [List.mem_singleton.mp h]
          exact Zq
      have zr : QZs (q1 ++ [q]) := fun r hr => by
        rcases List.mem_append.mp hr with h | h
        · exact FC.h r h
        · rw [List.mem_singleton.mp h]
          exact Zq
      refine (fun cont => ⟨_, rfl, a1, dS, _, rfl, hA, rfl, _, rfl, a1, t, z1, q, rfl, S2.A, FC.e.1, FC.e.2, ht2, Zq, told_newQ hQ zq cont⟩) ?_
      intro H3 v3 s3 td3
      have S3 := S2.same s3
      refine ⟨_, rfl, _, rfl, by show 1 ≤ sizeLine; decide, fun p1 hp1 => ?_⟩
      have n1 := same_new (o := .lst [.ref t]) hp1
      refine ⟨o1, p1, y1, [.ref t], rfl, rfl, n1 _ _ S3.d, upd_same, by rw [sizeLine_eq]; show y1.length + 1 ≤ _; omega, fun p2 hp2 => ?_⟩
      have n2 := same_new (o := .lst (y1 ++ [.ref t])) hp2
      refine ⟨p2, _, q1 ++ [q], rfl, upd_same, ((S3.q.same n1).same n2).snoc (((ht2.same s3).same n1).same n2), zr, by rw [List.length_append]; show y1.length + 1 < 300; omega, fun H4 u s4 td4 => ?_⟩
      dsimp only [L2.tNil, List.append_nil]
      have s34 := n1.trans (n2.trans s4)
      refine (td3.same s34).alike td4 (fun r => ?_) zq ⟨_, rfl, ?_⟩
      · rw [List.mem_append, List.mem_append, FC.D.mem r]
      refine iteF ?_
      exact ⟨S3.same s34, K'.trans ((KpN.of_ext e2).trans (KpN.of_same (s3.trans s34))), _, rfl⟩
    · rintro σ G10 ⟨S10, K10, v4, rfl⟩
      -- the Asked itself
      have KA := K6.trans K10
      have hqm10 : QL G10 [V.ref tm] [(cm, em)] := QL.kpn S6.B K10 (xs := [V.ref tm]) (qs := [(cm, em)]) (.cons ⟨tm, rfl, hqm6⟩ .nil)
      have hqmA : QAt G10 tm cm em := by
        cases hqm10 with
        | cons h _ =>
          obtain ⟨t, e, h⟩ := h
          injection e with e
          subst e
          exact h
      clear hqm10
      refine ⟨S10.t, fun H2 e2 t2 Q' hQ => ?_⟩
      have S2 := S10.ext e2 t2
      have hqm2 := hqmA.ext e2
      obtain ⟨lS, xS, ⟨dS, hA, hL⟩, hTS⟩ := id S2.A
      refine ⟨_, rfl, a1, dS, _, rfl, hA, rfl, _, rfl, a1, .ref a1, z1, rfl, S2.A, FC.e.1, FC.e.2, .inr ⟨a1, dS, _, rfl, hA⟩, fun t q e hq _ => ?_, fun _ H' d sd0 hd => ⟨d, .ref a1, rfl, .inr ⟨rfl, upd_same, fun H3 p3 s3 hp3 => ?_⟩⟩⟩
      · injection e with e
        subst e
        obtain ⟨c', h1, _⟩ := hq
        rw [hA] at h1
        cases h1
      have sd := sd0.trans ((same_new (o := .xd [("question", V.ref a1)]) hd).trans s3)
      refine ⟨_, rfl, by show 2 ≤ sizeLine; decide, fun p5 hp5 => ?_⟩
      have n5 := same_new (o := .tup [V.str "none", V.ref a1]) hp5
      refine ⟨p3, p5, [.str "none", .ref a1], rfl, rfl, SqT.of (n5 _ _ hp3), SqT.of upd_same, fun z hz => ?_, _, rfl, ?_⟩
      · rcases List.mem_cons.mp hz with rfl | hz
        · rfl
        · rw [List.mem_singleton.mp hz]
          rfl
      refine iteF ?_
      have S3 := S2.same (sd.trans n5)
      have hqm3 := hqm2.same (sd.trans n5)
      have KB := KA.trans ((KpN.of_ext e2).trans (KpN.of_same (sd.trans n5)))
      clear hp3 hp5 n5 sd hd sd0 S2 hA hL hTS S10 K10 hqmA hqm2
      generalize upd H3 p5 (.tup [V.str "none", V.ref a1]) = G11 at S3 KB hqm3 ⊢
      -- the things
      have e3 : cutV y1 none (some (3 : Int)) = y1.take 3 := cut_to 3 y1
      have e1 : cutV y1 none (some (1 : Int)) = y1.take 1 := cut_to 1 y1
      refine ⟨_, rfl, _, rfl, o1, y1, rfl, SqL.of S3.d, fun p4 hp4 => ?_⟩
      have n4 := same_new (o := .lst (cutV y1 none (some (3 : Int)))) hp4
      refine ⟨_, rfl, _, rfl, b, l, rfl, S3.B.same n4, fun Gb xo wo Bb kb => ?_⟩
      have S4 := (S3.same n4).kp kb Bb
      have hqm4 := (hqm3.same n4).kpn (S3.B.same n4) (KpN.of_kp kb)
      refine ⟨_, rfl, _, rfl, b, l, .ref tm, (fun a => a = b), 12, 131000, rfl, Bb, rfl, Bb.out, wv_q (q := (cm, em)) hqm4 Zm Bb.noTup, by decide, by decide, fun Gc xc wc Bc kc => ?_⟩
      have S5 := S4.kp kc Bc
      have hqm5 := hqm4.kpn Bb (KpN.of_kp kc)
      refine ⟨by show 3 ≤ sizeLine; decide, fun p5 hp5 => ?_⟩
      have n5 := same_new (o := .lst [V.ref tm, xo, xc]) hp5
      have p4b := S3.B.ne hp4
      have h45 : (upd Gc p5 (.lst [V.ref tm, xo, xc])) p4 = some (.lst (y1.take 3)) := n5 _ _ (kc _ _ (kb _ _ (by rw [← e3]; exact upd_same) p4b) p4b)
      refine ⟨p4, p5, y1.take 3, [.ref tm, xo, xc], rfl, rfl, h45, upd_same, by rw [sizeLine_eq, List.length_take]; show min 3 _ + 3 ≤ _; omega, fun p6 hp6 => ?_⟩
      have n6 := same_new (o := .lst (y1.take 3 ++ [V.ref tm, xo, xc])) hp6
      have S6 := S5.same (n5.trans n6)
      have hqm6' := hqm5.same (n5.trans n6)
      have K6' := KB.trans ((KpN.of_same n4).trans ((KpN.of_kp kb).trans ((KpN.of_kp kc).trans (KpN.of_same (n5.trans n6)))))
      have hw6 : ∀ x ∈ y1.take 3 ++ [V.ref tm, xo, xc], WB b 13 1562000 23 (upd (upd Gc p5 (.lst [V.ref tm, xo, xc])) p6 (.lst (y1.take 3 ++ [V.ref tm, xo, xc]))) x := fun x hx => by
        rcases List.mem_append.mp hx with hx | hx
        · obtain ⟨t, q, rfl, hq, hm⟩ := S6.q.mem x (List.mem_of_mem_take hx)
          exact WV.wide (by decide) (WV.le (by decide) (by decide) (wv_q hq (FC.h q hm) S6.B.noTup))
        rcases List.mem_cons.mp hx with rfl | hx
        · exact WV.wide (by decide) (WV.le (by decide) (by decide) (wv_q (q := (cm, em)) hqm6' Zm S6.B.noTup))
        rcases List.mem_cons.mp hx with rfl | hx
        · exact WV.same (n5.trans n6) (WB.kpn (KpN.of_kp kc) (WV.wide (by decide) (WV.le (by decide) (by decide) (WV.old wo (S3.B.same n4).out))))
        · rw [List.mem_singleton.mp hx]
          exact WV.same (n5.trans n6) wc
      have h66 : (upd (upd Gc p5 (.lst [V.ref tm, xo, xc])) p6 (.lst (y1.take 3 ++ [V.ref tm, xo, xc]))) p6 = some (.lst (y1.take 3 ++ [V.ref tm, xo, xc])) := upd_same
      have l6 : (y1.take 3 ++ [V.ref tm, xo, xc]).length ≤ 6 := by
        rw [List.length_append, List.length_take]
        show min 3 _ + 3 ≤ 6
        omega
      generalize upd (upd Gc p5 (.lst [V.ref tm, xo, xc])) p6 (.lst (y1.take 3 ++ [V.ref tm, xo, xc])) = G6 at S6 hqm6' K6' hw6 h66 ⊢
      generalize y1.take 3 ++ [V.ref tm, xo, xc] = it3 at hw6 h66 l6 ⊢
      clear n6 hp6 n5 hp5 h45 S5 hqm5 S4 hqm4 wo wc kb kc Bb Bc n4 hp4
      -- a question as a list
      refine ⟨_, rfl, _, rfl, o1, y1, rfl, SqL.of S6.d, fun p7 hp7 => ?_⟩
      have n7 := same_new (o := .lst (cutV y1 none (some (1 : Int)))) hp7
      have big7 : ∀ G, upd G6 p7 (.lst (cutV y1 none (some (1 : Int)))) = G → Same G6 G ∧ G p7 = some (.lst (y1.take 1)) := fun G hG => by
        subst hG
        exact ⟨n7, by rw [← e1]; exact upd_same⟩
      generalize hG7 : upd G6 p7 _ = G7
      obtain ⟨s67, h7⟩ := big7 G7 hG7
      clear big7 hG7 n7 hp7
      have S7 := S6.same s67
      refine ⟨p7, rfl, ⟨_, SqL.of h7⟩, fun D hD => ?_⟩
      refine lc_list (K := K) (a := p7) (xs := y1.take 1) (fun i H' => ∃ us : List V, Same G7 H' ∧ H' D = some (.lst us) ∧ us.length = i ∧ ∀ x ∈ us, WB b 13 1562000 23 H' x) ⟨[], same_new hD, upd_same, rfl, fun x h => nomatch h⟩ (fun i H' _ ⟨_, s, _⟩ => SqL.of (s _ _ h7)) ?_ ?_
      · rintro i x H1 hx ⟨us, s1, hUl, ul, qu⟩
        have hil : i < (y1.take 1).length := (List.getElem?_eq_some_iff.mp hx).1
        have i0 : i = 0 := by
          rw [List.length_take] at hil
          omega
        subst i0
        have us0 : us = [] := List.eq_nil_of_length_eq_zero ul
        subst us0
        obtain ⟨t, q, rfl, ⟨c, hc1, hc2⟩, hm⟩ := (S7.q.same s1).mem x (List.mem_of_mem_take (List.mem_of_getElem? hx))
        have Zq := FC.h q hm
        refine ⟨rfl, Exists.intro _ ⟨rfl, t, [.ref c, .str q.2], rfl, .inr (SqT.of hc1), fun r hr nr => ?_⟩⟩
        have sr := same_new (o := .lst [V.ref c, .str q.2]) hr
        have rD : r ≠ D := fun e => by rw [e, hUl] at hr; cases hr
        have cD : c ≠ D := fun e => by
          rw [e, hUl] at hc2
          injection hc2 with hc2
          cases hc2
        have cr : c ≠ r := ne_of_none hc2 hr
        have S1 := S7.same s1
        have Bz : Bag (upd (upd H1 r (.lst [V.ref c, .str q.2])) D (.lst ([] ++ [V.ref r]))) b l := (S1.B.same sr).upd (fun e => S7.B.ne hD e.symm) (S7.B.nel hD)
        refine ⟨[], sr _ _ hUl, small1000 (by decide), [.ref r], fun b' o' hb => ?_, upd_same, rfl, fun y hy => ?_⟩
        · rw [upd_ne (ne_of_none hb hD)]
          exact sr _ _ (s1 _ _ hb)
        · rw [List.mem_singleton.mp hy]
          refine WV.wide (by decide) (WV.le (by decide) (by decide) (wv_l (c := c) (q := q) ?_ ?_ nr (S1.B.ne hr) Zq Bz.noTup))
          · rw [upd_ne cD, upd_ne cr]
            exact hc2
          · rw [upd_ne rD]
            exact upd_same
      · rintro G8 ⟨us, s8, hUl, ul, qu⟩
        have s78 := s67.trans s8
        have S8 := S6.same s78
        have h68 := s78 _ _ h66
        have l1 : us.length ≤ 1 := by rw [ul, List.length_take]; omega
        refine ⟨p6, D, it3, us, rfl, rfl, h68, hUl, by rw [sizeLine_eq]; omega, fun p9 hp9 => ?_⟩
        have n9 := same_new (o := .lst (it3 ++ us)) hp9
        have S9 := S8.same n9
        have K9 := K6'.trans (KpN.of_same (s78.trans n9))
        have hw9 : ∀ x ∈ it3 ++ us, WB b 13 1562000 23 (upd G8 p9 (.lst (it3 ++ us))) x := fun x hx => by
          rcases List.mem_append.mp hx with hx | hx
          · exact WV.same (s78.trans n9) (hw6 x hx)
          · exact WV.same n9 (qu x hx)
        have h99 : (upd G8 p9 (.lst (it3 ++ us))) p9 = some (.lst (it3 ++ us)) := upd_same
        have p9b := S8.B.ne hp9
        have l9 : (it3 ++ us).length ≤ 7 := by rw [List.length_append]; omega
        generalize upd G8 p9 (.lst (it3 ++ us)) = G9 at S9 K9 hw9 h99 ⊢
        generalize it3 ++ us = its at hw9 h99 l9 ⊢
        clear n9 hp9 hUl qu ul s8 s78 S8 h68 S7 h7 hD s67 S6 K6' hw6 h66 l6 hqm6'
        refine ⟨_, rfl, p9, rfl, ⟨_, SqL.of h99⟩, ?_⟩
        refine for_list (K := K) (a := p9) (xs := its) (fun j σ G' => StG Tb C b l a1 o1 y1 q1 z1 G' ∧ KpN b G9 G' ∧ ∃ v4 v6 v7, σ = [some (.ref b), some (.ref a1), some (.ref o1), some (.ref tm), v4, some (.ref p9), v6, v7]) ⟨S9, KpN.refl, _, _, _, rfl⟩ (fun j σ G' _ h => SqL.of (h.2.1.lst h99 p9b)) ?_ ?_
        · rintro j x σ G' hxj ⟨S', K', v4, v6, v7, rfl⟩
          have hx := WB.kpn K' (hw9 x (List.mem_of_getElem? hxj))
          refine ⟨_, rfl, by show 2 ≤ sizeLine; decide, fun p4 hp4 => ?_⟩
          have n4 := same_new (o := .tup [.str "none", x]) hp4
          have S8 := S'.same n4
          have hx8 := WV.same n4 hx
          have ht4 : (upd G' p4 (.tup [.str "none", x])) p4 = some (.tup [.str "none", x]) := upd_same
          have K8 : KpN b G9 (upd G' p4 (.tup [.str "none", x])) := K'.trans (KpN.of_same n4)
          clear n4 hp4 hx S' K'
          generalize upd G' p4 (.tup [.str "none", x]) = G8 at S8 hx8 ht4 K8 ⊢
          have sp8 : SpV G8 x := ⟨_, _, VA.wide (by decide) hx8.va⟩
          refine ⟨fun σ G'' => Same G8 G'' ∧ ∃ v4' v6', σ = [some (.ref b), some (.ref a1), some (.ref o1), some (.ref tm), v4', some (.ref p9), some v6', some x] ∧
            ((¬ AmongV G8 x z1 ∧ v6' = .ref p4) ∨ ∃ t q, x = .ref t ∧ QAt G8 t q.1 q.2 ∧ q ∈ z1 ∧ TDQ K G'' v6' (q1.filter fun z => !decide (z = q))), ?_, ?_⟩
          · refine ⟨_, rfl, x, rfl, sp8, fun H1 r s1 hr1 => ⟨r, rfl, ?_⟩⟩
            cases r with
            | false =>
              refine iteF ?_
              refine ⟨s1, _, _, rfl, .inl ⟨fun ⟨t, q, e, hq, hm⟩ => ?_, rfl⟩⟩
              exact absurd (hr1.mpr ⟨t, q, e, hq, (FC.e.1 q hm).qc⟩) (by decide)
            | true =>
              refine iteT ?_
              obtain ⟨t, q, rfl, hqt, Z⟩ := hr1.mp rfl
              have S1 := S8.same s1
              refine ⟨_, rfl, _, rfl, dq q, q1.map dq, dp_q (hqt.same s1), .lst (SqL.of S1.d) S1.q.dp, spv_ok hqt sp8 Z, (dok_qs3 FC.h.fine' (by have := FC.le; omega)).shaped, _, rfl, ?_⟩
              rw [any_q]
              cases hb' : decide (q ∈ q1) with
              | false =>
                refine iteF ?_
                refine ⟨s1, _, _, rfl, .inl ⟨fun ⟨t', q', e, hq, hm⟩ => ?_, rfl⟩⟩
                injection e with e
                subst e
                rw [← QAt.uniqQ (p := q) (q := q') hqt hq] at hm
                exact absurd ((FC.D.mem q).mp hm) (of_decide_eq_false hb')
              | true =>
                refine iteT ?_
                have hm := of_decide_eq_true hb'
                refine ⟨_, rfl, o1, rfl, ⟨_, SqL.of S1.d⟩, fun D2 hD2 => ?_⟩
                have ly1 := S1.q.len
                have hqt1 := hqt.same s1
                have Zq := FC.h q hm
                refine lc_list (K := K) (a := o1) (xs := y1) (fun i H' => ∃ us : List V, Same H1 H' ∧ H' D2 = some (.lst us) ∧ us.length ≤ i ∧ QL H' us ((q1.take i).filter fun z => !decide (z = q))) ⟨[], same_new hD2, upd_same, Nat.le_refl _, .nil⟩ (fun i H' _ ⟨_, s, _⟩ => SqL.of (s _ _ S1.d)) ?_ ?_
                · rintro i x H2 hx2 ⟨us, s2, hUl, ul, qu⟩
                  have hil : i < y1.length := (List.getElem?_eq_some_iff.mp hx2).1
                  have S2 := S1.same s2
                  obtain ⟨o, z, rfl, hqi, hqa⟩ := S2.q.at_ hx2
                  have Zz := FC.h z (List.mem_of_getElem? hqi)
                  have et : q1.take (i + 1) = q1.take i ++ [z] := by rw [List.take_add_one, hqi]; rfl
                  rw [et, List.filter_append]
                  have l48 := FC.le
                  refine ⟨rfl, Exists.intro _ ⟨rfl, Exists.intro _ ⟨rfl, dq z, dq q, dp_q hqa, dp_q (hqt1.same s2), (dok_q Zz.fine).shaped, (dok_q Zq.fine).shaped, _, rfl, ?_⟩⟩⟩
                  rw [eqv_q]
                  cases hb2 : decide (z = q) with
                  | true =>
                    refine iteF ?_
                    refine ⟨us, s2, hUl, by omega, ?_⟩
                    rw [List.filter_cons, hb2, if_neg (by decide), List.filter_nil, List.append_nil]
                    exact qu
                  | false =>
                    refine iteT ?_
                    refine ⟨_, rfl, us, hUl, small1000 (by omega), us ++ [.ref o], fun b' o' hb2 => ?_, upd_same, by rw [List.length_append]; simp; omega, ?_⟩
                    · rw [upd_ne (ne_of_none hb2 hD2)]
                      exact s2 _ _ hb2
                    · rw [List.filter_cons, hb2, if_pos (show (!false) = true from rfl), List.filter_nil]
                      exact QL.off (xs := us) hUl (qu.snoc (q := z) hqa)
                · rintro H5 ⟨us, s5, hU, ul, qu0⟩
                  have l48 := FC.le
                  rw [ly1, List.take_of_length_le (Nat.le_refl _)] at qu0
                  refine ⟨D2, us, _, rfl, hU, qu0, fun r hr => FC.h r (List.mem_filter.mp hr).1, by omega, fun H6 u s6 td6 => ?_⟩
                  exact ⟨s1.trans (s5.trans s6), _, _, rfl, .inr ⟨t, q, rfl, hqt, (FC.D.mem q).mpr hm, td6⟩⟩
          · rintro σ G'' ⟨s8, v4', v6', rfl, hv6⟩
            have S9 := S8.same s8
            have hx9 := WV.same s8 hx8
            have ht9 := s8 _ _ ht4
            have K9 := K8.trans (KpN.of_same s8)
            refine ⟨S9.t, fun H2 e2 t2 Q' hQ => ?_⟩
            have S2 := S9.ext e2 t2
            have hx2 := WB.kpn (KpN.of_ext e2) hx9
            have ht2 := e2 _ _ ht9 fun _ g => (nomatch g)
            have K2 := K9.trans (KpN.of_ext e2)
            obtain ⟨lS, xS, ⟨dS, hA, hL⟩, hTS⟩ := id S2.A
            have back : ∀ (t : Addr) (q : Qd), x = .ref t → QAt H2 t q.1 q.2 → QAt G8 t q.1 q.2 := fun t q e hq => by
              subst e
              obtain ⟨c', g1, g2⟩ := spv_back (NT.ext e2) (⟨_, _, VA.wide (by decide) hx9.nt.va⟩ : SpV (NT G'') (.ref t)) hq
              exact spv_back s8 sp8 ⟨c', NT.sub _ _ g1, NT.sub _ _ g2⟩
            refine ⟨_, rfl, a1, dS, _, rfl, hA, rfl, _, rfl, a1, x, z1, rfl, S2.A, FC.e.1, FC.e.2, .inl ⟨_, _, VA.wide (by decide) hx2.va⟩, fun t q e hq hm => ?_, fun hno H' d sd0 hd => ⟨d, x, rfl, .inr ⟨rfl, upd_same, fun H3 p3 s3 hp3 => ?_⟩⟩⟩
            · have zf : QZs (z1.filter fun z => !decide (z = q)) := fun r hr => FC.e.1 r (List.mem_filter.mp hr).1
              refine told_newQ hQ zf fun H3 v3 s3 td3 => ?_
              refine ⟨_, rfl, ?_⟩
              dsimp only [L2.tNil]
              rcases hv6 with ⟨hno, _⟩ | ⟨t', q', e', hq', hm', td6⟩
              · exact absurd ⟨t, q, e, back t q e hq, hm⟩ hno
              · have ett : t' = t := by rw [e'] at e; injection e
                subst ett
                have eqq := QAt.uniqQ (p := q) (q := q') (back _ q e hq) hq'
                subst eqq
                refine td3.alike ((td6.ext e2).same s3) (fun r => ?_) zf ⟨_, rfl, ?_⟩
                · rw [List.mem_filter, List.mem_filter, FC.D.mem r]
                refine iteF ?_
                exact ⟨S2.same s3, K2.trans (KpN.of_same s3), _, _, _, rfl⟩
            · have sd := sd0.trans ((same_new (o := .xd [("question", x)]) hd).trans s3)
              refine ⟨_, rfl, ?_⟩
              dsimp only [L2.tNil]
              rcases hv6 with ⟨_, rfl⟩ | ⟨t', q', rfl, hq', hm', _⟩
              · refine .inr (alike_none2 hp3 (sd _ _ ht2) (WV.le (Nat.le_refl _) (by decide) (WV.same sd hx2)) ⟨by decide +kernel, by decide⟩ (by decide) ⟨_, rfl, ?_⟩)
                refine iteF ?_
                exact ⟨S2.same sd, K2.trans (KpN.of_same sd), _, _, _, rfl⟩
              · exact absurd ⟨t', q', rfl, (hq'.same s8).ext e2, hm'⟩ hno
        · rintro σ G10 ⟨S10, K10, v4, v6, v7, rfl⟩
          exact k G10 S10.B (K9.trans K10) S10.t
end
end Qk
set_option maxRecDepth 100000
set_option maxHeartbeats 4000000
namespace Qk
open PySem PySem.Spec PyProof.Rows L2
section
variable {P : Program} {w : World} {K : PySem.W.Frag} {mg : Str → Option Value} {base : Heap}
/-- a dict of names, as data -/
def zipD (xs ws : List Str) : List (PyData × PyData) := (xs.zip ws).map fun p => (.str p.1, .str p.2)
theorem zip_d2 {H : Hp} : ∀ {xs ws : List Str}, D2K H (zipKV xs (ws.map V.str)) (zipD xs ws)
  | [], _ => .nil
  | _ :: _, [] => .nil
  | _ :: _, _ :: _ => .cons (.str _) zip_d2
theorem zip_shows : ∀ {xs ws : List Str}, (∀ c ∈ xs, c ∈ menuC) → (∀ c ∈ ws, c ∈ menuC) → PyData.showableKv (zipD xs ws) = true ∧ PyData.leavesShortKv 8 (zipD xs ws) = true ∧ PyData.bulkKv (zipD xs ws) ≤ 18 * xs.length ∧ PyData.depthKv (zipD xs ws) = 0
  | [], _, _, _ => ⟨rfl, rfl, Nat.zero_le _, rfl⟩
  | _ :: _, [], _, _ => ⟨rfl, rfl, Nat.zero_le _, rfl⟩
  | x :: xs, y :: ws, h, g => by
    obtain ⟨a, b, c, d⟩ := zip_shows (xs := xs) (ws := ws) (fun c hc => h c (List.mem_cons_of_mem _ hc)) fun c hc => g c (List.mem_cons_of_mem _ hc)
    have m1 := menuC_ok x (h x List.mem_cons_self)
    have m2 := menuC_ok y (g y List.mem_cons_self)
    have t1 := menuC_tx x (h x List.mem_cons_self)
    have t2 := menuC_tx y (g y List.mem_cons_self)
    refine ⟨?_, ?_, ?_, ?_⟩
    · show (true && true && PyData.showableKv (zipD xs ws)) = true
      rw [a]
      rfl
    · show ((x.cps.toList.all fun c => decide (c < 16 ^ 8)) && (y.cps.toList.all fun c => decide (c < 16 ^ 8)) && PyData.leavesShortKv 8 (zipD xs ws)) = true
      rw [b, t1.1, t2.1]
      rfl
    · show x.cps.size + y.cps.size + 2 + PyData.bulkKv (zipD xs ws) ≤ 18 * (xs.length + 1)
      have := m1.2.2
      have := m2.2.2
      omega
    · show max (max 0 0) (PyData.depthKv (zipD xs ws)) = 0
      rw [d]
      rfl
theorem zip_data {H : Hp} {t : Addr} {xs ws : List Str} (hx : xs.Nodup) (h : ∀ c ∈ xs, c ∈ menuC) (g : ∀ c ∈ ws, c ∈ menuC) (hl : xs.length ≤ 100) (ht : H t = some (.dK (mergeK [] (zipKV xs (ws.map V.str))))) :
    D3 H (.ref t) (.dict (zipD xs ws)) ∧ (PyData.dict (zipD xs ws)).showable = true ∧ (PyData.dict (zipD xs ws)).shown.length ≤ sizeLine ∧ (PyData.dict (zipD xs ws)).depth ≤ 60 := by
  obtain ⟨a, b, c, d⟩ := zip_shows h g
  have e0 : mergeK [] (zipKV xs (ws.map V.str)) = zipKV xs (ws.map V.str) := mergeK_new _ [] (by rw [List.nil_append]; exact zipKV_pw hx)
  rw [e0] at ht
  refine ⟨.dic ht zip_d2, a, ?_, by show PyData.depthKv _ + 1 ≤ 60; rw [d]; decide⟩
  have := PyData.shown_le_bulk 8 (Nat.le_refl _) (.dict (zipD xs ws)) b
  have e : (PyData.dict (zipD xs ws)).bulk = PyData.bulkKv (zipD xs ws) := rfl
  rw [sizeLine_eq]
  omega
def spRenR (T : List (Addr × Str)) (C : Addr) : Sp := fun vs H Q _ => ∃ (b l a1 o1 : Addr) (y1 : List V) (q1 z1 : List Qd), vs = [.ref b, .ref a1, .ref o1] ∧ StG T C b l a1 o1 y1 q1 z1 H ∧ FcG q1 z1 ∧ (∀ q ∈ q1, inN menu13 q) ∧ ∀ H', Bag H' b l → KpN b H H' → LamX.Tabs T H' → Q (.bl true) H'
abbrev nRe : List Str := ["_law_bag_here", "_law_one_here", "_law_first", "_law_menu", "_law_shown", "_law_due_here", "_law_question", "_law_ending", "_law_table", "_law_column"]
theorem scRe : FnScope nRe ["_law_bag_here", "_law_one_here", "_law_first"] (defScope sRenR) := ⟨rfl, rfl, rfl, by decide +kernel, rfl, by decide +kernel, by decide +kernel⟩
theorem ok_renr {Tb : List (Addr × Str)} {f c Pt C CW CM CN CK : Addr} {fd : FuncData} (F : FunC K "_law_renamed_right" "_law_renamed_right" sRenR f fd c) (T : Txt K mg) (SC : SA P w K mg base C CW CM CN CK) (TF : ToldF K mg) (ML : MkL base mg Tb "_law_renamed_right" c Pt)
    (cM : Cal P w K mg base 2 "_law_mixed" ["_law_bag_here", "_law_things"] spMixed)
    (cN : Cal P w K mg base 2 "_law_names" ["_law_bag_here", "_law_many"] spNamesN)
    (cC : Cal P w K mg base 2 "_law_columns" ["_law_questions_here"] spLCols)
    (cD : Cal P w K mg base 3 "_law_due" ["_law_some"] (spDue K))
    (cA : CalG P w K mg base 1 "_law_alike" ["_law_found", "_law_due_here"] (spAlikeX K)) : FnG P w K mg base 11 f fd ["_law_bag_here", "_law_one_here", "_law_first"] (spRenR Tb C) := by
  refine okGC F scRe (fun vs H Q E h => ?_) (fun AA outer s H vs Q E hr hg h => ?_)
  · obtain ⟨b, l, a1, o1, y1, q1, z1, rfl, _⟩ := h
    rfl
  · obtain ⟨b, l, a1, o1, y1, q1, z1, rfl, S0, FC, hn, k⟩ := h
    have nd := scRe.nd
    have hr10 : Room 10 _ := hr
    have hr3 : Room 3 _ := hr.mono (by decide)
    have hr2 : Room 2 _ := hr.mono (by decide)
    have hr1 : Room 1 _ := hr.mono (by decide)
    have hu1 : AA.units + 3 + 1 < cLine := by
      have := hr.un
      have e : (AA.deeper (envOfC "_law_renamed_right" (defScope sRenR) s.heap.objs.size f (.ref c))).units = AA.units + 3 := rfl
      omega
    refine ⟨_, (pss_cons (ps_set (i := 3) nd rfl (by first | exact Or.inl rfl | exact Or.inr rfl) (pe_callB (Qk.cr_sortT rfl) (by rfl) T.sorted (by decide +kernel) (pa_cons (pe_callTy (cr_setW rfl) (by rfl) T.set (by decide +kernel) (pa_cons (pe_op op_cat (pe_call cC.G hr2 rfl cC.m cC.kp cC.b .nil pass0 (pa_cons (pv 2) pa_nil)) (pe_call cN.G hr2 rfl cN.m cN.kp cN.b .nil pass0 (pa_cons (pv 0) (pa_cons pe_int pa_nil)))) pa_nil)) pa_nil)))
      (pss_cons (ps_set (i := 8) nd rfl (by first | exact Or.inl rfl | exact Or.inr rfl) (pe_dictZip rfl (by rfl) T.dict (by rfl) T.zip (pa_cons (pv 3) (pa_cons (pe_call cM.G hr2 rfl cM.m cM.kp cM.b .nil pass0 (pa_cons (pv 0) (pa_cons (pe_op op_cat (pv 3) (pe_lst (pa_cons pe_str (pa_cons pe_str pa_nil)))) pa_nil))) pa_nil))))
      (pss_cons (ps_par (i := 4) (j := 5) rfl nd rfl rfl (by decide) rfl rfl (pa_cons (pe_callB (call_reprW hg hr1.units) (by rfl) T.repr (by decide +kernel) (pa_cons (pv 8) pa_nil)) (pa_cons (pe_lst pa_nil) pa_nil)) rfl)
      (pss_cons (ps_for PassesOwn.never rfl (pi_list (pv 2)) (pg_name (i := 6) nd rfl (by first | exact Or.inl rfl | exact Or.inr rfl)) (Evl.pss_cut (ps_set (i := 7) nd rfl (by first | exact Or.inl rfl | exact Or.inr rfl) (pe_ifExp (pt_cmpR op_ne (pe_ix ix_tup (pv 6) pe_int fun _ _ => rfl) pe_str (nomark _)) (pe_dget hu1 (pv 8) (pe_ix ix_tup (pv 6) pe_int fun _ _ => rfl) (fun _ _ => rfl)) pe_str))
      (pss_one (ps_expr (pe_bm PySem.F.plainAttrs_list PySem.F.slot_list_append PySem.F.type_list_append mt_append (pv 5) (pa_cons (pe_tup (pa_cons (pe_callTy call_tuple_of (by rfl) T.tuple (by decide +kernel) (pa_cons (pe_callB cr_sortedST (by rfl) T.sorted (by decide +kernel) (pa_cons (pe_lc (own := [("_law_column", 9)]) (g := gName 9) (tt := tYes) rfl nd (pi_tup (pe_ix ix_tup (pv 6) pe_int fun _ _ => rfl)) (blkOk_by (N := nRe) (sc := defScope sRenR) (by decide +kernel)) (fun _ _ _ _ _ => (pg_name (i := 9) nd rfl (by first | exact Or.inl rfl | exact Or.inr rfl))) (fun _ _ _ _ _ => pts_nil) (fun _ _ _ _ _ => (pe_dget hu1 (pv 8) (pv 9) (fun _ _ => rfl)))) pa_nil)) pa_nil)) (pa_cons (pv 7) pa_nil))) pa_nil))))))
      (pss_one (ps_ret (pe_and (pe_callg cA.G hr1 hg rfl cA.m cA.kp cA.b (pa_cons (pe_told TF SC T rfl ML rfl rfl hr10 (LamX.lamS_by (by rfl)) rfl (fun _ _ _ _ _ => rfl) (fun A outer s H E f c0 hrL => (pe_meth (pv 1) SC.T.cl SC.mR SC.gR (hrL.mono (by decide)) SC.bR .nil passAll_lam (pa_cons (pv 8) pa_nil)))) (pa_cons (pe_call cD.G hr3 rfl cD.m cD.kp cD.b .nil pass0 (pa_cons (pv 5) pa_nil)) pa_nil))) (pe_one (pe_cmpR op_eq (pe_callB (call_reprW hg hr1.units) (by rfl) T.repr (by decide +kernel) (pa_cons (pv 8) pa_nil)) (pv 4) (nomark _)))))))))), ?_⟩
    have ly := S0.q.len
    have lq := FC.le
    refine ⟨_, rfl, o1, y1, q1, rfl, S0.d, S0.q, FC.h, by omega, fun H1 pc cs s1 hpc0 hpc ncs scs mcs => ?_⟩
    have S1 := S0.same s1
    refine ⟨_, rfl, b, l, 4, rfl, by decide, S1.B, fun us pu G12 und um ul pub hu B12 k12 => ?_⟩
    have S12 := S1.kp k12 B12
    have K12 := (KpN.of_same (b := b) s1).trans (KpN.of_kp k12)
    have m13 : ∀ c ∈ cs, c ∈ menu13 := fun c hc => by
      obtain ⟨z, hz, h'⟩ := (mcs c).mp hc
      obtain ⟨g1, g2⟩ := hn z hz
      rcases mem_allC.mp h' with h' | ⟨h', e⟩
      · exact g1 c h'
      · rw [h']
        exact g2.resolve_left e
    have cl : cs.length ≤ 13 := nodup_len cs menu13 ncs m13
    have pcb : pc ≠ b := S0.B.ne hpc0
    have hpc2 := k12 _ _ hpc pcb
    refine ⟨pc, pu, cs.map V.str, us.map V.str, rfl, rfl, hpc2, hu, by rw [sizeLine_eq, List.length_map, List.length_map]; omega, fun p3 hp3 => ?_⟩
    have nc := same_new (o := .lst (cs.map V.str ++ us.map V.str)) hp3
    have ec : cs.map V.str ++ us.map V.str = (cs ++ us).map V.str := by rw [List.map_append]
    have cl2 : (cs ++ us).length ≤ 17 := by rw [List.length_append]; omega
    have hp32 : (upd G12 p3 (.lst (cs.map V.str ++ us.map V.str))) p3 = some (.lst ((cs ++ us).map V.str)) := by rw [upd_same, ec]
    refine ⟨p3, cs ++ us, rfl, .inl (SqL.of hp32), by omega, fun d ys' hd nd2 hmem hyl => ?_⟩
    refine ⟨d, ys', rfl, upd_same, by omega, fun ws pw hpm hs hpw => ?_⟩
    have s4 := nc.trans ((same_new (o := TxtO P w d ys') hd).trans (same_new (o := .lst (ws.map V.str)) hpw))
    have hul : (upd (upd (upd G12 p3 (.lst (cs.map V.str ++ us.map V.str))) d (TxtO P w d ys')) pw (.lst (ws.map V.str))) pw = some (.lst (ws.map V.str)) := upd_same
    have wnd : ws.Nodup := hpm.nodup_iff.mpr nd2
    have wmem : ∀ c, c ∈ ws ↔ c ∈ cs ++ us := fun c => hpm.mem_iff.trans (hmem c)
    have w13 : ∀ c ∈ ws, c ∈ menu13 := fun c hc => (List.mem_append.mp ((wmem c).mp hc)).elim (m13 c) (um c)
    have wl : ws.length ≤ 17 := by rw [hpm.length_eq]; omega
    generalize hG : upd (upd (upd G12 p3 (.lst (cs.map V.str ++ us.map V.str))) d (TxtO _ _ d ys')) pw (.lst (ws.map V.str)) = G13
    have hG' : upd (upd (upd G12 p3 (.lst (cs.map V.str ++ us.map V.str))) d (TxtO P w d ys')) pw (.lst (ws.map V.str)) = G13 := hG
    rw [hG'] at s4 hul
    clear hG hG' hpw hd hp32 nc hp3
    have S13 := S12.same s4
    have K13 := K12.trans (KpN.of_same s4)
    refine ⟨_, rfl, _, rfl, _, rfl, by show 2 ≤ sizeLine; decide, fun p6 hp6 => ?_⟩
    have n6 := same_new (o := .lst [V.str "q", V.str "qq"]) hp6
    refine ⟨pw, p6, _, _, rfl, rfl, n6 _ _ hul, upd_same, by rw [sizeLine_eq, List.length_map]; show ws.length + 2 ≤ _; omega, fun p7 hp7 => ?_⟩
    have n7 := same_new (o := .lst (ws.map V.str ++ [V.str "q", V.str "qq"])) hp7
    have n67 := n6.trans n7
    have S15 := S13.same n67
    have ev : ws.map V.str ++ [V.str "q", V.str "qq"] = (ws ++ (["q", "qq"] : List Str)).map V.str := by rw [List.map_append]; rfl
    refine ⟨b, l, p7, _, rfl, S15.B, (S13.same n6).B.ne hp7, upd_same, by rw [List.length_append, List.length_map]; show ws.length + 2 < 1000; omega, fun ys0 p9 G16 hpm9 hn9 h9b h9 B16 k16 => ?_⟩
    rw [ev] at hpm9
    obtain ⟨vs, rfl, hvs⟩ := perm_strs hpm9
    have S16 := S15.kp k16 B16
    have K16 := (K13.trans (KpN.of_same n67)).trans (KpN.of_kp k16)
    have pwb : pw ≠ b := S13.B.ne_strs hul
    have hul16 := k16 _ _ (n67 _ _ hul) pwb
    refine ⟨pw, p9, ws, _, rfl, SqL.of hul16, SqL.of h9, fun tb htb => ?_⟩
    have nq : ∀ c ∈ ws, c ≠ "q" ∧ c ≠ "qq" := fun c hc => by
      have : ∀ c ∈ menu13, c ≠ "q" ∧ c ≠ "qq" := by decide +kernel
      exact this c (w13 c hc)
    have vnd : vs.Nodup := hvs.nodup_iff.mpr (List.nodup_append.mpr ⟨wnd, by decide +kernel, fun c hc d hd e => by
      obtain ⟨g1, g2⟩ := nq c hc
      rcases List.mem_cons.mp hd with h | h
      · exact g1 (e.trans h)
      · exact g2 (e.trans (List.mem_singleton.mp h))⟩)
    have vl : ws.length ≤ vs.length := by rw [hvs.length_eq, List.length_append]; omega
    have vm : ∀ c ∈ vs, c ∈ menu := fun c hc => by
      rcases List.mem_append.mp (hvs.mem_iff.mp hc) with h | h
      · exact menu13_sub c (w13 c h)
      · have : ∀ c ∈ (["q", "qq"] : List Str), c ∈ menu := by decide +kernel
        exact this c h
    obtain ⟨g, RN⟩ := rn_zip wnd vnd vl vm
    have s17 := same_new (o := .dK (mergeK [] (zipKV ws (vs.map V.str)))) htb
    have S17 := S16.same s17
    have K17 := K16.trans (KpN.of_same s17)
    have htb17 : (upd G16 tb (.dK (mergeK [] (zipKV ws (vs.map V.str))))) tb = some (.dK (mergeK [] (zipKV ws (vs.map V.str)))) := upd_same
    have zd : ∀ G : Hp, G tb = some (.dK (mergeK [] (zipKV ws (vs.map V.str)))) → _ := fun G hG => zip_data wnd (fun c hc => menuC_of (menu13_sub c (w13 c hc))) (fun c hc => menuC_of (vm c hc)) (by omega) hG
    generalize upd G16 tb (.dK (mergeK [] (zipKV ws (vs.map V.str)))) = G17 at S17 K17 htb17 ⊢
    clear s17 htb hul16 K16 S16 h9 hn9 hpm9 k16 B16 S15 n67 n7 hp7 n6 hp6 S13 K13 hul s4 S12 K12 k12 B12 hu
    have hin : ∀ q ∈ q1, inN ws q := fun q hq => by
      have hz : ∀ c ∈ allC q.1 q.2, c ∈ ws := fun c hc => (wmem c).mpr (List.mem_append_left _ ((mcs c).mpr ⟨q, hq, hc⟩))
      refine ⟨fun c hc => hz c (mem_allC.mpr (.inl hc)), ?_⟩
      by_cases e : q.2 = ""
      · exact .inl e
      · exact .inr (hz _ (mem_allC.mpr (.inr ⟨rfl, e⟩)))
    obtain ⟨z1', z2', z3', z4'⟩ := zd G17 htb17
    refine ⟨_, rfl, .ref tb, _, rfl, z1', z2', z3', z4', ?_⟩
    refine ⟨by decide, fun D hD => ⟨_, _, rfl, ?_⟩⟩
    have n18 := same_new (o := .lst []) hD
    have hD18 : (upd G17 D (.lst [])) D = some (.lst []) := upd_same
    refine ⟨_, rfl, o1, rfl, ⟨_, SqL.of (n18 _ _ S17.d)⟩, ?_⟩
    generalize hsh : (PyData.dict (zipD ws vs)).shown = sh
    refine for_list (K := K) (a := o1) (xs := y1) (fun j σ G' => Same G17 G' ∧ ∃ us : List V, G' D = some (.lst us) ∧ us.length = j ∧ QL G' us ((q1.take j).map (renQ g)) ∧ ∃ v6 v7, σ = [some (.ref b), some (.ref a1), some (.ref o1), some (.ref pw), some (.str sh), some (.ref D), v6, v7, some (.ref tb), none]) ⟨n18, [], hD18, rfl, .nil, _, _, rfl⟩ (fun j σ G' _ h => SqL.of (h.1 _ _ S17.d)) ?_ ?_
    · rintro j x σ G' hxj ⟨sG, us, hUl, ul, qu, v6, v7, rfl⟩
      have jl : j < y1.length := (List.getElem?_eq_some_iff.mp hxj).1
      have S' := S17.same sG
      obtain ⟨t, q, rfl, hqj, c, h1, h2⟩ := S'.q.at_ hxj
      have qm := List.mem_of_getElem? hqj
      have Z := FC.h q qm
      have hi := hin q qm
      have htb := sG _ _ htb17
      have ej : q1.take (j + 1) = q1.take j ++ [q] := by rw [List.take_add_one, hqj]; rfl
      rw [ej, List.map_append]
      refine ⟨fun σ H' => H' = G' ∧ σ = [some (.ref b), some (.ref a1), some (.ref o1), some (.ref pw), some (.str sh), some (.ref D), some (.ref t), some (.str (renQ g q).2), some (.ref tb), none], ?_, ?_⟩
      · refine ⟨_, rfl, t, _, 1, _, rfl, rfl, SqT.of h1, rfl, rfl, _, rfl, ?_⟩
        by_cases h0 : q.2 = ""
        · rw [decide_eq_true (congrArg V.str h0)]
          refine iteF ?_
          refine ⟨rfl, ?_⟩
          rw [renQ_plain h0]
          rfl
        · rw [decide_eq_false (fun h => h0 (by injection h))]
          refine iteT ?_
          refine ⟨_, rfl, _, rfl, t, _, 1, _, rfl, rfl, SqT.of h1, rfl, tb, .str (g q.2), rfl, RN.get htb (hi.2.resolve_left h0), rfl, ?_⟩
          rw [renQ_last h0]
          rfl
      · rintro σ H' ⟨rfl, rfl⟩
        refine ⟨_, rfl, .inl ⟨rfl, _, SqL.of hUl⟩, ?_⟩
        refine ⟨_, rfl, t, _, 0, _, rfl, rfl, SqT.of h1, rfl, c, rfl, ⟨_, SqT.of h2⟩, fun D2 hD2 => ?_⟩
        refine lc_tup (K := K) (a := c) (xs := q.1.map V.str) (fun i H'' => Same H' H'' ∧ H'' D2 = some (.lst (((q.1.take i).map g).map V.str))) ⟨same_new hD2, upd_same⟩ (fun i H'' _ h => SqT.of (h.1 _ _ h2)) ?_ ?_
        · rintro i x H1 hx ⟨s1, hDl⟩
          rw [List.getElem?_map] at hx
          obtain ⟨z, hz, rfl⟩ := Option.map_eq_some_iff.mp hx
          have il : i < q.1.length := (List.getElem?_eq_some_iff.mp hz).1
          have zm := hi.1 z (List.mem_of_getElem? hz)
          have et : q.1.take (i + 1) = q.1.take i ++ [z] := by rw [List.take_add_one, hz]; rfl
          refine ⟨rfl, Exists.intro _ ⟨rfl, Exists.intro _ ⟨rfl, tb, .str (g z), rfl, RN.get (s1 _ _ htb) zm, _, hDl, small1000 (by have := Z.m.le; simp; omega), fun b' o hb => ?_, ?_⟩⟩⟩
          · rw [upd_ne (ne_of_none hb hD2)]
            exact s1 _ _ hb
          · rw [upd_same, et, List.map_append, List.map_append]
            rfl
        · rintro H1 ⟨s1, hDl⟩
          rw [List.length_map, List.take_of_length_le (Nat.le_refl _)] at hDl
          refine ⟨D2, q.1.map g, rfl, .inl (SqL.of hDl), by rw [List.length_map]; have := Z.m.le; omega, fun ws' p hw hs hp => ?_⟩
          refine ⟨p, _, rfl, .inl ⟨SqL.of upd_same, fun e he => ?_⟩⟩
          have s2 := s1.trans ((same_new (o := .lst (ws'.map V.str)) hp).trans (same_new (o := .tup (ws'.map V.str)) he))
          have ew : ws' = (renQ g q).1 := srt_eq hw hs
          have he2 : (upd (upd H1 p (.lst (ws'.map V.str))) e (.tup (ws'.map V.str))) e = some (.tup ((renQ g q).1.map V.str)) := by rw [upd_same, ew]
          generalize upd (upd H1 p (.lst (ws'.map V.str))) e (.tup (ws'.map V.str)) = H2 at s2 he2 ⊢
          refine ⟨_, rfl, by show 2 ≤ sizeLine; decide, fun r hr0 => ?_⟩
          have s3 := same_new (o := .tup [.ref e, .str (renQ g q).2]) hr0
          have s23 := s2.trans s3
          have hq3 : QAt (upd H2 r (.tup [.ref e, .str (renQ g q).2])) r (renQ g q).1 (renQ g q).2 := ⟨e, upd_same, s3 _ _ he2⟩
          refine ⟨D, us, _, rfl, rfl, s23 _ _ hUl, small1000 (by omega), fun b' o' hb2 => ?_, us ++ [.ref r], upd_same, by rw [List.length_append, ul]; rfl, QL.off (xs := us) (s23 _ _ hUl) ((qu.same s23).snoc (q := renQ g q) hq3), _, _, rfl⟩
          rw [upd_ne (ne_of_none hb2 hD)]
          exact s23 _ _ (sG _ _ hb2)
    · rintro σ G18 ⟨s18, us, hUl, ul, qu, v6, v7, rfl⟩
      rw [ly, List.take_of_length_le (Nat.le_refl _)] at qu
      have S18 := S17.same s18
      have K18 := K17.trans (KpN.of_same s18)
      refine ⟨S18.t, fun H2 e2 t2 Q' hQ => ?_⟩
      have S2 := S18.ext e2 t2
      have htb2 := e2 _ _ (s18 _ _ htb17) fun _ g => (nomatch g)
      have hU2 := e2 _ _ hUl fun _ g => (nomatch g)
      have q2 := qu.nt.same (NT.ext e2)
      have hz1 : ∀ q ∈ z1, inN ws q := fun q hq => hin q ((FC.D.mem q).mp hq)
      have zr : QZs (z1.map (renQ g)) := fun q hq => by
        obtain ⟨p, hp, rfl⟩ := List.mem_map.mp hq
        exact RN.qz (FC.e.1 p hp) (hz1 p hp)
      have zr2 : QZs (q1.map (renQ g)) := fun q hq => by
        obtain ⟨p, hp, rfl⟩ := List.mem_map.mp hq
        exact RN.qz (FC.h p hp) (hin p hp)
      obtain ⟨lS, xS, ⟨dS, hA, hL⟩, hTS⟩ := id S2.A
      refine ⟨_, rfl, a1, dS, _, rfl, hA, rfl, _, rfl, a1, tb, z1, _, ws, g, rfl, S2.A, FC.e.1, FC.e.2, htb2, RN, hz1, told_newQ hQ zr (fun H3 v3 s3 td3 => ?_)⟩
      refine ⟨_, rfl, ?_⟩
      refine ⟨D, us, _, rfl, s3 _ _ hU2, q2.same s3, zr2, by omega, fun H4 v4' s4 td4 => ?_⟩
      dsimp only [L2.tNil]
      refine (td3.same s4).alike td4 (fun r => ?_) zr ⟨_, rfl, ?_⟩
      · rw [List.mem_map, List.mem_map]
        exact ⟨fun ⟨p, hp, e⟩ => ⟨p, (FC.D.mem p).mp hp, e⟩, fun ⟨p, hp, e⟩ => ⟨p, (FC.D.mem p).mpr hp, e⟩⟩
      refine iteT ?_
      obtain ⟨w1, w2, w3, w4⟩ := zd H4 (s4 _ _ (s3 _ _ htb2))
      refine ⟨_, rfl, .ref tb, _, rfl, w1, w2, w3, w4, _, rfl, rfl, ?_⟩
      show Q (.bl (decide (V.str (PyData.dict (zipD ws vs)).shown = V.str sh))) H4
      rw [hsh, decide_eq_true rfl]
      have s34 := s3.trans s4
      exact k H4 (S2.same s34).B (K18.trans ((KpN.of_ext e2).trans (KpN.of_same s34))) (S2.same s34).t
end
end Qk
set_option maxRecDepth 100000
set_option maxHeartbeats 4000000
namespace Qk
open PySem PySem.Spec PyProof.Rows L2
def rLenQ (w : World) : List V → Hp → VK → Prop := fun vs H Q => ∃ (a : Addr) (M : QPs), vs = [.ref a] ∧ H a = some (SetQ w a M) ∧ Q (.int (M.length : Int)) H
theorem cr_lenQ {X : Cx} : CallR X (.builtin "len") (rLenQ X.w) := by
  intro pins s σ H vs us Q I r h
  obtain ⟨a, M, rfl, ha, q⟩ := h
  obtain ⟨u, rfl, rx⟩ := vals1 r
  cases rx
  have ⟨es, ep, t, g⟩ : KSet0 X.w s.heap a M := (I.hok a _ ha).1
  obtain ⟨ob, gob, gex, gd⟩ := g.ob
  have hzs : es.size = M.length := by rw [sz_rows g.rows]; exact List.length_map _
  have hfew : M.length < 300 := by
    have := g.few
    unfold toK at this
    rw [List.length_map] at this
    exact this
  refine call_len_set gob gex gd g.fits (by omega) ⟨.int (M.length : Int), H, I.tok _, ⟨_, by rw [hzs]⟩, q⟩
end Qk
set_option maxRecDepth 100000
set_option maxHeartbeats 4000000
namespace Qk
open PySem PySem.Spec PyProof.Rows L2
section
variable {P : Program} {w : World} {K : PySem.W.Frag} {mg : Str → Option Value} {base : Heap}
section
variable {T : List (Addr × Str)} {C a1 a2 o1 o2 b l : Addr} {y1 y2 : List V} {q1 q2 z1 z2 : List Qd} {G G' : Hp}
theorem StS.kp (h : StS T C a1 a2 o1 o2 y1 y2 q1 q2 z1 z2 G) (B : Bag G b l) (k : Kp b G G') : StS T C a1 a2 o1 o2 y1 y2 q1 q2 z1 z2 G' :=
  ⟨h.A1.kp B k, h.A2.kp B k, k _ _ h.d1 (B.ne_refs h.d1 h.q1.refs), k _ _ h.d2 (B.ne_refs h.d2 h.q2.refs), h.q1.kp B k, h.q2.kp B k, Tabs.of_kp h.t B.isl k⟩
theorem StS.kpn (h : StS T C a1 a2 o1 o2 y1 y2 q1 q2 z1 z2 G) (B : Bag G b l) (k : KpN b G G') (t' : LamX.Tabs T G') : StS T C a1 a2 o1 o2 y1 y2 q1 q2 z1 z2 G' :=
  ⟨h.A1.kpn B k, h.A2.kpn B k, k.lst h.d1 (B.ne_refs h.d1 h.q1.refs), k.lst h.d2 (B.ne_refs h.d2 h.q2.refs), h.q1.kpn B k, h.q2.kpn B k, t'⟩
theorem StS.swap (h : StS T C a1 a2 o1 o2 y1 y2 q1 q2 z1 z2 G) : StS T C a2 a1 o2 o1 y2 y1 q2 q1 z2 z1 G := ⟨h.A2, h.A1, h.d2, h.d1, h.q2, h.q1, h.t⟩
end
theorem FcS.swap {q1 q2 z1 z2 : List Qd} (h : FcS q1 q2 z1 z2) : FcS q2 q1 z2 z1 := ⟨h.h2, h.h1, h.D2, h.D1, h.l2, h.l1⟩
theorem dok_colsn {cs : List Str} {n : Nat} (ok : ∀ c ∈ cs, okS c = true) (cl : cs.length ≤ 34) (hn : n ≤ 48) : DOk (.list [.list (cs.map PyData.str), .int (n : Int)]) := by
  refine ⟨?_, ?_, ?_⟩
  · show (fineAll (cs.map PyData.str) && (decide ((n : Int).natAbs < 10 ^ 60) && true)) = true
    rw [fine_strs ok, decide_eq_true (show (n : Int).natAbs < 10 ^ 60 by omega)]
    rfl
  · have d3 := depth_strs cs
    show max (PyData.depthAll (cs.map PyData.str) + 1) (max 0 0) + 1 ≤ 50
    omega
  · show (costAll (cs.map PyData.str) + 3 + 2 + (64 + 2 + 0)) + 3 ≤ 1000000
    rw [cost_strs]
    omega
abbrev nLaw : List Str := ["_law_script", "_law_bag_here", "_law_turn", "_law_first", "_law_second", "_law_one_here", "_law_other"]
theorem scLaw : FnScope nLaw ["_law_script"] (defScope sLaw) := ⟨rfl, rfl, rfl, by decide +kernel, rfl, by decide +kernel, by decide +kernel⟩
def spLaw (K : PySem.W.Frag) (T : List (Addr × Str)) : Sp := fun vs H Q _ => ∃ (a : Addr) (ns : List Int), vs = [.ref a] ∧ SqL K H a (ns.map V.int) ∧ ns.length ≤ 63 ∧ LamX.Tabs T H ∧ ∀ H', Q (.bl true) H'
theorem ok_law {Tb : List (Addr × Str)} {f C CW CM CN CK : Addr} {fd : FuncData} (F : Fun K "law" "law" sLaw f fd) (T : Txt K mg) (SC : SA P w K mg base C CW CM CN CK)
    (cB : Cal P w K mg base 1 "_law_bag" ["_law_script"] (spBag K))
    (cT : Cal P w K mg base 1 "_law_take" ["_law_bag_here", "_law_upto"] spTake)
    (cC : Cal P w K mg base 2 "_law_columns" ["_law_questions_here"] spLCols)
    (cW : Cal P w K mg base 4 "_law_two" ["_law_bag_here"] spTwoQ)
    (cA : CalG P w K mg base 1 "_law_alike" ["_law_found", "_law_due_here"] (spAlikeX K))
    (cSu : CalG P w K mg base 11 "_law_sums_right" ["_law_one_here", "_law_other", "_law_first", "_law_second"] (spSums Tb C))
    (cSi : CalG P w K mg base 11 "_law_singles_right" ["_law_bag_here", "_law_one_here", "_law_first"] (spSing Tb C))
    (cRe : CalG P w K mg base 11 "_law_renamed_right" ["_law_bag_here", "_law_one_here", "_law_first"] (spRenR Tb C)) : FnG P w K mg base 12 f fd ["_law_script"] (spLaw K Tb) := by
  refine okG F scLaw (fun vs H Q E h => ?_) (fun cdv AA outer s H vs Q E hr hg h => ?_)
  · obtain ⟨a, ns, rfl, _⟩ := h
    rfl
  · obtain ⟨a, ns, rfl, hS, hlen, t0, k⟩ := h
    have nd := scLaw.nd
    have hr11 : Room 11 _ := hr
    have hr6 : Room 6 _ := hr.mono (by decide)
    have hr4 : Room 4 _ := hr.mono (by decide)
    have hr3 : Room 3 _ := hr.mono (by decide)
    have hr2 : Room 2 _ := hr.mono (by decide)
    have hr1 : Room 1 _ := hr.mono (by decide)
    have ee : (AA.deeper (envOfC "law" (defScope sLaw) s.heap.objs.size f cdv)).units = AA.units + 3 := rfl
    have hu80 : AA.units + 3 + 80 < cLine := by
      have := hr.un
      omega
    have hu16 : AA.units + 3 + 16 < cLine := by omega
    refine ⟨_, (pss_cons (ps_set (i := 1) nd rfl (by first | exact Or.inl rfl | exact Or.inr rfl) (pe_call cB.G hr1 rfl cB.m cB.kp cB.b .nil pass0 (pa_cons (pv 0) pa_nil)))
      (pss_cons (ps_for PassesOwn.never rfl (pi_range1 (by rfl) T.range (pa_cons pe_int pa_nil)) (pg_name (i := 2) nd rfl (by first | exact Or.inl rfl | exact Or.inr rfl)) (pss_cons (ps_asg (pe_call cW.G hr4 rfl cW.m cW.kp cW.b .nil pass0 (pa_cons (pv 1) pa_nil)) (pg_tup (by rfl) (pgs_cons (pg_name (i := 3) nd rfl (by first | exact Or.inl rfl | exact Or.inr rfl)) (pgs_cons (pg_name (i := 4) nd rfl (by first | exact Or.inl rfl | exact Or.inr rfl)) pgs_nil))))
      (pss_cons (ps_par (i := 5) (j := 6) rfl nd rfl rfl (by decide) rfl rfl (pa_cons (pe_mkS SC.mkK SC.gI hr6 rfl SC.T.mgC SC.bI (fun σ => passAt LamX.takes0 σ) (pa_cons (pv 3) pa_nil)) (pa_cons (pe_mkS SC.mkK SC.gI hr6 rfl SC.T.mgC SC.bI (fun σ => passAt LamX.takes0 σ) (pa_cons (pv 4) pa_nil)) pa_nil)) rfl)
      (Evl.pss_cut (ps_if (pt_cmpR op_eq (pe_call cT.G hr1 rfl cT.m cT.kp cT.b .nil pass0 (pa_cons (pv 1) (pa_cons pe_int pa_nil))) pe_int (nomark _)) (pss_one (ps_if (pt_not (pt_val (pe_callg cA.G hr1 hg rfl cA.m cA.kp cA.b (pa_cons (pe_lst (pa_cons (pe_meth0 (pv 5) SC.T.cl SC.mC SC.gC hr3 SC.bC .nil pass0) (pa_cons (pe_callB (r := rLenOwn C "_questions") (call_lenOwn SC.oL SC.gL SC.bL hr2) (by rfl) T.len (by decide +kernel) (pa_cons (pv 5) pa_nil)) pa_nil))) (pa_cons (pe_lst (pa_cons (pe_call cC.G hr2 rfl cC.m cC.kp cC.b .nil pass0 (pa_cons (pv 3) pa_nil)) (pa_cons (pe_callB cr_lenQ (by rfl) T.len (by decide +kernel) (pa_cons (pe_callTy (cr_setQ rfl hu16) (by rfl) T.set (by decide +kernel) (pa_cons (pv 3) pa_nil)) pa_nil)) pa_nil))) pa_nil))))) (pss_one (ps_ret pe_bl)) pss_nil)) pss_nil)
      (pss_cons (ps_if (PW.pt (pw_or (pt_not (pt_val (pe_callg cSu.G hr11 hg rfl cSu.m cSu.kp cSu.b (pa_cons (pv 5) (pa_cons (pv 6) (pa_cons (pv 3) (pa_cons (pv 4) pa_nil))))))) (pw_or1 (pt_not (pt_val (pe_callg cSu.G hr11 hg rfl cSu.m cSu.kp cSu.b (pa_cons (pv 6) (pa_cons (pv 5) (pa_cons (pv 4) (pa_cons (pv 3) pa_nil)))))))))) (pss_one (ps_ret pe_bl)) pss_nil)
      (pss_cons (ps_if (PW.pt (pw_or (pt_not (pt_val (pe_callg cSi.G hr11 hg rfl cSi.m cSi.kp cSi.b (pa_cons (pv 1) (pa_cons (pv 5) (pa_cons (pv 3) pa_nil)))))) (pw_or1 (pt_not (pt_val (pe_callg cRe.G hr11 hg rfl cRe.m cRe.kp cRe.b (pa_cons (pv 1) (pa_cons (pv 5) (pa_cons (pv 3) pa_nil))))))))) (pss_one (ps_ret pe_bl)) pss_nil)
      (pss_one (ps_if (PW.pt (pw_or (pt_cmpR (op_neO SC.oE SC.gE hr2 SC.bE) (pv 5) (pe_mkS SC.mkK SC.gI hr6 rfl SC.T.mgC SC.bI (fun σ => passAt LamX.takes0 σ) (pa_cons (pv 3) pa_nil)) (nomark _)) (pw_or1 (pt_not (pt_val (pe_callg cA.G hr1 hg rfl cA.m cA.kp cA.b (pa_cons (pe_meth0 (pv 6) SC.T.cl SC.mQ SC.gQ hr1 SC.bQ .nil pass0) (pa_cons (pe_callB (cr_sortSetQ rfl hu80) (by rfl) T.sorted (by decide +kernel) (pa_cons (pe_callTy (cr_setQ rfl hu16) (by rfl) T.set (by decide +kernel) (pa_cons (pv 4) pa_nil)) pa_nil)) pa_nil)))))))) (pss_one (ps_ret pe_bl)) pss_nil))))))))
      (pss_one (ps_ret pe_bl)))), ?_⟩
    refine ⟨_, rfl, a, ns, rfl, hS, hlen, fun b l H1 hb B1 s1 => ?_⟩
    refine ⟨5, rfl, by decide, by decide, ?_⟩
    refine for_range (lo := 0) (n := 5) (fun i σ H' => Bag H' b l ∧ LamX.Tabs Tb H' ∧ ∃ (v2 v3 v4 v5 v6 : Option V), σ = [some (.ref a), some (.ref b), v2, v3, v4, v5, v6])
      ⟨B1, Tabs.same t0 s1, none, none, none, none, none, rfl⟩ ?_ (fun σ H' _ => k H')
    rintro i σ H2 hi ⟨B2, t2, v2, v3, v4, v5, v6, rfl⟩
    refine ⟨_, rfl, b, l, rfl, B2, fun t o1 o2 y1 y2 q1 q2 H3 ht h1 h2 hq1 hq2 TW B3 k3 => ?_⟩
    have t3 := Tabs.of_kp t2 B2.isl k3
    refine ⟨t, _, rfl, SqT.of ht, rfl, _, _, rfl, _, _, rfl, rfl, ?_⟩
    have l1 := TW.l1
    have l2 := TW.l2
    have e1 := hq1.len
    have e2 := hq2.len
    refine ⟨_, rfl, ?_⟩
    intro x1 dx1 nx1 ndx1 nex1
    refine mkQR (.inl h1) hq1 TW.h1 (by omega) nx1 ndx1 fun z1 D1 => ⟨fun _ H4 s4 A4 => ?_, fun l' => absurd D1.le (by omega)⟩
    refine ⟨rfl, ?_⟩
    refine ⟨_, rfl, ?_⟩
    intro x2 dx2 nx2 ndx2 nex2
    refine mkQR (.inl (s4 _ _ h2)) (hq2.same s4) TW.h2 (by omega) nx2 ndx2 fun z2 D2 => ⟨fun _ H5 s5 A5 => ?_, fun l' => absurd D2.le (by omega)⟩
    refine ⟨rfl, ?_⟩
    have s45 := s4.trans s5
    have FS : FcS q1 q2 z1 z2 := ⟨TW.h1, TW.h2, D1, D2, l1, l2⟩
    have FG : FcG q1 z1 := ⟨TW.h1, D1, l1⟩
    have S5 : StS Tb C x1 x2 o1 o2 y1 y2 q1 q2 z1 z2 H5 := ⟨A4.same s5, A5, s45 _ _ h1, s45 _ _ h2, hq1.same s45, hq2.same s45, Tabs.same t3 s45⟩
    have B5 := B3.same s45
    clear A4 A5 h1 h2 hq1 hq2 t3
    refine ⟨_, _, rfl, ?_⟩
    refine ⟨fun σ H' => Bag H' b l ∧ StS Tb C x1 x2 o1 o2 y1 y2 q1 q2 z1 z2 H' ∧ ∃ v2, σ = [some (.ref a), some (.ref b), v2, some (.ref o1), some (.ref o2), some (.ref x1), some (.ref x2)], ?_, ?_⟩
    · refine ⟨_, rfl, b, l, 2, rfl, B5, by decide, by decide, fun j H6 hj B6 k6 => ⟨rfl, _, rfl, ?_⟩⟩
      have S6 := S5.kp B5 k6
      refine ite2 (fun _ => ?_) (fun _ => ⟨B6, S6, _, rfl⟩)
      obtain ⟨dx, l6, xs6, ha, hl, hT⟩ := S6.A1.hasL
      have le := hT.len
      have zl := FS.e1
      refine ⟨_, rfl, x1, dx, _, rfl, ha, rfl, x1, l6, xs6, z1, rfl, ⟨dx, _, ha, rfl, hl⟩, hT, zl.1, fun H7 c cs s7 hc0 hc ncs scs mcs => ?_⟩
      refine ⟨_, rfl, x1, l6, xs6, rfl, ⟨dx, _, s7 _ _ ha, rfl, s7 _ _ hl⟩, by omega, by show 2 ≤ sizeLine; decide, fun p8 hp8 => ?_⟩
      have n8 := same_new (o := .lst [.ref c, .int (xs6.length : Int)]) hp8
      have s78 := s7.trans n8
      have hv8 : (upd H7 p8 (.lst [.ref c, .int (xs6.length : Int)])) p8 = some (.lst [.ref c, .int (xs6.length : Int)]) := upd_same
      have hc8 := n8 _ _ hc
      generalize upd H7 p8 (.lst [.ref c, .int (xs6.length : Int)]) = H8 at s78 hv8 hc8 ⊢
      have S8 := S6.same s78
      refine ⟨_, rfl, o1, y1, q1, rfl, S8.d1, S8.q1, TW.h1, by omega, fun H9 c' cs' s9 hc0' hc' ncs' scs' mcs' => ?_⟩
      have S9 := S8.same s9
      refine ⟨_, rfl, o1, y1, q1, rfl, .inl (SqL.of S9.d1), S9.q1, by omega, fun p M hp SM => ?_⟩
      have sp := same_new (o := SetQ w p M) hp
      refine ⟨p, M, rfl, upd_same, ?_⟩
      have eM : M.length = z1.length := by
        have := ((List.perm_ext_iff_of_nodup D1.nd SM.nd).mpr fun q => (D1.mem q).trans (SM.mem q).symm).length_eq
        rw [List.length_map] at this
        exact this.symm
      refine ⟨by show 2 ≤ sizeLine; decide, fun p10 hp10 => ?_⟩
      have n10 := same_new (o := .lst [.ref c', .int (M.length : Int)]) hp10
      have s10 := sp.trans n10
      have s910 := s9.trans s10
      have C1 : ColsQ z1 cs := ⟨ncs, scs, mcs⟩
      have C2 : ColsQ z1 cs' := ⟨ncs', scs', fun c => (mcs' c).trans ⟨fun ⟨z, hz, h⟩ => ⟨z, (D1.mem z).mpr hz, h⟩, fun ⟨z, hz, h⟩ => ⟨z, (D1.mem z).mp hz, h⟩⟩⟩
      have ec : cs' = cs := C2.uniq C1
      subst ec
      have okc := C1.ok zl.1
      rw [eM] at *
      refine .inl ⟨.ref p8, .ref p10, .list [.list (cs'.map PyData.str), .int (z1.length : Int)], rfl, .lst (SqL.of (s910 _ _ hv8)) (.cons (.lst (SqL.of (s910 _ _ hc8)) (dp_strs _)) (.cons (by rw [le]; exact .int _) .nil)), .lst (SqL.of upd_same) (.cons (.lst (SqL.of (s10 _ _ hc')) (dp_strs _)) (.cons (.int _) .nil)), dok_colsn okc.1 okc.2 (by omega), ⟨_, rfl, iteF ⟨B6.same (s78.trans s910), S6.same (s78.trans s910), _, rfl⟩⟩⟩
    · rintro σ H7 ⟨B7, S7, v2', rfl⟩
      refine ⟨_, rfl, _, rfl, _, rfl, _, rfl, x1, x2, o1, o2, y1, y2, q1, q2, z1, z2, rfl, S7, FS, fun H8 e8 t8 => ⟨_, rfl, ?_⟩⟩
      have B8 := B7.ext e8
      have S8 := S7.kpn B7 (KpN.of_ext e8) t8
      refine iteF ?_
      refine ⟨_, rfl, _, rfl, _, rfl, _, rfl, x2, x1, o2, o1, y2, y1, q2, q1, z2, z1, rfl, S8.swap, FS.swap, fun H9 e9 t9 => ⟨_, rfl, ?_⟩⟩
      have B9 := B8.ext e9
      have S9 := S8.kpn B8 (KpN.of_ext e9) t9
      refine iteF ?_
      refine ⟨_, rfl, _, rfl, _, rfl, b, l, x1, o1, y1, q1, z1, rfl, ⟨B9, S9.A1, S9.d1, S9.q1, S9.t⟩, FG, fun H10 B10 k10 t10 => ⟨_, rfl, ?_⟩⟩
      have S10 := S9.kpn B9 k10 t10
      refine iteF ?_
      refine ⟨_, rfl, _, rfl, _, rfl, b, l, x1, o1, y1, q1, z1, rfl, ⟨B10, S10.A1, S10.d1, S10.q1, S10.t⟩, FG, TW.n1, fun H11 B11 k11 t11 => ⟨_, rfl, ?_⟩⟩
      have S11 := S10.kpn B10 k11 t11
      refine iteF ?_
      clear S10 S9 S8 S7 B10 B9 B8 B7 S5 B5
      refine ⟨_, rfl, _, rfl, ?_⟩
      intro x3 dx3 nx3 ndx3 nex3
      refine mkQR (.inl S11.d1) S11.q1 TW.h1 (by omega) nx3 ndx3 fun z3 D3 => ⟨fun _ H12 s12 A12 => ?_, fun l' => absurd D3.le (by omega)⟩
      refine ⟨rfl, ?_⟩
      have ez : z3 = z1 := Dist.uniq D3 D1 fun _ => Iff.rfl
      subst ez
      have S12 := S11.same s12
      have zl := FS.e1
      have zl2 := FS.e2
      obtain ⟨da, _, _, ga, _, _⟩ := S12.A1.hasL
      obtain ⟨db, lb, xb, gb, gl, gq⟩ := S12.A2.hasL
      obtain ⟨dd, _, _, gd, _, _⟩ := A12.hasL
      refine ⟨x1, da, _, .ref C, rfl, ga, SC.T.ty gd, SC.nf, x1, x3, z3, z3, rfl, S12.A1, A12, zl.1, zl.1, by omega, by omega, _, rfl, ?_⟩
      rw [decide_eq_true rfl]
      refine ⟨_, rfl, ?_⟩
      refine iteF ?_
      refine ⟨_, rfl, x2, db, _, rfl, gb, rfl, x2, z2, rfl, S12.A2, fun p us H13 s13 hp hpl hu => ?_⟩
      have S13 := S12.same s13
      refine ⟨_, rfl, o2, y2, q2, rfl, .inl (SqL.of S13.d2), S13.q2, by omega, fun p4 M4 hp4 SM => ?_⟩
      have sp := same_new (o := SetQ w p4 M4) hp4
      refine ⟨p4, M4, rfl, upd_same, fun m hm => (SM.at_ m hm).same sp, fun m hm c hc => (TW.h2 _ ((SM.mem _).mp (List.mem_map_of_mem hm))).strOk c hc, fun ws zs d hd hql hpm hup hsub => ?_⟩
      have sd := same_new (o := .lst ws) hd
      have D : Dist q2 zs := ⟨hpm.nodup_iff.mpr SM.nd, hup, fun q => hpm.mem_iff.trans (SM.mem q)⟩
      have ez2 : zs = z2 := Dist.uniq D D2 fun _ => Iff.rfl
      subst ez2
      have sA := sp.trans sd
      refine .inl ⟨.ref p, .ref d, .list (zs.map dq), rfl, .lst (SqL.of (sA _ _ hpl)) (hu.same sA).dp, .lst (SqL.of upd_same) (hql.same sd).dp, dok_qs3 zl2.1.fine' (by omega), ⟨_, rfl, iteF ?_⟩⟩
      have sZ := s12.trans (s13.trans sA)
      exact ⟨B11.same sZ, (S11.same sZ).t, _, _, _, _, _, rfl⟩
end
end Qk
set_option maxRecDepth 100000
set_option maxHeartbeats 4000000
namespace Qk
open PySem PySem.Spec PyProof.Rows L2
section
variable {P : Program} {w : World} {K : PySem.W.Frag} {mg : Str → Option Value} {base : Heap}
theorem scAlike : FnScope ["_law_found", "_law_due_here"] ["_law_found", "_law_due_here"] (defScope sAlike) := ⟨rfl, rfl, rfl, by decide +kernel, rfl, by decide +kernel, by decide +kernel⟩
theorem ok_alike {f : Addr} {fd : FuncData} (F : Fun K "_law_alike" "_law_alike" sAlike f fd) (T : Txt K mg) : FnG P w K mg base 1 f fd ["_law_found", "_law_due_here"] (spAlikeD K) := by
  refine okG F scAlike (fun vs H Q E h => ?_) (fun cdv A outer s H vs Q E hr hg h => ?_)
  · obtain ⟨x, y, d, rfl, _⟩ := h
    rfl
  · obtain ⟨x, y, d, rfl, h1, h2, hd, k⟩ := h
    have lay := fine_lay d hd.f
    have hdp : d.depth ≤ 60 := Nat.le_trans hd.dp (by decide)
    refine ⟨_, pss_one (ps_ret (pe_and (pe_cmpR (op_eqD hr.units) (pv 0) (pv 1) (nomark _)) (pe_one (pe_cmpR op_eq (pe_callB (call_reprD hg hr.units) (by rfl) T.repr (by decide +kernel) (pa_cons (pv 0) pa_nil))
      (pe_callB (call_reprD hg hr.units) (by rfl) T.repr (by decide +kernel) (pa_cons (pv 1) pa_nil)) (nomark _))))), ?_⟩
    refine ⟨_, rfl, _, rfl, d, d, h1, h2, hd.shaped, hd.shaped, _, rfl, ?_⟩
    rw [SeqAt.eqv_refl d lay.1]
    refine iteT ?_
    refine ⟨_, rfl, x, d, rfl, h1, lay.2.1, lay.2.2, hd.len, hdp, _, rfl, y, d, rfl, h2, lay.2.1, lay.2.2, hd.len, hdp, rfl, ?_⟩
    show Q (.bl (decide (V.str d.shown = V.str d.shown))) H
    rw [decide_eq_true rfl]
    exact k
end
end Qk
set_option maxRecDepth 100000
set_option maxHeartbeats 4000000
namespace Qk
open PySem PySem.Spec PyProof.Rows L2
def freshTab : Obj := { cls := .none, data := .fields #[] }
theorem law_gT {P : Program} {w : World} {K : PySem.W.Frag} {mg mb : Str → Option Value} {k : Nat} {fa a : Addr} {cs : List (Addr × Addr)} {fd : FuncData} {x : Str} {sp : Sp} {s₁ : Shared} {vs : List Value} {ns : List Int}
    (KX : K.In s₁.heap) (hns : s₁.heap.Ns mainGlobals mg) (hb : s₁.heap.Ns builtinsNs mb) (hbb : ∀ x : Str, x ≠ "__name__" → mb x = bootBuiltins x) (hlim : s₁.heap.NoLimit) (hg : s₁.gens = #[])
    (tabs : ∀ q ∈ cs, s₁.heap.get? q.2 = some freshTab) (tabsK : ∀ q ∈ cs, K.lookup q.2 = none) (codes : ∀ q ∈ cs, PySem.W.CodeHd s₁.heap q.1 q.2)
    (bmod : ∃ (bm : Addr) (ob : Obj), mg "__builtins__" = some (.ref bm) ∧ bm ≠ builtinsNs ∧ s₁.heap.get? bm = some ob ∧ ob.cls = .type "module" ∧ ob.dict = some builtinsNs ∧ ob.data = .plain)
    (ha : s₁.heap.get? a = some { cls := .type "list", data := .seq vs.toArray }) (hi : IntsAre vs ns) (hl : ns.length ≤ sizeLine) (hr : Room k callerA)
    (F : ∀ base : Heap, K.In base → base.Ns mainGlobals mg → (∀ q ∈ cs, LamX.TabB base mg q.1 q.2) → FnG P w K mg base k fa fd [x] sp) (hbind : ∀ (s : Shared) (u : Value), BindsTo s fd ⟨[u], []⟩ [(x, u)])
    (hsp : ∀ H : Hp, (∀ q ∈ cs, H q.2 = some (.tbl #[])) → SqL K H a (ns.map V.int) → sp [.ref a] H (fun v _ => v = .bl true) fun _ _ _ => False) :
    codeAny (model P w) callerA (.call (.ref fa) ⟨[.ref a], []⟩) (fun r s' => r = .ok (.ret (.bool true)) ∧ OldK s₁.heap s'.heap ∧ s'.os = s₁.os ∧ AllBare s'.gens) s₁ := by
  let o : Obj := { cls := .type "list", data := .seq vs.toArray }
  have rv : Vals (ns.map V.int) vs := vals_ints hi
  have lenV : vs.length = ns.length := hi.length
  have tabAt : ∀ {b : Addr}, b ∈ cs.map Prod.snd → s₁.heap.get? b = some freshTab := fun {b} m => by
    obtain ⟨q, hq, rfl⟩ := List.mem_map.mp m
    exact tabs q hq
  have aNo : a ∉ cs.map Prod.snd := fun m => by
    have e := tabAt m
    rw [ha] at e
    cases e
  -- the abstract heap: the tables, and the script where the top does not know it
  let H : Hp := fun b => if b ∈ cs.map Prod.snd then some (.tbl #[]) else if b = a ∧ K.lookup a = none then some (.frz o (.lst (ns.map V.int))) else none
  have Htab : ∀ {b : Addr}, b ∈ cs.map Prod.snd → H b = some (.tbl #[]) := fun {b} m => if_pos m
  have Hsome : ∀ {b u}, H b = some u → (b ∈ cs.map Prod.snd ∧ u = .tbl #[]) ∨ (b ∉ cs.map Prod.snd ∧ b = a ∧ K.lookup a = none ∧ u = .frz o (.lst (ns.map V.int))) := fun {b u} z => by
    by_cases m : b ∈ cs.map Prod.snd
    · exact .inl ⟨m, (Option.some.inj ((Htab m).symm.trans z)).symm⟩
    · have z1 : (if b = a ∧ K.lookup a = none then some (HO.frz o (.lst (ns.map V.int))) else none) = some u := (if_neg m).symm.trans z
      by_cases c : b = a ∧ K.lookup a = none
      · exact .inr ⟨m, c.1, c.2, (Option.some.inj ((if_pos c).symm.trans z1)).symm⟩
      · have z2 : (none : Option HO) = some u := (if_neg c).symm.trans z1
        cases z2
  have hS : SqL K H a (ns.map V.int) := by
    cases q : K.lookup a with
    | none => exact .inl (.inr ⟨o, (if_neg aNo).trans (if_pos ⟨rfl, q⟩)⟩)
    | some u =>
      have e := KX a u q
      rw [ha] at e
      cases e
      exact .inr ⟨_, vs.toArray, _, q, rfl, rfl, rfl, by rw [List.size_toArray, lenV]; exact hl, by simpa using rv⟩
  have hok : HOk P w H s₁.heap := fun b u z => by
    rcases Hsome z with ⟨m, rfl⟩ | ⟨_, rfl, _, rfl⟩
    · exact tabAt m
    · exact ⟨ha, by rw [List.length_map]; exact hl, vs, _, rv, ha⟩
  have keepB : ∀ {b : Addr} {u : Obj}, s₁.heap.get? b = some u → (b = a → K.lookup a ≠ none) → b ∉ cs.map Prod.snd → (hidT s₁.heap H).get? b = some u := fun {b u} e n m => hidT_get e (by
    cases q : H b with
    | none => rfl
    | some z =>
      rcases Hsome q with ⟨m', _⟩ | ⟨_, eb, ek, _⟩
      · exact absurd m' m
      · exact absurd ek (n eb))
  have notA : ∀ {b : Addr} {u : Obj}, s₁.heap.get? b = some u → (∀ xs n, u.data ≠ .seq xs n) → b = a → K.lookup a ≠ none := fun {b u} e d eb => by
    subst eb
    rw [ha] at e
    cases e
    exact (d _ _ rfl).elim
  have notT : ∀ {b : Addr} {u : Obj}, s₁.heap.get? b = some u → u.data ≠ .fields #[] → b ∉ cs.map Prod.snd := fun {b u} e d m => by
    rw [tabAt m] at e
    cases e
    exact d rfl
  have keepN : ∀ {b : Addr} {m : Str → Option Value}, s₁.heap.Ns b m → (hidT s₁.heap H).Ns b m := fun {b m} ⟨u, es, ep, e, d, r⟩ =>
    ⟨u, es, ep, keepB e (notA e fun xs n z => by rw [d] at z; cases z) (notT e fun z => by rw [d] at z; cases z), d, r⟩
  have hKb : K.In (hidT s₁.heap H) := fun b u e => keepB (KX b u e) (fun eb q => by
    subst eb
    rw [q] at e
    cases e) fun m => by
    obtain ⟨q, hq, rfl⟩ := List.mem_map.mp m
    rw [tabsK q hq] at e
    cases e
  have hM : Mod K mg (hidT s₁.heap H) := ⟨hKb, keepN hns, ⟨mb, keepN hb, hbb⟩, let ⟨mc, h1, h2⟩ := hlim; ⟨mc, keepN h1, h2⟩⟩
  have hTB : ∀ q ∈ cs, LamX.TabB (hidT s₁.heap H) mg q.1 q.2 := fun q hq => by
    have hP := tabs q hq
    constructor
    · obtain ⟨oc, us, file, tf, flags, tg, inF, text, tt, e1, r1, r2, r3, rest⟩ := codes q hq
      exact ⟨oc, us, file, tf, flags, tg, inF, text, tt, keepB e1 (notA e1 fun xs n z => by rw [r2] at z; cases z) (notT e1 fun z => by
        rw [r2] at z
        cases z
        simp at r3), r1, r2, r3, rest⟩
    · obtain ⟨bm, ob, b1, b2, b3, b4, b5, b6⟩ := bmod
      refine ⟨bm, ob, b1, b2, fun e => ?_, fun e => ?_, keepB b3 (notA b3 fun xs n z => by rw [b6] at z; cases z) (notT b3 fun z => by rw [b6] at z; cases z), b4, b5, b6⟩
      · obtain ⟨u, es, ep, e', hd, _⟩ := hns
        rw [e, e'] at b3
        cases b3
        rw [hd] at b6
        cases b6
      · rw [e, hP] at b3
        cases b3
        cases b6
    · intro e
      obtain ⟨u, es, ep, e', hd, _⟩ := hns
      rw [e, hP] at e'
      cases e'
      cases hd
  have e0 : Env0 P w K mg (hidT s₁.heap H) callerA [] s₁ H := ⟨rfl, hM, fun _ _ e => of_hidT e, Nat.le_of_eq (hidT_size _ _), trivial, fun b z => absurd (show b ∈ ([] : List Addr) from z) (by simp), hok, .of_eq hg⟩
  have run := (F _ hKb (keepN hns) hTB).run callerA [] s₁ H ⟨[.ref a], []⟩ [.ref a] [.ref a] _ _ hr rfl e0 (hbind s₁ (.ref a)) (.cons rfl .nil) (hsp H (fun q hq => Htab (List.mem_map.mpr ⟨q, hq, rfl⟩)) hS)
  refine codeAny_mono run fun r s' h => ?_
  cases r with
  | error e => exact False.elim h
  | ok fl =>
    cases fl with
    | ret u =>
      obtain ⟨v, H', os, bare, un, hok', r', q⟩ := h
      obtain rfl : v = .bl true := q
      obtain rfl : u = Value.bool true := r'
      have others : ∀ {b : Addr} {u : Obj}, b ∉ cs.map Prod.snd → s₁.heap.get? b = some u → s'.heap.get? b = some u := fun {b u} m e => by
        cases q : H b with
        | none => exact un.keep b u e q (fun z => absurd (show b ∈ ([] : List Addr) from z) (by simp)) (by simp)
        | some z =>
          rcases Hsome q with ⟨m', _⟩ | ⟨_, rfl, _, rfl⟩
          · exact absurd m' m
          · obtain ⟨e2, _⟩ := hok' b _ (un.frzs b o _ q)
            rw [ha] at e
            cases e
            exact e2
      have later : ∀ {b : Addr}, b ∈ cs.map Prod.snd → ∃ more : Array Value, s'.heap.get? b = some { cls := .none, data := .fields more } := fun {b} m => by
        obtain ⟨more, z⟩ := un.tbls b #[] (Htab m)
        exact ⟨_, hok' b _ z⟩
      refine ⟨rfl, ⟨fun b u e => ?_, fun b u e => ?_⟩, os, bare⟩
      · by_cases m : b ∈ cs.map Prod.snd
        · obtain ⟨more, hm⟩ := later m
          have e1 := tabAt m
          rw [e] at e1
          cases e1
          obtain ⟨q, hq, rfl⟩ := List.mem_map.mp m
          exact .inr (.inl ⟨((codes q hq).tab (tabs q hq)).isCodeTable, rfl, #[], more, rfl, by rw [Array.empty_append]; exact hm⟩)
        · exact .inl (others m e)
      · by_cases m : b ∈ cs.map Prod.snd
        · obtain ⟨more, hm⟩ := later m
          exact ⟨_, hm⟩
        · exact ⟨u, others m e⟩
    | _ => exact False.elim h
/-- what is known of such a law at the head's heap -/
def LawT (l : PySem.W.OpenLaw) (w : World) (K : PySem.W.Frag) (k n : Nat) (x : Str) (mg : Str → Option Value) (fa : Addr) (h : Heap) : Prop :=
  ∃ (fd : FuncData) (cs : List (Addr × Addr)) (sp : Sp), (∀ q ∈ cs, h.get? q.2 = some freshTab) ∧ (∀ q ∈ cs, K.lookup q.2 = none) ∧ (∀ q ∈ cs, PySem.W.CodeHd h q.1 q.2) ∧ (∀ (s : Shared) (u : Value), BindsTo s fd ⟨[u], []⟩ [(x, u)]) ∧
    (∀ (H : Hp) (a : Addr) (ns : List Int), ns.length ≤ n → (∀ q ∈ cs, H q.2 = some (.tbl #[])) → SqL K H a (ns.map V.int) → sp [.ref a] H (fun v _ => v = .bl true) fun _ _ _ => False) ∧
    ∀ base : Heap, K.In base → base.Ns mainGlobals mg → (∀ q ∈ cs, LamX.TabB base mg q.1 q.2) → FnG l.prog w K mg base k fa fd [x] sp
theorem walk_gT {l : PySem.W.OpenLaw} {n k : Nat} {q : Program} {loose : List Str} {XP : (Str → Option Value) → Heap → Prop} {YP : World → Heap → Prop} {d : DefRec} {K : Params → PySem.W.Frag} {x : Str}
    (hn : l.most = some n) (hn2 : n ≤ sizeLine) (hdf : d.params.defaults = []) (hr : Room k callerA) (hY : ∀ (w : World) (h : Heap), YP w h → (K w.params).In h)
    (F : ∀ (w : World) (mg : Str → Option Value) (fa : Addr) (h : Heap), YP w h → (K w.params).In h → h.Ns mainGlobals mg → mg d.name = some (.ref fa) → LawT l w (K w.params) k n x mg fa h) :
    PySem.W.WalkO q loose XP YP l.row.toRowW d [] (fun f vs => PySem.call f vs) := by
  refine Att.attach_call hn hdf fun w s₀ s₁ mg mb fa o pm cd doc a vs ns G Y ho hd hcd hmg hobj hints hlen hg => ?_
  have KX := hY w _ Y
  obtain ⟨fd, cs, sp, h1, h2, h3, h4, h5, h6⟩ := F w mg fa _ Y KX G.T.g hmg
  exact law_gT KX G.T.g G.T.b G.T.builtins G.T.nolimit hg h1 h2 h3 G.T.bmain hobj hints (Nat.le_trans hlen hn2) hr h6 h4 fun H hH hS => h5 H a ns hlen hH hS
end Qk
set_option maxRecDepth 100000
set_option maxHeartbeats 4000000
namespace Qk
open PySem PySem.Spec PyProof.Rows L2
theorem un_of {P : Addr} {q : Str} : ∀ {Tb : List (Addr × Str)}, (Tb.map Prod.fst).Nodup → (P, q) ∈ Tb → ∀ p ∈ Tb, p.1 = P → p.2 = q
  | [], _, h => (nomatch h)
  | x :: Tb, nd, h => by
    obtain ⟨n1, n2⟩ := List.nodup_cons.mp nd
    intro p hp e
    rcases List.mem_cons.mp hp with rfl | hp2
    · rcases List.mem_cons.mp h with h | h
      · rw [← h]
      · exact absurd (List.mem_map.mpr ⟨_, h, rfl⟩) (by rw [← e]; exact n1)
    · rcases List.mem_cons.mp h with rfl | h
      · exact (n1 (List.mem_map.mpr ⟨_, hp2, e⟩)).elim
      · exact un_of n2 h p hp2 e
theorem all_mk {l : PySem.W.OpenLaw} {w : World} {K : PySem.W.Frag} {h : Heap} {mg : Str → Option Value} {fa f1 f2 f3 f4 f5 f6 f7 f8 f9 f10 f11 f12 f13 f14 f15 f16 f17 f18 f19 f20 f21 f22 f23 f24 f25 f26 f27 f28 f29 f30 f31 cc31 P31 f32 cc32 P32 f33 cc33 P33 f34 CS CW CM CN CK fSI fSE fSO fSA fSS fSL fSN fST fSQ fSC fSD fSX fSW fSR fEW fEM fEN : Addr} (X : K.In h) (G : h.Ns mainGlobals mg) (hfa : mg "law" = some (.ref fa))
    {od1 an1 od2 an2 od3 an3 od4 an4 od5 an5 od6 an6 od7 an7 od8 an8 od9 an9 od10 an10 od11 an11 od12 an12 od13 an13 od14 an14 od15 an15 od16 an16 od17 an17 od18 an18 od19 an19 od20 an20 od21 an21 od22 an22 od23 an23 od24 an24 od25 an25 od26 an26 od27 an27 od28 an28 od29 an29 od30 an30 od31 an31 oz31 od32 an32 oz32 od33 an33 oz33 od34 an34 odSI anSI odSE anSE odSO anSO odSA anSA odSS anSS odSL anSL odSN anSN odST anST odSQ anSQ odSC anSC odSD anSD odSX anSX odSW anSW odSR anSR odEW anEW odEM anEM odEN anEN : Option Addr} {sl1 sl2 sl3 sl4 sl5 sl6 sl7 sl8 sl9 sl10 sl11 sl12 sl13 sl14 sl15 sl16 sl17 sl18 sl19 sl20 sl21 sl22 sl23 sl24 sl25 sl26 sl27 sl28 sl29 sl30 sl31 sl32 sl33 sl34 slSI slSE slSO slSA slSS slSL slSN slST slSQ slSC slSD slSX slSW slSR slEW slEM slEN ow31 ow32 ow33 : Array (Option Value)} {us31 us32 us33 : Array Value} {oc1 kV1 dc1 pm1 ct1 cd1 oc2 kV2 dc2 pm2 ct2 cd2 oc3 kV3 dc3 pm3 ct3 cd3 oc4 kV4 dc4 pm4 ct4 cd4 oc5 kV5 dc5 pm5 ct5 cd5 oc6 kV6 dc6 pm6 ct6 cd6 oc7 kV7 dc7 pm7 ct7 cd7 oc8 kV8 dc8 pm8 ct8 cd8 oc9 kV9 dc9 pm9 ct9 cd9 oc10 kV10 dc10 pm10 ct10 cd10 oc11 kV11 dc11 pm11 ct11 cd11 oc12 kV12 dc12 pm12 ct12 cd12 oc13 kV13 dc13 pm13 ct13 cd13 oc14 kV14 dc14 pm14 ct14 cd14 oc15 kV15 dc15 pm15 ct15 cd15 oc16 kV16 dc16 pm16 ct16 cd16 oc17 kV17 dc17 pm17 ct17 cd17 oc18 kV18 dc18 pm18 ct18 cd18 oc19 kV19 dc19 pm19 ct19 cd19 oc20 kV20 dc20 pm20 ct20 cd20 oc21 kV21 dc21 pm21 ct21 cd21 oc22 kV22 dc22 pm22 ct22 cd22 oc23 kV23 dc23 pm23 ct23 cd23 oc24 kV24 dc24 pm24 ct24 cd24 oc25 kV25 dc25 pm25 ct25 cd25 oc26 kV26 dc26 pm26 ct26 cd26 oc27 kV27 dc27 pm27 ct27 cd27 oc28 kV28 dc28 pm28 ct28 cd28 oc29 kV29 dc29 pm29 ct29 cd29 oc30 kV30 dc30 pm30 ct30 cd30 oc31 kV31 dc31 pm31 ct31 oe31 oc32 kV32 dc32 pm32 ct32 oe32 oc33 kV33 dc33 pm33 ct33 oe33 oc34 kV34 dc34 pm34 ct34 cd34 ocSI kVSI dcSI pmSI ctSI cdSI ocSE kVSE dcSE pmSE ctSE cdSE ocSO kVSO dcSO pmSO ctSO cdSO ocSA kVSA dcSA pmSA ctSA cdSA ocSS kVSS dcSS pmSS ctSS cdSS ocSL kVSL dcSL pmSL ctSL cdSL ocSN kVSN dcSN pmSN ctSN cdSN ocST kVST dcST pmST ctST cdST ocSQ kVSQ dcSQ pmSQ ctSQ cdSQ ocSC kVSC dcSC pmSC ctSC cdSC ocSD kVSD dcSD pmSD ctSD cdSD ocSX kVSX dcSX pmSX ctSX cdSX ocSW kVSW dcSW pmSW ctSW cdSW ocSR kVSR dcSR pmSR ctSR cdSR ocEW kVEW dcEW pmEW ctEW cdEW ocEM kVEM dcEM pmEM ctEM cdEM ocEN kVEN dcEN pmEN ctEN cdEN : Value} {tL tM : Nat}
    (a1 : PySem.W.nsIn K mainGlobals "is_column" = some (some (.ref f1))) (l1 : K.lookup f1 = some ⟨oc1, od1, .func (PySem.W.fnOf "is_column" "is_column" (defArgs sIsCol) (defBody sIsCol) (defScope sIsCol) .none kV1 dc1 pm1 an1 cd1 ct1), sl1⟩) (c1 : PySem.W.codeIn K cd1 "is_column" = true) (k1 : PySem.W.keepIn K (.ref f1) = true)
    (a2 : PySem.W.nsIn K mainGlobals "is_ascending" = some (some (.ref f2))) (l2 : K.lookup f2 = some ⟨oc2, od2, .func (PySem.W.fnOf "is_ascending" "is_ascending" (defArgs sAsc) (defBody sAsc) (defScope sAsc) .none kV2 dc2 pm2 an2 cd2 ct2), sl2⟩) (c2 : PySem.W.codeIn K cd2 "is_ascending" = true) (k2 : PySem.W.keepIn K (.ref f2) = true)
    (a3 : PySem.W.nsIn K mainGlobals "are_columns" = some (some (.ref f3))) (l3 : K.lookup f3 = some ⟨oc3, od3, .func (PySem.W.fnOf "are_columns" "are_columns" (defArgs sAreCols) (defBody sAreCols) (defScope sAreCols) .none kV3 dc3 pm3 an3 cd3 ct3), sl3⟩) (c3 : PySem.W.codeIn K cd3 "are_columns" = true) (k3 : PySem.W.keepIn K (.ref f3) = true)
    (a4 : PySem.W.nsIn K mainGlobals "is_empty" = some (some (.ref f4))) (l4 : K.lookup f4 = some ⟨oc4, od4, .func (PySem.W.fnOf "is_empty" "is_empty" (defArgs sIsEmpty) (defBody sIsEmpty) (defScope sIsEmpty) .none kV4 dc4 pm4 an4 cd4 ct4), sl4⟩) (c4 : PySem.W.codeIn K cd4 "is_empty" = true) (k4 : PySem.W.keepIn K (.ref f4) = true)
    (a5 : PySem.W.nsIn K mainGlobals "is_last" = some (some (.ref f5))) (l5 : K.lookup f5 = some ⟨oc5, od5, .func (PySem.W.fnOf "is_last" "is_last" (defArgs sIsLast) (defBody sIsLast) (defScope sIsLast) .none kV5 dc5 pm5 an5 cd5 ct5), sl5⟩) (c5 : PySem.W.codeIn K cd5 "is_last" = true) (k5 : PySem.W.keepIn K (.ref f5) = true)
    (a6 : PySem.W.nsIn K mainGlobals "is_question" = some (some (.ref f6))) (l6 : K.lookup f6 = some ⟨oc6, od6, .func (PySem.W.fnOf "is_question" "is_question" (defArgs sIsQ) (defBody sIsQ) (defScope sIsQ) .none kV6 dc6 pm6 an6 cd6 ct6), sl6⟩) (c6 : PySem.W.codeIn K cd6 "is_question" = true) (k6 : PySem.W.keepIn K (.ref f6) = true)
    (a7 : PySem.W.nsIn K mainGlobals "are_questions" = some (some (.ref f7))) (l7 : K.lookup f7 = some ⟨oc7, od7, .func (PySem.W.fnOf "are_questions" "are_questions" (defArgs sAreQs) (defBody sAreQs) (defScope sAreQs) .none kV7 dc7 pm7 an7 cd7 ct7), sl7⟩) (c7 : PySem.W.codeIn K cd7 "are_questions" = true) (k7 : PySem.W.keepIn K (.ref f7) = true)
    (a8 : PySem.W.nsIn K mainGlobals "row_of" = some (some (.ref f8))) (l8 : K.lookup f8 = some ⟨oc8, od8, .func (PySem.W.fnOf "row_of" "row_of" (defArgs sRow) (defBody sRow) (defScope sRow) .none kV8 dc8 pm8 an8 cd8 ct8), sl8⟩) (c8 : PySem.W.codeIn K cd8 "row_of" = true) (k8 : PySem.W.keepIn K (.ref f8) = true)
    (a9 : PySem.W.nsIn K mainGlobals "columns_of" = some (some (.ref f9))) (l9 : K.lookup f9 = some ⟨oc9, od9, .func (PySem.W.fnOf "columns_of" "columns_of" (defArgs sCols) (defBody sCols) (defScope sCols) .none kV9 dc9 pm9 an9 cd9 ct9), sl9⟩) (c9 : PySem.W.codeIn K cd9 "columns_of" = true) (k9 : PySem.W.keepIn K (.ref f9) = true)
    (a10 : PySem.W.nsIn K mainGlobals "renamed_question" = some (some (.ref f10))) (l10 : K.lookup f10 = some ⟨oc10, od10, .func (PySem.W.fnOf "renamed_question" "renamed_question" (defArgs sRenQ) (defBody sRenQ) (defScope sRenQ) .none kV10 dc10 pm10 an10 cd10 ct10), sl10⟩) (c10 : PySem.W.codeIn K cd10 "renamed_question" = true) (k10 : PySem.W.keepIn K (.ref f10) = true)
    (a11 : PySem.W.nsIn K mainGlobals "_law_bag" = some (some (.ref f11))) (l11 : K.lookup f11 = some ⟨oc11, od11, .func (PySem.W.fnOf "_law_bag" "_law_bag" (defArgs sBag) (defBody sBag) (defScope sBag) .none kV11 dc11 pm11 an11 cd11 ct11), sl11⟩) (c11 : PySem.W.codeIn K cd11 "_law_bag" = true) (k11 : PySem.W.keepIn K (.ref f11) = true)
    (a12 : PySem.W.nsIn K mainGlobals "_law_take" = some (some (.ref f12))) (l12 : K.lookup f12 = some ⟨oc12, od12, .func (PySem.W.fnOf "_law_take" "_law_take" (defArgs sTake) (defBody sTake) (defScope sTake) .none kV12 dc12 pm12 an12 cd12 ct12), sl12⟩) (c12 : PySem.W.codeIn K cd12 "_law_take" = true) (k12 : PySem.W.keepIn K (.ref f12) = true)
    (a13 : PySem.W.nsIn K mainGlobals "_law_one" = some (some (.ref f13))) (l13 : K.lookup f13 = some ⟨oc13, od13, .func (PySem.W.fnOf "_law_one" "_law_one" (defArgs sOne) (defBody sOne) (defScope sOne) .none kV13 dc13 pm13 an13 cd13 ct13), sl13⟩) (c13 : PySem.W.codeIn K cd13 "_law_one" = true) (k13 : PySem.W.keepIn K (.ref f13) = true)
    (a14 : PySem.W.nsIn K mainGlobals "_law_mixed" = some (some (.ref f14))) (l14 : K.lookup f14 = some ⟨oc14, od14, .func (PySem.W.fnOf "_law_mixed" "_law_mixed" (defArgs sMixed) (defBody sMixed) (defScope sMixed) .none kV14 dc14 pm14 an14 cd14 ct14), sl14⟩) (c14 : PySem.W.codeIn K cd14 "_law_mixed" = true) (k14 : PySem.W.keepIn K (.ref f14) = true)
    (a15 : PySem.W.nsIn K mainGlobals "_law_alike" = some (some (.ref f15))) (l15 : K.lookup f15 = some ⟨oc15, od15, .func (PySem.W.fnOf "_law_alike" "_law_alike" (defArgs sAlike) (defBody sAlike) (defScope sAlike) .none kV15 dc15 pm15 an15 cd15 ct15), sl15⟩) (c15 : PySem.W.codeIn K cd15 "_law_alike" = true) (k15 : PySem.W.keepIn K (.ref f15) = true)
    (a16 : PySem.W.nsIn K mainGlobals "_law_truth" = some (some (.ref f16))) (l16 : K.lookup f16 = some ⟨oc16, od16, .func (PySem.W.fnOf "_law_truth" "_law_truth" (defArgs sTruth) (defBody sTruth) (defScope sTruth) .none kV16 dc16 pm16 an16 cd16 ct16), sl16⟩) (c16 : PySem.W.codeIn K cd16 "_law_truth" = true) (k16 : PySem.W.keepIn K (.ref f16) = true)
    (a17 : PySem.W.nsIn K mainGlobals "_law_names" = some (some (.ref f17))) (l17 : K.lookup f17 = some ⟨oc17, od17, .func (PySem.W.fnOf "_law_names" "_law_names" (defArgs sNames) (defBody sNames) (defScope sNames) .none kV17 dc17 pm17 an17 cd17 ct17), sl17⟩) (c17 : PySem.W.codeIn K cd17 "_law_names" = true) (k17 : PySem.W.keepIn K (.ref f17) = true)
    (a18 : PySem.W.nsIn K mainGlobals "_law_question_of" = some (some (.ref f18))) (l18 : K.lookup f18 = some ⟨oc18, od18, .func (PySem.W.fnOf "_law_question_of" "_law_question_of" (defArgs sQOf) (defBody sQOf) (defScope sQOf) .none kV18 dc18 pm18 an18 cd18 ct18), sl18⟩) (c18 : PySem.W.codeIn K cd18 "_law_question_of" = true) (k18 : PySem.W.keepIn K (.ref f18) = true)
    (a19 : PySem.W.nsIn K mainGlobals "_law_questions" = some (some (.ref f19))) (l19 : K.lookup f19 = some ⟨oc19, od19, .func (PySem.W.fnOf "_law_questions" "_law_questions" (defArgs sQuestions) (defBody sQuestions) (defScope sQuestions) .none kV19 dc19 pm19 an19 cd19 ct19), sl19⟩) (c19 : PySem.W.codeIn K cd19 "_law_questions" = true) (k19 : PySem.W.keepIn K (.ref f19) = true)
    (a20 : PySem.W.nsIn K mainGlobals "_law_all" = some (some (.ref f20))) (l20 : K.lookup f20 = some ⟨oc20, od20, .func (PySem.W.fnOf "_law_all" "_law_all" (defArgs sLAll) (defBody sLAll) (defScope sLAll) .none kV20 dc20 pm20 an20 cd20 ct20), sl20⟩) (c20 : PySem.W.codeIn K cd20 "_law_all" = true) (k20 : PySem.W.keepIn K (.ref f20) = true)
    (a21 : PySem.W.nsIn K mainGlobals "_law_columns" = some (some (.ref f21))) (l21 : K.lookup f21 = some ⟨oc21, od21, .func (PySem.W.fnOf "_law_columns" "_law_columns" (defArgs sLCols) (defBody sLCols) (defScope sLCols) .none kV21 dc21 pm21 an21 cd21 ct21), sl21⟩) (c21 : PySem.W.codeIn K cd21 "_law_columns" = true) (k21 : PySem.W.keepIn K (.ref f21) = true)
    (a22 : PySem.W.nsIn K mainGlobals "_law_every" = some (some (.ref f22))) (l22 : K.lookup f22 = some ⟨oc22, od22, .func (PySem.W.fnOf "_law_every" "_law_every" (defArgs sEvery) (defBody sEvery) (defScope sEvery) .none kV22 dc22 pm22 an22 cd22 ct22), sl22⟩) (c22 : PySem.W.codeIn K cd22 "_law_every" = true) (k22 : PySem.W.keepIn K (.ref f22) = true)
    (a23 : PySem.W.nsIn K mainGlobals "_law_is_column" = some (some (.ref f23))) (l23 : K.lookup f23 = some ⟨oc23, od23, .func (PySem.W.fnOf "_law_is_column" "_law_is_column" (defArgs sLIsCol) (defBody sLIsCol) (defScope sLIsCol) .none kV23 dc23 pm23 an23 cd23 ct23), sl23⟩) (c23 : PySem.W.codeIn K cd23 "_law_is_column" = true) (k23 : PySem.W.keepIn K (.ref f23) = true)
    (a24 : PySem.W.nsIn K mainGlobals "_law_are_columns" = some (some (.ref f24))) (l24 : K.lookup f24 = some ⟨oc24, od24, .func (PySem.W.fnOf "_law_are_columns" "_law_are_columns" (defArgs sLAreCols) (defBody sLAreCols) (defScope sLAreCols) .none kV24 dc24 pm24 an24 cd24 ct24), sl24⟩) (c24 : PySem.W.codeIn K cd24 "_law_are_columns" = true) (k24 : PySem.W.keepIn K (.ref f24) = true)
    (a25 : PySem.W.nsIn K mainGlobals "_law_is_question" = some (some (.ref f25))) (l25 : K.lookup f25 = some ⟨oc25, od25, .func (PySem.W.fnOf "_law_is_question" "_law_is_question" (defArgs sLIsQ) (defBody sLIsQ) (defScope sLIsQ) .none kV25 dc25 pm25 an25 cd25 ct25), sl25⟩) (c25 : PySem.W.codeIn K cd25 "_law_is_question" = true) (k25 : PySem.W.keepIn K (.ref f25) = true)
    (a26 : PySem.W.nsIn K mainGlobals "_law_odd" = some (some (.ref f26))) (l26 : K.lookup f26 = some ⟨oc26, od26, .func (PySem.W.fnOf "_law_odd" "_law_odd" (defArgs sOdd) (defBody sOdd) (defScope sOdd) .none kV26 dc26 pm26 an26 cd26 ct26), sl26⟩) (c26 : PySem.W.codeIn K cd26 "_law_odd" = true) (k26 : PySem.W.keepIn K (.ref f26) = true)
    (a27 : PySem.W.nsIn K mainGlobals "_law_bent" = some (some (.ref f27))) (l27 : K.lookup f27 = some ⟨oc27, od27, .func (PySem.W.fnOf "_law_bent" "_law_bent" (defArgs sBent) (defBody sBent) (defScope sBent) .none kV27 dc27 pm27 an27 cd27 ct27), sl27⟩) (c27 : PySem.W.codeIn K cd27 "_law_bent" = true) (k27 : PySem.W.keepIn K (.ref f27) = true)
    (a28 : PySem.W.nsIn K mainGlobals "_law_told" = some (some (.ref f28))) (l28 : K.lookup f28 = some ⟨oc28, od28, .func (PySem.W.fnOf "_law_told" "_law_told" (defArgs sTold) (defBody sTold) (defScope sTold) .none kV28 dc28 pm28 an28 cd28 ct28), sl28⟩) (c28 : PySem.W.codeIn K cd28 "_law_told" = true) (k28 : PySem.W.keepIn K (.ref f28) = true)
    (a29 : PySem.W.nsIn K mainGlobals "_law_due" = some (some (.ref f29))) (l29 : K.lookup f29 = some ⟨oc29, od29, .func (PySem.W.fnOf "_law_due" "_law_due" (defArgs sDue) (defBody sDue) (defScope sDue) .none kV29 dc29 pm29 an29 cd29 ct29), sl29⟩) (c29 : PySem.W.codeIn K cd29 "_law_due" = true) (k29 : PySem.W.keepIn K (.ref f29) = true)
    (a30 : PySem.W.nsIn K mainGlobals "_law_two" = some (some (.ref f30))) (l30 : K.lookup f30 = some ⟨oc30, od30, .func (PySem.W.fnOf "_law_two" "_law_two" (defArgs sTwo) (defBody sTwo) (defScope sTwo) .none kV30 dc30 pm30 an30 cd30 ct30), sl30⟩) (c30 : PySem.W.codeIn K cd30 "_law_two" = true) (k30 : PySem.W.keepIn K (.ref f30) = true)
    (a31 : PySem.W.nsIn K mainGlobals "_law_sums_right" = some (some (.ref f31))) (l31 : K.lookup f31 = some ⟨oc31, od31, .func (PySem.W.fnOf "_law_sums_right" "_law_sums_right" (defArgs sSums) (defBody sSums) (defScope sSums) .none kV31 dc31 pm31 an31 (.ref cc31) ct31), sl31⟩) (c31 : PySem.W.codeIn K (.ref cc31) "_law_sums_right" = true) (k31 : PySem.W.keepIn K (.ref f31) = true)
    (v31 : K.lookup cc31 = some ⟨oe31, oz31, .fields us31, ow31⟩) (w31 : us31[11]? = some (.ref P31)) (h31 : PySem.W.codeHdIn K cc31 P31 = true) (n31 : K.lookup P31 = none) (t31 : h.get? P31 = some freshTab)
    (a32 : PySem.W.nsIn K mainGlobals "_law_singles_right" = some (some (.ref f32))) (l32 : K.lookup f32 = some ⟨oc32, od32, .func (PySem.W.fnOf "_law_singles_right" "_law_singles_right" (defArgs sSingles) (defBody sSingles) (defScope sSingles) .none kV32 dc32 pm32 an32 (.ref cc32) ct32), sl32⟩) (c32 : PySem.W.codeIn K (.ref cc32) "_law_singles_right" = true) (k32 : PySem.W.keepIn K (.ref f32) = true)
    (v32 : K.lookup cc32 = some ⟨oe32, oz32, .fields us32, ow32⟩) (w32 : us32[11]? = some (.ref P32)) (h32 : PySem.W.codeHdIn K cc32 P32 = true) (n32 : K.lookup P32 = none) (t32 : h.get? P32 = some freshTab)
    (a33 : PySem.W.nsIn K mainGlobals "_law_renamed_right" = some (some (.ref f33))) (l33 : K.lookup f33 = some ⟨oc33, od33, .func (PySem.W.fnOf "_law_renamed_right" "_law_renamed_right" (defArgs sRenR) (defBody sRenR) (defScope sRenR) .none kV33 dc33 pm33 an33 (.ref cc33) ct33), sl33⟩) (c33 : PySem.W.codeIn K (.ref cc33) "_law_renamed_right" = true) (k33 : PySem.W.keepIn K (.ref f33) = true)
    (v33 : K.lookup cc33 = some ⟨oe33, oz33, .fields us33, ow33⟩) (w33 : us33[11]? = some (.ref P33)) (h33 : PySem.W.codeHdIn K cc33 P33 = true) (n33 : K.lookup P33 = none) (t33 : h.get? P33 = some freshTab)
    (a34 : PySem.W.nsIn K mainGlobals "law" = some (some (.ref f34))) (l34 : K.lookup f34 = some ⟨oc34, od34, .func (PySem.W.fnOf "law" "law" (defArgs sLaw) (defBody sLaw) (defScope sLaw) .none kV34 dc34 pm34 an34 cd34 ct34), sl34⟩) (c34 : PySem.W.codeIn K cd34 "law" = true) (k34 : PySem.W.keepIn K (.ref f34) = true)
    (aL : PySem.W.nsIn K mainGlobals "LONGEST_COLUMN" = some (some (.int 8 tL)))
    (aM : PySem.W.nsIn K mainGlobals "LIMIT" = some (some (.int 48 tM)))
    (hn : PySem.W.specialIn K (.builtin "object.__class__") "__get__" = some (some (.builtin "getset_descriptor.__get__")))
    (ht : PySem.W.takesIn K (.builtin "object.__class__") = some true)
    (aCS : PySem.W.nsIn K mainGlobals "Asked" = some (some (.ref CS)))
    (aSI : PySem.W.findIn K (.ref CS) "__init__" = some (some (.ref fSI))) (lSI : K.lookup fSI = some ⟨ocSI, odSI, .func (PySem.W.fnOf "__init__" "Asked.__init__" (defArgs sAInit) (defBody sAInit) (defScope sAInit) .none kVSI dcSI pmSI anSI cdSI ctSI), slSI⟩) (cSI : PySem.W.codeIn K cdSI "Asked.__init__" = true) (kSI : PySem.W.keepIn K (.ref fSI) = true)
    (iSI : PySem.W.isFn K (.ref fSI) = true)
    (aSE : PySem.W.findIn K (.ref CS) "__eq__" = some (some (.ref fSE))) (lSE : K.lookup fSE = some ⟨ocSE, odSE, .func (PySem.W.fnOf "__eq__" "Asked.__eq__" (defArgs sAEq) (defBody sAEq) (defScope sAEq) .none kVSE dcSE pmSE anSE cdSE ctSE), slSE⟩) (cSE : PySem.W.codeIn K cdSE "Asked.__eq__" = true) (kSE : PySem.W.keepIn K (.ref fSE) = true)
    (iSE : PySem.W.isFn K (.ref fSE) = true)
    (aSO : PySem.W.findIn K (.ref CS) "__or__" = some (some (.ref fSO))) (lSO : K.lookup fSO = some ⟨ocSO, odSO, .func (PySem.W.fnOf "__or__" "Asked.__or__" (defArgs sAOr) (defBody sAOr) (defScope sAOr) .none kVSO dcSO pmSO anSO cdSO ctSO), slSO⟩) (cSO : PySem.W.codeIn K cdSO "Asked.__or__" = true) (kSO : PySem.W.keepIn K (.ref fSO) = true)
    (iSO : PySem.W.isFn K (.ref fSO) = true)
    (aSA : PySem.W.findIn K (.ref CS) "__and__" = some (some (.ref fSA))) (lSA : K.lookup fSA = some ⟨ocSA, odSA, .func (PySem.W.fnOf "__and__" "Asked.__and__" (defArgs sAAnd) (defBody sAAnd) (defScope sAAnd) .none kVSA dcSA pmSA anSA cdSA ctSA), slSA⟩) (cSA : PySem.W.codeIn K cdSA "Asked.__and__" = true) (kSA : PySem.W.keepIn K (.ref fSA) = true)
    (iSA : PySem.W.isFn K (.ref fSA) = true)
    (aSS : PySem.W.findIn K (.ref CS) "__sub__" = some (some (.ref fSS))) (lSS : K.lookup fSS = some ⟨ocSS, odSS, .func (PySem.W.fnOf "__sub__" "Asked.__sub__" (defArgs sASub) (defBody sASub) (defScope sASub) .none kVSS dcSS pmSS anSS cdSS ctSS), slSS⟩) (cSS : PySem.W.codeIn K cdSS "Asked.__sub__" = true) (kSS : PySem.W.keepIn K (.ref fSS) = true)
    (iSS : PySem.W.isFn K (.ref fSS) = true)
    (aSL : PySem.W.findIn K (.ref CS) "__len__" = some (some (.ref fSL))) (lSL : K.lookup fSL = some ⟨ocSL, odSL, .func (PySem.W.fnOf "__len__" "Asked.__len__" (defArgs sALen) (defBody sALen) (defScope sALen) .none kVSL dcSL pmSL anSL cdSL ctSL), slSL⟩) (cSL : PySem.W.codeIn K cdSL "Asked.__len__" = true) (kSL : PySem.W.keepIn K (.ref fSL) = true)
    (iSL : PySem.W.isFn K (.ref fSL) = true)
    (aSN : PySem.W.findIn K (.ref CS) "__contains__" = some (some (.ref fSN))) (lSN : K.lookup fSN = some ⟨ocSN, odSN, .func (PySem.W.fnOf "__contains__" "Asked.__contains__" (defArgs sAIn) (defBody sAIn) (defScope sAIn) .none kVSN dcSN pmSN anSN cdSN ctSN), slSN⟩) (cSN : PySem.W.codeIn K cdSN "Asked.__contains__" = true) (kSN : PySem.W.keepIn K (.ref fSN) = true)
    (iSN : PySem.W.isFn K (.ref fSN) = true)
    (aST : PySem.W.findIn K (.ref CS) "__iter__" = some (some (.ref fST))) (lST : K.lookup fST = some ⟨ocST, odST, .func (PySem.W.fnOf "__iter__" "Asked.__iter__" (defArgs sAIter) (defBody sAIter) (defScope sAIter) .none kVST dcST pmST anST cdST ctST), slST⟩) (cST : PySem.W.codeIn K cdST "Asked.__iter__" = true) (kST : PySem.W.keepIn K (.ref fST) = true)
    (iST : PySem.W.isFn K (.ref fST) = true)
    (aSQ : PySem.W.findIn K (.ref CS) "questions" = some (some (.ref fSQ))) (lSQ : K.lookup fSQ = some ⟨ocSQ, odSQ, .func (PySem.W.fnOf "questions" "Asked.questions" (defArgs sAQns) (defBody sAQns) (defScope sAQns) .none kVSQ dcSQ pmSQ anSQ cdSQ ctSQ), slSQ⟩) (cSQ : PySem.W.codeIn K cdSQ "Asked.questions" = true) (kSQ : PySem.W.keepIn K (.ref fSQ) = true)
    (iSQ : PySem.W.isFn K (.ref fSQ) = true)
    (aSC : PySem.W.findIn K (.ref CS) "columns" = some (some (.ref fSC))) (lSC : K.lookup fSC = some ⟨ocSC, odSC, .func (PySem.W.fnOf "columns" "Asked.columns" (defArgs sColumns) (defBody sColumns) (defScope sColumns) .none kVSC dcSC pmSC anSC cdSC ctSC), slSC⟩) (cSC : PySem.W.codeIn K cdSC "Asked.columns" = true) (kSC : PySem.W.keepIn K (.ref fSC) = true)
    (iSC : PySem.W.isFn K (.ref fSC) = true)
    (aSD : PySem.W.findIn K (.ref CS) "within" = some (some (.ref fSD))) (lSD : K.lookup fSD = some ⟨ocSD, odSD, .func (PySem.W.fnOf "within" "Asked.within" (defArgs sAWithin) (defBody sAWithin) (defScope sAWithin) .none kVSD dcSD pmSD anSD cdSD ctSD), slSD⟩) (cSD : PySem.W.codeIn K cdSD "Asked.within" = true) (kSD : PySem.W.keepIn K (.ref fSD) = true)
    (iSD : PySem.W.isFn K (.ref fSD) = true)
    (aSX : PySem.W.findIn K (.ref CS) "with_question" = some (some (.ref fSX))) (lSX : K.lookup fSX = some ⟨ocSX, odSX, .func (PySem.W.fnOf "with_question" "Asked.with_question" (defArgs sAWith) (defBody sAWith) (defScope sAWith) .none kVSX dcSX pmSX anSX cdSX ctSX), slSX⟩) (cSX : PySem.W.codeIn K cdSX "Asked.with_question" = true) (kSX : PySem.W.keepIn K (.ref fSX) = true)
    (iSX : PySem.W.isFn K (.ref fSX) = true)
    (aSW : PySem.W.findIn K (.ref CS) "without" = some (some (.ref fSW))) (lSW : K.lookup fSW = some ⟨ocSW, odSW, .func (PySem.W.fnOf "without" "Asked.without" (defArgs sAWithout) (defBody sAWithout) (defScope sAWithout) .none kVSW dcSW pmSW anSW cdSW ctSW), slSW⟩) (cSW : PySem.W.codeIn K cdSW "Asked.without" = true) (kSW : PySem.W.keepIn K (.ref fSW) = true)
    (iSW : PySem.W.isFn K (.ref fSW) = true)
    (aSR : PySem.W.findIn K (.ref CS) "renamed" = some (some (.ref fSR))) (lSR : K.lookup fSR = some ⟨ocSR, odSR, .func (PySem.W.fnOf "renamed" "Asked.renamed" (defArgs sARen) (defBody sARen) (defScope sARen) .none kVSR dcSR pmSR anSR cdSR ctSR), slSR⟩) (cSR : PySem.W.codeIn K cdSR "Asked.renamed" = true) (kSR : PySem.W.keepIn K (.ref fSR) = true)
    (iSR : PySem.W.isFn K (.ref fSR) = true)
    (sfS : PySem.W.selfFirst K CS = true)
    (pgS : PySem.W.plainGet K CS Str.empty = true)
    (hdS : PySem.W.hasDictIn K CS = true)
    (poS : PySem.W.plainOver K CS = true)
    (saS : PySem.W.findIn K (.ref CS) "__setattr__" = some (some (.builtin "object.__setattr__")))
    (mkS : PySem.W.makesIn K CS = true)
    (kcS : PySem.W.keepIn K (.ref CS) = true)
    (nQS : PySem.W.findIn K (.ref CS) "_questions" = some none)
    (haS : PySem.W.findIn K (.ref CS) "__class__" = some (some (.builtin "object.__class__")))
    (hmS : PySem.W.mroIn K CS (.type "object") = some true)
    (enS : PySem.W.findIn K (.ref CS) "__ne__" = some (some (.builtin "object.__ne__")))
    (eoS : PySem.W.subIn K (.ref CS) (.type "object") = some true)
    (nfS : PySem.W.notFirst K CS (.ref CS) = true)
    (kNS : PySem.W.kitOne K (.ref CS) (.type "tuple") = some false)
    (k1TS : PySem.W.kitOne K (.type "list") (.ref CS) = some false)
    (k2TS : PySem.W.kitOne K (.type "tuple") (.ref CS) = some false)
    (k3TS : PySem.W.kitOne K (.type "NoneType") (.ref CS) = some false)
    (k4TS : PySem.W.kitOne K (.type "int") (.ref CS) = some false)
    (n1TS : PySem.W.notFirst K CS (.type "list") = true)
    (n2TS : PySem.W.notFirst K CS (.type "tuple") = true)
    (n3TS : PySem.W.notFirst K CS (.type "NoneType") = true)
    (n4TS : PySem.W.notFirst K CS (.type "int") = true)
    (aCK : PySem.W.nsIn K mainGlobals "KeysError" = some (some (.ref CK)))
    (aCW : PySem.W.nsIn K mainGlobals "Wrong" = some (some (.ref CW)))
    (aEW : PySem.W.findIn K (.ref CW) "__init__" = some (some (.ref fEW))) (lEW : K.lookup fEW = some ⟨ocEW, odEW, .func (PySem.W.fnOf "__init__" "Wrong.__init__" (defArgs sWInit) (defBody sWInit) (defScope sWInit) .none kVEW dcEW pmEW anEW cdEW ctEW), slEW⟩) (cEW : PySem.W.codeIn K cdEW "Wrong.__init__" = true) (kEW : PySem.W.keepIn K (.ref fEW) = true)
    (tEW : PySem.W.typeIn K (.ref fEW) = some (.type "function"))
    (ebW : ercB K CW = true)
    (noW : PySem.W.findIn K (.ref CW) "place" = some none)
    (teW : PySem.W.exmOne K (.ref CW) (.ref CK) = some true)
    (aCM : PySem.W.nsIn K mainGlobals "TooMany" = some (some (.ref CM)))
    (aEM : PySem.W.findIn K (.ref CM) "__init__" = some (some (.ref fEM))) (lEM : K.lookup fEM = some ⟨ocEM, odEM, .func (PySem.W.fnOf "__init__" "TooMany.__init__" (defArgs sMInit) (defBody sMInit) (defScope sMInit) .none kVEM dcEM pmEM anEM cdEM ctEM), slEM⟩) (cEM : PySem.W.codeIn K cdEM "TooMany.__init__" = true) (kEM : PySem.W.keepIn K (.ref fEM) = true)
    (tEM : PySem.W.typeIn K (.ref fEM) = some (.type "function"))
    (ebM : ercB K CM = true)
    (noM : PySem.W.findIn K (.ref CM) "limit" = some none)
    (teM : PySem.W.exmOne K (.ref CM) (.ref CK) = some true)
    (aCN : PySem.W.nsIn K mainGlobals "NoQuestion" = some (some (.ref CN)))
    (aEN : PySem.W.findIn K (.ref CN) "__init__" = some (some (.ref fEN))) (lEN : K.lookup fEN = some ⟨ocEN, odEN, .func (PySem.W.fnOf "__init__" "NoQuestion.__init__" (defArgs sNInit) (defBody sNInit) (defScope sNInit) .none kVEN dcEN pmEN anEN cdEN ctEN), slEN⟩) (cEN : PySem.W.codeIn K cdEN "NoQuestion.__init__" = true) (kEN : PySem.W.keepIn K (.ref fEN) = true)
    (tEN : PySem.W.typeIn K (.ref fEN) = some (.type "function"))
    (ebN : ercB K CN = true)
    (noN : PySem.W.findIn K (.ref CN) "question" = some none)
    (teN : PySem.W.exmOne K (.ref CN) (.ref CK) = some true)
    (qWM : PySem.W.kitOne K (.ref CW) (.ref CM) = some false)
    (qWN : PySem.W.kitOne K (.ref CW) (.ref CN) = some false)
    (qMW : PySem.W.kitOne K (.ref CM) (.ref CW) = some false)
    (qMN : PySem.W.kitOne K (.ref CM) (.ref CN) = some false)
    (qNW : PySem.W.kitOne K (.ref CN) (.ref CW) = some false)
    (qNM : PySem.W.kitOne K (.ref CN) (.ref CM) = some false)
    (dd : [P31, P32, P33].Nodup)
    (zlen : PySem.W.nsIn K mainGlobals "len" = some none)
    (zint : PySem.W.nsIn K mainGlobals "int" = some none)
    (zabs : PySem.W.nsIn K mainGlobals "abs" = some none)
    (ztuple : PySem.W.nsIn K mainGlobals "tuple" = some none)
    (zsorted : PySem.W.nsIn K mainGlobals "sorted" = some none)
    (zrange : PySem.W.nsIn K mainGlobals "range" = some none)
    (zrepr : PySem.W.nsIn K mainGlobals "repr" = some none)
    (zlist : PySem.W.nsIn K mainGlobals "list" = some none)
    (zset : PySem.W.nsIn K mainGlobals "set" = some none)
    (zisinstance : PySem.W.nsIn K mainGlobals "isinstance" = some none)
    (zstr : PySem.W.nsIn K mainGlobals "str" = some none)
    (zall : PySem.W.nsIn K mainGlobals "all" = some none)
    (zenumerate : PySem.W.nsIn K mainGlobals "enumerate" = some none)
    (ziter : PySem.W.nsIn K mainGlobals "iter" = some none)
    (zzip : PySem.W.nsIn K mainGlobals "zip" = some none)
    (zbool : PySem.W.nsIn K mainGlobals "bool" = some none)
    (zdict : PySem.W.nsIn K mainGlobals "dict" = some none) :
    LawT l w K 12 63 "_law_script" mg fa h := by
  have e := hfa.symm.trans (PySem.W.mg_of X G a34)
  cases e
  have T : Txt K mg := ⟨PySem.W.mg_none_of X G zlen, PySem.W.mg_none_of X G zint, PySem.W.mg_none_of X G zabs, PySem.W.mg_none_of X G ztuple, PySem.W.mg_none_of X G zsorted, PySem.W.mg_none_of X G zrange, PySem.W.mg_none_of X G zrepr, PySem.W.mg_none_of X G zlist, PySem.W.mg_none_of X G zset, PySem.W.mg_none_of X G zisinstance, PySem.W.mg_none_of X G zstr, PySem.W.mg_none_of X G zall, PySem.W.mg_none_of X G zenumerate, PySem.W.mg_none_of X G ziter, PySem.W.mg_none_of X G zzip, PySem.W.mg_none_of X G zbool, PySem.W.mg_none_of X G zdict, ⟨tL, PySem.W.mg_of X G aL⟩, ⟨tM, PySem.W.mg_of X G aM⟩⟩
  have TC : TxA K mg CS := ⟨⟨pgS, hdS, poS, saS⟩, nQS, PySem.W.mg_of X G aCS, haS, hn, ht, hmS⟩
  have kTT : ∀ t ∈ (["list", "tuple", "NoneType", "int"] : List String), PySem.W.kitOne K (.type t) (.ref CS) = some false := fun t ht => by
    rcases List.mem_cons.mp ht with rfl | ht
    · exact k1TS
    rcases List.mem_cons.mp ht with rfl | ht
    · exact k2TS
    rcases List.mem_cons.mp ht with rfl | ht
    · exact k3TS
    rw [List.mem_singleton.mp ht]
    exact k4TS
  have nTT : ∀ t ∈ (["list", "tuple", "NoneType", "int"] : List String), PySem.W.notFirst K CS (.type t) = true := fun t ht => by
    rcases List.mem_cons.mp ht with rfl | ht
    · exact n1TS
    rcases List.mem_cons.mp ht with rfl | ht
    · exact n2TS
    rcases List.mem_cons.mp ht with rfl | ht
    · exact n3TS
    rw [List.mem_singleton.mp ht]
    exact n4TS
  have TN : TxN K CS := ⟨kNS, kTT, nTT⟩
  have MS : Mk K CS fSI := ⟨mkS, aSI, iSI, kcS⟩
  have TE : TxE K mg CW CM CN CK := ⟨ercB_ok ebW, ercB_ok ebM, ercB_ok ebN, noW, noM, noN, PySem.W.mg_of X G aCW, PySem.W.mg_of X G aCM, PySem.W.mg_of X G aCN, PySem.W.mg_of X G aCK, teM, teN, qMN, qNM⟩
  have F1 := fun_mk (st := sIsCol) l1 c1 k1
  have b1 := F1.binds (ps := ["thing"]) fun _ _ _ _ _ _ us hl => match us, hl with | [_], _ => rfl
  have F2 := fun_mk (st := sAsc) l2 c2 k2
  have b2 := F2.binds (ps := ["things"]) fun _ _ _ _ _ _ us hl => match us, hl with | [_], _ => rfl
  have F3 := fun_mk (st := sAreCols) l3 c3 k3
  have b3 := F3.binds (ps := ["thing"]) fun _ _ _ _ _ _ us hl => match us, hl with | [_], _ => rfl
  have F4 := fun_mk (st := sIsEmpty) l4 c4 k4
  have b4 := F4.binds (ps := ["thing"]) fun _ _ _ _ _ _ us hl => match us, hl with | [_], _ => rfl
  have F5 := fun_mk (st := sIsLast) l5 c5 k5
  have b5 := F5.binds (ps := ["thing", "columns"]) fun _ _ _ _ _ _ us hl => match us, hl with | [_, _], _ => rfl
  have F6 := fun_mk (st := sIsQ) l6 c6 k6
  have b6 := F6.binds (ps := ["thing"]) fun _ _ _ _ _ _ us hl => match us, hl with | [_], _ => rfl
  have F7 := fun_mk (st := sAreQs) l7 c7 k7
  have b7 := F7.binds (ps := ["thing"]) fun _ _ _ _ _ _ us hl => match us, hl with | [_], _ => rfl
  have F8 := fun_mk (st := sRow) l8 c8 k8
  have b8 := F8.binds (ps := ["question"]) fun _ _ _ _ _ _ us hl => match us, hl with | [_], _ => rfl
  have F9 := fun_mk (st := sCols) l9 c9 k9
  have b9 := F9.binds (ps := ["question"]) fun _ _ _ _ _ _ us hl => match us, hl with | [_], _ => rfl
  have F10 := fun_mk (st := sRenQ) l10 c10 k10
  have b10 := F10.binds (ps := ["question", "names"]) fun _ _ _ _ _ _ us hl => match us, hl with | [_, _], _ => rfl
  have F11 := fun_mk (st := sBag) l11 c11 k11
  have b11 := F11.binds (ps := ["_law_script"]) fun _ _ _ _ _ _ us hl => match us, hl with | [_], _ => rfl
  have F12 := fun_mk (st := sTake) l12 c12 k12
  have b12 := F12.binds (ps := ["_law_bag_here", "_law_upto"]) fun _ _ _ _ _ _ us hl => match us, hl with | [_, _], _ => rfl
  have F13 := fun_mk (st := sOne) l13 c13 k13
  have b13 := F13.binds (ps := ["_law_bag_here", "_law_some"]) fun _ _ _ _ _ _ us hl => match us, hl with | [_, _], _ => rfl
  have F14 := fun_mk (st := sMixed) l14 c14 k14
  have b14 := F14.binds (ps := ["_law_bag_here", "_law_things"]) fun _ _ _ _ _ _ us hl => match us, hl with | [_, _], _ => rfl
  have F15 := fun_mk (st := sAlike) l15 c15 k15
  have b15 := F15.binds (ps := ["_law_found", "_law_due_here"]) fun _ _ _ _ _ _ us hl => match us, hl with | [_, _], _ => rfl
  have F16 := fun_mk (st := sTruth) l16 c16 k16
  have b16 := F16.binds (ps := ["_law_told_here", "_law_due_here"]) fun _ _ _ _ _ _ us hl => match us, hl with | [_, _], _ => rfl
  have F17 := fun_mk (st := sNames) l17 c17 k17
  have b17 := F17.binds (ps := ["_law_bag_here", "_law_many"]) fun _ _ _ _ _ _ us hl => match us, hl with | [_, _], _ => rfl
  have F18 := fun_mk (st := sQOf) l18 c18 k18
  have b18 := F18.binds (ps := ["_law_bag_here", "_law_row"]) fun _ _ _ _ _ _ us hl => match us, hl with | [_, _], _ => rfl
  have F19 := fun_mk (st := sQuestions) l19 c19 k19
  have b19 := F19.binds (ps := ["_law_bag_here", "_law_names_here", "_law_many"]) fun _ _ _ _ _ _ us hl => match us, hl with | [_, _, _], _ => rfl
  have F20 := fun_mk (st := sLAll) l20 c20 k20
  have b20 := F20.binds (ps := ["_law_question"]) fun _ _ _ _ _ _ us hl => match us, hl with | [_], _ => rfl
  have F21 := fun_mk (st := sLCols) l21 c21 k21
  have b21 := F21.binds (ps := ["_law_questions_here"]) fun _ _ _ _ _ _ us hl => match us, hl with | [_], _ => rfl
  have F22 := fun_mk (st := sEvery) l22 c22 k22
  have b22 := F22.binds (ps := ["_law_names_here"]) fun _ _ _ _ _ _ us hl => match us, hl with | [_], _ => rfl
  have F23 := fun_mk (st := sLIsCol) l23 c23 k23
  have b23 := F23.binds (ps := ["_law_thing"]) fun _ _ _ _ _ _ us hl => match us, hl with | [_], _ => rfl
  have F24 := fun_mk (st := sLAreCols) l24 c24 k24
  have b24 := F24.binds (ps := ["_law_thing"]) fun _ _ _ _ _ _ us hl => match us, hl with | [_], _ => rfl
  have F25 := fun_mk (st := sLIsQ) l25 c25 k25
  have b25 := F25.binds (ps := ["_law_thing"]) fun _ _ _ _ _ _ us hl => match us, hl with | [_], _ => rfl
  have F26 := fun_mk (st := sOdd) l26 c26 k26
  have b26 := F26.binds (ps := ["_law_bag_here"]) fun _ _ _ _ _ _ us hl => match us, hl with | [_], _ => rfl
  have F27 := fun_mk (st := sBent) l27 c27 k27
  have b27 := F27.binds (ps := ["_law_bag_here", "_law_thing"]) fun _ _ _ _ _ _ us hl => match us, hl with | [_, _], _ => rfl
  have F28 := fun_mk (st := sTold) l28 c28 k28
  have b28 := F28.binds (ps := ["_law_act"]) fun _ _ _ _ _ _ us hl => match us, hl with | [_], _ => rfl
  have F29 := fun_mk (st := sDue) l29 c29 k29
  have b29 := F29.binds (ps := ["_law_some"]) fun _ _ _ _ _ _ us hl => match us, hl with | [_], _ => rfl
  have F30 := fun_mk (st := sTwo) l30 c30 k30
  have b30 := F30.binds (ps := ["_law_bag_here"]) fun _ _ _ _ _ _ us hl => match us, hl with | [_], _ => rfl
  have F31 : FunC K "_law_sums_right" "_law_sums_right" sSums _ _ cc31 := ⟨⟨_, _, _, _, _, _, _, _, rfl, l31, c31⟩, k31⟩
  have b31 := F31.fn.binds (ps := ["_law_one_here", "_law_other", "_law_first", "_law_second"]) fun _ _ _ _ _ _ us hl => match us, hl with | [_, _, _, _], _ => rfl
  have F32 : FunC K "_law_singles_right" "_law_singles_right" sSingles _ _ cc32 := ⟨⟨_, _, _, _, _, _, _, _, rfl, l32, c32⟩, k32⟩
  have b32 := F32.fn.binds (ps := ["_law_bag_here", "_law_one_here", "_law_first"]) fun _ _ _ _ _ _ us hl => match us, hl with | [_, _, _], _ => rfl
  have F33 : FunC K "_law_renamed_right" "_law_renamed_right" sRenR _ _ cc33 := ⟨⟨_, _, _, _, _, _, _, _, rfl, l33, c33⟩, k33⟩
  have b33 := F33.fn.binds (ps := ["_law_bag_here", "_law_one_here", "_law_first"]) fun _ _ _ _ _ _ us hl => match us, hl with | [_, _, _], _ => rfl
  have F34 := fun_mk (st := sLaw) l34 c34 k34
  have b34 := F34.binds (ps := ["_law_script"]) fun _ _ _ _ _ _ us hl => match us, hl with | [_], _ => rfl
  have FSI := fun_mk (st := sAInit) lSI cSI kSI
  have bSI := FSI.binds (ps := ["self", "questions"]) fun _ _ _ _ _ _ us hl => match us, hl with | [_, _], _ => rfl
  have FSE := fun_mk (st := sAEq) lSE cSE kSE
  have bSE := FSE.binds (ps := ["self", "other"]) fun _ _ _ _ _ _ us hl => match us, hl with | [_, _], _ => rfl
  have FSO := fun_mk (st := sAOr) lSO cSO kSO
  have bSO := FSO.binds (ps := ["self", "other"]) fun _ _ _ _ _ _ us hl => match us, hl with | [_, _], _ => rfl
  have FSA := fun_mk (st := sAAnd) lSA cSA kSA
  have bSA := FSA.binds (ps := ["self", "other"]) fun _ _ _ _ _ _ us hl => match us, hl with | [_, _], _ => rfl
  have FSS := fun_mk (st := sASub) lSS cSS kSS
  have bSS := FSS.binds (ps := ["self", "other"]) fun _ _ _ _ _ _ us hl => match us, hl with | [_, _], _ => rfl
  have FSL := fun_mk (st := sALen) lSL cSL kSL
  have bSL := FSL.binds (ps := ["self"]) fun _ _ _ _ _ _ us hl => match us, hl with | [_], _ => rfl
  have FSN := fun_mk (st := sAIn) lSN cSN kSN
  have bSN := FSN.binds (ps := ["self", "x"]) fun _ _ _ _ _ _ us hl => match us, hl with | [_, _], _ => rfl
  have FST := fun_mk (st := sAIter) lST cST kST
  have bST := FST.binds (ps := ["self"]) fun _ _ _ _ _ _ us hl => match us, hl with | [_], _ => rfl
  have FSQ := fun_mk (st := sAQns) lSQ cSQ kSQ
  have bSQ := FSQ.binds (ps := ["self"]) fun _ _ _ _ _ _ us hl => match us, hl with | [_], _ => rfl
  have FSC := fun_mk (st := sColumns) lSC cSC kSC
  have bSC := FSC.binds (ps := ["self"]) fun _ _ _ _ _ _ us hl => match us, hl with | [_], _ => rfl
  have FSD := fun_mk (st := sAWithin) lSD cSD kSD
  have bSD := FSD.binds (ps := ["self", "other"]) fun _ _ _ _ _ _ us hl => match us, hl with | [_, _], _ => rfl
  have FSX := fun_mk (st := sAWith) lSX cSX kSX
  have bSX := FSX.binds (ps := ["self", "question"]) fun _ _ _ _ _ _ us hl => match us, hl with | [_, _], _ => rfl
  have FSW := fun_mk (st := sAWithout) lSW cSW kSW
  have bSW := FSW.binds (ps := ["self", "question"]) fun _ _ _ _ _ _ us hl => match us, hl with | [_, _], _ => rfl
  have FSR := fun_mk (st := sARen) lSR cSR kSR
  have bSR := FSR.binds (ps := ["self", "names"]) fun _ _ _ _ _ _ us hl => match us, hl with | [_, _], _ => rfl
  have FEW := fun_mk (st := sWInit) lEW cEW kEW
  have bEW := FEW.binds (ps := ["self", "place"]) fun _ _ _ _ _ _ us hl => match us, hl with | [_, _], _ => rfl
  have FEM := fun_mk (st := sMInit) lEM cEM kEM
  have bEM := FEM.binds (ps := ["self", "limit"]) fun _ _ _ _ _ _ us hl => match us, hl with | [_, _], _ => rfl
  have FEN := fun_mk (st := sNInit) lEN cEN kEN
  have bEN := FEN.binds (ps := ["self", "question"]) fun _ _ _ _ _ _ us hl => match us, hl with | [_, _], _ => rfl
  have hTabs : ∀ q ∈ [(cc31, P31), (cc32, P32), (cc33, P33)], h.get? q.2 = some freshTab := fun q hq => by
    rcases List.mem_cons.mp hq with rfl | hq
    · exact t31
    rcases List.mem_cons.mp hq with rfl | hq
    · exact t32
    rw [List.mem_singleton.mp hq]
    exact t33
  have hTabK : ∀ q ∈ [(cc31, P31), (cc32, P32), (cc33, P33)], K.lookup q.2 = none := fun q hq => by
    rcases List.mem_cons.mp hq with rfl | hq
    · exact n31
    rcases List.mem_cons.mp hq with rfl | hq
    · exact n32
    rw [List.mem_singleton.mp hq]
    exact n33
  have hCode : ∀ q ∈ [(cc31, P31), (cc32, P32), (cc33, P33)], PySem.W.CodeHd h q.1 q.2 := fun q hq => by
    rcases List.mem_cons.mp hq with rfl | hq
    · exact PySem.W.codeHd_of_K X h31
    rcases List.mem_cons.mp hq with rfl | hq
    · exact PySem.W.codeHd_of_K X h32
    rw [List.mem_singleton.mp hq]
    exact PySem.W.codeHd_of_K X h33
  refine ⟨PySem.W.fnOf "law" "law" (defArgs sLaw) (defBody sLaw) (defScope sLaw) .none kV34 dc34 pm34 an34 cd34 ct34, [(cc31, P31), (cc32, P32), (cc33, P33)], spLaw K [(P31, ("_law_sums_right" : Str) ++ ".<locals>." ++ "<lambda>"), (P32, ("_law_singles_right" : Str) ++ ".<locals>." ++ "<lambda>"), (P33, ("_law_renamed_right" : Str) ++ ".<locals>." ++ "<lambda>")], hTabs, hTabK, hCode, fun s v => .of_eq rfl, fun H a ns hl hT hS => ⟨a, ns, rfl, hS, hl, ?_, fun _ => rfl⟩, fun base _ _ hTB => ?_⟩
  · intro q hq
    rcases List.mem_cons.mp hq with rfl | hq
    · exact LamX.TabS.nil (hT (cc31, P31) (by simp))
    rcases List.mem_cons.mp hq with rfl | hq
    · exact LamX.TabS.nil (hT (cc32, P32) (by simp))
    rw [List.mem_singleton.mp hq]
    exact LamX.TabS.nil (hT (cc33, P33) (by simp))
  · let Tb : List (Addr × Str) := [(P31, ("_law_sums_right" : Str) ++ ".<locals>." ++ "<lambda>"), (P32, ("_law_singles_right" : Str) ++ ".<locals>." ++ "<lambda>"), (P33, ("_law_renamed_right" : Str) ++ ".<locals>." ++ "<lambda>")]
    have und : (Tb.map Prod.fst).Nodup := dd
    have ML31 : MkL base mg Tb "_law_sums_right" cc31 P31 := ⟨hTB (cc31, P31) (by simp), by simp [Tb], un_of und (by simp [Tb])⟩
    have ML32 : MkL base mg Tb "_law_singles_right" cc32 P32 := ⟨hTB (cc32, P32) (by simp), by simp [Tb], un_of und (by simp [Tb])⟩
    have ML33 : MkL base mg Tb "_law_renamed_right" cc33 P33 := ⟨hTB (cc33, P33) (by simp), by simp [Tb], un_of und (by simp [Tb])⟩
    have TF : ToldF K mg := ⟨f28, _, _, _, _, _, _, _, _, _, _, PySem.W.mg_of X G a28, k28, l28, c28, b28⟩
    let c_1 : Cal l.prog w K mg base 1 "is_column" ["thing"] (spTx K colS) := ⟨_, _, ok_iscolA F1 T, PySem.W.mg_of X G a1, k1, b1⟩
    let c_2 : Cal l.prog w K mg base 1 "is_ascending" ["things"] (spAscA) := ⟨_, _, ok_ascA F2 T, PySem.W.mg_of X G a2, k2, b2⟩
    let c_3 : Cal l.prog w K mg base 2 "are_columns" ["thing"] (spCv) := ⟨_, _, ok_arecolsA F3 T c_1 c_2, PySem.W.mg_of X G a3, k3, b3⟩
    let c_4 : Cal l.prog w K mg base 1 "is_empty" ["thing"] (spTx K fun z => decide (z = "")) := ⟨_, _, ok_isemptyA F4 T, PySem.W.mg_of X G a4, k4, b4⟩
    let c_5 : Cal l.prog w K mg base 2 "is_last" ["thing", "columns"] (spLastA K) := ⟨_, _, ok_islastA F5 T c_1 c_4, PySem.W.mg_of X G a5, k5, b5⟩
    let c_6 : Cal l.prog w K mg base 3 "is_question" ["thing"] (spIsQX CS) := ⟨_, _, FnOk.or (ok_isqA F6 T c_3 c_5) (ok_isqN F6 T TC TN c_3 c_5), PySem.W.mg_of X G a6, k6, b6⟩
    let c_7 : Cal l.prog w K mg base 4 "are_questions" ["thing"] (spAreQsV K CS) := ⟨_, _, ok_areqsV F7 T c_6, PySem.W.mg_of X G a7, k7, b7⟩
    let c_8 : Cal l.prog w K mg base 1 "row_of" ["question"] (spRow) := ⟨_, _, ok_row F8 T, PySem.W.mg_of X G a8, k8, b8⟩
    let c_9 : Cal l.prog w K mg base 2 "columns_of" ["question"] (spCols) := ⟨_, _, ok_cols F9 T c_8, PySem.W.mg_of X G a9, k9, b9⟩
    have gEW : FnOk l.prog w K mg base CX0 1 fEW _ ["self", "place"] (spInitE K "place") := ok_winit FEW
    have gEM : FnOk l.prog w K mg base CX0 1 fEM _ ["self", "limit"] (spInitE K "limit") := ok_minit FEM
    have gEN : FnOk l.prog w K mg base CX0 1 fEN _ ["self", "question"] (spInitE K "question") := ok_ninit FEN
    have gSI : FnOk l.prog w K mg base (L2.CX l.prog w) 5 fSI _ ["self", "questions"] (spAInitE CS CM) := ok_ainitE FSI T TC TE aEW tEW gEW bEW aEM tEM gEM bEM c_7
    have gSN : FnOk l.prog w K mg base CX0 4 fSN _ ["self", "x"] (spAIn CS) := ok_ain FSN T TC c_6
    have gST : FnS l.prog w K mg base 1 fST _ ["self"] (spIterF CS "_questions") := ok_aitr FST T TC
    let c_10 : Cal l.prog w K mg base 1 "renamed_question" ["question", "names"] (spRenQ) := ⟨_, _, ok_renq F10 T, PySem.W.mg_of X G a10, k10, b10⟩
    have SC : SA l.prog w K mg base CS CW CM CN CK := ⟨TC, TN, TE, fSI, fSE, fSO, fSA, fSS, fSL, fSN, fST, fSQ, fSC, fSD, fSX, fSW, fSR, _, _, _, _, _, _, (PySem.W.fnOf "__contains__" "Asked.__contains__" (defArgs sAIn) (defBody sAIn) (defScope sAIn) .none kVSN dcSN pmSN anSN cdSN ctSN), _, _, _, _, _, _, _, MS, gSI, bSI, ⟨aSE, iSE, enS, eoS⟩, ok_aeq FSE T TC, bSE, nfS, ⟨sfS, aSO, iSO⟩, ok_aor FSO T TC MS gSI bSI, bSO, ⟨sfS, aSA, iSA⟩, ok_aand FSA T TC MS gSI bSI, bSA, ⟨sfS, aSS, iSS⟩, ok_asub FSS T TC MS gSI bSI, bSS, ⟨aSL, iSL⟩, ok_alen FSL T TC, bSL, ⟨aST, iST⟩, gST, bST, ⟨aSQ, iSQ, kSQ⟩, ok_aqns FSQ T TC, bSQ, ⟨aSC, iSC, kSC⟩, ok_columns FSC T TC c_9, bSC, ⟨aSD, iSD, kSD⟩, ok_awithin FSD T TC ⟨aSN, iSN⟩ gSN bSN, bSD, ⟨aSX, iSX, kSX⟩, ok_awith FSX T TC MS gSI bSI, bSX, ⟨aSW, iSW, kSW⟩, ok_awithoutE FSW T TC TE MS gSI bSI ⟨aSN, iSN⟩ gSN bSN aEN tEN gEN bEN, bSW, ⟨aSR, iSR, kSR⟩, ok_arenE FSR T TC MS gSI bSI c_10, bSR⟩
    let c_11 : Cal l.prog w K mg base 1 "_law_bag" ["_law_script"] (spBag K) := ⟨_, _, ok_bag F11 T, PySem.W.mg_of X G a11, k11, b11⟩
    let c_12 : Cal l.prog w K mg base 1 "_law_take" ["_law_bag_here", "_law_upto"] (spTake) := ⟨_, _, ok_take F12 T, PySem.W.mg_of X G a12, k12, b12⟩
    let c_13 : Cal l.prog w K mg base 2 "_law_one" ["_law_bag_here", "_law_some"] (spOne) := ⟨_, _, ok_one F13 T c_12, PySem.W.mg_of X G a13, k13, b13⟩
    let c_14 : Cal l.prog w K mg base 2 "_law_mixed" ["_law_bag_here", "_law_things"] (spMixed) := ⟨_, _, ok_mixed F14 T c_12, PySem.W.mg_of X G a14, k14, b14⟩
    let c_15 : CalG l.prog w K mg base 1 "_law_alike" ["_law_found", "_law_due_here"] (spAlikeX K) := ⟨_, _, FnG.or (ok_alike F15 T) (ok_alikeT F15 T), PySem.W.mg_of X G a15, k15, b15⟩
    let c_16 : Cal l.prog w K mg base 1 "_law_truth" ["_law_told_here", "_law_due_here"] (spTruth) := ⟨_, _, ok_truth F16 T, PySem.W.mg_of X G a16, k16, b16⟩
    let c_17 : Cal l.prog w K mg base 2 "_law_names" ["_law_bag_here", "_law_many"] (spNamesN) := ⟨_, _, ok_namesN F17 T c_12, PySem.W.mg_of X G a17, k17, b17⟩
    let c_18 : Cal l.prog w K mg base 2 "_law_question_of" ["_law_bag_here", "_law_row"] (spQOf) := ⟨_, _, ok_qOf F18 T c_12, PySem.W.mg_of X G a18, k18, b18⟩
    let c_19 : Cal l.prog w K mg base 3 "_law_questions" ["_law_bag_here", "_law_names_here", "_law_many"] (spQuestionsN) := ⟨_, _, ok_questionsN F19 T c_12 c_13 c_14 c_18, PySem.W.mg_of X G a19, k19, b19⟩
    let c_20 : Cal l.prog w K mg base 1 "_law_all" ["_law_question"] (spLAll) := ⟨_, _, ok_lall F20 T, PySem.W.mg_of X G a20, k20, b20⟩
    let c_21 : Cal l.prog w K mg base 2 "_law_columns" ["_law_questions_here"] (spLCols) := ⟨_, _, ok_lcols F21 T c_20, PySem.W.mg_of X G a21, k21, b21⟩
    let c_22 : Cal l.prog w K mg base 1 "_law_every" ["_law_names_here"] (spEvery) := ⟨_, _, ok_every F22 T, PySem.W.mg_of X G a22, k22, b22⟩
    let c_23 : Cal l.prog w K mg base 1 "_law_is_column" ["_law_thing"] (spTx K colS) := ⟨_, _, ok_liscol F23 T, PySem.W.mg_of X G a23, k23, b23⟩
    let c_24 : Cal l.prog w K mg base 2 "_law_are_columns" ["_law_thing"] (spCv) := ⟨_, _, ok_larecols F24 T c_23, PySem.W.mg_of X G a24, k24, b24⟩
    let c_25 : Cal l.prog w K mg base 3 "_law_is_question" ["_law_thing"] (spQv) := ⟨_, _, ok_lisq F25 T c_23 c_24, PySem.W.mg_of X G a25, k25, b25⟩
    let c_26 : Cal l.prog w K mg base 3 "_law_odd" ["_law_bag_here"] (spOddW) := ⟨_, _, ok_oddW F26 T c_13, PySem.W.mg_of X G a26, k26, b26⟩
    let c_27 : Cal l.prog w K mg base 6 "_law_bent" ["_law_bag_here", "_law_thing"] (spBentW 2) := ⟨_, _, ok_bentW F27 T c_12 c_26 (PySem.W.mg_of X G a27) k27 b27 2, PySem.W.mg_of X G a27, k27, b27⟩
    let c_29 : Cal l.prog w K mg base 3 "_law_due" ["_law_some"] (spDue K) := ⟨_, _, ok_due F29 T c_21, PySem.W.mg_of X G a29, k29, b29⟩
    let c_30 : Cal l.prog w K mg base 4 "_law_two" ["_law_bag_here"] (spTwoQ) := ⟨_, _, ok_two F30 T c_12 c_13 c_14 c_17 c_19 c_22, PySem.W.mg_of X G a30, k30, b30⟩
    let c_31 : CalG l.prog w K mg base 11 "_law_sums_right" ["_law_one_here", "_law_other", "_law_first", "_law_second"] (spSums Tb CS) := ⟨_, _, ok_sums F31 T SC TF ML31 c_16 c_29 c_15, PySem.W.mg_of X G a31, k31, b31⟩
    let c_32 : CalG l.prog w K mg base 11 "_law_singles_right" ["_law_bag_here", "_law_one_here", "_law_first"] (spSing Tb CS) := ⟨_, _, ok_singles F32 T SC TF ML32 c_14 c_17 c_18 c_26 c_27 c_25 c_29 c_15, PySem.W.mg_of X G a32, k32, b32⟩
    let c_33 : CalG l.prog w K mg base 11 "_law_renamed_right" ["_law_bag_here", "_law_one_here", "_law_first"] (spRenR Tb CS) := ⟨_, _, ok_renr F33 T SC TF ML33 c_14 c_17 c_21 c_29 c_15, PySem.W.mg_of X G a33, k33, b33⟩
    exact ok_law F34 T SC c_11 c_12 c_21 c_30 c_15 c_31 c_32 c_33
end Qk
open PySem PySem.W PyProof.Rows
set_option maxRecDepth 100000 in
set_option maxHeartbeats 0 in
theorem PySem.Challenge.cw_narrowkeys_k22_asked_put_together_holds : PySem.Challenge.rw_narrowkeys_k22_asked_put_together.Holds := by
  w_on; o_law; k_head; (case hw => w_witness2)
  k_fill
  refine Qk.walk_gT (l := PySem.Challenge.rw_narrowkeys_k22_asked_put_together) (n := 63) (k := 12) (x := "_law_script") rfl (by decide) rfl ⟨rfl, by decide, by decide⟩ (fun w h Y => PySem.W.km_in_of Y) ?F
  case F =>
    intro w mg fa h Y KX G hmg
    refine' Qk.all_mk KX G hmg ?a1 ?l1 ?c1 ?k1 ?a2 ?l2 ?c2 ?k2 ?a3 ?l3 ?c3 ?k3 ?a4 ?l4 ?c4 ?k4 ?a5 ?l5 ?c5 ?k5 ?a6 ?l6 ?c6 ?k6 ?a7 ?l7 ?c7 ?k7 ?a8 ?l8 ?c8 ?k8 ?a9 ?l9 ?c9 ?k9 ?a10 ?l10 ?c10 ?k10 ?a11 ?l11 ?c11 ?k11 ?a12 ?l12 ?c12 ?k12 ?a13 ?l13 ?c13 ?k13 ?a14 ?l14 ?c14 ?k14 ?a15 ?l15 ?c15 ?k15 ?a16 ?l16 ?c16 ?k16 ?a17 ?l17 ?c17 ?k17 ?a18 ?l18 ?c18 ?k18 ?a19 ?l19 ?c19 ?k19 ?a20 ?l20 ?c20 ?k20 ?a21 ?l21 ?c21 ?k21 ?a22 ?l22 ?c22 ?k22 ?a23 ?l23 ?c23 ?k23 ?a24 ?l24 ?c24 ?k24 ?a25 ?l25 ?c25 ?k25 ?a26 ?l26 ?c26 ?k26 ?a27 ?l27 ?c27 ?k27 ?a28 ?l28 ?c28 ?k28 ?a29 ?l29 ?c29 ?k29 ?a30 ?l30 ?c30 ?k30 ?a31 ?l31 ?c31 ?k31 ?v31 ?w31 ?h31 ?n31 ?t31 ?a32 ?l32 ?c32 ?k32 ?v32 ?w32 ?h32 ?n32 ?t32 ?a33 ?l33 ?c33 ?k33 ?v33 ?w33 ?h33 ?n33 ?t33 ?a34 ?l34 ?c34 ?k34 ?aL ?aM ?hn ?ht ?aCS ?aSI ?lSI ?cSI ?kSI ?iSI ?aSE ?lSE ?cSE ?kSE ?iSE ?aSO ?lSO ?cSO ?kSO ?iSO ?aSA ?lSA ?cSA ?kSA ?iSA ?aSS ?lSS ?cSS ?kSS ?iSS ?aSL ?lSL ?cSL ?kSL ?iSL ?aSN ?lSN ?cSN ?kSN ?iSN ?aST ?lST ?cST ?kST ?iST ?aSQ ?lSQ ?cSQ ?kSQ ?iSQ ?aSC ?lSC ?cSC ?kSC ?iSC ?aSD ?lSD ?cSD ?kSD ?iSD ?aSX ?lSX ?cSX ?kSX ?iSX ?aSW ?lSW ?cSW ?kSW ?iSW ?aSR ?lSR ?cSR ?kSR ?iSR ?sfS ?pgS ?hdS ?poS ?saS ?mkS ?kcS ?nQS ?haS ?hmS ?enS ?eoS ?nfS ?kNS ?k1TS ?k2TS ?k3TS ?k4TS ?n1TS ?n2TS ?n3TS ?n4TS ?aCK ?aCW ?aEW ?lEW ?cEW ?kEW ?tEW ?ebW ?noW ?teW ?aCM ?aEM ?lEM ?cEM ?kEM ?tEM ?ebM ?noM ?teM ?aCN ?aEN ?lEN ?cEN ?kEN ?tEN ?ebN ?noN ?teN ?qWM ?qWN ?qMW ?qMN ?qNW ?qNM ?dd ?zlen ?zint ?zabs ?ztuple ?zsorted ?zrange ?zrepr ?zlist ?zset ?zisinstance ?zstr ?zall ?zenumerate ?ziter ?zzip ?zbool ?zdict
    (case a1 => first | k_is | rfl)
    (case l1 => first | k_is | rfl)
    (case c1 => first | k_is | rfl)
    (case k1 => first | k_is | rfl)
    (case a2 => first | k_is | rfl)
    (case l2 => first | k_is | rfl)
    (case c2 => first | k_is | rfl)
    (case k2 => first | k_is | rfl)
    (case a3 => first | k_is | rfl)
    (case l3 => first | k_is | rfl)
    (case c3 => first | k_is | rfl)
    (case k3 => first | k_is | rfl)
    (case a4 => first | k_is | rfl)
    (case l4 => first | k_is | rfl)
    (case c4 => first | k_is | rfl)
    (case k4 => first | k_is | rfl)
    (case a5 => first | k_is | rfl)
    (case l5 => first | k_is | rfl)
    (case c5 => first | k_is | rfl)
    (case k5 => first | k_is | rfl)
    (case a6 => first | k_is | rfl)
    (case l6 => first | k_is | rfl)
    (case c6 => first | k_is | rfl)
    (case k6 => first | k_is | rfl)
    (case a7 => first | k_is | rfl)
    (case l7 => first | k_is | rfl)
    (case c7 => first | k_is | rfl)
    (case k7 => first | k_is | rfl)
    (case a8 => first | k_is | rfl)
    (case l8 => first | k_is | rfl)
    (case c8 => first | k_is | rfl)
    (case k8 => first | k_is | rfl)
    (case a9 => first | k_is | rfl)
    (case l9 => first | k_is | rfl)
    (case c9 => first | k_is | rfl)
    (case k9 => first | k_is | rfl)
    (case a10 => first | k_is | rfl)
    (case l10 => first | k_is | rfl)
    (case c10 => first | k_is | rfl)
    (case k10 => first | k_is | rfl)
    (case a11 => first | k_is | rfl)
    (case l11 => first | k_is | rfl)
    (case c11 => first | k_is | rfl)
    (case k11 => first | k_is | rfl)
    (case a12 => first | k_is | rfl)
    (case l12 => first | k_is | rfl)
    (case c12 => first | k_is | rfl)
    (case k12 => first | k_is | rfl)
    (case a13 => first | k_is | rfl)
    (case l13 => first | k_is | rfl)
    (case c13 => first | k_is | rfl)
    (case k13 => first | k_is | rfl)
    (case a14 => first | k_is | rfl)
    (case l14 => first | k_is | rfl)
    (case c14 => first | k_is | rfl)
    (case k14 => first | k_is | rfl)
    (case a15 => first | k_is | rfl)
    (case l15 => first | k_is | rfl)
    (case c15 => first | k_is | rfl)
    (case k15 => first | k_is | rfl)
    (case a16 => first | k_is | rfl)
    (case l16 => first | k_is | rfl)
    (case c16 => first | k_is | rfl)
    (case k16 => first | k_is | rfl)
    (case a17 => first | k_is | rfl)
    (case l17 => first | k_is | rfl)
    (case c17 => first | k_is | rfl)
    (case k17 => first | k_is | rfl)
    (case a18 => first | k_is | rfl)
    (case l18 => first | k_is | rfl)
    (case c18 => first | k_is | rfl)
    (case k18 => first | k_is | rfl)
    (case a19 => first | k_is | rfl)
    (case l19 => first | k_is | rfl)
    (case c19 => first | k_is | rfl)
    (case k19 => first | k_is | rfl)
    (case a20 => first | k_is | rfl)
    (case l20 => first | k_is | rfl)
    (case c20 => first | k_is | rfl)
    (case k20 => first | k_is | rfl)
    (case a21 => first | k_is | rfl)
    (case l21 => first | k_is | rfl)
    (case c21 => first | k_is | rfl)
    (case k21 => first | k_is | rfl)
    (case a22 => first | k_is | rfl)
    (case l22 => first | k_is | rfl)
    (case c22 => first | k_is | rfl)
    (case k22 => first | k_is | rfl)
    (case a23 => first | k_is | rfl)
    (case l23 => first | k_is | rfl)
    (case c23 => first | k_is | rfl)
    (case k23 => first | k_is | rfl)
    (case a24 => first | k_is | rfl)
    (case l24 => first | k_is | rfl)
    (case c24 => first | k_is | rfl)
    (case k24 => first | k_is | rfl)
    (case a25 => first | k_is | rfl)
    (case l25 => first | k_is | rfl)
    (case c25 => first | k_is | rfl)
    (case k25 => first | k_is | rfl)
    (case a26 => first | k_is | rfl)
    (case l26 => first | k_is | rfl)
    (case c26 => first | k_is | rfl)
    (case k26 => first | k_is | rfl)
    (case a27 => first | k_is | rfl)
    (case l27 => first | k_is | rfl)
    (case c27 => first | k_is | rfl)
    (case k27 => first | k_is | rfl)
    (case a28 => first | k_is | rfl)
    (case l28 => first | k_is | rfl)
    (case c28 => first | k_is | rfl)
    (case k28 => first | k_is | rfl)
    (case a29 => first | k_is | rfl)
    (case l29 => first | k_is | rfl)
    (case c29 => first | k_is | rfl)
    (case k29 => first | k_is | rfl)
    (case a30 => first | k_is | rfl)
    (case l30 => first | k_is | rfl)
    (case c30 => first | k_is | rfl)
    (case k30 => first | k_is | rfl)
    (case a31 => first | k_is | rfl)
    (case l31 => first | k_is | rfl)
    (case c31 => first | k_is | rfl)
    (case k31 => first | k_is | rfl)
    (case v31 => first | k_is | rfl)
    (case w31 => rfl)
    (case h31 => first | k_is | rfl)
    (case n31 => first | k_is | rfl)
    (case t31 => exact PySem.W.km_tabs_of Y _ (by k_mem))
    (case a32 => first | k_is | rfl)
    (case l32 => first | k_is | rfl)
    (case c32 => first | k_is | rfl)
    (case k32 => first | k_is | rfl)
    (case v32 => first | k_is | rfl)
    (case w32 => rfl)
    (case h32 => first | k_is | rfl)
    (case n32 => first | k_is | rfl)
    (case t32 => exact PySem.W.km_tabs_of Y _ (by k_mem))
    (case a33 => first | k_is | rfl)
    (case l33 => first | k_is | rfl)
    (case c33 => first | k_is | rfl)
    (case k33 => first | k_is | rfl)
    (case v33 => first | k_is | rfl)
    (case w33 => rfl)
    (case h33 => first | k_is | rfl)
    (case n33 => first | k_is | rfl)
    (case t33 => exact PySem.W.km_tabs_of Y _ (by k_mem))
    (case a34 => first | k_is | rfl)
    (case l34 => first | k_is | rfl)
    (case c34 => first | k_is | rfl)
    (case k34 => first | k_is | rfl)
    (case aL => first | k_is | rfl)
    (case aM => first | k_is | rfl)
    (case hn => first | k_is | rfl)
    (case ht => first | k_is | rfl)
    (case aCS => first | k_is | rfl)
    (case aSI => first | k_is | rfl)
    (case lSI => first | k_is | rfl)
    (case cSI => first | k_is | rfl)
    (case kSI => first | k_is | rfl)
    (case iSI => first | k_is | rfl)
    (case aSE => first | k_is | rfl)
    (case lSE => first | k_is | rfl)
    (case cSE => first | k_is | rfl)
    (case kSE => first | k_is | rfl)
    (case iSE => first | k_is | rfl)
    (case aSO => first | k_is | rfl)
    (case lSO => first | k_is | rfl)
    (case cSO => first | k_is | rfl)
    (case kSO => first | k_is | rfl)
    (case iSO => first | k_is | rfl)
    (case aSA => first | k_is | rfl)
    (case lSA => first | k_is | rfl)
    (case cSA => first | k_is | rfl)
    (case kSA => first | k_is | rfl)
    (case iSA => first | k_is | rfl)
    (case aSS => first | k_is | rfl)
    (case lSS => first | k_is | rfl)
    (case cSS => first | k_is | rfl)
    (case kSS => first | k_is | rfl)
    (case iSS => first | k_is | rfl)
    (case aSL => first | k_is | rfl)
    (case lSL => first | k_is | rfl)
    (case cSL => first | k_is | rfl)
    (case kSL => first | k_is | rfl)
    (case iSL => first | k_is | rfl)
    (case aSN => first | k_is | rfl)
    (case lSN => first | k_is | rfl)
    (case cSN => first | k_is | rfl)
    (case kSN => first | k_is | rfl)
    (case iSN => first | k_is | rfl)
    (case aST => first | k_is | rfl)
    (case lST => first | k_is | rfl)
    (case cST => first | k_is | rfl)
    (case kST => first | k_is | rfl)
    (case iST => first | k_is | rfl)
    (case aSQ => first | k_is | rfl)
    (case lSQ => first | k_is | rfl)
    (case cSQ => first | k_is | rfl)
    (case kSQ => first | k_is | rfl)
    (case iSQ => first | k_is | rfl)
    (case aSC => first | k_is | rfl)
    (case lSC => first | k_is | rfl)
    (case cSC => first | k_is | rfl)
    (case kSC => first | k_is | rfl)
    (case iSC => first | k_is | rfl)
    (case aSD => first | k_is | rfl)
    (case lSD => first | k_is | rfl)
    (case cSD => first | k_is | rfl)
    (case kSD => first | k_is | rfl)
    (case iSD => first | k_is | rfl)
    (case aSX => first | k_is | rfl)
    (case lSX => first | k_is | rfl)
    (case cSX => first | k_is | rfl)
    (case kSX => first | k_is | rfl)
    (case iSX => first | k_is | rfl)
    (case aSW => first | k_is | rfl)
    (case lSW => first | k_is | rfl)
    (case cSW => first | k_is | rfl)
    (case kSW => first | k_is | rfl)
    (case iSW => first | k_is | rfl)
    (case aSR => first | k_is | rfl)
    (case lSR => first | k_is | rfl)
    (case cSR => first | k_is | rfl)
    (case kSR => first | k_is | rfl)
    (case iSR => first | k_is | rfl)
    (case sfS => first | k_is | rfl)
    (case pgS => first | k_is | rfl)
    (case hdS => first | k_is | rfl)
    (case poS => first | k_is | rfl)
    (case saS => first | k_is | rfl)
    (case mkS => first | k_is | rfl)
    (case kcS => first | k_is | rfl)
    (case nQS => first | k_is | rfl)
    (case haS => first | k_is | rfl)
    (case hmS => first | k_is | rfl)
    (case enS => first | k_is | rfl)
    (case eoS => first | k_is | rfl)
    (case nfS => first | k_is | rfl)
    (case kNS => first | k_is | rfl)
    (case k1TS => first | k_is | rfl)
    (case k2TS => first | k_is | rfl)
    (case k3TS => first | k_is | rfl)
    (case k4TS => first | k_is | rfl)
    (case n1TS => first | k_is | rfl)
    (case n2TS => first | k_is | rfl)
    (case n3TS => first | k_is | rfl)
    (case n4TS => first | k_is | rfl)
    (case aCK => first | k_is | rfl)
    (case aCW => first | k_is | rfl)
    (case aEW => first | k_is | rfl)
    (case lEW => first | k_is | rfl)
    (case cEW => first | k_is | rfl)
    (case kEW => first | k_is | rfl)
    (case tEW => first | k_is | rfl)
    (case ebW => first | k_is | rfl)
    (case noW => first | k_is | rfl)
    (case teW => first | k_is | rfl)
    (case aCM => first | k_is | rfl)
    (case aEM => first | k_is | rfl)
    (case lEM => first | k_is | rfl)
    (case cEM => first | k_is | rfl)
    (case kEM => first | k_is | rfl)
    (case tEM => first | k_is | rfl)
    (case ebM => first | k_is | rfl)
    (case noM => first | k_is | rfl)
    (case teM => first | k_is | rfl)
    (case aCN => first | k_is | rfl)
    (case aEN => first | k_is | rfl)
    (case lEN => first | k_is | rfl)
    (case cEN => first | k_is | rfl)
    (case kEN => first | k_is | rfl)
    (case tEN => first | k_is | rfl)
    (case ebN => first | k_is | rfl)
    (case noN => first | k_is | rfl)
    (case teN => first | k_is | rfl)
    (case qWM => first | k_is | rfl)
    (case qWN => first | k_is | rfl)
    (case qMW => first | k_is | rfl)
    (case qMN => first | k_is | rfl)
    (case qNW => first | k_is | rfl)
    (case qNM => first | k_is | rfl)
    (case dd => decide)
    (case zlen => k_is)
    (case zint => k_is)
    (case zabs => k_is)
    (case ztuple => k_is)
    (case zsorted => k_is)
    (case zrange => k_is)
    (case zrepr => k_is)
    (case zlist => k_is)
    (case zset => k_is)
    (case zisinstance => k_is)
    (case zstr => k_is)
    (case zall => k_is)
    (case zenumerate => k_is)
    (case ziter => k_is)
    (case zzip => k_is)
    (case zbool => k_is)
    (case zdict => k_is)
#print axioms PySem.Challenge.cw_narrowkeys_k22_asked_put_together_holds
