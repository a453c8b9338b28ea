import PyProof.Rows.All
import HandS.TupSets
import HandS.SetKeys
import Wide.All
import OpenK.AllK
import Wide.FinOn
import HandS.ForMost
import HandS.More
import HandS.TupAny
import HandS.Star
import HandS.Evl
import PyProof.Rows.StrMeet
import HandS.Walk
import PyProof.StrLawsRepr
import HandS.SortRule
import HandS.Deep
import KE.GoesEnum
import KE.GoesMore
import HandS.ExcValue
import HandS.Strs
import KE.KeyNested
import KE.LtSeq
import HandS.OwnEq
import HandS.IsInst
import HandS.StrMore
import HandS.OwnIter
import HandS.IterVal
import KE.KOwnIter
import OpenK.KOps
import OpenK.KMeth
import HandS.ExcOwn
import HandS.Dict
import HandS.DictComp
import HandS.WordsDict
import HandS.Iter
import KE.KCallOwn
import KE.KOpsOwn
import KE.KEqDict
import HandS.ExcBuiltin
import HandS.Zip
import HandS.Defaults
import HandS.CallRecv
import PyProof.StrOps2
import HandS.ExcInit
import HandS.ExcIs
import HandS.ExcField
import KE.KExcIs
import KE.KExcInit
import KE.KExcMake
import HandS.DeepEq
import HandS.Keys
import HandS.SortKw
import KE.KSortKeyAny
import HandS.Comp
import HandS.SetBool
import HandS.Gcd
import HandS.Sort
import KE.KMathGC
import KE.DatumOrd
import HandS.Finally
import PySem.Challenge.RW_narrowkeys_k60_weights_told
set_option Elab.async false
set_option linter.all false
set_option maxRecDepth 100000
set_option maxHeartbeats 4000000
set_option maxRecDepth 100000
set_option maxHeartbeats 4000000
namespace Qk
open PySem PySem.Spec PyProof.Rows L2
/-- the set at a holds just the texts of S -/
def TSet (P : Program) (w : World) (h : Heap) (a : Addr) (S : Str → Bool) (n : Nat) : Prop := h.SetOf (strKind P w) a S n
section
variable {P : Program} {w : World} {A : Around} {E : Value → Shared → Prop} {s : Shared} {a o r : Addr} {S T R : Str → Bool} {n m k : Nat}
theorem TSet.keep {h h' : Heap} {a : Addr} {S : Str → Bool} {n : Nat} (x : TSet P w h a S n) (k : ∀ u, h.get? a = some u → h'.get? a = some u) : TSet P w h' a S n := by
  obtain ⟨oa, es, ep, t, ho, r⟩ := x
  exact ⟨oa, es, ep, t, k _ ho, r⟩
end
end Qk
set_option maxRecDepth 100000
set_option maxHeartbeats 4000000
namespace Qk
open PySem PySem.Spec PyProof.Rows L2
/-- a set of texts with its table's mask, and few dummies -/
def TM (P : Program) (w : World) (h : Heap) (a : Addr) (S : Str → Bool) (n M c : Nat) : Prop :=
  ∃ o es ep t, h.get? a = some o ∧ o.ExactSet ∧ o.data = .set es ep t ∧ ElemsOf (strKind P w) es.toList ∧ (∀ z, S z = true ↔ ∃ e ∈ es.toList, (strKind P w).is z e.2 = true) ∧ es.size < scanBound ∧ t.fits es.size = true ∧ es.size = n ∧ t.mask = M ∧ t.dummies.size ≤ c
theorem TM.t {P : Program} {w : World} {h : Heap} {a : Addr} {S : Str → Bool} {n M c : Nat} (x : TM P w h a S n M c) : TSet P w h a S n := by
  obtain ⟨o, es, ep, t, h1, h2, h3, h4, h5, h6, h7, h8, _⟩ := x
  exact ⟨o, es, ep, t, h1, h2, h3, h4, h5, h6, h7, h8⟩
end Qk
set_option maxRecDepth 100000
set_option maxHeartbeats 4000000
namespace Qk
open PySem PySem.Spec PyProof.Rows L2
section
variable {X : Cx}
theorem get_list : PGet X (fun o i H Q => ∃ p xs j v, o = .ref p ∧ i = .int ((j : Nat) : Int) ∧ SqL X.K H p xs ∧ xs[j]? = some v ∧ Q v H) := by
  intro pins s σ H o i ov iv Q I ro ri h
  obtain ⟨p, xs, j, v, rfl, rfl, hx, ha, q⟩ := h
  cases ro
  obtain ⟨t, rfl⟩ := ri
  obtain ⟨its, r, pl, hz⟩ := I.list hx
  obtain ⟨w, ew, rw'⟩ := r.get ha
  have hj : j < xs.length := (List.getElem?_eq_some_iff.mp ha).1
  have hn := line63
  exact wpAny_getItem_list pl.isList (by omega) (by omega) (by simpa using ew) ⟨v, H, I, rw', q⟩
def rSortedST (K : PySem.W.Frag) : List V → Hp → VK → Prop := fun vs H Q => ∃ (a : Addr) (ss : List Str), vs = [V.ref a] ∧ (SqL K H a (ss.map V.str) ∨ SqT K H a (ss.map V.str)) ∧ ss.length < 64 ∧
  ∀ (ys : List Str) (p : Addr), ys.Perm ss → sortedS ys = true → H p = none → Q (.ref p) (upd H p (.lst (ys.map V.str)))
theorem cr_sortedST : CallR X (.builtin "sorted") (rSortedST X.K) := by
  intro pins s σ H vs us Q I r h
  obtain ⟨a, ss, rfl, hs, h64, q⟩ := h
  rcases hs with hs | hs
  · exact cr_sortedS pins s σ H _ us Q I r ⟨a, ss, rfl, hs, h64, q⟩
  · obtain ⟨its, rv, ⟨o, ho, hc, n, hd⟩, hz⟩ := I.tuple hs
    rw [Vals.ref1 r]
    have hS : StrsAre its ss := rv.strs
    have hl : its.length = ss.length := by
      have z := rv.length
      rw [List.length_map] at z
      exact z.symm
    refine Calls.call_function_entry PyProof.Rows.kind_sorted PyProof.Rows.plain_sorted PyProof.Rows.entry_sorted (PyProof.Rows.args_sorted1 _) ?_
    unfold Builtin.«sorted»
    refine wpAny_bind (m := checkCount "sorted" 1 1 _) (wpAny_pure ?_)
    refine wpAny_bind (wpAny_collect_seq a (.inr rfl) ho hc hd (fun h' hk => ?_) (by rw [List.size_toArray, hl, sizeLine_eq]; omega))
    have e0 : its.toArray.toList = its := by simp
    rw [e0]
    have I1 : Inv X pins σ H { s with heap := h' } := I.kept (t' := s.toks) hk
    refine wpAny_bind (wpAny_newList ?_ (by rw [hl, sizeLine_eq]; omega))
    have hoL : (h'.push (seqObj "list" its.toArray 0)).get? h'.objs.size = some (seqObj "list" its.toArray 0) := Heap.get?_push_size _ rfl
    show wpAny _ _ _ _ _ { s with heap := h'.push (seqObj "list" its.toArray 0) }
    refine wpAny_bind (wpAny_holding (wpAny_call_entry PyProof.Rows.slot_list_sort ⟨_, hoL, rfl⟩ PyProof.Rows.entry_list_sort
      (list_sort_treeK strKind_oneLt (s := { s with heap := h'.push (seqObj "list" its.toArray 0) }) hoL hS.keysOf (fun v₁ v₂ rest e => keyKind_strs (by rw [← e]; exact hS)) (by rw [hl]; exact h64) fun st' hp hs => ⟨_, rfl, ?_⟩)
      (PyProof.Rows.args_list_sort _)))
    obtain ⟨ys, g1, g2, g3⟩ := sorted_out_str hS hp hs
    obtain ⟨ep, he'⟩ := PyProof.Rows.sortedHeap_at (vs := its) (out := (arrOf st').map (·.2)) hoL
    have hlen : (ys.map V.str).length ≤ sizeLine := by
      rw [List.length_map, g2.length_eq]
      exact Nat.le_trans (Nat.le_of_lt h64) (by decide)
    have hfresh : H h'.objs.size = none := I1.hok.fresh (Nat.le_refl _)
    refine wpAny_pure ⟨_, rfl, .ref h'.objs.size, upd H h'.objs.size (.lst (ys.map V.str)), I1.laid (t' := s.toks) (fun b u hu => ?_) (Nat.le_refl _)
      (show ObjOk X.prog X.w _ _ h'.objs.size (.lst (ys.map V.str)) from ⟨hlen, ((arrOf st').map (·.2)).toList, ep, vals_of_strs g1, by rw [Array.toArray_toList]; exact he'⟩), rfl, q ys _ g2 g3 hfresh⟩
    have hb : b ≠ h'.objs.size := Nat.ne_of_lt (Heap.lt_size hu)
    have hu2 : (h'.push (seqObj "list" its.toArray 0)).get? b = some u := Heap.get?_push_of_some _ hu
    rw [PyProof.Rows.sortedHeap_old hb (Heap.lt_size hu2)]
    exact hu2
end
end Qk
set_option maxRecDepth 100000
set_option maxHeartbeats 4000000
namespace Qk
open PySem PySem.Spec PyProof.Rows L2
def Bag (H : Hp) (b l : Addr) : Prop := ∃ (h m : Int) (p : Nat) (ns : List Int), H b = some (.lst [.int h, .int m, .int (p : Int), .ref l]) ∧ H l = some (.lst (ns.map V.int)) ∧ l ≠ b ∧
  0 ≤ h ∧ 0 ≤ m ∧ m < 2147483647 ∧ ∀ n ∈ ns, 0 ≤ n
/-- all but b is kept -/
def Kp (b : Addr) (H H' : Hp) : Prop := ∀ c o, H c = some o → c ≠ b → H' c = some o
theorem Kp.refl (b : Addr) (H : Hp) : Kp b H H := fun _ _ e _ => e
theorem Kp.trans {b : Addr} {H H1 H2 : Hp} (x : Kp b H H1) (y : Kp b H1 H2) : Kp b H H2 := fun c o e n => y c o (x c o e n) n
theorem Kp.of {b : Addr} {H H' : Hp} (s : Same H H') : Kp b H H' := fun c o e _ => s c o e
theorem Kp.at_ (b : Addr) (H : Hp) (o : HO) : Kp b H (upd H b o) := fun c u e n => by rw [upd_ne n]; exact e
theorem Kp.new {b p : Addr} {H : Hp} {o : HO} (hp : H p = none) : Kp b H (L2.upd H p o) := fun c u e _ => by rw [upd_ne (ne_of_none e hp)]; exact e
theorem Bag.at_ {H : Hp} {b l : Addr} (B : Bag H b l) : ∃ o, H b = some o := by
  obtain ⟨h, m, p, ns, hb, _⟩ := B
  exact ⟨_, hb⟩
theorem Bag.same {H H' : Hp} {b l : Addr} (s : Same H H') (B : Bag H b l) : Bag H' b l := by
  obtain ⟨h, m, p, ns, hb, hl, r⟩ := B
  exact ⟨h, m, p, ns, s _ _ hb, s _ _ hl, r⟩
theorem same_new {H : Hp} {p : Addr} {o : HO} (h : H p = none) : Same H (upd H p o) := fun b x e => by
  rw [upd_ne (ne_of_none e h)]
  exact e
theorem Bag.new {H : Hp} {b l p : Addr} {o : HO} (B : Bag H b l) (h : H p = none) : Bag (upd H p o) b l := B.same (same_new h)
theorem Bag.ne {H : Hp} {b l p : Addr} (B : Bag H b l) (h : H p = none) : p ≠ b := by
  obtain ⟨o, e⟩ := B.at_
  exact (ne_of_none e h).symm
/-- the bag stands nowhere where something of another kind stands -/
theorem Bag.ne_tup {H : Hp} {b l p : Addr} {xs : List V} (B : Bag H b l) (h : H p = some (.tup xs)) : p ≠ b := by
  obtain ⟨h', m, q, ns, hb, _⟩ := B
  exact ne_of h hb (by intro z; cases z)
/-- what stands beside the bag and its list may change -/
theorem Bag.off {H H' : Hp} {b l p : Addr} (B : Bag H b l) (h : ∀ c o, H c = some o → c ≠ p → H' c = some o) (nb : b ≠ p) (nl : l ≠ p) : Bag H' b l := by
  obtain ⟨h', m, q, ns, hb, hl, r⟩ := B
  exact ⟨h', m, q, ns, h _ _ hb nb, h _ _ hl nl, r⟩
theorem Bag.list {H : Hp} {b l : Addr} (B : Bag H b l) : ∃ o, H l = some o := by
  obtain ⟨h, m, p, ns, hb, hl, _⟩ := B
  exact ⟨_, hl⟩
theorem Bag.nel {H : Hp} {b l p : Addr} (B : Bag H b l) (h : H p = none) : l ≠ p := by
  obtain ⟨o, e⟩ := B.list
  exact ne_of_none e h
theorem Bag.upd {H : Hp} {b l p : Addr} {o : HO} (B : Bag H b l) (nb : b ≠ p) (nl : l ≠ p) : Bag (L2.upd H p o) b l :=
  B.off (fun c u e n => by rw [upd_ne n]; exact e) nb nl
/-- a draw: a number below many, the bag moves on -/
def spTake : Sp := fun vs H Q _ => ∃ (b l : Addr) (n : Int), vs = [.ref b, .int n] ∧ Bag H b l ∧ 0 < n ∧ n < 1000000 ∧ ∀ (k : Nat) (H' : Hp), (k : Int) < n → Bag H' b l → Kp b H H' → Q (.int (k : Int)) H'
/-- one of a list -/
def spOne : Sp := fun vs H Q _ => ∃ (b l a : Addr) (xs : List V), vs = [.ref b, .ref a] ∧ Bag H b l ∧ a ≠ b ∧ H a = some (.lst xs) ∧ xs ≠ [] ∧ xs.length < 1000 ∧ ∀ (x : V) (H' : Hp), x ∈ xs → Bag H' b l → Kp b H H' → Q x H'
/-- a new list of the same things in some order -/
def spMixed : Sp := fun vs H Q _ => ∃ (b l a : Addr) (xs : List V), vs = [.ref b, .ref a] ∧ Bag H b l ∧ a ≠ b ∧ H a = some (.lst xs) ∧ xs.length < 1000 ∧
  ∀ (ys : List V) (p : Addr) (H' : Hp), ys.Perm xs → H p = none → p ≠ b → H' p = some (.lst ys) → Bag H' b l → Kp b H H' → Q (.ref p) H'
/-- the bag of a script -/
def spBag (K : PySem.W.Frag) : Sp := fun vs H Q _ => ∃ (a : Addr) (ns : List Int), vs = [.ref a] ∧ SqL K H a (ns.map V.int) ∧ ns.length ≤ 63 ∧ ∀ (b l : Addr) (H' : Hp), H b = none → Bag H' b l → Same H H' → Q (.ref b) H'
/-- a def that is called by its name -/
structure Cal (P : Program) (w : World) (K : PySem.W.Frag) (mg : Str → Option Value) (base : Heap) (k : Nat) (x : Str) (ps : List Str) (sp : Sp) where
  f : Addr
  fd : FuncData
  G : FnOk P w K mg base CX0 k f fd ps sp
  m : mg x = some (.ref f)
  kp : PySem.W.keepIn K (.ref f) = true
  b : Binds K fd ps []
theorem cut_to (k : Nat) (xs : List V) : cutV xs none (some (k : Int)) = xs.take k := by
  unfold cutV
  rw [HT.sIx_none, HT.sIx_nat, List.drop_zero, Nat.sub_zero]
  by_cases h : k ≤ xs.length
  · rw [Nat.min_eq_left h]
  · rw [Nat.min_eq_right (by omega), List.take_of_length_le (Nat.le_refl _), List.take_of_length_le (by omega)]
theorem take_mod {k n : Int} (hn : 0 < n) : ∃ j : Nat, k % n = (j : Int) ∧ (j : Int) < n := by
  have h1 := Int.emod_nonneg k (show n ≠ 0 by omega)
  have h2 := Int.emod_lt_of_pos k hn
  exact ⟨(k % n).toNat, by omega, by omega⟩
/-- the names that the laws draw from -/
def menu0 : List Str := ["a", "b", "ab", "ba", "job", "view", "pin", "quay", "stock", "golfer", "exhumed", "zzzzzzzz"]
/-- .. and others of other laws -/
def menu : List Str := menu0 ++ (["aa", "z", "power", "status", "ask", "quicklyx", "fghmndct", "q", "qq", "c", "d", "e", "f", "g", "h", "i", "j", "k", "l", "m"] : List Str)
theorem menu0_nodup : menu0.Nodup := by decide +kernel
theorem menu0_sub : ∀ c ∈ menu0, c ∈ menu := fun c h => List.mem_append_left _ h
theorem perm_strs {ys : List V} {xs : List Str} (h : ys.Perm (xs.map V.str)) : ∃ zs : List Str, ys = zs.map V.str ∧ zs.Perm xs := by
  have go : ∀ (ys : List V), (∀ y ∈ ys, ∃ z, y = V.str z) → ∃ zs : List Str, ys = zs.map V.str := by
    intro ys
    induction ys with
    | nil => intro _; exact ⟨[], rfl⟩
    | cons y ys ih =>
      intro h
      obtain ⟨z, rfl⟩ := h y List.mem_cons_self
      obtain ⟨zs, rfl⟩ := ih fun y hy => h y (List.mem_cons_of_mem _ hy)
      exact ⟨z :: zs, rfl⟩
  obtain ⟨zs, rfl⟩ := go ys fun y hy => by
    obtain ⟨z, _, e⟩ := List.mem_map.mp (h.mem_iff.mp hy)
    exact ⟨z, e.symm⟩
  refine ⟨zs, rfl, ?_⟩
  have unstr : ∀ l : List Str, (l.map V.str).map (fun v => match v with | .str z => z | _ => "") = l := fun l => by
    rw [List.map_map]
    exact (List.map_congr_left fun _ _ => rfl).trans (List.map_id _)
  have := h.map (fun v => match v with | .str z => z | _ => "")
  rwa [unstr, unstr] at this
/-- some of the menu's names, each once, n at most -/
structure Names (n : Nat) (xs : List Str) : Prop where
  nd : xs.Nodup
  sub : ∀ c ∈ xs, c ∈ menu
  len : xs.length = min n 12
def spNames : Sp := fun vs H Q _ => ∃ (b l : Addr) (n : Nat), vs = [.ref b, .int (n : Int)] ∧ Bag H b l ∧
  ∀ (xs : List Str) (p : Addr) (H' : Hp), Names n xs → H p = none → p ≠ b → H' p = some (.lst (xs.map V.str)) → Bag H' b l → Kp b H H' → Q (.ref p) H'
/-- a row of names -/
structure Row (xs : List Str) : Prop where
  nd : xs.Nodup
  sub : ∀ c ∈ xs, c ∈ menu
  pos : 0 < xs.length
  le : xs.length ≤ 12
theorem Names.row {n : Nat} {xs : List Str} (h : Names n xs) (hn : 0 < n) : Row xs := ⟨h.nd, h.sub, by rw [h.len]; omega, by rw [h.len]; omega⟩
/-- a question as it stands -/
def QAt (H : Hp) (q : Addr) (cols : List Str) (e : Str) : Prop := ∃ c, H q = some (.tup [.ref c, .str e]) ∧ H c = some (.tup (cols.map V.str))
theorem QAt.same {H H' : Hp} {q : Addr} {cols : List Str} {e : Str} (s : Same H H') (h : QAt H q cols e) : QAt H' q cols e := by
  obtain ⟨c, h1, h2⟩ := h
  exact ⟨c, s _ _ h1, s _ _ h2⟩
theorem QAt.kp {H H' : Hp} {q b l : Addr} {cols : List Str} {e : Str} (B : Bag H b l) (s : Kp b H H') (h : QAt H q cols e) : QAt H' q cols e := by
  obtain ⟨c, h1, h2⟩ := h
  exact ⟨c, s _ _ h1 (B.ne_tup h1), s _ _ h2 (B.ne_tup h2)⟩
structure Qok (xs cols : List Str) (e : Str) : Prop where
  nd : cols.Nodup
  srt : sortedS cols = true
  sub : ∀ c ∈ cols, c ∈ xs
  esub : e = "" ∨ e ∈ xs
  ne : e ∉ cols
  some : e = "" → cols ≠ []
  le : cols.length ≤ 12
def spQuestion : Sp := fun vs H Q _ => ∃ (b l a : Addr) (xs : List Str), vs = [.ref b, .ref a] ∧ Bag H b l ∧ a ≠ b ∧ H a = some (.lst (xs.map V.str)) ∧ Row xs ∧
  ∀ (q : Addr) (cols : List Str) (e : Str) (H' : Hp), QAt H' q cols e → Qok xs cols e → Bag H' b l → Kp b H H' → Q (.ref q) H'
def spIndex : Sp := fun vs H Q _ => ∃ (b l a : Addr) (xs : List Str), vs = [.ref b, .ref a] ∧ Bag H b l ∧ a ≠ b ∧ H a = some (.lst (xs.map V.str)) ∧ Row xs ∧
  ∀ (t : Addr) (ys : List Str) (H' : Hp), H' t = some (.tup (ys.map V.str)) → Row ys → (∀ c ∈ ys, c ∈ xs) → Bag H' b l → Kp b H H' → Q (.ref t) H'
theorem menu_ne : ∀ c ∈ menu, c ≠ "" := by decide +kernel
/-- out of a beginning of some order of a row -/
theorem qok_plain {xs ys zs : List Str} {k : Nat} (R : Row xs) (hp : ys.Perm xs) (hz : zs.Perm (ys.take (k + 1))) (hs : sortedS zs = true) : Qok xs zs "" := by
  have sl := List.take_sublist (k + 1) ys
  have hsub : ∀ c ∈ zs, c ∈ xs := fun c hc => hp.mem_iff.mp (sl.mem (hz.mem_iff.mp hc))
  have hl := R.le
  have hpos := R.pos
  have hyl := hp.length_eq
  have hzl := hz.length_eq
  rw [List.length_take] at hzl
  refine ⟨hz.nodup_iff.mpr ((hp.nodup_iff.mpr R.nd).sublist sl), hs, hsub, .inl rfl, fun h => menu_ne _ (R.sub _ (hsub _ h)) rfl, fun _ h => ?_, by omega⟩
  rw [h] at hzl
  simp at hzl
  omega
theorem qok_ranged {xs ys zs : List Str} {k : Nat} {e : Str} (R : Row xs) (hp : ys.Perm xs) (he : ys[k]? = some e) (hz : zs.Perm (ys.take k)) (hs : sortedS zs = true) : Qok xs zs e := by
  have sl := List.take_sublist k ys
  have hsub : ∀ c ∈ zs, c ∈ xs := fun c hc => hp.mem_iff.mp (sl.mem (hz.mem_iff.mp hc))
  have hmem : e ∈ xs := hp.mem_iff.mp (List.mem_of_getElem? he)
  have hl := R.le
  have hyl := hp.length_eq
  have hzl := hz.length_eq
  rw [List.length_take] at hzl
  have ndy := hp.nodup_iff.mpr R.nd
  refine ⟨hz.nodup_iff.mpr (ndy.sublist sl), hs, hsub, .inr hmem, fun h => ?_, fun h => absurd h (menu_ne _ (R.sub _ hmem)), by omega⟩
  have h1 := hz.mem_iff.mp h
  have hk : k < ys.length := (List.getElem?_eq_some_iff.mp he).1
  have e2 : ys = ys.take k ++ ys.drop k := (List.take_append_drop k ys).symm
  have e3 : e ∈ ys.drop k := by
    have : (ys.drop k)[0]? = some e := by rw [List.getElem?_drop]; exact he
    exact List.mem_of_getElem? this
  rw [e2] at ndy
  exact (List.nodup_append.mp ndy).2.2 _ h1 _ e3 rfl
end Qk
set_option maxRecDepth 100000
set_option maxHeartbeats 4000000
namespace Qk
open PySem PySem.Spec PyProof.Rows L2
def leS (a b : Str) : Prop := ltCps b.cps.toList a.cps.toList = false
theorem str_ext {a b : Str} (h : a.cps.toList = b.cps.toList) : a = b := by
  obtain ⟨x⟩ := a
  obtain ⟨y⟩ := b
  simp only at h
  congr 1
  exact Array.toList_inj.mp h
theorem leS_antisymm {a b : Str} (h1 : leS a b) (h2 : leS b a) : a = b := by
  unfold leS at h1 h2
  rw [ltCps_eq] at h1 h2
  have n1 := of_decide_eq_false h1
  have n2 := of_decide_eq_false h2
  exact str_ext (List.le_antisymm (List.not_lt.mp n1) (List.not_lt.mp n2))
theorem leS_trans {a b c : Str} (h1 : leS a b) (h2 : leS b c) : leS a c := by
  unfold leS at *
  rw [ltCps_eq] at *
  have n1 := List.not_lt.mp (of_decide_eq_false h1)
  have n2 := List.not_lt.mp (of_decide_eq_false h2)
  exact decide_eq_false (List.not_lt.mpr (List.le_trans n1 n2))
theorem risingS_pw : ∀ (xs : List Str) (p : Str), risingS p xs = true → (p :: xs).Pairwise leS
  | [], p, _ => List.pairwise_singleton _ _
  | x :: r, p, h => by
    rw [risingS, Bool.and_eq_true] at h
    have h1 : leS p x := by
      have := h.1
      rw [Bool.not_eq_true'] at this
      exact this
    have ih := risingS_pw r x h.2
    refine List.pairwise_cons.mpr ⟨fun y hy => ?_, ih⟩
    rcases List.mem_cons.mp hy with rfl | hy
    · exact h1
    · exact leS_trans h1 ((List.pairwise_cons.mp ih).1 y hy)
theorem sortedS_pw {xs : List Str} (h : sortedS xs = true) : xs.Pairwise leS := by
  cases xs with
  | nil => exact List.Pairwise.nil
  | cons x r => exact risingS_pw r x h
theorem perm_sorted : ∀ {xs ys : List Str}, xs.Perm ys → xs.Pairwise leS → ys.Pairwise leS → xs = ys
  | [], ys, h, _, _ => (List.Perm.nil_eq h)
  | x :: xs, [], h, _, _ => absurd h.length_eq (by simp)
  | x :: xs, y :: ys, h, h1, h2 => by
    have e : x = y := by
      rcases List.mem_cons.mp (h.mem_iff.mp List.mem_cons_self) with e | m1
      · exact e
      · rcases List.mem_cons.mp (h.mem_iff.mpr List.mem_cons_self) with e | m2
        · exact e.symm
        · exact leS_antisymm ((List.pairwise_cons.mp h1).1 y m2) ((List.pairwise_cons.mp h2).1 x m1)
    subst e
    rw [perm_sorted (List.Perm.cons_inv h) (List.pairwise_cons.mp h1).2 (List.pairwise_cons.mp h2).2]
theorem sorted_unique {xs ys zs : List Str} (h1 : xs.Perm zs) (h2 : ys.Perm zs) (s1 : sortedS xs = true) (s2 : sortedS ys = true) : xs = ys :=
  perm_sorted (h1.trans h2.symm) (sortedS_pw s1) (sortedS_pw s2)
theorem menu_ok : ∀ c ∈ menu, PyData.strOk c = true := by decide +kernel
theorem depth_strs : ∀ (xs : List Str), PyData.depthAll (xs.map PyData.str) = 0
  | [] => rfl
  | x :: xs => by
    show max (PyData.depth (.str x)) (PyData.depthAll (xs.map PyData.str)) = 0
    rw [depth_strs xs]
    rfl
theorem dp_strs {K : PySem.W.Frag} {H : Hp} : ∀ (xs : List Str), DpAll K H (xs.map V.str) (xs.map PyData.str)
  | [] => .nil
  | x :: xs => .cons (.str x) (dp_strs xs)
structure QM (cols : List Str) (e : Str) : Prop where
  nd : cols.Nodup
  srt : sortedS cols = true
  sub : ∀ c ∈ cols, c ∈ menu
  esub : e = "" ∨ e ∈ menu
  le : cols.length ≤ 12
  some : e = "" → cols ≠ []
theorem Qok.qm {xs cols : List Str} {e : Str} (h : Qok xs cols e) (R : ∀ c ∈ xs, c ∈ menu) : QM cols e :=
  ⟨h.nd, h.srt, fun c hc => R _ (h.sub _ hc), h.esub.imp id (fun m => R _ m), h.le, h.some⟩
theorem Row.take {xs : List Str} (R : Row xs) (k : Nat) : Row (xs.take (k + 1)) :=
  ⟨R.nd.sublist (List.take_sublist _ _), fun c hc => R.sub _ ((List.take_sublist _ _).mem hc), by have := R.pos; rw [List.length_take]; omega, by have := R.le; rw [List.length_take]; omega⟩
end Qk
set_option maxRecDepth 100000
set_option maxHeartbeats 4000000
namespace Qk
open PySem PySem.Spec PyProof.Rows L2
structure FnG (P : Program) (w : World) (K : PySem.W.Frag) (mg : Str → Option Value) (base : Heap) (k : Nat) (f : Addr) (fd : FuncData) (ps : List Str) (sp : Sp) : Prop where
  len : ∀ vs H Q E, sp vs H Q E → vs.length = ps.length
  run : ∀ (A : Around) (outer : List Env) (s : Shared) (H : Hp) (args : Args) (us : List Value) (vs : List V) (Q : VK) (E : XK), Room k A → A.guards = some [] → Env0 P w K mg base A outer s H →
    BindsTo s fd args (ps.zip us) → Vals vs us → sp vs H Q E → codeAny (model P w) A (.call (.ref f) args) (CR CX0 outer P w H s Q E) s
theorem FnG.of {P : Program} {w : World} {K : PySem.W.Frag} {mg : Str → Option Value} {base : Heap} {k : Nat} {f : Addr} {fd : FuncData} {ps : List Str} {sp : Sp} (F : FnOk P w K mg base CX0 k f fd ps sp) : FnG P w K mg base k f fd ps sp :=
  ⟨F.len, fun A o s H args us vs Q E hr _ e b v h => F.run A o s H args us vs Q E hr e b v h⟩
section
variable {P : Program} {w : World} {K : PySem.W.Frag} {mg : Str → Option Value} {base : Heap}
theorem okG {x qual : Str} {st : Stmt} {f : Addr} {fd : FuncData} {N ps : List Str} {k : Nat} {sp : Sp} (F : Fun K x qual st f fd) (S : FnScope N ps (defScope st)) (len : ∀ vs H Q E, sp vs H Q E → vs.length = ps.length)
    (body : ∀ (cdv : Value) (A : Around) (outer : List Env) (s : Shared) (H : Hp) (vs : List V) (Q : VK) (E : XK), Room k (A.deeper (envOfC qual (defScope st) s.heap.objs.size f cdv)) → A.guards = some [] → sp vs H Q E →
      ∃ t, PSs (cxOf CX0 P w K mg base N qual (defScope st) f cdv A outer s H E).nox (defBody st) t ∧ t { nx := fun _ H' => Q .non H', rt := Q } (start N vs) H) : FnG P w K mg base (k + 1) f fd ps sp := by
  obtain ⟨oc, od, kV, doc, pm, an, cdv, ct, osl, rfl, lk, hcd⟩ := F.ex
  constructor
  · exact len
  intro A outer s H args us vs Q E hr hg e0 hb rv hsp
  have hlen := len _ _ _ _ hsp
  have kept : ∀ b o, base.get? b = some o → s.heap.get? b = some o := fun b o e => (e0.bs b o e).1
  have KX : K.In s.heap := e0.mod.kin.keeps kept
  have par : ∀ y ∈ ps.zip us, (defScope st).names.lookup y.1 = some .local ∨ ((defScope st).names.lookup y.1 = some .cell ∧ ((cellsFrom (s.heap.objs.size + 1) (defScope st).names []).lookup y.1).isSome = true) := by
    rintro ⟨n, v⟩ hy
    exact (S.par n (List.of_mem_zip hy).1).imp id fun q => ⟨q, PySem.W.cellsFrom_some _ _ _ (.inl q)⟩
  refine codeAny_call_function hr.depth (KX _ _ lk) rfl S.co S.gen rfl (PySem.W.codeRec_of KX hcd) (hb _ _ _ _ ?_)
  refine wpAny_newFunctionEnv_cells S.kind par fun env he s1 xe => ?_
  subst he
  refine ⟨(e0.mod.nolimit.keeps kept).keeps xe.toInCall.keep, codeAny_func ?_⟩
  obtain ⟨t, ht, hq⟩ := body cdv A outer s H vs Q E (hr.deeper _) hg hsp
  refine wpAny_mono (ht.nox.run [] s1 (start N vs) H _ (inv_start S hr.hd e0 hlen rv xe) hq) (fun fl s' hs => ?_) fun _ _ z => z
  cases fl with
  | ret u =>
    obtain ⟨v, σ', H', J, r, q⟩ := hs
    exact ⟨v, H', J.os, J.bare, J.base, J.hok, r, q⟩
  | next =>
    obtain ⟨σ', H', J, q⟩ := hs
    exact ⟨V.non, H', J.os, J.bare, J.base, J.hok, rfl, q⟩
  | brk => exact hs.elim fun _ z => z.elim fun _ z => z.2.elim
  | cont => exact hs.elim fun _ z => z.elim fun _ z => z.2.elim
end
section
variable {X : Cx} {k : Nat} {f : Addr} {fd : FuncData} {ps : List Str} {sp : Sp} {x : Str} {p pos : Pos} {e : Expr} {es : List Expr} {t : TA}
theorem run_g {pins : List (Addr × Obj)} {σ : L2.St} {H : Hp} {s : Shared} {Q : VK} {us : List Value} {vs : List V} (F : FnG X.prog X.w X.K X.mg X.base k f fd ps sp) (hr : Room k X.A) (hg : X.A.guards = some []) (hb : Binds X.K fd ps [])
    (I : Inv X pins σ H s) (r : Vals vs us) (h : sp vs H Q E0) : wpAny (model X.prog X.w) X.A (call (.ref f) us) (EP X pins σ Q) X.xe s := by
  have hl : (us ++ ([] : List Value)).length = ps.length := by
    rw [List.append_nil, ← r.length]
    exact F.len _ _ _ _ h
  have hbd := hb s us I.kIn hl
  rw [List.append_nil] at hbd
  have c := F.run X.A X.stack s H ⟨us, []⟩ us vs Q E0 hr hg I.env0 hbd r h
  refine wpAny_call (codeAny_mono c fun r s' hq => ?_)
  cases r with
  | error e => exact False.elim hq
  | ok fl =>
    cases fl with
    | ret u => exact I.after hq
    | _ => exact False.elim hq
/-- a call by name of such a def, all arguments given -/
theorem pe_callg (F : FnG X.prog X.w X.K X.mg X.base k f fd ps sp) (hr : Room k X.A) (hg : X.A.guards = some []) (hgl : Gl X x) (hm : X.mg x = some (.ref f)) (hk : PySem.W.keepIn X.K (.ref f) = true) (hb : Binds X.K fd ps [])
    (ha : PA X (e :: es) t) (hdb : (x == ("__debug__" : Str)) = false := by decide) (he : starEach (e :: es) X.env = (false, eval e X.env) :: starEach es X.env := by rfl) (hpl : (backTo pos (starEach es X.env)).any (·.1) = false := by rfl) :
    PE X (.Call (.Name x p) (e :: es) [] pos) (fun σ H Q => t σ H fun vs H1 => sp vs H1 Q E0) := by
  constructor
  intro pins s σ H Q I h
  refine wpAny_Call_Name_kw (ld_glob I hgl hm ?_ hdb)
  refine PySem.W.callWith_K (h₀ := X.base) I.ok.mod.kin hk ?_ he hpl
  exact thn (ha.run pos pins s σ H _ I h) fun us s1 ⟨vs, H1, I1, r, q⟩ => ⟨I1.kIn, run_g F hr hg hb I1 r q⟩
/-- repr of data, where no repr is running -/
def rReprD (K : PySem.W.Frag) : List V → Hp → VK → Prop := fun vs H Q => ∃ (x : V) (d : PyData), vs = [x] ∧ Dp K H x d ∧ d.showable = true ∧ d.hasDict = false ∧ d.shown.length ≤ sizeLine ∧ d.depth ≤ 60 ∧ Q (.str d.shown) H
theorem call_reprD (hg : X.A.guards = some []) (hu : X.A.units + 64 < cLine) : CallR X (.builtin "repr") (rReprD X.K) := by
  intro pins s σ H xs us Q I r h
  obtain ⟨x, d, rfl, hd, h1, h2, h3, h4, q⟩ := h
  obtain ⟨u, rfl, rx⟩ := vals1 r
  obtain ⟨as, rd⟩ := Dp.reads I d x u hd rx
  cases hd with
  | non =>
    cases rx
    exact PySem.P.repr_of_none ⟨.str _, H, I.tok _, ⟨_, rfl⟩, q⟩
  | bl b =>
    cases rx
    exact PySem.P.repr_of_bool ⟨.str _, H, I.tok _, ⟨_, rfl⟩, q⟩
  | int i =>
    obtain ⟨tk, rfl⟩ := rx
    exact PySem.P.repr_of_int (by simpa [PyData.showable] using h1) ⟨.str _, H, I.tok _, ⟨_, rfl⟩, q⟩
  | str z =>
    obtain ⟨tk, rfl⟩ := rx
    exact PySem.P.repr_of_str ⟨.str _, H, I.tok _, ⟨_, rfl⟩, q⟩ h3
  | lst hs ha =>
    cases rx
    exact repr_of_reads' rd h1 (fun z => by rw [h2] at z; cases z) hg (by omega) (fun _ _ z => z) (fun h' u tk hk => ⟨.str _, H, I.kept hk, ⟨_, rfl⟩, q⟩) h3
  | tup hs ha =>
    cases rx
    exact repr_of_reads' rd h1 (fun z => by rw [h2] at z; cases z) hg (by omega) (fun _ _ z => z) (fun h' u tk hk => ⟨.str _, H, I.kept hk, ⟨_, rfl⟩, q⟩) h3
end
end Qk
set_option maxRecDepth 100000
set_option maxHeartbeats 4000000
namespace Qk
open PySem PySem.Spec PyProof.Rows L2
theorem law_g {P : Program} {w : World} {K : PySem.W.Frag} {mg mb : Str → Option Value} {k : Nat} {fa a : Addr} {fd : FuncData} {x : Str} {sp : Sp} {s₁ : Shared} {vs : List Value} {ns : List Int}
    (KX : K.In s₁.heap) (hns : s₁.heap.Ns mainGlobals mg) (hb : s₁.heap.Ns builtinsNs mb) (hbb : ∀ x : Str, x ≠ "__name__" → mb x = bootBuiltins x) (hlim : s₁.heap.NoLimit) (hg : s₁.gens = #[])
    (ha : s₁.heap.get? a = some { cls := .type "list", data := .seq vs.toArray }) (hi : IntsAre vs ns) (hl : ns.length ≤ sizeLine) (hr : Room k callerA)
    (F : ∀ base : Heap, K.In base → base.Ns mainGlobals mg → FnG P w K mg base k fa fd [x] sp) (hbind : ∀ (s : Shared) (u : Value), BindsTo s fd ⟨[u], []⟩ [(x, u)])
    (hsp : ∀ H : Hp, Only H → SqL K H a (ns.map V.int) → sp [.ref a] H (fun v _ => v = .bl true) fun _ _ _ => False) :
    codeAny (model P w) callerA (.call (.ref fa) ⟨[.ref a], []⟩) (fun r s' => r = .ok (.ret (.bool true)) ∧ OldK s₁.heap s'.heap ∧ s'.os = s₁.os ∧ AllBare s'.gens) s₁ := by
  let o : Obj := { cls := .type "list", data := .seq vs.toArray }
  have rv : Vals (ns.map V.int) vs := vals_ints hi
  have lenV : vs.length = ns.length := hi.length
  -- the abstract heap: the script alone, where the top does not know it
  let H : Hp := fun b => if b = a ∧ K.lookup a = none then some (.frz o (.lst (ns.map V.int))) else none
  have Hsome : ∀ {b u}, H b = some u → b = a ∧ K.lookup a = none ∧ u = .frz o (.lst (ns.map V.int)) := fun {b u} z => by
    by_cases c : b = a ∧ K.lookup a = none
    · have z2 : some (HO.frz o (.lst (ns.map V.int))) = some u := (if_pos c).symm.trans z
      exact ⟨c.1, c.2, (Option.some.inj z2).symm⟩
    · have z2 : (none : Option HO) = some u := (if_neg c).symm.trans z
      cases z2
  have hO : Only H := fun b => by
    cases q : H b with
    | none => exact .inl rfl
    | some u => exact .inr ⟨_, _, by rw [(Hsome q).2.2]⟩
  have hS : SqL K H a (ns.map V.int) := by
    cases q : K.lookup a with
    | none => exact .inl (.inr ⟨o, if_pos ⟨rfl, q⟩⟩)
    | some u =>
      have e := KX a u q
      rw [ha] at e
      cases e
      exact .inr ⟨_, vs.toArray, _, q, rfl, rfl, rfl, by rw [List.size_toArray, lenV]; exact hl, by simpa using rv⟩
  have hok : HOk P w H s₁.heap := fun b u z => by
    obtain ⟨rfl, _, rfl⟩ := Hsome z
    exact ⟨ha, by rw [List.length_map]; exact hl, vs, _, rv, ha⟩
  have keepB : ∀ {b : Addr} {u : Obj}, s₁.heap.get? b = some u → (b = a → K.lookup a ≠ none) → (hidT s₁.heap H).get? b = some u := fun {b u} e n => hidT_get e (by
    cases q : H b with
    | none => rfl
    | some z => exact absurd (Hsome q).2.1 (n (Hsome q).1))
  have keepN : ∀ {b : Addr} {m : Str → Option Value}, s₁.heap.Ns b m → (hidT s₁.heap H).Ns b m := fun {b m} ⟨u, es, ep, e, d, r⟩ => by
    refine ⟨u, es, ep, keepB e fun eb => ?_, d, r⟩
    subst eb
    rw [ha] at e
    cases e
    cases d
  have hKb : K.In (hidT s₁.heap H) := fun b u e => keepB (KX b u e) fun eb q => by
    subst eb
    rw [q] at e
    cases e
  have hM : Mod K mg (hidT s₁.heap H) := ⟨hKb, keepN hns, ⟨mb, keepN hb, hbb⟩, let ⟨mc, h1, h2⟩ := hlim; ⟨mc, keepN h1, h2⟩⟩
  have e0 : Env0 P w K mg (hidT s₁.heap H) callerA [] s₁ H := ⟨rfl, hM, fun _ _ e => of_hidT e, Nat.le_of_eq (hidT_size _ _), trivial, fun b z => absurd (show b ∈ ([] : List Addr) from z) (by simp), hok, .of_eq hg⟩
  have run := (F _ hKb (keepN hns)).run callerA [] s₁ H ⟨[.ref a], []⟩ [.ref a] [.ref a] _ _ hr rfl e0 (hbind s₁ (.ref a)) (.cons rfl .nil) (hsp H hO hS)
  refine codeAny_mono run fun r s' h => ?_
  cases r with
  | error e => exact False.elim h
  | ok fl =>
    cases fl with
    | ret u =>
      obtain ⟨v, H', os, bare, un, hok', r', q⟩ := h
      obtain rfl : v = .bl true := q
      obtain rfl : u = Value.bool true := r'
      refine ⟨rfl, OldK.of_keep fun b u e => ?_, os, bare⟩
      cases q : H b with
      | none => exact un.keep b u e q (fun z => absurd (show b ∈ ([] : List Addr) from z) (by simp)) (by simp)
      | some z =>
        obtain ⟨rfl, _, rfl⟩ := Hsome q
        obtain ⟨e2, _⟩ := hok' b _ (un.frzs b o _ q)
        rw [ha] at e
        cases e
        exact e2
    | _ => exact False.elim h
theorem walk_g {l : PySem.W.OpenLaw} {n k : Nat} {q : Program} {loose : List Str} {XP : (Str → Option Value) → Heap → Prop} {YP : World → Heap → Prop} {d : DefRec} {K : Params → PySem.W.Frag} {sp : World → Sp} {x : Str}
    (hn : l.most = some n) (hn2 : n ≤ sizeLine) (hdf : d.params.defaults = []) (hr : Room k callerA) (hY : ∀ (w : World) (h : Heap), YP w h → (K w.params).In h)
    (F : ∀ (w : World) (mg : Str → Option Value) (fa : Addr) (h : Heap), (K w.params).In h → h.Ns mainGlobals mg → mg d.name = some (.ref fa) →
      ∃ fd : FuncData, (∀ (s : Shared) (u : Value), BindsTo s fd ⟨[u], []⟩ [(x, u)]) ∧ ∀ base : Heap, (K w.params).In base → base.Ns mainGlobals mg → FnG l.prog w (K w.params) mg base k fa fd [x] (sp w))
    (hsp : ∀ (w : World) (H : Hp) (a : Addr) (ns : List Int), ns.length ≤ n → Only H → SqL (K w.params) H a (ns.map V.int) → sp w [.ref a] H (fun v _ => v = .bl true) fun _ _ _ => False) :
    PySem.W.WalkO q loose XP YP l.row.toRowW d [] (fun f vs => PySem.call f vs) := by
  refine Att.attach_call hn hdf fun w s₀ s₁ mg mb fa o pm cd doc a vs ns G Y ho hd hcd hmg hobj hints hlen hg => ?_
  obtain ⟨fd, hb, hF⟩ := F w mg fa _ (hY w _ Y) G.T.g hmg
  exact law_g (hY w _ Y) G.T.g G.T.b G.T.builtins G.T.nolimit hg hobj hints (Nat.le_trans hlen hn2) hr hF hb fun H hO hS => hsp w H a ns hlen hO hS
mutual
def fine : PyData → Bool
  | .none => true
  | .bool _ => true
  | .int i => decide (i.natAbs < 10 ^ 60)
  | .str x => PyData.strOk x && decide (x.cps.size ≤ 20)
  | .list xs => fineAll xs
  | .tuple xs => fineAll xs
  | .dict _ => false
def fineAll : List PyData → Bool
  | [] => true
  | x :: xs => fine x && fineAll xs
end
mutual
def cost : PyData → Nat
  | .none => 4
  | .bool _ => 5
  | .int _ => 64
  | .str _ => 210
  | .list xs => costAll xs + 3
  | .tuple xs => costAll xs + 3
  | .dict _ => 0
def costAll : List PyData → Nat
  | [] => 0
  | x :: xs => cost x + 2 + costAll xs
end
mutual
theorem fine_lay : ∀ d : PyData, fine d = true → d.canLay0 = true ∧ d.showable = true ∧ d.hasDict = false
  | .none, _ => ⟨rfl, rfl, rfl⟩
  | .bool _, _ => ⟨rfl, rfl, rfl⟩
  | .int i, h => by
    have hi : i.natAbs < 10 ^ 60 := of_decide_eq_true h
    refine ⟨rfl, ?_, rfl⟩
    show decide (i.natAbs.log2 < 1920) = true
    refine decide_eq_true ?_
    by_cases h0 : i.natAbs = 0
    · rw [h0]
      decide
    · exact Nat.lt_of_lt_of_le ((Nat.log2_lt h0).mpr (Nat.lt_of_lt_of_le hi (show 10 ^ 60 ≤ 2 ^ 200 by decide))) (by decide)
  | .str x, h => by
    have h' : (PyData.strOk x && decide (x.cps.size ≤ 20)) = true := h
    rw [Bool.and_eq_true] at h'
    exact ⟨h'.1, rfl, rfl⟩
  | .list xs, h => fine_layAll xs h
  | .tuple xs, h => fine_layAll xs h
  | .dict _, h => by cases h
theorem fine_layAll : ∀ xs : List PyData, fineAll xs = true → PyData.canLayAll0 xs = true ∧ PyData.showableAll xs = true ∧ PyData.hasDictAll xs = false
  | [], _ => ⟨rfl, rfl, rfl⟩
  | x :: xs, h => by
    have h' : (fine x && fineAll xs) = true := h
    rw [Bool.and_eq_true] at h'
    obtain ⟨a1, a2, a3⟩ := fine_lay x h'.1
    obtain ⟨b1, b2, b3⟩ := fine_layAll xs h'.2
    refine ⟨?_, ?_, ?_⟩
    · show (PyData.canLay0 x && PyData.canLayAll0 xs) = true
      rw [a1, b1]
      rfl
    · show (PyData.showable x && PyData.showableAll xs) = true
      rw [a2, b2]
      rfl
    · show (PyData.hasDict x || PyData.hasDictAll xs) = false
      rw [a3, b3]
      rfl
end
theorem listText_le (ts : List Str) : (listText ts).length ≤ piled ts + 2 := by
  cases ts with
  | nil => decide
  | cons t r =>
    have e : listText (t :: r) = textFrom 1 ("[" ++ "" ++ t) r ++ "]" := rfl
    rw [e, strLen_append, textFrom_length_pos r 1 _ (by decide), strLen_append, piled_cons]
    have e1 : (("[" : Str) ++ ("" : Str)).length = 1 := rfl
    have e2 : ((("]" : String) : Str)).length = 1 := rfl
    have e3 : (((("[" : String) : Str) ++ (("" : String) : Str)) : Str).length = 1 := rfl
    omega
theorem tupleText_le (ts : List Str) : (tupleText ts).length ≤ piled ts + 3 := by
  unfold tupleText
  rw [strLen_append, strLen_append]
  have e1 : (("(" : String) : Str).length = 1 := rfl
  have e2 : ((if (ts.length == 1) = true then ",)" else ")" : String) : Str).length ≤ 2 := by
    split
    · decide
    · decide
  cases ts with
  | nil =>
    have : (Str.join ", " ([] : List Str)).length = 0 := rfl
    omega
  | cons t r =>
    have := join_length_add (t :: r) (by simp)
    omega
mutual
theorem shown_le : ∀ d : PyData, fine d = true → d.shown.length ≤ cost d
  | .none, _ => by decide
  | .bool b, _ => by cases b <;> decide
  | .int i, h => by
    have hi : i.natAbs < 10 ^ 60 := of_decide_eq_true h
    have e := int_text_length_le10 (k := 60) (a := i) (by decide) hi
    show (Str.ofString (toString i)).length ≤ 64
    rw [PySem.ofString_length]
    omega
  | .str x, h => by
    have h' : (PyData.strOk x && decide (x.cps.size ≤ 20)) = true := h
    rw [Bool.and_eq_true] at h'
    have h2 : x.length ≤ 20 := of_decide_eq_true h'.2
    have h3 : ∀ c ∈ x.cps.toList, c < 16 ^ 8 := fun c hc => by
      have := Array.all_eq_true'.mp h'.1 c (by simpa using hc)
      have := of_decide_eq_true this
      omega
    have := PySem.StrLaws.reprText_len x h3
    show (reprText x).length ≤ 210
    omega
  | .list xs, h => by
    have := listText_le (PyData.shownAll xs)
    have h2 := shown_leAll xs h
    show (listText (PyData.shownAll xs)).length ≤ costAll xs + 3
    omega
  | .tuple xs, h => by
    have := tupleText_le (PyData.shownAll xs)
    have h2 := shown_leAll xs h
    show (tupleText (PyData.shownAll xs)).length ≤ costAll xs + 3
    omega
  | .dict _, h => by cases h
theorem shown_leAll : ∀ xs : List PyData, fineAll xs = true → piled (PyData.shownAll xs) ≤ costAll xs
  | [], _ => Nat.le_refl 0
  | x :: xs, h => by
    have h' : (fine x && fineAll xs) = true := h
    rw [Bool.and_eq_true] at h'
    have h1 := shown_le x h'.1
    have h2 := shown_leAll xs h'.2
    show piled (PyData.shown x :: PyData.shownAll xs) ≤ cost x + 2 + costAll xs
    rw [piled_cons]
    omega
end
structure DOk (d : PyData) : Prop where
  f : fine d = true
  dp : d.depth ≤ 50
  c : cost d ≤ 1000000
theorem DOk.shaped {d : PyData} (h : DOk d) : SeqAt.shaped d = true := by
  unfold SeqAt.shaped
  rw [(fine_lay d h.f).1]
  exact decide_eq_true (Nat.le_trans h.dp (by decide))
theorem DOk.len {d : PyData} (h : DOk d) : d.shown.length ≤ sizeLine := Nat.le_trans (shown_le d h.f) (Nat.le_trans h.c (by rw [sizeLine_eq]; decide))
mutual
theorem Dp.same {K : PySem.W.Frag} {H H' : Hp} (s : Same H H') : ∀ (d : PyData) (v : V), Dp K H v d → Dp K H' v d
  | .none, _, h => by cases h; exact .non
  | .bool _, _, h => by cases h; exact .bl _
  | .int _, _, h => by cases h; exact .int _
  | .str _, _, h => by cases h; exact .str _
  | .list ds, _, h => by
    cases h with
    | lst h1 h2 => exact .lst (s.seq h1) (Dp.sameAll s ds _ h2)
  | .tuple ds, _, h => by
    cases h with
    | tup h1 h2 => exact .tup (Evl.ex_t s h1) (Dp.sameAll s ds _ h2)
  | .dict _, _, h => by cases h
theorem Dp.sameAll {K : PySem.W.Frag} {H H' : Hp} (s : Same H H') : ∀ (ds : List PyData) (vs : List V), DpAll K H vs ds → DpAll K H' vs ds
  | [], _, h => by cases h; exact .nil
  | d :: ds, _, h => by
    cases h with
    | cons h1 h2 => exact .cons (Dp.same s d _ h1) (Dp.sameAll s ds _ h2)
end
/-- two data that are the same -/
def spAlikeD (K : PySem.W.Frag) : Sp := fun vs H Q _ => ∃ (x y : V) (d : PyData), vs = [x, y] ∧ Dp K H x d ∧ Dp K H y d ∧ DOk d ∧ Q (.bl true) H
theorem fine_int {i : Int} (h : i.natAbs < 10 ^ 60) : fine (.int i) = true := decide_eq_true h
/-- the names as data -/
def okS (c : Str) : Bool := PyData.strOk c && decide (c.cps.size ≤ 20)
theorem menu_okS : ∀ c ∈ menu, okS c = true := by decide +kernel
theorem fine_strs : ∀ {xs : List Str}, (∀ c ∈ xs, okS c = true) → fineAll (xs.map PyData.str) = true
  | [], _ => rfl
  | x :: xs, h => by
    show (fine (.str x) && fineAll (xs.map PyData.str)) = true
    rw [fine_strs fun c hc => h c (List.mem_cons_of_mem _ hc), Bool.and_true]
    exact h x List.mem_cons_self
theorem cost_strs : ∀ (xs : List Str), costAll (xs.map PyData.str) = 212 * xs.length
  | [] => rfl
  | x :: xs => by
    show cost (.str x) + 2 + costAll (xs.map PyData.str) = _
    rw [cost_strs xs, List.length_cons]
    show 210 + 2 + _ = _
    omega
/-- a question as data -/
def dQ (cols : List Str) (e : Str) : PyData := .tuple [.tuple (cols.map PyData.str), .str e]
theorem dp_q {K : PySem.W.Frag} {H : Hp} {q : Addr} {cols : List Str} {e : Str} (h : QAt H q cols e) : Dp K H (.ref q) (dQ cols e) := by
  obtain ⟨c, h1, h2⟩ := h
  exact .tup (SqT.of h1) (.cons (.tup (SqT.of h2) (dp_strs _)) (.cons (.str e) .nil))
structure CalG (P : Program) (w : World) (K : PySem.W.Frag) (mg : Str → Option Value) (base : Heap) (k : Nat) (x : Str) (ps : List Str) (sp : Sp) where
  f : Addr
  fd : FuncData
  G : FnG P w K mg base k f fd ps sp
  m : mg x = some (.ref f)
  kp : PySem.W.keepIn K (.ref f) = true
  b : Binds K fd ps []
end Qk
set_option maxRecDepth 100000
set_option maxHeartbeats 4000000
namespace Qk
open PySem PySem.Spec PyProof.Rows L2
abbrev Qd := List Str × Str
/-- v is a question in the heap -/
def IsQ (h : Heap) (v : Value) (q : Qd) : Prop := ∃ (a c : Addr) (o oc : Obj) (t : Tok) (us : List Value) (n m : Nat), v = .ref a ∧ h.get? a = some o ∧ o.cls = .type "tuple" ∧ o.data = .seq #[.ref c, .str q.2 t] n ∧
  h.get? c = some oc ∧ oc.cls = .type "tuple" ∧ oc.data = .seq us.toArray m ∧ StrsAre us q.1
theorem IsQ.keeps {h h' : Heap} {v : Value} {q : Qd} (x : IsQ h v q) (k : ∀ b o, h.get? b = some o → o.cls = .type "tuple" → h'.get? b = some o) : IsQ h' v q := by
  obtain ⟨a, c, o, oc, t, us, n, m, e, ho, hc, hd, hoc, hcc, hdc, hs⟩ := x
  exact ⟨a, c, o, oc, t, us, n, m, e, k _ _ ho hc, hc, hd, k _ _ hoc hcc, hcc, hdc, hs⟩
end Qk
set_option maxRecDepth 100000
set_option maxHeartbeats 4000000
set_option maxRecDepth 100000
set_option maxHeartbeats 4000000
namespace Qk
open PySem PySem.Spec PyProof.Rows L2
instance (a b : Str) : Decidable (leS a b) := by unfold leS; infer_instance
def srt (xs : List Str) : List Str := xs.mergeSort (fun a b => decide (leS a b))
def QL (H : Hp) (xs : List V) (qs : List Qd) : Prop := Paired (fun (x : V) (q : Qd) => ∃ t, x = .ref t ∧ QAt H t q.1 q.2) xs qs
theorem QL.len {H : Hp} {xs : List V} {qs : List Qd} (h : QL H xs qs) : xs.length = qs.length := Paired.length h
theorem QL.same {H H' : Hp} {xs : List V} {qs : List Qd} (s : Same H H') (h : QL H xs qs) : QL H' xs qs := Paired.mapP h fun x q ⟨t, e, z⟩ => ⟨t, e, z.same s⟩
theorem QL.kp {H H' : Hp} {b l : Addr} {xs : List V} {qs : List Qd} (B : Bag H b l) (s : Kp b H H') (h : QL H xs qs) : QL H' xs qs := Paired.mapP h fun x q ⟨t, e, z⟩ => ⟨t, e, z.kp B s⟩
theorem QL.mem {H : Hp} : ∀ {xs : List V} {qs : List Qd}, QL H xs qs → ∀ x ∈ xs, ∃ (t : Addr) (q : Qd), x = V.ref t ∧ QAt H t q.1 q.2 ∧ q ∈ qs
  | _, _, .nil, x, hx => by cases hx
  | _, _, .cons ⟨t, e, z⟩ r, x, hx => by
    rcases List.mem_cons.mp hx with rfl | hx
    · exact ⟨t, _, e, z, List.mem_cons_self⟩
    · obtain ⟨t', q', a, b, c⟩ := QL.mem r x hx
      exact ⟨t', q', a, b, List.mem_cons_of_mem _ c⟩
def dq (q : Qd) : PyData := dQ q.1 q.2
theorem QL.dp {K : PySem.W.Frag} {H : Hp} : ∀ {xs : List V} {qs : List Qd}, QL H xs qs → DpAll K H xs (qs.map dq)
  | _, _, .nil => .nil
  | _, _, .cons ⟨t, e, z⟩ r => by
    subst e
    exact .cons (dp_q z) (QL.dp r)
end Qk
set_option maxRecDepth 100000
set_option maxHeartbeats 4000000
set_option maxRecDepth 100000
set_option maxHeartbeats 4000000
set_option maxRecDepth 100000
set_option maxHeartbeats 4000000
namespace Qk
open PySem PySem.Spec PyProof.Rows L2
/-- each slot is met in a round -/
structure MaskB (m : Nat) : Prop where
  all : ∀ j, j ≤ m → ∃ b, b ≤ m ∧ lcgN m b = j
  rnd : lcgN m (m + 1) = 0
  is_ : m = 7 ∨ m = 31 ∨ m = 127 ∨ m = 511
theorem MaskB.odd {m : Nat} (hm : MaskB m) : m % 2 = 1 := by
  rcases hm.is_ with e | e | e | e <;> rw [e]
theorem MaskB.again {m : Nat} (hm : MaskB m) : ∀ k, lcgN m (m + 1 + k) = lcgN m k
  | 0 => hm.rnd
  | k + 1 => by
    have ih := hm.again k
    show (lcgN m (m + 1 + k) * 5 + 1) % (m + 1) = _
    rw [ih]
    rfl
theorem MaskB.to {m i j : Nat} (hm : MaskB m) (hi : i ≤ m) (hj : j ≤ m) : ∃ k, k ≤ m ∧ lcgI m i k = j := by
  obtain ⟨a, a1, rfl⟩ := hm.all i hi
  obtain ⟨b, b1, rfl⟩ := hm.all j hj
  by_cases c : a ≤ b
  · exact ⟨b - a, by omega, by rw [lcgN_add, show a + (b - a) = b by omega]⟩
  · exact ⟨m + 1 + b - a, by omega, by rw [lcgN_add, show a + (m + 1 + b - a) = m + 1 + b by omega, hm.again]⟩
theorem MaskB.meets {m : Nat} (hm : MaskB m) (h : Int) {j : Nat} (hj : j ≤ m) : ∃ n, n ≤ m + 12 ∧ runI m (SetTable.bits h) n = j := by
  obtain ⟨k, k1, k2⟩ := hm.to (runI_le m (SetTable.bits h) 12) hj
  refine ⟨12 + k, by omega, ?_⟩
  rw [runI_tail (bits_lt h), k2]
theorem MaskB.way_to {m : Nat} (hm : MaskB m) (h : Int) {j : Nat} (hj : j ≤ m) : ∃ n, n ≤ m + 12 ∧ way m h (off m (SetTable.bits h % (m + 1)) (SetTable.bits h) n) = j := by
  obtain ⟨n, n1, n2⟩ := hm.meets h hj
  refine ⟨n, n1, ?_⟩
  unfold way
  rw [nth_off, itL_run, n2]
  rfl
theorem off_le (m : Nat) : ∀ (n i b : Nat), i ≤ m → off m i b n ≤ 10 * n
  | 0, _, _, _ => Nat.le_refl _
  | n + 1, i, b, hi => by
    have r := runEnd_bd hi
    have ih := off_le m n (SetTable.leap m i b).1 (SetTable.leap m i b).2 (leap_le m i b)
    show SetTable.runEnd m i - i + 1 + off m (SetTable.leap m i b).1 (SetTable.leap m i b).2 n ≤ _
    omega
/-- on h's way, j comes behind places of ps alone -/
def OnWay (m : Nat) (ps : List Nat) (h : Int) (j : Nat) : Prop := ∃ k, way m h k = j ∧ ∀ c, c < k → way m h c ∈ ps
structure TabB (t : SetTable) (hs : List Int) : Prop where
  up : Ris t.place.toList
  noD : t.dummies = #[]
  many : t.place.toList.length = hs.length
  mB : MaskB t.mask
  in_ : ∀ x ∈ t.place.toList, x ≤ t.mask
  onW : ∀ (i : Nat) (h : Int) (j : Nat), hs[i]? = some h → t.place.toList[i]? = some j → OnWay t.mask t.place.toList h j
theorem TabB.sz {t : SetTable} {hs : List Int} (T : TabB t hs) : t.place.size = hs.length := by
  rw [← Array.length_toList]
  exact T.many
theorem TabB.stop {t : SetTable} {hs : List Int} (T : TabB t hs) (hl : hs.length ≤ t.mask) (h : Int) :
    ∃ K, K < 10 * SetTable.turns t.mask ∧ way t.mask h K ∉ t.place.toList ∧ ∀ k, k < K → way t.mask h k ∈ t.place.toList := by
  obtain ⟨j, j1, j2⟩ := st_missing t.place.toList (t.mask + 1) (by rw [T.many]; omega)
  obtain ⟨n, n1, n2⟩ := T.mB.way_to h (Nat.le_of_lt_succ j1)
  have ob := off_le t.mask n (SetTable.bits h % (t.mask + 1)) (SetTable.bits h) (Nat.le_of_lt_succ (Nat.mod_lt _ (Nat.succ_pos t.mask)))
  obtain ⟨K, K1, K2, K3⟩ := st_least (p := fun k => way t.mask h k ∉ t.place.toList) _ (n2 ▸ j2)
  refine ⟨K, ?_, K2, fun k hk => Classical.byContradiction fun q => K3 k hk q⟩
  unfold SetTable.turns
  omega
theorem MaskB.free {m : Nat} (hm : MaskB m) (owner : Array (Option Nat)) (h : Int) {j : Nat} (hj : j ≤ m) (hf : oAt owner j = none) :
    ∃ K, SetTable.layClean.free m owner (SetTable.turns m) (SetTable.bits h % (m + 1)) (SetTable.bits h) = some (way m h K) ∧ oAt owner (way m h K) = none ∧ ∀ k, k < K → oAt owner (way m h k) ≠ none := by
  obtain ⟨n, n1, n2⟩ := hm.way_to h hj
  obtain ⟨K, K1, K2, K3⟩ := st_least (p := fun k => oAt owner (way m h k) = none) _ (by rw [← n2] at hf; exact hf)
  refine ⟨K, free_spec m owner _ n _ _ K (by unfold SetTable.turns; omega) K1 (fun k hk => ?_) (by rw [show oAt owner (nth m (runAt m _ _) K).j = none from K2]; rfl), K2, K3⟩
  cases e : oAt owner (way m h k) with
  | none => exact absurd e (K3 k hk)
  | some x => rfl
end Qk
set_option maxRecDepth 100000
set_option maxHeartbeats 4000000
namespace Qk
open PySem PySem.Spec PyProof.Rows L2
/-- the key k stands at a -/
def KAt (h : Heap) (k : NestedKey) (a : Addr) : Prop := NestedIs h k (.ref a) ∧ k.depth ≤ 8
theorem parts_of {h : Heap} : ∀ {ks : List NestedKey} {vs : List Value} {n : Nat}, NestedAll h ks vs → NestedKey.depthAll ks ≤ n → ∀ v ∈ vs, ∃ k, NestedIs h k v ∧ k.depth ≤ n
  | _, _, _, .nil, _, v, m => nomatch m
  | _, _, n, .cons (k := k0) x y, hd, v, m => by
    simp only [NestedKey.depthAll] at hd
    rcases List.mem_cons.mp m with rfl | m
    · exact ⟨k0, x, by omega⟩
    · exact parts_of y (by omega) v m
section
variable {P : Program} {w : World} {A : Around} {E : Value → Shared → Prop} {s : Shared}
theorem notClass : ∀ (n : Nat) {k : NestedKey} {v : Value} {Q : Bool → Shared → Prop}, NestedIs s.heap k v → k.depth ≤ n → Q false s → wpAny (model P w) A (ofAClassStatement n v) Q E s := by
  intro n
  induction n with
  | zero =>
    intro k v Q hv hn hq
    cases hv with
    | tup => simp only [NestedKey.depth] at hn; omega
    | _ => exact wpAny_pure hq
  | succ n ih =>
    intro k v Q hv hn hq
    cases hv with
    | @tup b ob arr m ks hb hc hd hall =>
      simp only [NestedKey.depth] at hn
      have hps := parts_of hall (Nat.le_of_succ_le_succ hn)
      unfold ofAClassStatement
      refine wpAny_bind (wpAny_typeOf (T := "tuple") ⟨ob, hb, hc⟩ ?_)
      dsimp only
      rw [show (("tuple" : String) == "tuple") = true from by decide]
      simp only [if_true, Bool.not_true, Bool.false_eq_true, if_false]
      try refine wpAny_bind (wpAny_pure ?_)
      try simp only [Bool.not_true, Bool.false_eq_true, if_false]
      show wpAny _ _ (seqItems? (.ref b) >>= _) _ _ s
      refine wpAny_bind (wpAny_seqItems hb hd ?_)
      dsimp only
      refine wpAny_bind ?_
      show wpAny _ _ (forIn arr _ _) _ _ s
      rw [← Array.forIn_toList]
      refine wpAny_forIn_list _ (fun rest z s' => (z.1 = none ∧ s' = s) ∧ ∀ u ∈ rest, ∃ k, NestedIs s.heap k u ∧ k.depth ≤ n) _ ?_ ?_ _ _ ⟨⟨rfl, rfl⟩, hps⟩
      · rintro u rest z s' ⟨⟨hz, rfl⟩, hr⟩
        obtain ⟨k', g1, g2⟩ := hr u List.mem_cons_self
        refine wpAny_bind (ih g1 g2 ?_)
        simp only [Bool.false_eq_true, if_false]
        exact wpAny_pure ⟨⟨rfl, rfl⟩, fun u' hu' => hr u' (List.mem_cons_of_mem _ hu')⟩
      · rintro ⟨z1, z2⟩ s' ⟨⟨hz, rfl⟩, _⟩
        dsimp only at hz
        subst hz
        exact wpAny_pure hq
    | _ => exact wpAny_pure hq
/-- no member shows anything while it is looked for -/
theorem unseen {k : NestedKey} {x : Addr} {ys : List Value} {Q : Bool → Shared → Prop} (hx : KAt s.heap k x) (hy : ∀ y ∈ ys, ∃ k' c, y = .ref c ∧ KAt s.heap k' c) (hq : Q false s) :
    wpAny (model P w) A (searchCouldBeSeen (.ref x) ys) Q E s := by
  unfold searchCouldBeSeen
  refine wpAny_bind (wpAny_forIn_list _ (fun rest z s' => (z.1 = none ∧ s' = s) ∧ ∀ y ∈ rest, ∃ k' c, y = .ref c ∧ KAt s.heap k' c) _ ?_ ?_ _ _ ⟨⟨rfl, rfl⟩, hy⟩)
  · rintro y rest z s' ⟨⟨hz, rfl⟩, hr⟩
    obtain ⟨k', c, rfl, hc⟩ := hr y List.mem_cons_self
    have go : ∀ y ∈ rest, ∃ k' c, y = .ref c ∧ KAt s'.heap k' c := fun u m => hr u (List.mem_cons_of_mem _ m)
    dsimp only
    by_cases hv : (x == c || (carriedByValue (.ref x) && carriedByValue (.ref c))) = true
    · exact wp_if_pos hv (wpAny_pure ⟨⟨rfl, rfl⟩, go⟩)
    · refine wp_if_neg hv (wpAny_bind ((nestedKind P w).quiet hx ?_))
      simp only [Bool.not_true, Bool.false_eq_true, if_false]
      refine wpAny_bind ((nestedKind P w).quiet hc ?_)
      simp only [Bool.not_true, Bool.false_eq_true, if_false]
      refine wpAny_bind (notClass 8 hx.1 hx.2 ?_)
      simp only [Bool.false_eq_true, if_false]
      refine wpAny_bind (notClass 8 hc.1 hc.2 ?_)
      simp only [Bool.false_eq_true, if_false]
      exact wpAny_pure ⟨⟨rfl, rfl⟩, go⟩
  · rintro ⟨z1, z2⟩ s' ⟨⟨hz, rfl⟩, _⟩
    dsimp only at hz
    subst hz
    exact wpAny_pure hq
end
abbrev pr (m : Nat) (h : Int) (c : Nat) : SetTable.Probe := nth m (runAt m (SetTable.bits h % (m + 1)) (SetTable.bits h)) c
theorem pr_clean (m : Nat) (h : Int) : ∀ c, (pr m h c).dummy = none
  | 0 => rfl
  | c + 1 => by
    show (nth m _ (c + 1)).dummy = none
    rw [nth_succ]
    have ih := pr_clean m h c
    unfold adv
    split <;> exact ih
theorem probe_at {t : SetTable} {hs : List Int} (T : TabB t hs) {h : Int} {K c : Nat} (hf : K < 10 * SetTable.turns t.mask) (hK : way t.mask h K ∉ t.place.toList) (hb : ∀ c, c < K → way t.mask h c ∈ t.place.toList) (ha : Nat → Int) (hc : c ≤ K) :
    (∃ d i, (c ≤ d ∧ d < K) ∧ t.place.toList[i]? = some (way t.mask h d) ∧ ha i = h ∧ (∀ e j, c ≤ e → e < d → t.place.toList[j]? = some (way t.mask h e) → ha j ≠ h) ∧ t.probe ha h (pr t.mask h c) = some (.candidate (way t.mask h d) i (pr t.mask h (d + 1)))) ∨
    (∀ e j, c ≤ e → e < K → t.place.toList[j]? = some (way t.mask h e) → ha j ≠ h) ∧ t.probe ha h (pr t.mask h c) = some (.empty (way t.mask h K) none) := by
  have sh : ∀ q, nth t.mask (pr t.mask h c) q = pr t.mask h (c + q) := fun q => (nth_add t.mask c _ q).symm
  have at_ : ∀ q, (nth t.mask (pr t.mask h c) q).j = way t.mask h (c + q) := fun q => congrArg SetTable.Probe.j (sh q)
  have eK : c + (K - c) = K := by omega
  rcases go_spec t T.up T.noD ha h (10 * SetTable.turns t.mask) (K - c) _ (pr_clean t.mask h c) (by omega) (fun q hq => by rw [at_]; exact hb _ (by omega)) (by rw [at_, eK]; exact hK) with ⟨q, i, g1, g2, g3, g4, g5⟩ | ⟨g1, g2⟩
  · refine .inl ⟨c + q, i, ⟨Nat.le_add_right _ _, by omega⟩, by rw [← at_]; exact g2, g3, fun e j he1 he2 hj => g4 (e - c) j (by omega) (by rw [at_, show c + (e - c) = e by omega]; exact hj), ?_⟩
    rw [← at_, show pr t.mask h (c + q + 1) = nth t.mask (pr t.mask h c) (q + 1) from (sh (q + 1)).symm]
    exact g5
  · refine .inr ⟨fun e j he1 he2 hj => g1 (e - c) j (by omega) (by rw [at_, show c + (e - c) = e by omega]; exact hj), ?_⟩
    rw [show way t.mask h K = (nth t.mask (pr t.mask h c) (K - c)).j by rw [at_, eK]]
    exact g2
abbrev Kp2 := NestedKey × Addr
/-- what the table has for a member -/
def ent (w : World) (p : Kp2) : Int × Value := (p.1.hash w, .ref p.2)
def hashesK (w : World) (L : List Kp2) : List Int := L.map fun p => p.1.hash w
/-- the set at a: L are its members (key and address), as the table has them -/
structure KSet (w : World) (h : Heap) (a : Addr) (L : List Kp2) (es : Array (Int × Value)) (ep : Nat) (t : SetTable) : Prop where
  ob : ∃ o, h.get? a = some o ∧ o.ExactSet ∧ o.data = .set es ep t
  rows : es.toList = L.map (ent w)
  tab : TabB t (hashesK w L)
  nd : (L.map Prod.fst).Nodup
  led : w.params.followText "set-order" = true ∨ t.led = true
  room : L.length * 5 < t.mask * 3
  few : L.length < 300
def KeysAt (h : Heap) (L : List Kp2) : Prop := ∀ p ∈ L, KAt h p.1 p.2
section
variable {P : Program} {w : World} {A : Around} {E : Value → Shared → Prop} {s : Shared} {h : Heap} {a : Addr} {L : List Kp2} {es : Array (Int × Value)} {ep : Nat} {t : SetTable}
theorem sz_rows (hr : es.toList = L.map (ent w)) : es.size = L.length := by
  rw [← Array.length_toList, hr, List.length_map]
theorem KSet.at_ (R : KSet w h a L es ep t) {i : Nat} {p : Kp2} (hi : L[i]? = some p) : es[i]? = some (ent w p) := by
  rw [← Array.getElem?_toList, R.rows, List.getElem?_map, hi]
  rfl
theorem len_h (L : List Kp2) : (hashesK w L).length = L.length := List.length_map _
theorem fits_of {hs : List Int} (T : TabB t hs) {n : Nat} (hn : hs.length = n) (hm : n ≤ t.mask) : t.fits n = true := by
  unfold SetTable.fits SetTable.fill
  have e : t.dummies.size = 0 := by rw [T.noD]; rfl
  rw [T.sz, hn, e]
  simp
  omega
theorem KSet.fits (R : KSet w h a L es ep t) : t.fits es.size = true := by
  rw [sz_rows R.rows]
  have := R.room
  exact fits_of R.tab (len_h L) (by omega)
theorem look (R : KSet w s.heap a L es ep t) (M : KeysAt s.heap L) {x : Addr} {k : NestedKey} (hx : KAt s.heap k x) (hu : A.units + 8 < cLine) {K : Nat} (hf : K < 10 * SetTable.turns t.mask)
    (hK : way t.mask (k.hash w) K ∉ t.place.toList) (hb : ∀ c, c < K → way t.mask (k.hash w) c ∈ t.place.toList) {Q : SetFound → Shared → Prop}
    (yes : k ∈ L.map Prod.fst → Q (.there none) s) (no : k ∉ L.map Prod.fst → Q (.free (way t.mask (k.hash w) K) false) s) :
    ∀ (f c : Nat) (stand : Option SetTable.Probe), stand.getD (t.probeStart (k.hash w)) = pr t.mask (k.hash w) c → c ≤ K → K < f + c →
      (∀ (i : Nat) (p : Kp2), L[i]? = some p → p.1 = k → ∃ d, c ≤ d ∧ d < K ∧ t.place.toList[i]? = some (way t.mask (k.hash w) d)) → wpAny (model P w) A (setSearchFrom a (.ref x) (k.hash w) true f stand) Q E s := by
  intro f
  induction f with
  | zero => intro c stand _ h1 h2; omega
  | succ f ih =>
    intro c stand hs h1 h2 hw
    obtain ⟨o, ho, hex, hd⟩ := R.ob
    rw [setSearchFrom_succ]
    refine wpAny_bind (wpAny_setState_of ho hd R.fits ?_)
    dsimp only
    refine wp_if_neg (by unfold SetTable.gaveWay; rw [R.tab.mB.odd]; decide) ?_
    try refine wpAny_bind (wpAny_pure ?_)
    have hh : ∀ (i : Nat) (p : Kp2), L[i]? = some p → (es[i]?.map (·.1)).getD 0 = p.1.hash w := fun i p hi => by rw [R.at_ hi]; rfl
    rcases probe_at R.tab hf hK hb (fun i => (es[i]?.map (·.1)).getD 0) h1 with ⟨d, i, ⟨d1, d2⟩, hi, _, hno, hp⟩ | ⟨hno, hp⟩
    · rw [hs, hp]
      dsimp only
      have hl : i < L.length := by
        have := (List.getElem?_eq_some_iff.mp hi).1
        rw [Array.length_toList, R.tab.sz, len_h] at this
        exact this
      obtain ⟨p, hpi⟩ : ∃ p, L[i]? = some p := ⟨_, List.getElem?_eq_getElem hl⟩
      have hpm := List.mem_of_getElem? hpi
      have tail : wpAny (model P w) A (searchRest a (.ref x) (k.hash w) true f es t (way t.mask (k.hash w) d) i (pr t.mask (k.hash w) (d + 1))) Q E s := by
        unfold searchRest
        rw [R.at_ hpi]
        unfold ent
        dsimp only
        refine wpAny_bind (wpAny_holding ((nestedKind P w).eqBool hu (M p hpm) hx ?_))
        refine wpAny_bind (wpAny_setState_of ho hd R.fits ?_)
        dsimp only
        by_cases hk : p.1 = k
        · refine wp_if_pos (by simp [hk]) (wpAny_pure (yes ?_))
          exact hk ▸ List.mem_map_of_mem hpm
        · refine wp_if_neg (by simp [hk]) ?_
          try refine wpAny_bind (wpAny_pure ?_)
          have live := slot_live R.tab.up hi
          rw [sameMem]
          simp only [if_true, live, R.at_ hpi, ent]
          refine wpAny_bind (wpAny_isSame_ref_self (wpAny_bind (wpAny_pure ?_)))
          simp only [if_true]
          refine wp_if_neg (by simp [hk]) (ih (d + 1) _ rfl d2 (by omega) fun j q hj hq => ?_)
          obtain ⟨e, e1, e2, e3⟩ := hw j q hj hq
          refine ⟨e, ?_, e2, e3⟩
          rcases Nat.lt_trichotomy e d with z | z | z
          · exact absurd ((hh j q hj).trans (by rw [hq])) (hno e j e1 z e3)
          · have l2 := slot_live R.tab.up (z ▸ e3)
            rw [live] at l2
            injection l2 with l2
            rw [← l2, hpi] at hj
            exact absurd ((congrArg Prod.fst (Option.some.inj hj)).trans hq) hk
          · exact z
      by_cases hl : t.led = true
      · refine wp_if_neg (by simp [hl]) ?_
        try refine wpAny_bind (wpAny_pure ?_)
        exact tail
      · refine wp_if_pos (by simp [hl]) (wpAny_bind (unseen hx (fun y hy => ?_) ?_))
        · obtain ⟨e, he, rfl⟩ := List.mem_map.mp hy
          have he2 : e ∈ es.toList := by
            have := (show e ∈ es ∧ _ by simpa using he).1
            simpa using this
          rw [R.rows] at he2
          obtain ⟨q, hq, rfl⟩ := List.mem_map.mp he2
          exact ⟨q.1, q.2, rfl, M q hq⟩
        · refine wp_if_neg (by decide) ?_
          try refine wpAny_bind (wpAny_pure ?_)
          exact tail
    · rw [hs, hp]
      dsimp only
      refine wpAny_pure (no fun hm => ?_)
      obtain ⟨q, hq, hk⟩ := List.mem_map.mp hm
      obtain ⟨j, hj⟩ := List.mem_iff_getElem?.mp hq
      obtain ⟨e, e1, e2, e3⟩ := hw j q hj hk
      exact hno e j e1 e2 e3 ((hh j q hj).trans (by rw [hk]))
end
end Qk
set_option maxRecDepth 100000
set_option maxHeartbeats 4000000
namespace Qk
open PySem PySem.Spec PyProof.Rows L2
theorem KAt.off {h h' : Heap} {k : NestedKey} {x a : Addr} {o : Obj} {es : Array (Int × Value)} {ep : Nat} {t : SetTable} (hx : KAt h k x) (ho : h.get? a = some o) (hd : o.data = .set es ep t) (hs : Heap.SameBut a h h') : KAt h' k x :=
  ⟨NestedIs.at (fun b ob vs n hb hv => (hs.2 b fun e => by
    subst e
    rw [ho] at hb
    cases hb
    rw [hd] at hv
    cases hv).trans hb) _ _ hx.1, hx.2⟩
theorem KAt.keep {h h' : Heap} {k : NestedKey} {x : Addr} (hx : KAt h k x) (hk : ∀ b o, h.get? b = some o → h'.get? b = some o) : KAt h' k x :=
  ⟨NestedIs.at (fun b ob vs n hb hv => hk b ob hb) _ _ hx.1, hx.2⟩
section
variable {P : Program} {w : World} {A : Around} {E : Value → Shared → Prop} {s : Shared} {a : Addr} {L : List Kp2} {es : Array (Int × Value)} {ep : Nat} {t : SetTable}
theorem KSet.keep {h h' : Heap} (R : KSet w h a L es ep t) (ha : ∀ o, h.get? a = some o → h'.get? a = some o) : KSet w h' a L es ep t := by
  obtain ⟨o, ho, r⟩ := R.ob
  exact ⟨⟨o, ha o ho, r⟩, R.rows, R.tab, R.nd, R.led, R.room, R.few⟩
end
end Qk
set_option maxRecDepth 100000
set_option maxHeartbeats 4000000
set_option maxRecDepth 100000
set_option maxHeartbeats 4000000
namespace Qk
open PySem PySem.Spec PyProof.Rows L2
def keyS (x : Str) : NestedKey := .text x
def nkQ (q : Qd) : NestedKey := .tup [.tup (q.1.map keyS), .text q.2]
theorem depth_keyS : ∀ xs : List Str, NestedKey.depthAll (xs.map keyS) = 0
  | [] => rfl
  | _ :: xs => by
    rw [List.map_cons, NestedKey.depthAll, depth_keyS xs]
    rfl
theorem depth_keyQ (q : Qd) : (nkQ q).depth ≤ 8 := by
  unfold nkQ
  simp only [NestedKey.depth, NestedKey.depthAll, depth_keyS]
  decide
theorem all_keyS {h : Heap} : ∀ {us : List Value} {xs : List Str}, PyProof.Rows.StrsAre us xs → NestedAll h (xs.map keyS) us
  | _, _, .nil => .nil
  | _, _, .cons x t r => .cons (.text x t) (all_keyS r)
theorem IsQ.key {h : Heap} {a : Addr} {q : Qd} (x : IsQ h (.ref a) q) : KAt h (nkQ q) a := by
  obtain ⟨a', c, o, oc, t, us, n, m, e, ho, hc, hd, hoc, hcc, hdc, hs⟩ := x
  cases e
  exact ⟨.tup ho hc hd (.cons (.tup hoc hcc hdc (by simpa using all_keyS hs)) (.cons (.text _ _) .nil)), depth_keyQ q⟩
end Qk
set_option maxRecDepth 100000
set_option maxHeartbeats 4000000
set_option maxRecDepth 100000
set_option maxHeartbeats 4000000
set_option maxRecDepth 100000
set_option maxHeartbeats 4000000
namespace PySem.W
open PySem PyProof.Rows
theorem qo_bind (self : Value) : bindSpecial (.builtin "object.__ne__") self = pure (.builtin "object.__ne__", [self]) :=
  (Slot.of (T := "object") (name := "__ne__") (owner := "object") (n := "__ne__") (by rw [typeLookup_type, builtinLookup_eq_fast]; kernel_rfl) (by decide +kernel) (by decide +kernel) (by decide +kernel)
    (.inl (by decide +kernel)) (by rw [isSubtype_type]; kernel_rfl)).bind self
theorem qo_plain : plainId "object.__ne__" = true := by decide +kernel
section
variable {prog : Program} {w : World} {A A₀ : Around} {E : Value → Shared → Prop} {s : Shared} {K : Frag} {x C L f : Addr} {h₀ : Heap} {m : Str → Option Value} {ox : Obj} {od : Option Obj} {name : Str} {b tb : Value}
/-- what an own == may answer -/
def BoolGiven (Q : Bool → Shared → Prop) (v : Value) (s' : Shared) : Prop := ∃ r, v = .bool r ∧ Q r s'
theorem qo_ne {Q : Value → Shared → Prop} (hu : A.units + 1 < cLine) (F : Fr h₀ L s.heap m) (X₀ : K.In h₀) (I : InstAt s.heap x ox C od) (hb : Looks (model prog w) s.heap (typeOf b) tb) (hn : notFirst K C tb = true)
    (hs : findIn K (.ref C) "__ne__" = some (some (.builtin "object.__ne__"))) (hq : findIn K (.ref C) "__eq__" = some (some (.ref f))) (hf : isFn K (.ref f) = true) (ho : subIn K (.ref C) (.type "object") = some true)
    (h : wpAny (model prog w) A.in1 (call (.ref f) [.ref x, b]) (BoolGiven fun r s' => Q (.bool (!r)) s') E s) : wpAny (model prog w) A (richCompare .NotEq (.ref x) b) Q E s := by
  have X := X₀.keeps F.keep
  have hi : Looks (model prog w) s.heap (isInstance (.ref x) (.type "object")) true := I.type.andThen (looks_subIn X ho)
  have run : wpAny (model prog w) A.in1 (Builtin.«object.__ne__» ⟨[.ref x, b], []⟩) (fun fin s' => match fin with | .done fl => (match fl with | .ret v => Q v s' ∧ ∃ r, v = .bool r | _ => False) | .again _ => False) E s := by
    unfold Builtin.«object.__ne__»
    show wpAny _ _ (do
      cRoomFor "comparison" [.ref x, b]
      match ← callSpecialIfBound? (.ref x) "__eq__" [b] with
      | some .notImplemented | none => ret .notImplemented
      | some r => ret (.bool (!(← truthy r)))) _ _ s
    refine wpAny_bind (wpAny_cRoomFor (by show A.units + 1 < cLine; exact hu) ?_)
    refine wpAny_bind (ifBound_K X I hq hf (wpAny_mono h (fun v s' hv => ?_) fun _ _ e => e))
    obtain ⟨r, rfl, hr⟩ := hv
    show wpAny _ _ (truthy (.bool r) >>= fun t => ret (.bool (!t))) _ _ s'
    refine wpAny_bind (wpAny_truthy_bool (wpAny_pure ?_))
    exact ⟨hr, _, rfl⟩
  have one : wpAny (model prog w) A (tryCompare (.ref x) (cmpInfo .NotEq).2.1 b) (fun r s' => ∃ v, r = some v ∧ Q v s') E s := by
    unfold tryCompare
    refine wpAny_bind ?_
    simp only [callSpecialIfBound?, bindSpecialIfBound?]
    refine wpAny_holding (wpAny_bind (wpAny_bind (wpAny_bind (I.type.here ((looks_findIn X hs).here ?_)))))
    have fin : wpAny (model prog w) A (call (.builtin "object.__ne__") ([.ref x] ++ [b]) >>= fun v => pure (some v)) (fun r s' => wpAny (model prog w) A (match r with | some .notImplemented | none => pure none | some v => pure (some v)) (fun r s' => ∃ v, r = some v ∧ Q v s') E s') E s := by
      refine wpAny_bind (wpAny_call (codeAny_call_builtin qo_plain PySem.F.cmpEntry_ne (check_slot PySem.F.cmpKind_ne PySem.F.cmpSplit_ne hi (PySem.F.cmpArgs_ne _ _) (wpAny_mono run (fun fin s' hv => ?_) fun _ _ e => e))))
      cases fin with
      | again c => exact hv.elim
      | done fl =>
        cases fl with
        | ret v =>
          obtain ⟨q, r, rfl⟩ := hv
          exact wpAny_pure (wpAny_pure ⟨_, rfl, q⟩)
        | _ => exact hv.elim
    refine wpAny_bind (wpAny_askSetting (wpAny_ite ?_))
    simp only [qo_bind]
    split
    · exact wpAny_bind (wpAny_pure (wpAny_pure (by exact fin)))
    · exact wpAny_tryCatch (wpAny_bind (wpAny_pure (wpAny_pure (by exact fin))))
  unfold richCompare
  simp only [oneThing_ref]
  refine wpAny_holding (wpAny_bind (wpAny_cRoomFor (Nat.lt_of_succ_lt hu) ?_))
  refine wpAny_bind (I.type.here (wpAny_bind (hb.here ?_)))
  split
  · rename_i q
    have e : subIn K tb (.ref C) = some false := by
      rcases Bool.or_eq_true_iff.mp hn with e | e
      · rw [beq_iff_eq.mp e] at q; simp at q
      · exact beq_iff_eq.mp e
    refine wpAny_bind ((looks_subIn X e).here ?_)
    simp only [Bool.false_eq_true, if_false]
    refine wpAny_bind (wpAny_mono one (fun r s' z => ?_) fun _ _ e => e)
    obtain ⟨v, rfl, hq⟩ := z
    exact wpAny_pure hq
  · refine wpAny_bind (wpAny_pure ?_)
    simp only [Bool.false_eq_true, if_false]
    refine wpAny_bind (wpAny_mono one (fun r s' z => ?_) fun _ _ e => e)
    obtain ⟨v, rfl, hq⟩ := z
    exact wpAny_pure hq
end
end PySem.W
namespace Qk
open PySem PySem.Spec PyProof.Rows L2
/-- what a class with an own == has in the written part -/
structure OwnEq (K : PySem.W.Frag) (C f : Addr) : Prop where
  eq : PySem.W.findIn K (.ref C) "__eq__" = some (some (.ref f))
  fn : PySem.W.isFn K (.ref f) = true
  ne : PySem.W.findIn K (.ref C) "__ne__" = some (some (.builtin "object.__ne__"))
  ob : PySem.W.subIn K (.ref C) (.type "object") = some true
section
variable {X : Cx} {C f : Addr} {fd : FuncData} {n : Nat} {sp : Sp}
/-- x == y by x's own ==; x != y: the opposite -/
def rOwn (K : PySem.W.Frag) (C : Addr) (sp : Sp) (neg : Bool) : R2 := fun x y H Q => ∃ (a dx : Addr) (fs : List (Str × V)) (tb : Value), x = .ref a ∧ H a = some (.ins C dx fs) ∧ TyX K H y tb ∧ PySem.W.notFirst K C tb = true ∧
  sp [x, y] H (fun v H' => ∃ r, v = .bl r ∧ Q (.bl (if neg = true then !r else r)) H') E0
theorem run_own {A : Around} {pins : List (Addr × Obj)} {σ : L2.St} {H : Hp} {s : Shared} {Q : VK} {us : List Value} {vs : List V} (F : FnOk X.prog X.w X.K X.mg X.base CX0 n f fd ["self", "other"] sp) (hA : Sub X n A) (hb : Binds X.K fd ["self", "other"] [])
    (I : Inv X pins σ H s) (r : Vals vs us) (h : sp vs H Q E0) : wpAny (model X.prog X.w) A (call (.ref f) us) (EP X pins σ Q) X.xe s := by
  have e0 : Env0 X.prog X.w X.K X.mg X.base A X.stack s H := by
    have e := I.env0
    exact ⟨by rw [hA.fr]; exact e.frames, e.mod, e.bs, e.bsz, e.funs, e.frf, e.hok, e.bare⟩
  have hl : (us ++ ([] : List Value)).length = ["self", "other"].length := by
    rw [List.append_nil, ← r.length]
    exact F.len _ _ _ _ h
  have hbd := hb s us I.kIn hl
  rw [List.append_nil] at hbd
  refine wpAny_call (codeAny_mono (F.run A X.stack s H ⟨us, []⟩ us vs Q E0 hA.room e0 hbd r h) fun r s' hq => ?_)
  cases r with
  | error e => exact False.elim hq
  | ok fl =>
    cases fl with
    | ret u => exact I.after hq
    | next => exact False.elim hq
    | brk => exact False.elim hq
    | cont => exact False.elim hq
theorem op_eqO (O : OwnEq X.K C f) (F : FnOk X.prog X.w X.K X.mg X.base CX0 n f fd ["self", "other"] sp) (hr : Room n X.A) (hb : Binds X.K fd ["self", "other"] []) : OpR X (compareOp .Eq) (rOwn X.K C sp false) := by
  intro pins s σ H x y v u Q I rx ry hq
  obtain ⟨a, dx, fs, tb, rfl, ha, ty, hn, h⟩ := hq
  cases rx
  obtain ⟨P, Z, hP, _⟩ := kit_of I ry ty
  obtain ⟨mA, J, _⟩ := ins_get I.hok ha
  obtain ⟨od, J, _⟩ := J.look
  obtain ⟨m, hF⟩ := I.fr
  refine PySem.W.cmp_K (op := .Eq) (tb := tb) hr.units0 hF I.ok.mod.kin J (Z.ty _ _ I.kIn hP) hn O.eq O.fn ?_
  refine wpAny_mono (run_own (us := [.ref a, u]) (vs := [.ref a, y]) F ⟨hr, rfl⟩ hb I (.cons rfl (.cons ry .nil)) h) (fun r s' z => ?_) fun _ _ e => e
  obtain ⟨w, H', I', rw', r, rfl, q⟩ := z
  cases rw'
  exact ⟨.bl r, H', I', rfl, q⟩
theorem op_neO (O : OwnEq X.K C f) (F : FnOk X.prog X.w X.K X.mg X.base CX0 n f fd ["self", "other"] sp) (hr : Room (n + 1) X.A) (hb : Binds X.K fd ["self", "other"] []) : OpR X (compareOp .NotEq) (rOwn X.K C sp true) := by
  intro pins s σ H x y v u Q I rx ry hq
  obtain ⟨a, dx, fs, tb, rfl, ha, ty, hn, h⟩ := hq
  cases rx
  obtain ⟨P, Z, hP, _⟩ := kit_of I ry ty
  obtain ⟨mA, J, _⟩ := ins_get I.hok ha
  obtain ⟨od, J, _⟩ := J.look
  obtain ⟨m, hF⟩ := I.fr
  show wpAny (model X.prog X.w) X.A (richCompare .NotEq (.ref a) u) (EP X pins σ Q) X.xe s
  refine PySem.W.qo_ne (tb := tb) (by have := hr.units; omega) hF I.ok.mod.kin J (Z.ty _ _ I.kIn hP) hn O.ne O.eq O.fn O.ob ?_
  refine wpAny_mono (run_own (us := [.ref a, u]) (vs := [.ref a, y]) F (Sub.in1 ⟨hr, rfl⟩) hb I (.cons rfl (.cons ry .nil)) h) (fun r s' z => ?_) fun _ _ e => e
  obtain ⟨w, H', I', rw', r, rfl, q⟩ := z
  cases rw'
  exact ⟨r, rfl, .bl (!r), H', I', rfl, q⟩
end
end Qk
set_option maxRecDepth 100000
set_option maxHeartbeats 4000000
namespace Qk
open PySem PySem.Spec PyProof.Rows L2
/-- a column, as a text -/
def colS (z : Str) : Bool := (decide (1 ≤ z.cps.size) && decide (z.cps.size ≤ 8)) && z.cps.toList.all fun c => decide (97 ≤ c) && decide (c ≤ 122)
/-- any value, as the functions of words see it -/
def spText (K : PySem.W.Frag) (f : Str → Bool) : Sp := fun vs H Q _ => ∃ x, vs = [x] ∧ ((∃ z, x = .str z ∧ z.cps.size ≤ 1000 ∧ PyData.strOk z = true ∧ ∀ H', Same H H' → Q (.bl (f z)) H') ∨ ∃ t : String, TyX K H x (.type t) ∧ kitB t "str" = some false ∧ Q (.bl false) H)
theorem ascii_tab : ((List.range 128).all fun c => (Unicode.isAlpha c == (decide (65 ≤ c) && decide (c ≤ 90) || decide (97 ≤ c) && decide (c ≤ 122))) && (Unicode.isLower c == (decide (97 ≤ c) && decide (c ≤ 122))) &&
    ((Unicode.isUpper c || Unicode.isTitle c) == (decide (65 ≤ c) && decide (c ≤ 90)))) = true := by decide +kernel
theorem ascii_facts {c : Nat} (h : c < 128) : Unicode.isAlpha c = (decide (65 ≤ c) && decide (c ≤ 90) || decide (97 ≤ c) && decide (c ≤ 122)) ∧ Unicode.isLower c = (decide (97 ≤ c) && decide (c ≤ 122)) ∧
    (Unicode.isUpper c || Unicode.isTitle c) = (decide (65 ≤ c) && decide (c ≤ 90)) := by
  have := List.all_eq_true.mp ascii_tab c (List.mem_range.mpr h)
  simp only [Bool.and_eq_true, beq_iff_eq] at this
  exact ⟨this.1.1, this.1.2, this.2⟩
/-- s.isascii() and s.isalpha() and s.islower(): all signs are a to z, and there is one -/
theorem low_iff (z : Str) (h : 1 ≤ z.cps.size) : (Txt.isascii z && (Txt.isalpha z && Txt.islower z)) = z.cps.toList.all fun c => decide (97 ≤ c) && decide (c ≤ 122) := by
  have e1 : Txt.isascii z = z.cps.toList.all fun c => decide (c < 128) := by
    show z.cps.all (· < 128) = _
    rw [← Array.all_toList]
  have e2 : Txt.isalpha z = z.cps.toList.all Unicode.isAlpha := by
    show (decide (z.length > 0) && z.cps.all Unicode.isAlpha) = _
    rw [decide_eq_true (show z.length > 0 from h), Bool.true_and, ← Array.all_toList]
  have e3 : Txt.islower z = (z.cps.toList.any Unicode.isLower && !z.cps.toList.any fun c => Unicode.isUpper c || Unicode.isTitle c) := by
    show (z.cps.any Unicode.isLower && !z.cps.any fun c => Unicode.isUpper c || Unicode.isTitle c) = _
    rw [← Array.any_toList, ← Array.any_toList]
  rw [e1, e2, e3]
  have hl : z.cps.toList ≠ [] := by
    intro q
    have : z.cps.toList.length = 0 := by rw [q]; rfl
    rw [Array.length_toList] at this
    omega
  generalize z.cps.toList = l at hl
  rw [Bool.eq_iff_iff]
  simp only [Bool.and_eq_true, List.all_eq_true, List.any_eq_true, Bool.not_eq_true', List.any_eq_false, decide_eq_true_eq]
  constructor
  · rintro ⟨ha, hb, ⟨d, hd, hdl⟩, hc⟩ c hcm
    obtain ⟨f1, f2, f3⟩ := ascii_facts (ha c hcm)
    have h1 := hb c hcm
    have h2 := hc c hcm
    rw [f3] at h2
    rw [f1] at h1
    simp only [Bool.or_eq_true, Bool.and_eq_true, decide_eq_true_eq] at h1 h2
    rcases h1 with h1 | h1
    · exact absurd h1 h2
    · exact h1
  · intro ha
    have lt : ∀ c ∈ l, c < 128 := fun c hc => by
      have := ha c hc
      omega
    refine ⟨lt, fun c hc => ?_, ?_, fun c hc => ?_⟩
    · rw [(ascii_facts (lt c hc)).1]
      have := ha c hc
      simp only [Bool.or_eq_true, Bool.and_eq_true, decide_eq_true_eq]
      exact .inr this
    · obtain ⟨c, hc⟩ := List.exists_mem_of_ne_nil l hl
      refine ⟨c, hc, ?_⟩
      rw [(ascii_facts (lt c hc)).2.1]
      have := ha c hc
      simp only [Bool.and_eq_true, decide_eq_true_eq]
      exact this
    · rw [(ascii_facts (lt c hc)).2.2]
      have := ha c hc
      simp only [Bool.and_eq_true, decide_eq_true_eq]
      omega
end Qk
set_option maxRecDepth 100000
set_option maxHeartbeats 4000000
namespace Qk
open PySem PySem.Spec PyProof.Rows L2
/-- a question as k13 has it -/
structure QZ (cols : List Str) (e : Str) : Prop where
  m : QM cols e
  ne : e ∉ cols
  le : cols.length + (if e = "" then 0 else 1) ≤ 12
theorem nodup_len : ∀ (l D : List Str), l.Nodup → (∀ x ∈ l, x ∈ D) → l.length ≤ D.length
  | [], _, _, _ => Nat.zero_le _
  | x :: l, D, hn, hs => by
    obtain ⟨h1, h2⟩ := List.nodup_cons.mp hn
    have hx : x ∈ D := hs x List.mem_cons_self
    have ih := nodup_len l (D.erase x) h2 fun y hy => (List.mem_erase_of_ne (by rintro rfl; exact h1 hy)).2 (hs y (List.mem_cons_of_mem _ hy))
    have e := List.length_erase_of_mem hx
    have hp : 0 < D.length := List.length_pos_of_mem hx
    rw [List.length_cons]
    omega
theorem Qok.qz {xs cols : List Str} {e : Str} (h : Qok xs cols e) (R : Row xs) : QZ cols e := by
  refine ⟨h.qm R.sub, h.ne, ?_⟩
  have hsub : ∀ z ∈ (if e = "" then cols else cols ++ [e]), z ∈ xs := fun z hz => by
    split at hz
    · exact h.sub _ hz
    · rename_i ne
      rcases List.mem_append.mp hz with q | q
      · exact h.sub _ q
      · rw [List.mem_singleton.mp q]
        exact h.esub.resolve_left ne
  have hnd : (if e = "" then cols else cols ++ [e]).Nodup := by
    split
    · exact h.nd
    · rw [List.nodup_append]
      exact ⟨h.nd, by simp, fun a ha b hb => by rw [List.mem_singleton.mp hb]; exact fun q => h.ne (q ▸ ha)⟩
  have hle := nodup_len _ _ hnd hsub
  have := R.le
  split
  · rename_i q
    rw [if_pos q] at hle
    omega
  · rename_i q
    rw [if_neg q, List.length_append] at hle
    simp at hle
    omega
/-- the columns of a question as they stand -/
def rowC (cols : List Str) (e : Str) : List Str := if e = "" then cols else cols ++ [e]
def spRow : Sp := fun vs H Q _ => ∃ (q : Addr) (cols : List Str) (e : Str), vs = [.ref q] ∧ QAt H q cols e ∧ QZ cols e ∧ ∀ (t : Addr) (H' : Hp), Same H H' → H' t = some (.tup ((rowC cols e).map V.str)) → Q (.ref t) H'
theorem QZ.strOk {cols : List Str} {e : Str} (h : QZ cols e) : ∀ c ∈ cols, PyData.strOk c = true := fun c hc => menu_ok _ (h.m.sub _ hc)
end Qk
set_option maxRecDepth 100000
set_option maxHeartbeats 4000000
set_option maxRecDepth 100000
set_option maxHeartbeats 4000000
set_option maxRecDepth 100000
set_option maxHeartbeats 4000000
namespace Qk
open PySem PySem.Spec PyProof.Rows L2 ItX
/-- an instance of C whose list f stands at l and has xs -/
def HasL (H : Hp) (C a : Addr) (f : Str) (l : Addr) (xs : List V) : Prop := ∃ (dx : Addr) (fs : List (Str × V)), H a = some (.ins C dx fs) ∧ fs.lookup f = some (.ref l) ∧ H l = some (.lst xs)
section
variable {X : Cx} {pins : List (Addr × Obj)} {σ : L2.St} {H : Hp} {s : Shared} {A1 : Around} {C a l fi fl : Addr} {f : Str} {fdI fdL : FuncData} {n : Nat} {xs : List V}
theorem env_sub (sb : Sub X n A1) (I : Inv X pins σ H s) : Env0 X.prog X.w X.K X.mg X.base A1 X.stack s H := by
  have e := I.env0
  constructor
  case frames => rw [sb.fr]; exact e.frames
  all_goals first | exact e.mod | exact e.bs | exact e.bsz | exact e.funs | exact e.frf | exact e.hok | exact e.bare
theorem HasL.off {q : Addr} {o : HO} (h : HasL H C a f l xs) (hq : H q = none) : HasL (upd H q o) C a f l xs := by
  obtain ⟨dx, fs, ha, hl, hx⟩ := h
  exact ⟨dx, fs, by rw [upd_ne (ne_of_none ha hq)]; exact ha, hl, by rw [upd_ne (ne_of_none hx hq)]; exact hx⟩
end
end Qk
set_option maxRecDepth 100000
set_option maxHeartbeats 4000000
namespace Qk
open PySem PySem.Spec PyProof.Rows L2
def TL (H : Hp) (vs : List V) (rs : List (List Str)) : Prop := Paired (fun (x : V) (r : List Str) => ∃ t, x = .ref t ∧ H t = some (.tup (r.map V.str))) vs rs
theorem TL.len {H : Hp} {vs : List V} {rs : List (List Str)} (h : TL H vs rs) : vs.length = rs.length := Paired.length h
theorem TL.same {H H' : Hp} {vs : List V} {rs : List (List Str)} (s : Same H H') (h : TL H vs rs) : TL H' vs rs := Paired.mapP h fun x r ⟨t, e, z⟩ => ⟨t, e, s _ _ z⟩
theorem TL.off {H : Hp} {p : Addr} {xs zs : List V} {vs : List V} {rs : List (List Str)} (hp : H p = some (.lst xs)) (h : TL H vs rs) : TL (upd H p (.lst zs)) vs rs := Paired.mapP h fun x r ⟨t, e, z⟩ => ⟨t, e, by
  rw [upd_ne fun g => by rw [g, hp] at z; cases z]
  exact z⟩
theorem TL.at_ {H : Hp} {vs : List V} {rs : List (List Str)} (h : TL H vs rs) {i : Nat} {x : V} (hi : vs[i]? = some x) : ∃ (t : Addr) (r : List Str), x = .ref t ∧ rs[i]? = some r ∧ H t = some (.tup (r.map V.str)) := by
  induction h generalizing i with
  | nil => simp at hi
  | @cons x0 r0 vs' rs' h1 _ ih =>
    cases i with
    | zero =>
      simp only [List.getElem?_cons_zero, Option.some.injEq] at hi
      subst hi
      obtain ⟨t, e, z⟩ := h1
      exact ⟨t, r0, e, rfl, z⟩
    | succ i => exact ih hi
theorem QL.off {H : Hp} {p : Addr} {xs zs : List V} {vs : List V} {qs : List Qd} (hp : H p = some (.lst xs)) (h : QL H vs qs) : QL (upd H p (.lst zs)) vs qs := Paired.mapP h fun x r ⟨t, e, c, z1, z2⟩ => ⟨t, e, c, by
  rw [upd_ne fun g => by rw [g, hp] at z1; cases z1]
  exact z1, by
  rw [upd_ne fun g => by rw [g, hp] at z2; cases z2]
  exact z2⟩
theorem QL.at_ {H : Hp} {xs : List V} {qs : List Qd} (h : QL H xs qs) {i : Nat} {x : V} (hi : xs[i]? = some x) : ∃ (t : Addr) (q : Qd), x = .ref t ∧ qs[i]? = some q ∧ QAt H t q.1 q.2 := by
  induction h generalizing i with
  | nil => simp at hi
  | @cons x0 q0 xs' qs' h1 _ ih =>
    cases i with
    | zero =>
      simp only [List.getElem?_cons_zero, Option.some.injEq] at hi
      subst hi
      obtain ⟨t, e, z⟩ := h1
      exact ⟨t, q0, e, rfl, z⟩
    | succ i => exact ih hi
end Qk
set_option maxRecDepth 100000
set_option maxHeartbeats 4000000
namespace Qk
open PySem PySem.Spec PyProof.Rows L2
section
variable {X : Cx} {C f : Addr} {fd : FuncData} {n : Nat} {sp : Sp} {p1 p2 : Str}
theorem run_two {A : Around} {pins : List (Addr × Obj)} {σ : L2.St} {H : Hp} {s : Shared} {Q : VK} {us : List Value} {vs : List V} (F : FnOk X.prog X.w X.K X.mg X.base CX0 n f fd [p1, p2] sp) (hA : Sub X n A) (hb : Binds X.K fd [p1, p2] [])
    (I : Inv X pins σ H s) (r : Vals vs us) (h : sp vs H Q E0) : wpAny (model X.prog X.w) A (call (.ref f) us) (EP X pins σ Q) X.xe s := by
  have e0 : Env0 X.prog X.w X.K X.mg X.base A X.stack s H := env_sub hA I
  have hl : (us ++ ([] : List Value)).length = [p1, p2].length := by
    rw [List.append_nil, ← r.length]
    exact F.len _ _ _ _ h
  have hbd := hb s us I.kIn hl
  rw [List.append_nil] at hbd
  refine wpAny_call (codeAny_mono (F.run A X.stack s H ⟨us, []⟩ us vs Q E0 hA.room e0 hbd r h) fun r s' hq => ?_)
  cases r with
  | error e => exact False.elim hq
  | ok fl =>
    cases fl with
    | ret u => exact I.after hq
    | next => exact False.elim hq
    | brk => exact False.elim hq
    | cont => exact False.elim hq
end
end Qk
set_option maxRecDepth 100000
set_option maxHeartbeats 4000000
namespace Qk
open PySem PySem.Spec PyProof.Rows L2
structure OwnGet (K : PySem.W.Frag) (C f : Addr) : Prop where
  at_ : PySem.W.findIn K (.ref C) "__getitem__" = some (some (.ref f))
  fi : PySem.W.fnIn K f = true
  fn : PySem.W.isFn K (.ref f) = true
def rIxO (C : Addr) (sp : Sp) : R2 := fun x y H Q => ∃ (a dx : Addr) (fs : List (Str × V)), x = .ref a ∧ H a = some (.ins C dx fs) ∧ sp [.ref a, y] H Q E0
section
variable {X : Cx} {C f : Addr} {fd : FuncData} {n : Nat} {sp : Sp} {p1 p2 : Str} {a b : Expr} {ta tb : TE} {pos : Pos}
theorem pe_ixO (O : OwnGet X.K C f) (F : FnOk X.prog X.w X.K X.mg X.base CX0 n f fd [p1, p2] sp) (hr : Room (n + 1) X.A) (hb : Binds X.K fd [p1, p2] []) (ha : PE X a ta) (hi : PE X b tb)
    (hsl : ∀ v i, subscripted b true v i = runValue (.builtin "lifetime.subscript" ⟨[v, i], []⟩)) : PE X (.Subscript a b pos) (tOp (rIxO C sp) ta tb) := by
  refine ⟨fun pins s σ H Q I h => ?_⟩
  refine Subscript_ (binT ha hi I h fun v u s2 x y H2 I2 rx ry q => ?_)
  obtain ⟨o, dx, fs, rfl, ho, h⟩ := q
  cases rx
  obtain ⟨mA, J, _⟩ := ins_get I2.hok ho
  obtain ⟨od, J, _⟩ := J.look
  obtain ⟨m, hF⟩ := I2.fr
  refine PySem.W.sub_K hF I2.ok.mod.kin J O.at_ O.fi O.fn ?_ (hsl _ _)
  exact run_two (us := [.ref o, u]) (vs := [.ref o, y]) F (Sub.in1 (⟨hr, rfl⟩ : Sub X (n + 1) X.A)) hb I2 (.cons rfl (.cons ry .nil)) h
end
end Qk
set_option maxRecDepth 100000
set_option maxHeartbeats 4000000
set_option maxRecDepth 100000
set_option maxHeartbeats 4000000
namespace Qk
open PySem PySem.Spec PyProof.Rows L2
structure OwnSet (K : PySem.W.Frag) (C f : Addr) : Prop where
  at_ : PySem.W.findIn K (.ref C) "__setitem__" = some (some (.ref f))
  sq : PySem.W.noSeq K C = true
  fn : PySem.W.isFn K (.ref f) = true
structure OwnCall (K : PySem.W.Frag) (C f : Addr) : Prop where
  at_ : PySem.W.findIn K (.ref C) "__call__" = some (some (.ref f))
  fi : PySem.W.fnIn K f = true
  fn : PySem.W.isFn K (.ref f) = true
def rSetO (C : Addr) (sp : Sp) : V → V → V → Hp → (Hp → Prop) → Prop := fun o i v H Q => ∃ (a dx : Addr) (fs : List (Str × V)), o = .ref a ∧ H a = some (.ins C dx fs) ∧ sp [.ref a, i, v] H (fun _ H' => Q H') E0
section
variable {X : Cx} {C f : Addr} {fd : FuncData} {n : Nat} {sp : Sp} {ps : List Str}
theorem run_any {A : Around} {pins : List (Addr × Obj)} {σ : L2.St} {H : Hp} {s : Shared} {Q : VK} {us : List Value} {vs : List V} (F : FnOk X.prog X.w X.K X.mg X.base CX0 n f fd ps sp) (hA : Sub X n A) (hb : Binds X.K fd ps [])
    (I : Inv X pins σ H s) (r : Vals vs us) (h : sp vs H Q E0) : codeAny (model X.prog X.w) A (.call (.ref f) ⟨us, []⟩) (CR CX0 X.stack X.prog X.w H s Q E0) s := by
  have e0 : Env0 X.prog X.w X.K X.mg X.base A X.stack s H := env_sub hA I
  have hl : (us ++ ([] : List Value)).length = ps.length := by
    rw [List.append_nil, ← r.length]
    exact F.len _ _ _ _ h
  have hbd := hb s us I.kIn hl
  rw [List.append_nil] at hbd
  exact F.run A X.stack s H ⟨us, []⟩ us vs Q E0 hA.room e0 hbd r h
theorem run_anyE {A : Around} {pins : List (Addr × Obj)} {σ : L2.St} {H : Hp} {s : Shared} {Q : VK} {us : List Value} {vs : List V} (F : FnOk X.prog X.w X.K X.mg X.base CX0 n f fd ps sp) (hA : Sub X n A) (hb : Binds X.K fd ps [])
    (I : Inv X pins σ H s) (r : Vals vs us) (h : sp vs H Q E0) : wpAny (model X.prog X.w) A (call (.ref f) us) (EP X pins σ Q) X.xe s := by
  refine wpAny_call (codeAny_mono (run_any F hA hb I r h) fun r s' hq => ?_)
  cases r with
  | error e => exact (show False from hq).elim
  | ok fl =>
    cases fl with
    | ret u => exact I.after hq
    | next => exact False.elim hq
    | brk => exact False.elim hq
    | cont => exact False.elim hq
theorem set_own (O : OwnSet X.K C f) (F : FnOk X.prog X.w X.K X.mg X.base CX0 n f fd ps sp) (hr : Room (n + 1) X.A) (hb : Binds X.K fd ps []) : PSet X (rSetO C sp) := by
  intro pins s σ H o i v ov iv u Q I ro ri rv h
  obtain ⟨a, dx, fs, rfl, ho, h⟩ := h
  cases ro
  obtain ⟨mA, J, _⟩ := ins_get I.hok ho
  obtain ⟨od, J, _⟩ := J.look
  obtain ⟨m, hF⟩ := I.fr
  refine PySem.W.ksp_setItem hF I.ok.mod.kin J O.sq O.at_ O.fn ?_
  refine wpAny_mono (run_anyE (us := [.ref a, iv, u]) (vs := [.ref a, i, v]) F (⟨hr.mono (Nat.le_succ _), rfl⟩ : Sub X n X.A) hb I (.cons rfl (.cons ri (.cons rv .nil))) h) (fun w' s' ⟨x, H', I', _, q⟩ => ⟨H', I', q⟩) fun _ _ z => z
theorem var_run {pins : List (Addr × Obj)} {σ : L2.St} {H : Hp} {s : Shared} {E : Value → Shared → Prop} {i : Nat} {x : Str} {pos : Pos} {v : V} {Q : Value → Shared → Prop} (I : Inv X pins σ H s) (hN : X.N[i]? = some x) (hv : Vis X.env.scope x) (e : σ[i]? = some (some v)) (h : ∀ u, RelV v u → Q u s)
    (hd : (x == ("__debug__" : Str)) = false := by decide) (hcd : (x == ("__classdict__" : Str)) = false := by decide) : wpAny (model X.prog X.w) X.A (eval (.Name x pos) X.env) Q E s := by
  obtain ⟨m, hn, hl⟩ := I.loc
  obtain ⟨u, r, l⟩ := hl i x v hN e hv
  rcases l with ⟨hk, hm⟩ | ⟨hk, c, hc, hcell⟩
  · exact wpAny_Name (wpAny_loadName_local I.ok.kind hk hn hm (h u r)) hd
  · rcases hk with hk | hk
    · exact wpAny_Name (wpAny_loadName_cell I.ok.kind hk hc hcell (h u r)) hd
    · exact wpAny_Name (wpAny_loadName_free I.ok.kind hk hc hcell (h u r) hcd) hd
/-- x(y), x an instance with a __call__ of its own, y a name -/
def tCallO (C : Addr) (sp : Sp) (i j : Nat) : TE := fun σ H Q => ∃ (a dx : Addr) (fs : List (Str × V)) (y : V), σ[i]? = some (some (.ref a)) ∧ H a = some (.ins C dx fs) ∧ σ[j]? = some (some y) ∧ sp [.ref a, y] H Q E0
theorem pe_callO {i j : Nat} {x y : Str} {p p1 pos : Pos} (O : OwnCall X.K C f) (F : FnOk X.prog X.w X.K X.mg X.base CX0 n f fd ps sp) (hr : Room (n + 2) X.A) (hb : Binds X.K fd ps []) (hN : X.N[i]? = some x) (hv : Vis X.env.scope x) (hN2 : X.N[j]? = some y) (hv2 : Vis X.env.scope y)
    (hd : (x == ("__debug__" : Str)) = false := by decide) (hcd : (x == ("__classdict__" : Str)) = false := by decide) (hd2 : (y == ("__debug__" : Str)) = false := by decide) (hcd2 : (y == ("__classdict__" : Str)) = false := by decide) :
    PE X (.Call (.Name x p) [.Name y p1] [] pos) (tCallO C sp i j) := by
  refine ⟨fun pins s σ H Q I h => ?_⟩
  obtain ⟨a, dx, fs, v, e1, ho, e2, h⟩ := h
  refine wpAny_Call_Name_kw (var_run I hN hv e1 (fun u r => ?_) hd hcd)
  cases r
  obtain ⟨mA, J, _⟩ := ins_get I.hok ho
  obtain ⟨od, J, _⟩ := J.look
  refine PySem.W.kco_callWith (K := X.K) (od := some od) I.kIn J rfl O.at_ ?_
  refine Calls.spliced_cons (var_run I hN2 hv2 e2 (fun u2 r2 => ?_) hd2 hcd2)
  refine Calls.spliced_nil ⟨⟨I.kIn, J⟩, ?_⟩
  refine wpAny_call (PySem.W.kco_code I.kIn J rfl O.at_ O.fn O.fi ?_)
  refine codeAny_mono (run_any (us := [.ref a, u2]) (vs := [.ref a, v]) F ?_ hb I (.cons rfl (.cons r2 .nil)) h) fun r s' hq => ?_
  · exact ⟨hr.mono (by omega), rfl⟩
  cases r with
  | error e => exact (show False from hq).elim
  | ok fl =>
    cases fl with
    | ret u => exact I.after hq
    | next => exact False.elim hq
    | brk => exact False.elim hq
    | cont => exact False.elim hq
end
def dk (t : List (Str × Int)) : List (Key × V) := t.map fun p => (Sum.inr p.1, V.int p.2)
def lookT (t : List (Str × Int)) (n : Str) : Option Int := (t.find? fun p => decide (p.1 = n)).map (·.2)
theorem val_dk (n : Str) : ∀ t : List (Str × Int), valV (dk t) (Sum.inr n) = (lookT t n).map V.int
  | [] => rfl
  | p :: t => by
    show valV ((Sum.inr p.1, V.int p.2) :: dk t) (Sum.inr n) = _
    by_cases e : p.1 = n
    · rw [valV_pos (by rw [e])]
      unfold lookT
      rw [List.find?_cons, decide_eq_true e]
      rfl
    · rw [valV_neg (fun h => e (Sum.inr.inj h)), val_dk n t]
      unfold lookT
      rw [List.find?_cons, decide_eq_false e]
theorem lookT_cons {p : Str × Int} {t : List (Str × Int)} {n : Str} : lookT (p :: t) n = if p.1 = n then some p.2 else lookT t n := by
  unfold lookT
  rw [List.find?_cons]
  by_cases e : p.1 = n
  · rw [decide_eq_true e, if_pos e]
    rfl
  · rw [decide_eq_false e, if_neg e]
theorem lookT_none {n : Str} : ∀ {t : List (Str × Int)}, lookT t n = none ↔ n ∉ t.map (·.1)
  | [] => ⟨fun _ h => (nomatch h), fun _ => rfl⟩
  | p :: t => by
    rw [lookT_cons, List.map_cons, List.mem_cons]
    by_cases e : p.1 = n
    · rw [if_pos e]
      exact ⟨fun h => (nomatch h), fun h => absurd (.inl e.symm) h⟩
    · rw [if_neg e, lookT_none]
      exact ⟨fun h h' => h'.elim (fun h' => e h'.symm) h, fun h h' => h (.inr h')⟩
theorem lookT_mem {n : Str} {x : Int} : ∀ {t : List (Str × Int)}, lookT t n = some x → (n, x) ∈ t
  | [], h => (nomatch h)
  | p :: t, h => by
    rw [lookT_cons] at h
    by_cases e : p.1 = n
    · rw [if_pos e] at h
      rw [← e, ← Option.some.inj h]
      exact List.mem_cons_self
    · rw [if_neg e] at h
      exact List.mem_cons_of_mem _ (lookT_mem h)
theorem lookT_of {n : Str} {x : Int} : ∀ {t : List (Str × Int)}, (t.map (·.1)).Nodup → (n, x) ∈ t → lookT t n = some x
  | [], _, h => (nomatch h)
  | p :: t, nd, h => by
    rw [List.map_cons, List.nodup_cons] at nd
    rw [lookT_cons]
    rcases List.mem_cons.mp h with h | h
    · rw [← h, if_pos rfl]
    · rw [if_neg fun e => nd.1 (by rw [e]; exact List.mem_map.mpr ⟨_, h, rfl⟩), lookT_of nd.2 h]
def putT (t : List (Str × Int)) (n : Str) (x : Int) : List (Str × Int) := if (lookT t n).isSome = true then t.map fun p => if p.1 = n then (p.1, x) else p else t ++ [(n, x)]
def dropT (t : List (Str × Int)) (n : Str) : List (Str × Int) := t.filter fun p => decide (p.1 ≠ n)
theorem put_dk (t : List (Str × Int)) (n : Str) (x : Int) : putK (dk t) (Sum.inr n) (V.int x) = dk (putT t n x) := by
  unfold putK putT
  rw [valV_any, val_dk, Option.isSome_map]
  split
  · unfold dk
    rw [List.map_map, List.map_map]
    refine List.map_congr_left fun p _ => ?_
    show (if (Sum.inr p.1 : Key) = Sum.inr n then ((Sum.inr p.1 : Key), V.int x) else (Sum.inr p.1, V.int p.2)) = (fun p : Str × Int => ((Sum.inr p.1 : Key), V.int p.2)) (if p.1 = n then (p.1, x) else p)
    by_cases e : p.1 = n
    · rw [if_pos (by rw [e]), if_pos e]
    · rw [if_neg (fun h => e (Sum.inr.inj h)), if_neg e]
  · unfold dk
    rw [List.map_append]
    rfl
theorem drop_dk (t : List (Str × Int)) (n : Str) : dropK (dk t) (Sum.inr n) = dk (dropT t n) := by
  unfold dropK dropT dk
  rw [List.filter_map]
  congr 1
  refine List.filter_congr fun p _ => ?_
  show decide ((Sum.inr p.1 : Key) ≠ Sum.inr n) = decide (p.1 ≠ n)
  exact decide_eq_decide.mpr ⟨fun h e => h (by rw [e]), fun h e => h (Sum.inr.inj e)⟩
theorem lookT_put (t : List (Str × Int)) (n m : Str) (x : Int) : lookT (putT t n x) m = if m = n then some x else lookT t m := by
  have h := valV_put (dk t) (Sum.inr n) (Sum.inr m) (V.int x)
  rw [put_dk, val_dk, val_dk] at h
  by_cases e : m = n
  · rw [if_pos (by rw [e])] at h
    rw [if_pos e]
    cases hh : lookT (putT t n x) m with
    | none => rw [hh] at h; cases h
    | some y =>
      rw [hh] at h
      injection h with h
      injection h with h
      rw [h]
  · rw [if_neg (fun h => e (Sum.inr.inj h))] at h
    rw [if_neg e]
    cases hh : lookT (putT t n x) m <;> cases hk : lookT t m <;> rw [hh, hk] at h <;> first | rfl | (cases h; rfl) | (cases h)
theorem lookT_filter (f : Str × Int → Bool) (m : Str) : ∀ {t : List (Str × Int)}, (t.map (·.1)).Nodup → lookT (t.filter f) m = (lookT t m).filter fun x => f (m, x)
  | [], _ => rfl
  | p :: t, nd => by
    rw [List.map_cons, List.nodup_cons] at nd
    rw [List.filter_cons, lookT_cons]
    by_cases e : p.1 = m
    · rw [if_pos e]
      subst e
      by_cases hf : f p = true
      · rw [if_pos hf, lookT_cons, if_pos rfl]
        show some p.2 = if f (p.1, p.2) = true then some p.2 else none
        rw [if_pos hf]
      · rw [if_neg hf, lookT_filter f p.1 nd.2, lookT_none.mpr nd.1]
        show none = if f (p.1, p.2) = true then some p.2 else none
        rw [if_neg hf]
    · rw [if_neg e]
      split
      · rw [lookT_cons, if_neg e, lookT_filter f m nd.2]
      · rw [lookT_filter f m nd.2]
theorem nd_filter {f : Str × Int → Bool} {t : List (Str × Int)} (nd : (t.map (·.1)).Nodup) : ((t.filter f).map (·.1)).Nodup := nd.sublist (List.filter_sublist.map _)
theorem nd_put {t : List (Str × Int)} {n : Str} {x : Int} (nd : (t.map (·.1)).Nodup) : ((putT t n x).map (·.1)).Nodup := by
  unfold putT
  split
  · rw [List.map_map, show ((fun p : Str × Int => p.1) ∘ fun p : Str × Int => if p.1 = n then (p.1, x) else p) = fun p => p.1 from funext fun p => by
      show (if p.1 = n then (p.1, x) else p).1 = p.1
      split <;> rfl]
    exact nd
  · rename_i h
    rw [List.map_append, List.nodup_append]
    refine ⟨nd, by simp, fun a ha b hb => ?_⟩
    have hb : b = n := by simpa using hb
    subst hb
    intro e
    subst e
    have : lookT t a = none := by
      cases hh : lookT t a with
      | none => rfl
      | some y => rw [hh] at h; exact absurd rfl h
    exact lookT_none.mp this ha
theorem sub_back : ∀ {a b : List Str}, a.Nodup → (∀ k ∈ a, k ∈ b) → b.length ≤ a.length → ∀ k ∈ b, k ∈ a
  | [], b, _, _, hl, k, hk => by
    rw [List.length_eq_zero_iff.mp (Nat.le_zero.mp hl)] at hk
    exact hk
  | x :: a, b, nd, h, hl, k, hk => by
    rw [List.nodup_cons] at nd
    have hx := h x List.mem_cons_self
    by_cases e : k = x
    · rw [e]
      exact List.mem_cons_self
    · refine List.mem_cons_of_mem _ (sub_back (b := b.erase x) nd.2 (fun y hy => (List.mem_erase_of_ne fun e => nd.1 (by rw [← e]; exact hy)).mpr (h y (List.mem_cons_of_mem _ hy))) ?_ k ((List.mem_erase_of_ne e).mpr hk))
      rw [List.length_erase_of_mem hx]
      rw [List.length_cons] at hl
      omega
def eqB (a b : List (Str × Int)) : Bool := a.length == b.length && a.all fun p => decide (lookT b p.1 = some p.2)
theorem eqB_iff {a b : List (Str × Int)} (ha : (a.map (·.1)).Nodup) (hb : (b.map (·.1)).Nodup) : eqB a b = true ↔ ∀ n, lookT a n = lookT b n := by
  unfold eqB
  rw [Bool.and_eq_true, beq_iff_eq, List.all_eq_true]
  constructor
  · rintro ⟨hl, h⟩ n
    have sub : ∀ k ∈ a.map (·.1), k ∈ b.map (·.1) := fun k hk => by
      obtain ⟨p, hp, rfl⟩ := List.mem_map.mp hk
      exact List.mem_map.mpr ⟨_, lookT_mem (of_decide_eq_true (h p hp)), rfl⟩
    cases e : lookT a n with
    | some x => exact (of_decide_eq_true (h _ (lookT_mem e))).symm
    | none =>
      symm
      rw [lookT_none]
      intro hn
      exact lookT_none.mp e (sub_back ha sub (by rw [List.length_map, List.length_map]; omega) n hn)
  · intro h
    refine ⟨?_, fun p hp => decide_eq_true (by rw [← h]; exact lookT_of ha hp)⟩
    have pr : (a.map (·.1)).Perm (b.map (·.1)) := (List.perm_ext_iff_of_nodup ha hb).mpr fun n => by
      constructor
      · intro hn
        exact Decidable.byContradiction fun hc => lookT_none.mp ((h n).trans (lookT_none.mpr hc)) hn
      · intro hn
        exact Decidable.byContradiction fun hc => lookT_none.mp ((h n).symm.trans (lookT_none.mpr hc)) hn
    have := pr.length_eq
    rw [List.length_map, List.length_map] at this
    exact this
def rEqTB : R2 := fun x y H Q => ∃ (a b : Addr) (t u : List (Str × Int)), x = .ref a ∧ y = .ref b ∧ H a = some (.dK (dk t)) ∧ H b = some (.dK (dk u)) ∧ Q (.bl (eqB t u)) H
def rNeTB : R2 := fun x y H Q => ∃ (a b : Addr) (t u : List (Str × Int)), x = .ref a ∧ y = .ref b ∧ H a = some (.dK (dk t)) ∧ H b = some (.dK (dk u)) ∧ Q (.bl (!eqB t u)) H
section
variable {X : Cx}
theorem hits_t {A : Around} {s : Shared} {u : List (Str × Int)} {vb : List (Key × Value)} (rb : KV (dk u) vb) : ∀ {t : List (Str × Int)} {va : List (Key × Value)}, KV (dk t) va → PySem.W.KeqHits A s vb va (t.all fun p => decide (lookT u p.1 = some p.2))
  | [], _, h => by
    cases h
    exact .nil
  | p :: t, _, h => by
    cases h with
    | cons h1 h2 =>
      rename_i q qs
      obtain ⟨k, v⟩ := q
      obtain ⟨e1, e2⟩ := h1
      have e1 : (Sum.inr p.1 : Key) = k := e1
      subst e1
      obtain ⟨tk, e2⟩ := e2
      have e2 : v = Value.int p.2 tk := e2
      subst e2
      have rr : RelO ((lookT u p.1).map V.int) (valueAt vb (Sum.inr p.1)) := by rw [← val_dk]; exact rb.val _
      rw [List.all_cons]
      cases hu : lookT u p.1 with
      | none =>
        rw [hu] at rr
        have : valueAt vb (Sum.inr p.1) = none := by
          have := rr.isSome_eq
          cases hh : valueAt vb (Sum.inr p.1) with
          | none => rfl
          | some y => rw [hh] at this; cases this
        rw [show (decide (none = some p.2)) = false from rfl, Bool.false_and]
        exact .miss this
      | some y =>
        rw [hu] at rr
        obtain ⟨z, hz, rz⟩ := rr.some_of
        obtain ⟨tz, rfl⟩ := rz
        have q := SeqAt.EqAt.int_int (A := A) (s := s) p.2 tk y tz
        have ee : (p.2 == y) = decide (some y = some p.2) := by
          rw [Bool.eq_iff_iff, beq_iff_eq, decide_eq_true_iff]
          exact ⟨fun h => by rw [h], fun h => (Option.some.inj h).symm⟩
        rw [ee] at q
        exact .hit hz q (hits_t rb h2)
theorem op_eqTB (hu : X.A.units < cLine) : OpR X (compareOp .Eq) rEqTB := by
  intro pins s σ H x y v u Q I rx ry h
  obtain ⟨a, b, t, r, rfl, rfl, ea, eb, q⟩ := h
  obtain rfl : v = Value.ref a := rx
  obtain rfl : u = Value.ref b := ry
  obtain ⟨_, ya, va, ra, da⟩ := (show ObjOk X.prog X.w H s.heap a (.dK (dk t)) from I.hok a _ ea)
  obtain ⟨_, yb, vb, rb, db⟩ := (show ObjOk X.prog X.w H s.heap b (.dK (dk r)) from I.hok b _ eb)
  have l1 : va.length = t.length := by rw [← ra.length]; exact List.length_map _
  have l2 : vb.length = r.length := by rw [← rb.length]; exact List.length_map _
  exact PySem.W.keq_eq (knd := mixKind X.prog X.w) ya yb da db hu (fun _ => hits_t rb ra) (fin_bl I q (by unfold eqB; rw [l1, l2]))
theorem op_neTB (hu : X.A.units < cLine) : OpR X (compareOp .NotEq) rNeTB := by
  intro pins s σ H x y v u Q I rx ry h
  obtain ⟨a, b, t, r, rfl, rfl, ea, eb, q⟩ := h
  obtain rfl : v = Value.ref a := rx
  obtain rfl : u = Value.ref b := ry
  obtain ⟨_, ya, va, ra, da⟩ := (show ObjOk X.prog X.w H s.heap a (.dK (dk t)) from I.hok a _ ea)
  obtain ⟨_, yb, vb, rb, db⟩ := (show ObjOk X.prog X.w H s.heap b (.dK (dk r)) from I.hok b _ eb)
  have l1 : va.length = t.length := by rw [← ra.length]; exact List.length_map _
  have l2 : vb.length = r.length := by rw [← rb.length]; exact List.length_map _
  exact PySem.W.keq_ne (knd := mixKind X.prog X.w) ya yb da db hu (fun _ => hits_t rb ra) (fin_bl I q (by unfold eqB; rw [l1, l2]))
end
end Qk
set_option maxRecDepth 100000
set_option maxHeartbeats 4000000
namespace Qk
open PySem PySem.Spec PyProof.Rows L2
def top (i : Nat) : Stmt := PySem.Challenge.pw_narrowkeys_k60_weights_told.main.body.getD i (.Pass ⟨0, 0, 0, 0⟩)
abbrev sIsInt : Stmt := top 8
abbrev sIsCol : Stmt := top 9
abbrev sIsWeight : Stmt := top 10
abbrev sRow : Stmt := top 12
abbrev sColsIn : Stmt := top 14
abbrev sBag : Stmt := top 17
abbrev sTake : Stmt := top 18
abbrev sOne : Stmt := top 19
abbrev sMixed : Stmt := top 20
abbrev sNames : Stmt := top 21
abbrev sQuestion : Stmt := top 22
abbrev sIndex : Stmt := top 23
abbrev sLAll : Stmt := top 24
abbrev sAlike : Stmt := top 25
abbrev sWeigh : Stmt := top 26
abbrev sTable : Stmt := top 27
abbrev sHeavy : Stmt := top 28
abbrev sRight : Stmt := top 29
abbrev sLaw : Stmt := top 30
abbrev sWInit : Stmt := inClass (top 15) 0
abbrev sWEq : Stmt := inClass (top 15) 1
abbrev sWGet : Stmt := inClass (top 15) 3
abbrev sWSet : Stmt := inClass (top 15) 4
abbrev sWCall : Stmt := inClass (top 15) 5
abbrev sWTable : Stmt := inClass (top 15) 6
abbrev sWCopied : Stmt := inClass (top 15) 7
structure Txt (K : PySem.W.Frag) (mg : Str → Option Value) : Prop where
  len : mg "len" = none
  int : mg "int" = none
  abs : mg "abs" = none
  tuple : mg "tuple" = none
  sorted : mg "sorted" = none
  range : mg "range" = none
  repr : mg "repr" = none
  list : mg "list" = none
  isinstance : mg "isinstance" = none
  str : mg "str" = none
  all : mg "all" = none
  bool : mg "bool" = none
  dict : mg "dict" = none
  sum : mg "sum" = none
  longest : ∃ t, mg "LONGEST_COLUMN" = some (.int 8 t)
  great : ∃ t, mg "GREATEST_WEIGHT" = some (.int (10 ^ 30) t)
/-- the class Weights -/
structure TxA (K : PySem.W.Frag) (mg : Str → Option Value) (C : Addr) : Prop where
  cl : Cls K C
  nQ : NoAttr K C "_table"
  mgC : mg "Weights" = some (.ref C)
  ha : PySem.W.findIn K (.ref C) "__class__" = some (some (.builtin "object.__class__"))
  hn : PySem.W.specialIn K (.builtin "object.__class__") "__get__" = some (some (.builtin "getset_descriptor.__get__"))
  ht : PySem.W.takesIn K (.builtin "object.__class__") = some true
  hm : PySem.W.mroIn K C (.type "object") = some true
theorem kit_self {K : PySem.W.Frag} {C : Addr} : PySem.W.kitOne K (.ref C) (.ref C) = some true := by
  unfold PySem.W.kitOne
  exact if_pos (beq_iff_eq.mpr rfl)
section
variable {P : Program} {w : World} {K : PySem.W.Frag} {mg : Str → Option Value} {base : Heap}
def sDead : TS := fun _ _ _ => False
theorem TxA.ty {C : Addr} (T : TxA K mg C) {H : Hp} {a dx : Addr} {fs : List (Str × V)} (h : H a = some (.ins C dx fs)) : TyX K H (.ref a) (.ref C) := .base (.ins h T.cl T.ha T.hn T.ht T.hm)
theorem ps_dead {X : Cx} {st : Stmt} : PS X st sDead := ⟨fun _ _ _ _ _ _ h => h.elim⟩
theorem scIsCol : FnScope ["thing"] ["thing"] (defScope sIsCol) := ⟨rfl, rfl, rfl, by decide +kernel, rfl, by decide +kernel, by decide +kernel⟩
theorem ok_iscol {f : Addr} {fd : FuncData} (F : Fun K "is_column" "is_column" sIsCol f fd) (T : Txt K mg) : FnOk P w K mg base CX0 1 f fd ["thing"] (spText K colS) := by
  refine F.ok scIsCol (fun vs H Q E h => ?_) (fun cdv A outer s H vs Q E hr h => ?_)
  · obtain ⟨x, rfl, _⟩ := h
    rfl
  · obtain ⟨x, rfl, h⟩ := h
    have nd := scIsCol.nd
    obtain ⟨tl, hl⟩ := T.longest
    refine ⟨_, pss_cons (ps_if (PW.pt (pw_or (pt_not (pt_val (pe_callB call_isi (by rfl) T.isinstance (by decide +kernel) (pa_cons (pv 0) (pa_cons (pe_bltn (v := .ty "str") (by rfl) T.str (by decide +kernel) rfl) pa_nil)))))
        (pw_or1 (pt_not (pt_chain op_le op_le pe_int (pe_callB call_len_str (by rfl) T.len PySem.boot_len (pa_cons (pv 0) pa_nil)) (pe_glob (v := .int 8) rfl hl ⟨tl, rfl⟩)))))) (pss_one (ps_ret pe_bl)) pss_nil)
      (pss_one (ps_ret (pe_and (pe_m0 PySem.F.slot_str_isascii PySem.F.type_str_isascii mt_isascii (pv 0)) (pe_and (pe_m0 PySem.F.slot_str_isalpha PySem.F.type_str_isalpha mt_isalpha (pv 0))
        (pe_one (pe_m0 PySem.F.slot_str_islower PySem.F.type_str_islower mt_islower (pv 0))))))), ?_⟩
    rcases h with ⟨z, rfl, hz, hok, k⟩ | ⟨t, ty, hk, k⟩
    · refine ⟨_, rfl, _, _, .type "str", .type "str", true, rfl, .ty "str", .base (.str z), kit_ty (by decide +kernel), _, rfl, ?_⟩
      refine iteF ?_
      have hlen : z.length = z.cps.size := rfl
      have kk := k H (Same.refl _)
      unfold colS at kk
      refine ⟨_, rfl, z, rfl, by rw [hlen, sizeLine_eq]; omega, 1, _, rfl, rfl, _, rfl, ?_⟩
      rw [hlen]
      by_cases c1 : 1 ≤ z.cps.size
      · have d1 : decide ((1 : Int) ≤ (z.cps.size : Int)) = true := decide_eq_true (by omega)
        rw [d1]
        refine iteT ?_
        refine ⟨_, 8, rfl, rfl, _, rfl, ?_⟩
        by_cases c2 : z.cps.size ≤ 8
        · have d2 : decide ((z.cps.size : Int) ≤ 8) = true := decide_eq_true (by omega)
          rw [d2]
          refine iteF ?_
          rw [decide_eq_true c1, decide_eq_true c2, ← low_iff z c1, Bool.true_and, Bool.true_and] at kk
          refine ⟨_, rfl, ⟨_, rfl⟩, z, rfl, rfl, True.intro, _, rfl, ?_⟩
          cases h1 : Txt.isascii z with
          | false =>
            rw [h1, Bool.false_and] at kk
            refine iteF ?_
            exact kk
          | true =>
            rw [h1, Bool.true_and] at kk
            refine iteT ?_
            refine ⟨_, rfl, ⟨_, rfl⟩, z, rfl, rfl, True.intro, _, rfl, ?_⟩
            cases h2 : Txt.isalpha z with
            | false =>
              rw [h2, Bool.false_and] at kk
              refine iteF ?_
              exact kk
            | true =>
              rw [h2, Bool.true_and] at kk
              refine iteT ?_
              exact ⟨_, rfl, ⟨_, rfl⟩, z, rfl, rfl, True.intro, kk⟩
        · have d2 : decide ((z.cps.size : Int) ≤ 8) = false := decide_eq_false (by omega)
          rw [d2]
          refine iteT ?_
          rw [decide_eq_false c2, Bool.and_false, Bool.false_and] at kk
          exact kk
      · have d1 : decide ((1 : Int) ≤ (z.cps.size : Int)) = false := decide_eq_false (by omega)
        rw [d1]
        refine iteF ?_
        refine ⟨_, rfl, ?_⟩
        refine iteT ?_
        rw [decide_eq_false c1, Bool.false_and, Bool.false_and] at kk
        exact kk
    · refine ⟨_, rfl, _, _, .type t, .type "str", false, rfl, .ty "str", ty, kit_ty hk, _, rfl, ?_⟩
      refine iteT ?_
      exact k
/-- a value that is a whole number, a truth, or neither -/
def IntV (K : PySem.W.Frag) (H : Hp) (x : V) : Prop := (∃ i, x = .int i) ∨ (∃ b, x = .bl b) ∨ ((∀ i, x ≠ .int i) ∧ ∃ tv, TyX K H x tv ∧ PySem.W.kitOne K tv (.type "int") = some false)
/-- the whole number that a value is -/
def wholeV : V → Option Int
  | .int i => some i
  | _ => none
theorem wholeV_none {x : V} (h : ∀ i, x ≠ .int i) : wholeV x = none := by
  cases x <;> first | rfl | exact absurd rfl (h _)
theorem scIsInt : FnScope ["thing"] ["thing"] (defScope sIsInt) := ⟨rfl, rfl, rfl, by decide +kernel, rfl, by decide +kernel, by decide +kernel⟩
def spIsIntV (K : PySem.W.Frag) : Sp := fun vs H Q _ => ∃ x : V, vs = [x] ∧ IntV K H x ∧ Q (.bl (wholeV x).isSome) H
theorem ok_isint {f : Addr} {fd : FuncData} (F : Fun K "is_integer" "is_integer" sIsInt f fd) (T : Txt K mg) : FnOk P w K mg base CX0 1 f fd ["thing"] (spIsIntV K) := by
  refine F.ok scIsInt (fun vs H Q E h => ?_) (fun cdv A outer s H vs Q E hr h => ?_)
  · obtain ⟨i, rfl, _⟩ := h
    rfl
  · obtain ⟨x, rfl, hx, k⟩ := h
    refine ⟨_, pss_one (ps_ret (pe_and (pe_callB (r := rIsi K) call_isi (by rfl) T.isinstance (by decide +kernel) (pa_cons (pv 0) (pa_cons (pe_bltn (v := .ty "int") (by rfl) T.int (by decide +kernel) rfl) pa_nil))) (pe_one (pe_not (pe_callB (r := rIsi K) call_isi (by rfl) T.isinstance (by decide +kernel) (pa_cons (pv 0) (pa_cons (pe_bltn (v := .ty "bool") (by rfl) T.bool (by decide +kernel) rfl) pa_nil))))))), ?_⟩
    rcases hx with ⟨i, rfl⟩ | ⟨b, rfl⟩ | ⟨hne, tv, ty, kt⟩
    · refine ⟨_, rfl, .int i, .ty "int", .type "int", .type "int", true, rfl, .ty _, .base (.int i), rfl, _, rfl, ?_⟩
      refine iteT ?_
      refine ⟨_, rfl, .int i, .ty "bool", .type "int", .type "bool", false, rfl, .ty _, .base (.int i), rfl, ?_⟩
      exact ⟨_, rfl, k⟩
    · refine ⟨_, rfl, .bl b, .ty "int", .type "bool", .type "int", true, rfl, .ty _, .base (.bl b), kit_ty (by decide +kernel), _, rfl, ?_⟩
      refine iteT ?_
      refine ⟨_, rfl, .bl b, .ty "bool", .type "bool", .type "bool", true, rfl, .ty _, .base (.bl b), kit_ty (by decide +kernel), ?_⟩
      exact ⟨_, rfl, k⟩
    · refine ⟨_, rfl, x, .ty "int", tv, .type "int", false, rfl, .ty _, ty, kt, _, rfl, ?_⟩
      refine iteF ?_
      rw [wholeV_none hne] at k
      exact k
/-- a whole number within the bounds -/
def wtV (x : V) : Bool := match wholeV x with
  | some i => decide (1 ≤ i ∧ i ≤ 10 ^ 30)
  | none => false
def spWt (K : PySem.W.Frag) : Sp := fun vs H Q _ => ∃ x : V, vs = [x] ∧ IntV K H x ∧ Q (.bl (wtV x)) H
theorem scIsWeight : FnScope ["thing"] ["thing"] (defScope sIsWeight) := ⟨rfl, rfl, rfl, by decide +kernel, rfl, by decide +kernel, by decide +kernel⟩
theorem ok_isweight {f : Addr} {fd : FuncData} (F : Fun K "is_weight" "is_weight" sIsWeight f fd) (T : Txt K mg) (cI : Cal P w K mg base 1 "is_integer" ["thing"] (spIsIntV K)) : FnOk P w K mg base CX0 2 f fd ["thing"] (spWt K) := by
  refine F.ok scIsWeight (fun vs H Q E h => ?_) (fun cdv A outer s H vs Q E hr h => ?_)
  · obtain ⟨x, rfl, _⟩ := h
    rfl
  · obtain ⟨x, rfl, hx, k⟩ := h
    obtain ⟨tg, hg⟩ := T.great
    refine ⟨_, pss_one (ps_ret (pe_and (pe_call cI.G hr rfl cI.m cI.kp cI.b .nil pass0 (pa_cons (pv 0) pa_nil)) (pe_one (pe_chain op_le op_le pe_int (pv 0) (pe_glob (v := .int (10 ^ 30)) rfl hg ⟨tg, rfl⟩))))), ?_⟩
    refine ⟨_, rfl, x, rfl, hx, _, rfl, ?_⟩
    have hc : (∃ i, x = .int i) ∨ wholeV x = none := by
      cases x <;> first | exact .inl ⟨_, rfl⟩ | exact .inr rfl
    rcases hc with ⟨i, rfl⟩ | hn
    · refine iteT ?_
      refine ⟨_, rfl, 1, i, rfl, rfl, _, rfl, ?_⟩
      have e : wtV (.int i) = decide (1 ≤ i ∧ i ≤ 10 ^ 30) := rfl
      rw [e] at k
      by_cases h0 : 1 ≤ i
      · rw [decide_eq_true h0]
        refine iteT ?_
        refine ⟨i, 10 ^ 30, rfl, rfl, ?_⟩
        have e2 : decide (1 ≤ i ∧ i ≤ 10 ^ 30) = decide (i ≤ 10 ^ 30) := decide_eq_decide.mpr ⟨fun h => h.2, fun h => ⟨h0, h⟩⟩
        rw [e2] at k
        exact k
      · rw [decide_eq_false h0]
        refine iteF ?_
        rw [decide_eq_false fun h => h0 h.1] at k
        exact k
    · have e2 : (wholeV x).isSome = false := by rw [hn]; rfl
      have e3 : wtV x = false := by unfold wtV; rw [hn]
      rw [e3] at k
      show if (wholeV x).isSome = true then _ else _
      rw [e2]
      refine iteF ?_
      exact k
theorem nodup_lenS : ∀ {a b : List Str}, a.Nodup → (∀ k ∈ a, k ∈ b) → a.length ≤ b.length
  | [], _, _, _ => Nat.zero_le _
  | x :: a, b, nd, h => by
    rw [List.nodup_cons] at nd
    have hx := h x List.mem_cons_self
    have := nodup_lenS (b := b.erase x) nd.2 fun y hy => (List.mem_erase_of_ne fun e => nd.1 (by rw [← e]; exact hy)).mpr (h y (List.mem_cons_of_mem _ hy))
    rw [List.length_erase_of_mem hx] at this
    have := List.length_pos_of_mem hx
    rw [List.length_cons]
    omega
theorem rep_snoc (i : Nat) : (List.replicate i true).map V.bl ++ [V.bl true] = (List.replicate (i + 1) true).map V.bl := by
  rw [List.replicate_succ', List.map_append]
  rfl
theorem rep_all (i : Nat) : (List.replicate i true).all id = true := by
  rw [List.all_eq_true]
  intro x hx
  rw [(List.mem_replicate.mp hx).2]
  rfl
/-- a dict comprehension over a walk: Pv by the turn and the heap (the new dict at D within) -/
theorem dc_it {J : It} {n : Nat} {G : Hp → Prop} {Y : Nat → Hp → V → Hp → Prop} (w : Walk J n G Y) {g : TG} {tt : TT} {tk tv : TE} {vs : List Nat} {σ : L2.St} {H1 : Hp} {D : Addr} {Qd : Hp → Prop} (Pv : Nat → Hp → Prop) (h0 : Pv 0 (upd H1 D (.dK []))) (hG : ∀ i H, i ≤ n → Pv i H → G H)
    (hs : ∀ i x H H', i < n → Pv i H → Y i H x H' → g x (wipe σ vs) H' fun σ2 H2 => wipe σ2 vs = wipe σ vs ∧ tt σ2 H2 fun b H3 =>
      if b = true then tk σ2 H3 fun y H4 => tv σ2 H4 fun z H5 => ∃ kvs k, y = kV k ∧ H5 D = some (.dK kvs) ∧ kvs.length < sizeLine ∧ Pv (i + 1) (upd H5 D (.dK (putK kvs k z))) else Pv (i + 1) H3) (hd : ∀ H, Pv n H → Qd H) :
    ∃ W : Nat → Nat → Hp → Prop, (∃ m, W 0 m (upd H1 D (.dK []))) ∧ ∀ i m H, W i m H →
      (J.stop i H ∧ Qd H) ∨ (J.go i H ∧ ∃ Nx : Hp → Prop, (∀ H', Nx H' → ∃ m', m' < m ∧ W (i + 1) m' H') ∧ ∀ x H', J.yld i H x H' → g x (wipe σ vs) H' fun σ2 H2 => wipe σ2 vs = wipe σ vs ∧ tt σ2 H2 fun b H3 =>
        if b = true then tk σ2 H3 fun y H4 => tv σ2 H4 fun z H5 => ∃ kvs k, y = kV k ∧ H5 D = some (.dK kvs) ∧ kvs.length < sizeLine ∧ Nx (upd H5 D (.dK (putK kvs k z))) else Nx H3) := by
  refine ⟨fun i m H => m + i = n ∧ Pv i H, ⟨n, by simp, h0⟩, fun i m H p => ?_⟩
  obtain ⟨e, p⟩ := p
  have q := hG i H (by omega) p
  cases m with
  | zero =>
    have e' : i = n := by omega
    subst e'
    exact .inl ⟨w.stops H q, hd H p⟩
  | succ m => exact .inr ⟨w.goes i H (by omega) q, Pv (i + 1), fun H' p' => ⟨m, by omega, by omega, p'⟩, fun x H' y => hs i x H H' (by omega) p (w.yields i H x H' (by omega) q y)⟩
/-- a table of weights -/
structure GoodT (t : List (Str × Int)) : Prop where
  nd : (t.map (·.1)).Nodup
  sub : ∀ p ∈ t, p.1 ∈ menu
  wt : ∀ p ∈ t, 1 ≤ p.2 ∧ p.2 ≤ 10 ^ 30
theorem GoodT.len {t : List (Str × Int)} (h : GoodT t) : t.length ≤ 40 := by
  have := nodup_lenS h.nd fun k hk => by
    obtain ⟨p, hp, rfl⟩ := List.mem_map.mp hk
    exact h.sub p hp
  rw [List.length_map] at this
  have : menu.length ≤ 40 := by decide +kernel
  omega
theorem menu_cc : ∀ c ∈ menu, colS c = true ∧ c.cps.size ≤ 1000 ∧ PyData.strOk c = true := by decide +kernel
def heavyT (t : List (Str × Int)) : List (Str × Int) := t.filter fun p => decide (p.2 ≠ 1)
theorem heavy_take {t : List (Str × Int)} {i : Nat} (hi : i < t.length) : heavyT (t.take (i + 1)) = if t[i].2 = 1 then heavyT (t.take i) else heavyT (t.take i) ++ [t[i]] := by
  unfold heavyT
  rw [List.take_add_one, List.getElem?_eq_getElem hi, Option.toList_some, List.filter_append]
  by_cases e : t[i].2 = 1
  · rw [if_pos e, List.filter_cons_of_neg (by simp [e]), List.filter_nil, List.append_nil]
  · rw [if_neg e, List.filter_cons_of_pos (by simp [e]), List.filter_nil]
theorem put_next {t u : List (Str × Int)} {i : Nat} (nd : (t.map (·.1)).Nodup) (hi : i < t.length) (hu : ∀ p ∈ u, p ∈ t.take i) : putT u t[i].1 t[i].2 = u ++ [t[i]] := by
  have : lookT u t[i].1 = none := by
    rw [lookT_none]
    intro hk
    obtain ⟨p, hp, e⟩ := List.mem_map.mp hk
    obtain ⟨j, hj, ej⟩ := List.mem_iff_getElem.mp (hu p hp)
    rw [List.length_take] at hj
    rw [List.getElem_take] at ej
    have := (List.getElem_inj (i := j) (j := i) (h₀ := by rw [List.length_map]; omega) (h₁ := by rw [List.length_map]; exact hi) nd).mp (by rw [List.getElem_map, List.getElem_map, ej]; exact e)
    omega
  unfold putT
  rw [this]
  rfl
theorem GoodT.heavy {t : List (Str × Int)} (h : GoodT t) : GoodT (heavyT t) := ⟨nd_filter h.nd, fun p hp => h.sub p (List.mem_filter.mp hp).1, fun p hp => h.wt p (List.mem_filter.mp hp).1⟩
/-- a Weights whose dict stands at d -/
def HasW (H : Hp) (C a d : Addr) (t : List (Str × Int)) : Prop := ∃ dx : Addr, H a = some (.ins C dx [("_table", .ref d)]) ∧ H d = some (.dK (dk t))
def spWInit (C : Addr) : Sp := fun vs H Q _ => ∃ (x a dx : Addr) (t : List (Str × Int)), vs = [.ref x, .ref a] ∧ H x = some (.ins C dx []) ∧ H a = some (.dK (dk t)) ∧ GoodT t ∧
  ∀ (H' : Hp) (d : Addr), (∀ b o, H b = some o → b ≠ x → H' b = some o) → HasW H' C x d (heavyT t) → H d = none → Q .non H'
abbrev nInit : List Str := ["self", "table", "column", "weight"]
theorem scInit : FnScope nInit ["self", "table"] (defScope sWInit) := ⟨rfl, rfl, rfl, by decide +kernel, rfl, by decide +kernel, by decide +kernel⟩
theorem ok_winit {f C : Addr} {fd : FuncData} (F : Fun K "__init__" "Weights.__init__" sWInit f fd) (T : Txt K mg) (TC : TxA K mg C) (cC : Cal P w K mg base 1 "is_column" ["thing"] (spText K colS)) (cW : Cal P w K mg base 2 "is_weight" ["thing"] (spWt K)) : FnOk P w K mg base CX0 3 f fd ["self", "table"] (spWInit C) := by
  refine F.ok scInit (fun vs H Q E h => ?_) (fun cdv A outer s H vs Q E hr h => ?_)
  · obtain ⟨x, a, dx, t, rfl, _⟩ := h
    rfl
  · obtain ⟨x, a, dx, t, rfl, hx, ha, GT, k⟩ := h
    have nd := scInit.nd
    have hr1 : Room 1 _ := hr.mono (by decide)
    have ee : (A.deeper (envOfC "Weights.__init__" (defScope sWInit) s.heap.objs.size f cdv)).units = A.units + 3 := rfl
    have hu1 : A.units + 3 + 1 < cLine := by
      have := hr.un
      omega
    refine ⟨_, (pss_cons (ps_if (pt_not (pt_val (pe_callB (r := rIsi K) call_isi (by rfl) T.isinstance (by decide +kernel) (pa_cons (pv 1) (pa_cons (pe_bltn (v := .ty "dict") (by rfl) T.dict (by decide +kernel) rfl) pa_nil))))) (pss_one ps_dead) pss_nil)
      (pss_cons (ps_if (pt_not (pt_val (pe_callB (cr_all rfl) (by rfl) T.all (by decide +kernel) (pa_cons (pe_lock (pe_lc (own := [("column", 2), ("weight", 3)]) (g := gTup K 2 (gCons (gName 2) (gCons (gName 3) gNil))) (tt := tYes) rfl nd (pi_items (pv 1)) (blkOk_by (N := nInit) (sc := defScope sWInit) (by decide +kernel)) (fun _ _ _ _ _ => pg_tup (by rfl) (pgs_cons (pg_name (i := 2) nd rfl (by first | exact Or.inl rfl | exact Or.inr rfl)) (pgs_cons (pg_name (i := 3) nd rfl (by first | exact Or.inl rfl | exact Or.inr rfl)) pgs_nil))) (fun _ _ _ _ _ => pts_nil) (fun _ _ _ _ _ => (pe_and (pe_call cC.G hr1 rfl cC.m cC.kp cC.b .nil pass0 (pa_cons (pv 2) pa_nil)) (pe_one (pe_call cW.G hr rfl cW.m cW.kp cW.b .nil pass0 (pa_cons (pv 3) pa_nil))))))) pa_nil)))) (pss_one ps_dead) pss_nil)
      (pss_one (ps_fld (pv 0) (pe_lock (pe_dc (own := [("column", 2)]) (g := gName 2) rfl nd (pi_keys (pv 1)) (blkOk_by (N := nInit) (sc := defScope sWInit) (by decide +kernel)) (fun _ _ _ _ _ => (pg_name (i := 2) nd rfl (by first | exact Or.inl rfl | exact Or.inr rfl))) (fun _ _ _ _ _ => pts_one (pt_cmpR op_ne (pe_dget hu1 (pv 1) (pv 2) (fun _ _ => rfl)) pe_int (nomark _))) (fun _ _ _ _ _ => (pv 2)) (fun _ _ _ _ _ => (pe_dget hu1 (pv 1) (pv 2) (fun _ _ => rfl))))) rfl)))), ?_⟩
    refine ⟨_, rfl, _, _, .type "dict", .type "dict", true, rfl, .ty "dict", .base (.dK ha), kit_ty (by decide +kernel), _, rfl, ?_⟩
    refine iteF ?_
    have hax : a ≠ x := fun e => by rw [e, hx] at ha; cases ha
    have lt := GT.len
    have kvl : (dk t).length = t.length := List.length_map _
    refine ⟨a, _, ha, True.intro, fun od => ?_⟩
    have hal : (upd H a (.frz od (.dK (dk t)))) a = some (.frz od (.dK (dk t))) := upd_same
    refine ⟨_, rfl, a, od, dk t, rfl, hal, fun D hD => ?_⟩
    have nDa : D ≠ a := fun e => by rw [e, hal] at hD; cases hD
    have hD0 : H D = none := by rw [upd_ne nDa] at hD; exact hD
    refine lc_it walk_items (fun i H' => (∀ b o, H b = some o → b ≠ a → H' b = some o) ∧ H' a = some (.frz od (.dK (dk t))) ∧ H' D = some (.lst ((List.replicate i true).map V.bl))) ⟨fun b o hb nb => ?_, by rw [upd_ne nDa.symm]; exact hal, upd_same⟩ (fun i H' _ h => h.2.1) ?_ ?_
    · rw [upd_ne (ne_of_none hb hD0), upd_ne nb]
      exact hb
    · rintro i y H1 H2 hi ⟨k1, f1, d1⟩ yy
      obtain ⟨T4, x1, y1, rfl, hT, rfl, hx1, hy1⟩ := yy
      rw [kvl] at hi
      have ei : (dk t)[i]? = some (Sum.inr t[i].1, V.int t[i].2) := by
        unfold dk
        rw [List.getElem?_map, List.getElem?_eq_getElem hi]
        rfl
      have ex : V.str t[i].1 = x1 := by
        have : (dk t)[i]?.map (fun kv => kV kv.1) = some x1 := hx1
        rw [ei] at this
        exact Option.some.inj this
      have ey : V.int t[i].2 = y1 := by
        have : (dk t)[i]?.map Prod.snd = some y1 := hy1
        rw [ei] at this
        exact Option.some.inj this
      subst ex
      subst ey
      have sT := same_new (o := .tup [V.str t[i].1, V.int t[i].2]) hT
      have hm := List.getElem_mem hi
      obtain ⟨c1, c2, c3⟩ := menu_cc _ (GT.sub _ hm)
      refine ⟨T4, _, rfl, SqT.of upd_same, rfl, _, _, rfl, _, _, rfl, rfl, rfl, ?_⟩
      refine ⟨_, rfl, _, rfl, .inl ⟨_, rfl, c2, c3, fun H3 s3 => ⟨_, rfl, ?_⟩⟩⟩
      rw [c1]
      refine iteT ?_
      refine ⟨_, rfl, _, rfl, .inl ⟨_, rfl⟩, ?_⟩
      have ew : wtV (.int t[i].2) = true := decide_eq_true (GT.wt _ hm)
      rw [ew]
      have s13 := sT.trans s3
      refine ⟨_, s13 _ _ d1, small1000 (by simp; omega), ⟨fun b o hb nb => ?_, ?_, ?_⟩⟩
      · rw [upd_ne (ne_of_none hb hD0)]
        exact s13 _ _ (k1 _ _ hb nb)
      · rw [upd_ne nDa.symm]
        exact s13 _ _ f1
      · rw [upd_same, rep_snoc]
    rintro H1 ⟨k1, f1, d1⟩
    refine ⟨f1, ?_⟩
    refine ⟨D, _, rfl, SqL.of (by rw [upd_ne nDa]; exact d1), ?_⟩
    rw [rep_all]
    refine ⟨_, rfl, ?_⟩
    refine iteF ?_
    have k2 : ∀ b o, H b = some o → (upd H1 a (.dK (dk t))) b = some o := fun b o hb => by
      by_cases e : b = a
      · rw [e, upd_same]
        rw [e, ha] at hb
        exact hb
      · rw [upd_ne e]
        exact k1 _ _ hb e
    generalize upd H1 a (.dK (dk t)) = H2 at k2 ⊢
    clear k1 f1 d1 hD hal
    have ha2 := k2 _ _ ha
    refine ⟨a, _, ha2, True.intro, fun od2 => ?_⟩
    have hal : (upd H2 a (.frz od2 (.dK (dk t)))) a = some (.frz od2 (.dK (dk t))) := upd_same
    refine ⟨_, rfl, a, od2, rfl, .inl ⟨dk t, hal, fun E hE => ?_⟩⟩
    have nEa : E ≠ a := fun e => by rw [e, hal] at hE; cases hE
    have hE2 : H2 E = none := by rw [upd_ne nEa] at hE; exact hE
    refine dc_it walk_keys (fun i H' => (∀ b o, H b = some o → b ≠ a → H' b = some o) ∧ H' a = some (.frz od2 (.dK (dk t))) ∧ H' E = some (.dK (dk (heavyT (t.take i))))) ⟨fun b o hb nb => ?_, by rw [upd_ne nEa.symm]; exact hal, upd_same⟩ (fun i H' _ h => h.2.1) ?_ ?_
    · rw [upd_ne (ne_of_none (k2 _ _ hb) hE2), upd_ne nb]
      exact k2 _ _ hb
    · rintro i y H3 H4 hi ⟨k3, f3, d3⟩ ⟨rfl, key, v, hkv, rfl⟩
      rw [kvl] at hi
      have ei : (dk t)[i]? = some (Sum.inr t[i].1, V.int t[i].2) := by
        unfold dk
        rw [List.getElem?_map, List.getElem?_eq_getElem hi]
        rfl
      rw [ei] at hkv
      injection hkv with hkv
      injection hkv with e1 e2
      subst e1
      subst e2
      have hm := List.getElem_mem hi
      have hv : valV (dk t) (Sum.inr t[i].1) = some (V.int t[i].2) := by
        rw [val_dk, show lookT t t[i].1 = some t[i].2 from lookT_of GT.nd hm]
        rfl
      have dg : DGet H4 a (V.str t[i].1) (some (V.int t[i].2)) := .inl ⟨dk t, Sum.inr t[i].1, .inr ⟨_, f3⟩, rfl, hv.symm⟩
      refine ⟨rfl, ?_⟩
      refine ⟨_, rfl, _, rfl, a, _, rfl, dg, ?_⟩
      refine ⟨rfl, _, rfl, ?_⟩
      have z2 : (dk (heavyT (t.take i))).length < sizeLine := by
        unfold dk heavyT
        rw [List.length_map, sizeLine_eq]
        have := List.length_filter_le (fun p : Str × Int => decide (p.2 ≠ 1)) (t.take i)
        rw [List.length_take] at this
        omega
      have pn := put_next (u := heavyT (t.take i)) GT.nd hi fun p hp => (List.mem_filter.mp hp).1
      by_cases e1 : t[i].2 = 1
      · rw [show (!decide (V.int t[i].2 = V.int 1)) = false by rw [e1]; rfl]
        refine iteF ?_
        refine ⟨k3, f3, ?_⟩
        rw [heavy_take hi, if_pos e1]
        exact d3
      · rw [show (!decide (V.int t[i].2 = V.int 1)) = true by rw [decide_eq_false fun h => e1 (by injection h)]; rfl]
        refine iteT ?_
        refine ⟨_, rfl, _, rfl, _, rfl, a, _, rfl, dg, dk (heavyT (t.take i)), Sum.inr t[i].1, rfl, d3, z2, ⟨fun b o hb nb => ?_, ?_, ?_⟩⟩
        · rw [upd_ne (ne_of_none (k2 _ _ hb) hE2)]
          exact k3 _ _ hb nb
        · rw [upd_ne nEa.symm]
          exact f3
        · rw [upd_same, put_dk, heavy_take hi, if_neg e1]
          rw [show putT (heavyT (t.take i)) t[i].1 t[i].2 = heavyT (t.take i) ++ [t[i]] from pn]
    rintro H3 ⟨k3, f3, d3⟩
    refine ⟨f3, ?_⟩
    rw [kvl, List.take_length] at d3
    have nxa : x ≠ a := hax.symm
    have nxE : x ≠ E := fun e => by rw [← e, k2 _ _ hx] at hE2; cases hE2
    have hx3 := k3 _ _ hx nxa
    refine ⟨_, rfl, x, C, dx, [], rfl, by rw [upd_ne nxa]; exact hx3, TC.cl, TC.nQ, by show 0 < 1000; decide, ?_⟩
    have hEH : H E = none := by
      cases e : H E with
      | none => rfl
      | some o => rw [k2 _ _ e] at hE2; cases hE2
    refine k _ E (fun b o hb nb => ?_) ⟨dx, upd_same, by rw [upd_ne nxE.symm, upd_ne nEa]; exact d3⟩ hEH
    rw [upd_ne nb]
    by_cases e : b = a
    · rw [e, upd_same]
      rw [e, ha] at hb
      exact hb
    · rw [upd_ne e]
      exact k3 _ _ hb e
end
end Qk
set_option maxRecDepth 100000
set_option maxHeartbeats 4000000
namespace Qk
open PySem PySem.Spec PyProof.Rows L2
section
variable {P : Program} {w : World} {K : PySem.W.Frag} {mg : Str → Option Value} {base : Heap}
theorem scRow : FnScope ["question", "columns", "last"] ["question"] (defScope sRow) := ⟨rfl, rfl, rfl, by decide +kernel, rfl, by decide +kernel, by decide +kernel⟩
theorem ok_row {f : Addr} {fd : FuncData} (F : Fun K "row_of" "row_of" sRow f fd) (T : Txt K mg) : FnOk P w K mg base CX0 1 f fd ["question"] spRow := by
  refine F.ok scRow (fun vs H Q E h => ?_) (fun cdv A outer s H vs Q E hr h => ?_)
  · obtain ⟨q, cols, e, rfl, _⟩ := h
    rfl
  · obtain ⟨q, cols, e, rfl, ⟨c, hq, hc⟩, Z, k⟩ := h
    have nd := scRow.nd
    refine ⟨_, pss_cons (ps_asg (pv 0) (pg_tup (by rfl) (pgs_cons (pg_name (i := 1) nd rfl (Or.inl rfl)) (pgs_cons (pg_name (i := 2) nd rfl (Or.inl rfl)) pgs_nil))))
      (pss_cons (ps_if (pt_cmpR op_eq (pv 2) pe_str (nomark _)) (pss_one (ps_ret (pv 1))) pss_nil)
      (pss_one (ps_ret (pe_tup (StX.pa_star (pv 1) (pa_cons (pv 2) pa_nil)))))), ?_⟩
    refine ⟨_, rfl, q, _, rfl, SqT.of hq, rfl, _, _, rfl, _, _, rfl, rfl, _, rfl, rfl, _, rfl, ?_⟩
    by_cases he : e = ""
    · rw [decide_eq_true (congrArg V.str he)]
      refine iteT ?_
      refine ⟨_, rfl, k c H (Same.refl _) ?_⟩
      unfold rowC
      rw [if_pos he]
      exact hc
    · rw [decide_eq_false (fun h => he (by injection h))]
      refine iteF ?_
      have hz := Z.le
      rw [if_neg he] at hz
      refine ⟨_, rfl, c, _, rfl, .inl (SqT.of hc), _, rfl, ?_, fun d1 hd1 => ?_⟩
      · show (cols.map V.str ++ [V.str e]).length ≤ sizeLine
        rw [List.length_append, List.length_map, sizeLine_eq]
        simp
        omega
      refine k d1 _ (same_new hd1) ?_
      unfold rowC
      rw [if_neg he, List.map_append]
      exact upd_same
theorem HasW.same {H H' : Hp} {C a d : Addr} {t : List (Str × Int)} (s : Same H H') (h : HasW H C a d t) : HasW H' C a d t := by
  obtain ⟨dx, h1, h2⟩ := h
  exact ⟨dx, s _ _ h1, s _ _ h2⟩
def spWEq (K : PySem.W.Frag) (C : Addr) : Sp := fun vs H Q _ => ∃ (a : Addr) (y : V), vs = [.ref a, y] ∧ ((∃ (b d e : Addr) (t u : List (Str × Int)), y = .ref b ∧ HasW H C a d t ∧ HasW H C b e u ∧ Q (.bl (eqB t u)) H) ∨ (∃ tv, TyX K H y tv ∧ PySem.W.kitOne K tv (.ref C) = some false ∧ Q (.bl false) H))
theorem scWEq : FnScope ["self", "other"] ["self", "other"] (defScope sWEq) := ⟨rfl, rfl, rfl, by decide +kernel, rfl, by decide +kernel, by decide +kernel⟩
theorem ok_weq {f C : Addr} {fd : FuncData} (F : Fun K "__eq__" "Weights.__eq__" sWEq f fd) (T : Txt K mg) (TC : TxA K mg C) : FnOk P w K mg base CX0 1 f fd ["self", "other"] (spWEq K C) := by
  refine F.ok scWEq (fun vs H Q E h => ?_) (fun cdv A outer s H vs Q E hr h => ?_)
  · obtain ⟨a, y, rfl, _⟩ := h
    rfl
  · obtain ⟨a, y, rfl, h⟩ := h
    have ee : (A.deeper (envOfC "Weights.__eq__" (defScope sWEq) s.heap.objs.size f cdv)).units = A.units + 3 := rfl
    have hu0 : A.units + 3 < cLine := by
      have := hr.un
      omega
    refine ⟨_, (pss_one (ps_ret (pe_and (pe_callB (r := rIsi K) call_isi (by rfl) T.isinstance (by decide +kernel) (pa_cons (pv 1) (pa_cons (pe_glob (v := .ref C) rfl TC.mgC rfl) pa_nil))) (pe_one (pe_cmpR (op_eqTB hu0) (pe_fld (pv 0) rfl) (pe_fld (pv 1) rfl) (nomark _)))))), ?_⟩
    rcases h with ⟨b, d, e, t, u, rfl, ⟨dx, ha, hd⟩, ⟨dy, hb, he⟩, k⟩ | ⟨tv, ty, kt, k⟩
    · refine ⟨_, rfl, _, _, .ref C, .ref C, true, rfl, .own C, TC.ty hb, kit_self, _, rfl, ?_⟩
      refine iteT ?_
      exact ⟨_, rfl, a, C, dx, _, _, rfl, ha, TC.cl, TC.nQ, rfl, _, rfl, b, C, dy, _, _, rfl, hb, TC.cl, TC.nQ, rfl, d, e, t, u, rfl, rfl, hd, he, k⟩
    · refine ⟨_, rfl, _, _, tv, .ref C, false, rfl, .own C, ty, kt, _, rfl, ?_⟩
      refine iteF ?_
      exact k
def spWGet (C : Addr) : Sp := fun vs H Q _ => ∃ (a d : Addr) (t : List (Str × Int)) (n : Str), vs = [.ref a, .str n] ∧ HasW H C a d t ∧ n ∈ menu ∧ ∀ H', Same H H' → Q (.int ((lookT t n).getD 1)) H'
theorem scWGet : FnScope ["self", "at"] ["self", "at"] (defScope sWGet) := ⟨rfl, rfl, rfl, by decide +kernel, rfl, by decide +kernel, by decide +kernel⟩
theorem get_int (o : Option Int) (z : Int) : (o.map V.int).getD (.int z) = .int (o.getD z) := by cases o <;> rfl
theorem ok_wget {f C : Addr} {fd : FuncData} (F : Fun K "__getitem__" "Weights.__getitem__" sWGet f fd) (T : Txt K mg) (TC : TxA K mg C) (cC : Cal P w K mg base 1 "is_column" ["thing"] (spText K colS)) : FnOk P w K mg base CX0 2 f fd ["self", "at"] (spWGet C) := by
  refine F.ok scWGet (fun vs H Q E h => ?_) (fun cdv A outer s H vs Q E hr h => ?_)
  · obtain ⟨a, d, t, n, rfl, _⟩ := h
    rfl
  · obtain ⟨a, d, t, n, rfl, ⟨dx, ha, hd⟩, hn, k⟩ := h
    have ee : (A.deeper (envOfC "Weights.__getitem__" (defScope sWGet) s.heap.objs.size f cdv)).units = A.units + 3 := rfl
    have hu1 : A.units + 3 + 1 < cLine := by
      have := hr.un
      omega
    refine ⟨_, (pss_cons (ps_if (pt_not (pt_val (pe_call cC.G hr rfl cC.m cC.kp cC.b .nil pass0 (pa_cons (pv 1) pa_nil)))) (pss_one ps_dead) pss_nil) (pss_one (ps_ret (pe_dget2 hu1 (pe_fld (pv 0) rfl) (pv 1) pe_int ⟨rfl, rfl, rfl, rfl⟩)))), ?_⟩
    obtain ⟨c1, c2, c3⟩ := menu_cc n hn
    refine ⟨_, rfl, _, rfl, .inl ⟨n, rfl, c2, c3, fun H1 s1 => ⟨_, rfl, ?_⟩⟩⟩
    rw [c1]
    refine iteF ?_
    refine ⟨_, rfl, a, C, dx, _, _, rfl, s1 _ _ ha, TC.cl, TC.nQ, rfl, d, rfl, .inl ⟨_, .inl (s1 _ _ hd)⟩, _, rfl, _, .inl ⟨_, Sum.inr n, .inl (s1 _ _ hd), rfl, rfl⟩, ?_⟩
    rw [val_dk, get_int]
    exact k H1 s1
def spWSet (C : Addr) : Sp := fun vs H Q _ => ∃ (a d : Addr) (t : List (Str × Int)) (n : Str) (x : Int), vs = [.ref a, .str n, .int x] ∧ HasW H C a d t ∧ GoodT t ∧ n ∈ menu ∧ 1 ≤ x ∧ x ≤ 10 ^ 30 ∧ ∀ (v : V) (H1 : Hp), Same H H1 → Q v (upd H1 d (.dK (dk (if x = 1 then dropT t n else putT t n x))))
theorem scWSet : FnScope ["self", "at", "worth"] ["self", "at", "worth"] (defScope sWSet) := ⟨rfl, rfl, rfl, by decide +kernel, rfl, by decide +kernel, by decide +kernel⟩
theorem ok_wset {f C : Addr} {fd : FuncData} (F : Fun K "__setitem__" "Weights.__setitem__" sWSet f fd) (T : Txt K mg) (TC : TxA K mg C) (cC : Cal P w K mg base 1 "is_column" ["thing"] (spText K colS)) (cW : Cal P w K mg base 2 "is_weight" ["thing"] (spWt K)) : FnOk P w K mg base CX0 3 f fd ["self", "at", "worth"] (spWSet C) := by
  refine F.ok scWSet (fun vs H Q E h => ?_) (fun cdv A outer s H vs Q E hr h => ?_)
  · obtain ⟨a, d, t, n, x, rfl, _⟩ := h
    rfl
  · obtain ⟨a, d, t, n, x, rfl, ⟨dx, ha, hd⟩, GT, hn, x1, x2, k⟩ := h
    have hr1 : Room 1 _ := hr.mono (by decide)
    have ee : (A.deeper (envOfC "Weights.__setitem__" (defScope sWSet) s.heap.objs.size f cdv)).units = A.units + 3 := rfl
    have hu1 : A.units + 3 + 1 < cLine := by
      have := hr.un
      omega
    refine ⟨_, (pss_cons (ps_if (pt_not (pt_val (pe_call cC.G hr1 rfl cC.m cC.kp cC.b .nil pass0 (pa_cons (pv 1) pa_nil)))) (pss_one ps_dead) pss_nil) (pss_cons (ps_if (pt_not (pt_val (pe_call cW.G hr rfl cW.m cW.kp cW.b .nil pass0 (pa_cons (pv 2) pa_nil)))) (pss_one ps_dead) pss_nil) (pss_one (ps_if (pt_cmpR op_eq (pv 2) pe_int (nomark _)) (pss_one (ps_expr (pe_dpop2 (pe_fld (pv 0) rfl) (pv 1) pe_non ⟨rfl, rfl, rfl, rfl⟩))) (pss_one (ps_dput hu1 (pe_fld (pv 0) rfl) (pv 1) (pv 2) rfl)))))), ?_⟩
    obtain ⟨c1, c2, c3⟩ := menu_cc n hn
    refine ⟨_, rfl, _, rfl, .inl ⟨n, rfl, c2, c3, fun H1 s1 => ⟨_, rfl, ?_⟩⟩⟩
    rw [c1]
    refine iteF ?_
    refine ⟨_, rfl, _, rfl, .inl ⟨_, rfl⟩, _, rfl, ?_⟩
    rw [show wtV (.int x) = true from decide_eq_true ⟨x1, x2⟩]
    refine iteF ?_
    refine ⟨_, rfl, rfl, _, rfl, ?_⟩
    have hl : (dk t).length < sizeLine := by
      rw [show (dk t).length = t.length from List.length_map _, sizeLine_eq]
      have := GT.len
      omega
    have fin := k .non H1 s1
    by_cases e : x = 1
    · rw [decide_eq_true (by rw [e])]
      refine iteT ?_
      rw [if_pos e] at fin
      refine ⟨_, rfl, a, C, dx, _, _, rfl, s1 _ _ ha, TC.cl, TC.nQ, rfl, d, rfl, .inl ⟨_, .inl (s1 _ _ hd)⟩, _, rfl, _, Sum.inr n, s1 _ _ hd, rfl, fun v hv => ?_, fun hv => ?_⟩
      · rw [drop_dk]
        exact fin
      · have ed : dropT t n = t := by
          unfold dropT
          rw [List.filter_eq_self]
          intro p hp
          refine decide_eq_true fun ep => ?_
          rw [val_dk] at hv
          have hl0 : lookT t n = none := by
            cases hh : lookT t n with
            | none => rfl
            | some y => rw [hh] at hv; cases hv
          exact lookT_none.mp hl0 (List.mem_map.mpr ⟨p, hp, ep⟩)
        rw [ed] at fin
        have eu : upd H1 d (.dK (dk t)) = H1 := funext fun b => by
          by_cases eb : b = d
          · rw [eb, upd_same]
            exact (s1 _ _ hd).symm
          · rw [upd_ne eb]
        rw [eu] at fin
        exact fin
    · rw [decide_eq_false (fun h => e (by injection h))]
      refine iteF ?_
      rw [if_neg e] at fin
      refine ⟨_, rfl, _, rfl, a, C, dx, _, _, rfl, s1 _ _ ha, TC.cl, TC.nQ, rfl, _, rfl, d, _, rfl, .inl ⟨_, Sum.inr n, s1 _ _ hd, rfl, hl, rfl⟩, ?_⟩
      rw [put_dk]
      exact fin
/-- a question or an index of known columns -/
def ThW (H : Hp) (q : Addr) (cs : List Str) : Prop := (∃ cols e, QAt H q cols e ∧ QZ cols e ∧ cs = rowC cols e) ∨ (H q = some (.tup (cs.map V.str)) ∧ cs ≠ [] ∧ cs.length ≤ 40)
theorem scColsIn : FnScope ["thing"] ["thing"] (defScope sColsIn) := ⟨rfl, rfl, rfl, by decide +kernel, rfl, by decide +kernel, by decide +kernel⟩
def spColsIn : Sp := fun vs H Q _ => ∃ (q : Addr) (cs : List Str), vs = [.ref q] ∧ ThW H q cs ∧ ∀ (t : Addr) (H' : Hp), Same H H' → H' t = some (.tup (cs.map V.str)) → Q (.ref t) H'
theorem ok_colsin {f : Addr} {fd : FuncData} (F : Fun K "columns_in" "columns_in" sColsIn f fd) (T : Txt K mg) (cR : Cal P w K mg base 1 "row_of" ["question"] spRow) : FnOk P w K mg base CX0 2 f fd ["thing"] spColsIn := by
  refine F.ok scColsIn (fun vs H Q E h => ?_) (fun cdv A outer s H vs Q E hr h => ?_)
  · obtain ⟨q, cs, rfl, _⟩ := h
    rfl
  · obtain ⟨q, cs, rfl, h, k⟩ := h
    refine ⟨_, (pss_cons (ps_if (pt_val (pe_callB (r := rIsi K) call_isi (by rfl) T.isinstance (by decide +kernel) (pa_cons (pe_ix ix_tup (pv 0) pe_int fun _ _ => rfl) (pa_cons (pe_bltn (v := .ty "tuple") (by rfl) T.tuple (by decide +kernel) rfl) pa_nil)))) (pss_one (ps_ret (pe_call cR.G hr rfl cR.m cR.kp cR.b .nil pass0 (pa_cons (pv 0) pa_nil)))) pss_nil) (pss_one (ps_ret (pv 0)))), ?_⟩
    rcases h with ⟨cols, e, ⟨c, hq, hc⟩, Z, rfl⟩ | ⟨hq, hne, hl⟩
    · refine ⟨_, rfl, q, _, ((0 : Nat) : Int), _, rfl, rfl, SqT.of hq, atI_nat rfl, _, _, .type "tuple", .type "tuple", true, rfl, .ty "tuple", .base (.tup hc), kit_ty (by decide +kernel), _, rfl, ?_⟩
      refine iteT ?_
      exact ⟨_, rfl, q, cols, e, rfl, ⟨c, hq, hc⟩, Z, fun t H' s' h' => k t H' s' h'⟩
    · obtain ⟨c, cr, rfl⟩ := List.exists_cons_of_ne_nil hne
      refine ⟨_, rfl, q, _, ((0 : Nat) : Int), .str c, rfl, rfl, SqT.of hq, atI_nat rfl, _, _, .type "str", .type "tuple", false, rfl, .ty "tuple", .base (.str c), kit_ty (by decide +kernel), _, rfl, ?_⟩
      refine iteF ?_
      exact ⟨_, rfl, k q H (Same.refl _) hq⟩
def wsum (t : List (Str × Int)) (cs : List Str) : Int := (cs.map fun c => (lookT t c).getD 1).sum
def spWCall (C : Addr) : Sp := fun vs H Q _ => ∃ (a d q : Addr) (t : List (Str × Int)) (cs : List Str), vs = [.ref a, .ref q] ∧ HasW H C a d t ∧ ThW H q cs ∧ (∀ c ∈ cs, c ∈ menu) ∧ cs.length ≤ 40 ∧ ∀ H', Same H H' → Q (.int (wsum t cs)) H'
abbrev nCall : List Str := ["self", "thing", "column"]
theorem scWCall : FnScope nCall ["self", "thing"] (defScope sWCall) := ⟨rfl, rfl, rfl, by decide +kernel, rfl, by decide +kernel, by decide +kernel⟩
theorem ok_wcall {f C : Addr} {fd : FuncData} (F : Fun K "__call__" "Weights.__call__" sWCall f fd) (T : Txt K mg) (TC : TxA K mg C) (cI : Cal P w K mg base 2 "columns_in" ["thing"] spColsIn) : FnOk P w K mg base CX0 3 f fd ["self", "thing"] (spWCall C) := by
  refine F.ok scWCall (fun vs H Q E h => ?_) (fun cdv A outer s H vs Q E hr h => ?_)
  · obtain ⟨a, d, q, t, cs, rfl, _⟩ := h
    rfl
  · obtain ⟨a, d, q, t, cs, rfl, hW, hq, hm, hl, k⟩ := h
    have nd := scWCall.nd
    have ee : (A.deeper (envOfC "Weights.__call__" (defScope sWCall) s.heap.objs.size f cdv)).units = A.units + 3 := rfl
    have hu1 : A.units + 3 + 1 < cLine := by
      have := hr.un
      omega
    refine ⟨_, (pss_one (ps_ret (pe_callB (cr_sum rfl) (by rfl) T.sum (by decide +kernel) (pa_cons (pe_lc (own := [("column", 2)]) (g := gName 2) (tt := tYes) rfl nd (pi_tup (pe_call cI.G hr rfl cI.m cI.kp cI.b .nil pass0 (pa_cons (pv 1) pa_nil))) (blkOk_by (N := nCall) (sc := defScope sWCall) (by decide +kernel)) (fun _ _ _ _ _ => (pg_name (i := 2) nd rfl (by first | exact Or.inl rfl | exact Or.inr rfl))) (fun _ _ _ _ _ => pts_nil) (fun _ _ _ _ _ => (pe_dget2 hu1 (show PE _ _ (tFld K (tVar 0) "_table") from pe_fld (pv 0) rfl) (pv 2) pe_int ⟨rfl, rfl, rfl, rfl⟩))) pa_nil)))), ?_⟩
    refine ⟨_, rfl, q, cs, rfl, hq, fun r H1 s1 hr1 => ?_⟩
    refine ⟨r, rfl, ⟨_, SqT.of hr1⟩, fun D hD => ?_⟩
    refine lc_it walk_tup (fun i H' => Same H1 H' ∧ H' D = some (.lst (((cs.take i).map fun c => (lookT t c).getD 1).map V.int))) ⟨same_new hD, upd_same⟩ (fun i H' _ h => SqT.of (h.1 _ _ hr1)) ?_ ?_
    · rintro i y H2 H3 hi ⟨s2, d2⟩ ⟨rfl, hy⟩
      rw [List.length_map] at hi
      rw [List.getElem?_map, List.getElem?_eq_getElem hi] at hy
      injection hy with hy
      subst hy
      obtain ⟨dx, ha, hd⟩ := hW.same (s1.trans s2)
      refine ⟨rfl, Exists.intro _ ⟨rfl, a, C, dx, _, _, rfl, ha, TC.cl, TC.nQ, rfl, d, rfl, .inl ⟨_, .inl hd⟩, _, rfl, _, .inl ⟨_, Sum.inr cs[i], .inl hd, rfl, rfl⟩, ?_⟩⟩
      rw [val_dk, get_int]
      refine ⟨_, d2, small1000 (by rw [List.length_map, List.length_map, List.length_take]; omega), fun b o hb => ?_, ?_⟩
      · rw [upd_ne (ne_of_none hb hD)]
        exact s2 _ _ hb
      · rw [upd_same, List.take_add_one, List.getElem?_eq_getElem hi, Option.toList_some, List.map_append, List.map_append]
        rfl
    · rintro H2 ⟨s2, d2⟩
      rw [List.length_map, List.take_length] at d2
      exact ⟨D, _, rfl, SqL.of d2, k H2 (s1.trans s2)⟩
end
end Qk
set_option maxRecDepth 100000
set_option maxHeartbeats 4000000
namespace Qk
open PySem PySem.Spec PyProof.Rows L2
section
variable {P : Program} {w : World} {K : PySem.W.Frag} {mg : Str → Option Value} {base : Heap}
def keysT (t : List (Str × Int)) : List Str := t.map (·.1)
theorem keys_dk (t : List (Str × Int)) : (dk t).map (·.1) = (keysT t).map Sum.inr := by
  unfold dk keysT
  rw [List.map_map, List.map_map]
  rfl
/-- the table told by these keys -/
def tabOf (t : List (Str × Int)) (ys : List Str) : List (Str × Int) := ys.map fun k => (k, (lookT t k).getD 1)
theorem keys_tabOf (t : List (Str × Int)) (ys : List Str) : keysT (tabOf t ys) = ys := by
  unfold keysT tabOf
  rw [List.map_map]
  exact List.map_id' ys
theorem look_tabOf {t : List (Str × Int)} (n : Str) : ∀ {ys : List Str}, lookT (tabOf t ys) n = if n ∈ ys then some ((lookT t n).getD 1) else none
  | [] => rfl
  | y :: ys => by
    show lookT ((y, (lookT t y).getD 1) :: tabOf t ys) n = _
    rw [lookT_cons]
    by_cases e : y = n
    · rw [if_pos e, if_pos (by rw [e]; exact List.mem_cons_self), e]
    · rw [if_neg e, look_tabOf n]
      by_cases hm : n ∈ ys
      · rw [if_pos hm, if_pos (List.mem_cons_of_mem _ hm)]
      · rw [if_neg hm, if_neg fun h => (List.mem_cons.mp h).elim (fun h => e h.symm) hm]
theorem tab_put {t : List (Str × Int)} {ys : List Str} (nd : ys.Nodup) {i : Nat} (hi : i < ys.length) (x : Int) (hx : x = (lookT t ys[i]).getD 1) : putT (tabOf t (ys.take i)) ys[i] x = tabOf t (ys.take (i + 1)) := by
  have e : lookT (tabOf t (ys.take i)) ys[i] = none := by
    rw [look_tabOf, if_neg]
    intro hm
    obtain ⟨j, hj, ej⟩ := List.mem_iff_getElem.mp hm
    rw [List.length_take] at hj
    rw [List.getElem_take] at ej
    have := (List.getElem_inj (h₀ := by omega) (h₁ := hi) nd).mp ej
    omega
  unfold putT
  rw [e, List.take_add_one, List.getElem?_eq_getElem hi]
  subst hx
  unfold tabOf
  rw [List.map_append]
  rfl
def spWTable (C : Addr) : Sp := fun vs H Q _ => ∃ (a d : Addr) (t : List (Str × Int)), vs = [.ref a] ∧ HasW H C a d t ∧ GoodT t ∧ ∀ (p : Addr) (ys : List Str) (H' : Hp), ys.Perm (keysT t) → sortedS ys = true → Same H H' → H p = none → H' p = some (.dK (dk (tabOf t ys))) → Q (.ref p) H'
abbrev nTbl : List Str := ["self", "column"]
theorem scWTable : FnScope nTbl ["self"] (defScope sWTable) := ⟨rfl, rfl, rfl, by decide +kernel, rfl, by decide +kernel, by decide +kernel⟩
theorem ok_wtable {f C : Addr} {fd : FuncData} (F : Fun K "table" "Weights.table" sWTable f fd) (T : Txt K mg) (TC : TxA K mg C) : FnOk P w K mg base CX0 1 f fd ["self"] (spWTable C) := by
  refine F.ok scWTable (fun vs H Q E h => ?_) (fun cdv A outer s H vs Q E hr h => ?_)
  · obtain ⟨a, d, t, rfl, _⟩ := h
    rfl
  · obtain ⟨a, d, t, rfl, ⟨dx, ha, hd⟩, GT, k⟩ := h
    have nd := scWTable.nd
    have ee : (A.deeper (envOfC "Weights.table" (defScope sWTable) s.heap.objs.size f cdv)).units = A.units + 3 := rfl
    have hu1 : A.units + 3 + 1 < cLine := by
      have := hr.un
      omega
    refine ⟨_, (pss_one (ps_ret (pe_dc (own := [("column", 1)]) (g := gName 1) (tt := tYes) rfl nd (pi_list (pe_callB (call_sortedD rfl) (by rfl) T.sorted (by decide +kernel) (pa_cons (pe_fld (pv 0) rfl) pa_nil))) (blkOk_by (N := nTbl) (sc := defScope sWTable) (by decide +kernel)) (fun _ _ _ _ _ => (pg_name (i := 1) nd rfl (by first | exact Or.inl rfl | exact Or.inr rfl))) (fun _ _ _ _ _ => pts_nil) (fun _ _ _ _ _ => (pv 1)) (fun _ _ _ _ _ => (pe_dget hu1 (show PE _ _ (tFld K (tVar 0) "_table") from pe_fld (pv 0) rfl) (pv 1) (fun _ _ => rfl)))))), ?_⟩
    have lt := GT.len
    have lk : (keysT t).length = t.length := List.length_map _
    refine ⟨_, rfl, a, C, dx, _, _, rfl, ha, TC.cl, TC.nQ, rfl, d, dk t, keysT t, rfl, .inl hd, keys_dk t, by omega, fun ys p hperm hs hp => ?_⟩
    have s1 := same_new (o := .lst (ys.map V.str)) hp
    have ndy : ys.Nodup := hperm.nodup_iff.mpr GT.nd
    have ly := hperm.length_eq
    refine ⟨p, rfl, ⟨_, SqL.of upd_same⟩, fun D hD => ?_⟩
    have hp1 : (upd H p (.lst (ys.map V.str))) p = some (.lst (ys.map V.str)) := upd_same
    generalize upd H p (.lst (ys.map V.str)) = H1 at s1 hp1 hD ⊢
    refine dc_it walk_list (fun i H' => Same H1 H' ∧ H' D = some (.dK (dk (tabOf t (ys.take i))))) ⟨same_new hD, upd_same⟩ (fun i H' _ h => SqL.of (h.1 _ _ hp1)) ?_ ?_
    · rintro i y H2 H3 hi ⟨s2, d2⟩ ⟨rfl, hy⟩
      rw [List.length_map] at hi
      rw [List.getElem?_map, List.getElem?_eq_getElem hi] at hy
      injection hy with hy
      subst hy
      have hm : ys[i] ∈ keysT t := hperm.mem_iff.mp (List.getElem_mem hi)
      have hk : ∃ x, lookT t ys[i] = some x := by
        cases e : lookT t ys[i] with
        | none => exact absurd hm (lookT_none.mp e)
        | some x => exact ⟨x, rfl⟩
      obtain ⟨x, hx⟩ := hk
      have s12 := s1.trans s2
      refine ⟨rfl, ?_⟩
      refine Exists.intro _ ⟨rfl, _, rfl, a, C, dx, _, _, rfl, s12 _ _ ha, TC.cl, TC.nQ, rfl, _, rfl, d, V.int x, rfl, .inl ⟨_, Sum.inr ys[i], .inl (s12 _ _ hd), rfl, ?_⟩, dk (tabOf t (ys.take i)), Sum.inr ys[i], rfl, d2, ?_, ?_⟩
      · rw [val_dk, hx]
        rfl
      · unfold dk tabOf
        rw [List.length_map, List.length_map, List.length_take, sizeLine_eq]
        omega
      · refine ⟨fun b o hb => ?_, ?_⟩
        · rw [upd_ne (ne_of_none hb hD)]
          exact s2 _ _ hb
        · rw [upd_same, put_dk, tab_put ndy hi x (by rw [hx]; rfl)]
    · rintro H2 ⟨s2, d2⟩
      rw [List.length_map, List.take_length] at d2
      have hDH : H D = none := by
        cases e : H D with
        | none => rfl
        | some o => rw [s1 _ _ e] at hD; cases hD
      exact k D ys H2 hperm hs (s1.trans s2) hDH d2
def spWCopy (C : Addr) : Sp := fun vs H Q _ => ∃ (a d : Addr) (t : List (Str × Int)), vs = [.ref a] ∧ HasW H C a d t ∧ GoodT t ∧ ∀ (x e : Addr) (H' : Hp), Same H H' → HasW H' C x e (heavyT t) → H x = none → H e = none → e ≠ x → Q (.ref x) H'
/-- made of a table -/
theorem mkW {H : Hp} {C x dx a : Addr} {t : List (Str × Int)} {R : VK} (ha : H a = some (.dK (dk t))) (G : GoodT t) (nx : H x = none) (ndx : H dx = none) (k : ∀ (H' : Hp) (d : Addr), Same H H' → HasW H' C x d (heavyT t) → H d = none → d ≠ x → R .non H') :
    spWInit C [.ref x, .ref a] (upd (upd H dx (.own x)) x (.ins C dx [])) R E0 := by
  have n1 := same_new (o := .own x) ndx
  have hxa : a ≠ x := ne_of_none ha nx
  have hda : a ≠ dx := ne_of_none ha ndx
  refine ⟨x, a, dx, t, rfl, upd_same, by rw [upd_ne hxa]; exact n1 _ _ ha, G, fun H' d kk hW hd => ?_⟩
  have hdx : d ≠ x := fun e => by rw [e, upd_same] at hd; cases hd
  rw [upd_ne hdx] at hd
  have hdd : d ≠ dx := fun e => by rw [e, upd_same] at hd; cases hd
  rw [upd_ne hdd] at hd
  refine k H' d (fun b o hb => ?_) hW hd hdx
  have hbx : b ≠ x := ne_of_none hb nx
  exact kk b o (by rw [upd_ne hbx]; exact n1 _ _ hb) hbx
theorem scWCopied : FnScope ["self"] ["self"] (defScope sWCopied) := ⟨rfl, rfl, rfl, by decide +kernel, rfl, by decide +kernel, by decide +kernel⟩
theorem ok_wcopied {f C fI : Addr} {fd fdI : FuncData} (F : Fun K "copied" "Weights.copied" sWCopied f fd) (T : Txt K mg) (TC : TxA K mg C) (MA : Mk K C fI) (gI : FnOk P w K mg base CX0 3 fI fdI ["self", "table"] (spWInit C)) (bI : Binds K fdI ["self", "table"] []) : FnOk P w K mg base CX0 5 f fd ["self"] (spWCopy C) := by
  refine F.ok scWCopied (fun vs H Q E h => ?_) (fun cdv A outer s H vs Q E hr h => ?_)
  · obtain ⟨a, d, t, rfl, _⟩ := h
    rfl
  · obtain ⟨a, d, t, rfl, ⟨dx, ha, hd⟩, GT, k⟩ := h
    have hr4 : Room 4 _ := hr.mono (by decide)
    refine ⟨_, (pss_one (ps_ret (pe_make MA gI hr4 rfl TC.mgC bI .nil pass0 (pa_cons (pe_fld (pv 0) rfl) pa_nil)))), ?_⟩
    refine ⟨_, rfl, a, C, dx, _, _, rfl, ha, TC.cl, TC.nQ, rfl, fun x dy nx ndy ne => ?_⟩
    exact mkW hd GT nx ndy fun H' e s' hW he hex => ⟨rfl, k x e H' s' hW nx he hex⟩
end
end Qk
set_option maxRecDepth 100000
set_option maxHeartbeats 4000000
namespace Qk
open PySem PySem.Spec PyProof.Rows L2
section
variable {P : Program} {w : World} {K : PySem.W.Frag} {mg : Str → Option Value} {base : Heap}
theorem scBag : FnScope ["_law_script", "_law_cell"] ["_law_script"] (defScope sBag) := ⟨rfl, rfl, rfl, by decide +kernel, rfl, by decide +kernel, by decide +kernel⟩
theorem ok_bag {f : Addr} {fd : FuncData} (F : Fun K "_law_bag" "_law_bag" sBag f fd) (T : Txt K mg) : FnOk P w K mg base CX0 1 f fd ["_law_script"] (spBag K) := by
  refine F.ok scBag (fun vs H Q E h => ?_) (fun cdv A outer s H vs Q E hr h => ?_)
  · obtain ⟨a, ns, rfl, _⟩ := h
    rfl
  · obtain ⟨a, ns, rfl, hS, hz, k⟩ := h
    have nd := scBag.nd
    refine ⟨_, pss_one (ps_ret (pe_lst (pa_cons pe_int (pa_cons pe_int (pa_cons pe_int (pa_cons (pe_lc (own := [("_law_cell", 1)]) (g := gName 1) (tt := tYes) rfl nd
      (pi_list (pe_slice sl_list (pv 0) po_none (po_some pe_int))) (blkOk_by (N := ["_law_script", "_law_cell"]) (sc := defScope sBag) (by decide +kernel)) (fun _ _ _ _ _ => pg_name (i := 1) nd rfl (Or.inl rfl)) (fun _ _ _ _ _ => pts_nil)
      (fun _ _ _ _ _ => pe_callB call_abs (by rfl) T.abs (by decide +kernel) (pa_cons (pv 1) pa_nil))) pa_nil)))))), ?_⟩
    refine ⟨_, rfl, _, rfl, a, _, rfl, hS, fun p hp => ⟨p, rfl, ⟨_, SqL.of upd_same⟩, fun D hD => ?_⟩⟩
    have e0 : cutV (ns.map V.int) none (some 63) = (ns.take 63).map V.int := (cut_to 63 _).trans List.map_take.symm
    have npD : p ≠ D := ne_of_none upd_same hD
    have s0 : Same H (upd H p (.lst (cutV (ns.map V.int) none (some 63)))) := same_new hp
    have nD : H D = none := s0.free hD
    refine lc_list (K := K) (a := p) (xs := (ns.take 63).map V.int) (fun i H' => Same H H' ∧ H' p = some (.lst ((ns.take 63).map V.int)) ∧ ∃ ms : List Int, H' D = some (.lst (ms.map V.int)) ∧ ms.length ≤ i ∧ ∀ n ∈ ms, 0 ≤ n)
      ⟨s0.trans (same_new hD), by rw [upd_ne npD, upd_same, e0], [], upd_same, Nat.le_refl _, by simp⟩ (fun i H' _ h => SqL.of h.2.1) ?_ ?_
    · rintro i x H' hi ⟨s1, h1, ms, h2, hl, hm⟩
      rw [List.getElem?_map] at hi
      cases e : (ns.take 63)[i]? with
      | none => rw [e] at hi; cases hi
      | some z =>
        rw [e] at hi
        obtain rfl : V.int z = x := Option.some.inj hi
        have hlt : i < 63 := by
          have := (List.getElem?_eq_some_iff.mp e).1
          rw [List.length_take] at this
          omega
        refine ⟨rfl, Exists.intro _ ⟨rfl, z, rfl, _, h2, by rw [List.length_map, sizeLine_eq]; omega, fun b o q => ?_, ?_, ms ++ [if z < 0 then -z else z], by rw [upd_same]; simp, by simp; omega, ?_⟩⟩
        · have : b ≠ D := ne_of_none q nD
          rw [upd_ne this]
          exact s1 _ _ q
        · rw [upd_ne npD]
          exact h1
        · intro n hn
          rcases List.mem_append.mp hn with hn | hn
          · exact hm n hn
          · obtain rfl := List.mem_singleton.mp hn
            split <;> omega
    · rintro H' ⟨s1, h1, ms, h2, hl, hm⟩
      refine ⟨by show 4 ≤ sizeLine; decide, fun q hq => ?_⟩
      have nDq : D ≠ q := ne_of_none h2 hq
      exact k q D _ (s1.free hq) ⟨0, 1234567891, 0, ms, upd_same, by rw [upd_ne nDq]; exact h2, nDq, by decide, by decide, by decide, hm⟩ (s1.trans (same_new hq))
theorem scTake : FnScope ["_law_bag_here", "_law_many", "_law_cell", "_law_mixed_here", "_law_drawn", "_law_begin", "_law_second"] ["_law_bag_here", "_law_many"] (defScope sTake) := ⟨rfl, rfl, rfl, by decide +kernel, rfl, by decide +kernel, by decide +kernel⟩
theorem ok_take {f : Addr} {fd : FuncData} (F : Fun K "_law_take" "_law_take" sTake f fd) (T : Txt K mg) : FnOk P w K mg base CX0 1 f fd ["_law_bag_here", "_law_many"] spTake := by
  refine F.ok scTake (fun vs H Q E h => ?_) (fun cdv A outer s H vs Q E hr h => ?_)
  · obtain ⟨b, l, n, rfl, _⟩ := h
    rfl
  · obtain ⟨b, l, n, rfl, B, n0, n1, k⟩ := h
    have nd := scTake.nd
    obtain ⟨h, m, p, ns, hb, hl, nlb, h0, m0, m1, hns⟩ := id B
    refine ⟨_, Evl.pss_cut (ps_if (pt_cmpR op_eq (pe_ix ix_list (pv 0) pe_int fun _ _ => rfl) pe_int (nomark _))
        (pss_cons (ps_set (i := 2) nd rfl (Or.inl rfl) pe_int)
        (Evl.pss_cut (ps_if (pt_cmpR op_lt (pe_ix ix_list (pv 0) pe_int fun _ _ => rfl) (pe_callB call_len_seq (by rfl) T.len PySem.boot_len (pa_cons (pe_ix ix_list (pv 0) pe_int fun _ _ => rfl) pa_nil)) (nomark _))
          (pss_one (ps_set (i := 2) nd rfl (Or.inl rfl) (pe_ix ix_list (pe_ix ix_list (pv 0) pe_int fun _ _ => rfl) (pe_ix ix_list (pv 0) pe_int fun _ _ => rfl) fun _ _ => rfl))) pss_nil)
        (pss_cons (ps_augS (pv 0) pe_int get_list pe_int ip_add set_list)
        (Evl.pss_cut (ps_if (pt_cmpR op_ge (pv 2) pe_int (nomark _)) (pss_one (ps_asg (pv 2) (pg_sub (pv 0) pe_int set_list))) pss_nil)
        (pss_cons (ps_set (i := 3) nd rfl (Or.inl rfl) (pe_op op_add (pe_op op_add (pe_op op_mul (pe_ix ix_list (pv 0) pe_int fun _ _ => rfl) pe_int)
            (pe_op op_mod (pe_callTy call_int1 (by rfl) T.int (by decide +kernel) (pa_cons (pv 2) pa_nil)) pe_int)) (pe_op op_mul pe_int (pe_ix ix_list (pv 0) pe_int fun _ _ => rfl))))
        (pss_one (ps_asg (pe_op op_mod (pe_callTy call_int1 (by rfl) T.int (by decide +kernel) (pa_cons (pv 3) pa_nil)) pe_int) (pg_sub (pv 0) pe_int set_list)))))))) pss_nil)
      (Evl.pss_cut (ps_if (pt_cmpR op_gt (pe_ix ix_list (pv 0) pe_int fun _ _ => rfl) pe_int (nomark _))
        (pss_cons (ps_set (i := 4) nd rfl (Or.inl rfl) (pe_op op_mod (pe_callTy call_int1 (by rfl) T.int (by decide +kernel) (pa_cons (pe_ix ix_list (pv 0) pe_int fun _ _ => rfl) pa_nil)) (pv 1)))
        (pss_cons (ps_asg (pe_op op_fdivN (pe_callTy call_int1 (by rfl) T.int (by decide +kernel) (pa_cons (pe_ix ix_list (pv 0) pe_int fun _ _ => rfl) pa_nil)) (pv 1)) (pg_sub (pv 0) pe_int set_list))
        (pss_one (ps_ret (pv 4))))) pss_nil)
      (pss_cons (ps_set (i := 5) nd rfl (Or.inl rfl) (pe_op op_mod (pe_callTy call_int1 (by rfl) T.int (by decide +kernel) (pa_cons (pe_op op_mul (pe_op op_add (pe_ix ix_list (pv 0) pe_int fun _ _ => rfl) pe_int) pe_int) pa_nil)) pe_int))
      (pss_cons (ps_set (i := 6) nd rfl (Or.inl rfl) (pe_op op_mod (pe_callTy call_int1 (by rfl) T.int (by decide +kernel) (pa_cons (pe_op op_mul (pe_op op_mod (pe_callTy call_int1 (by rfl) T.int (by decide +kernel) (pa_cons (pe_op op_mul (pv 5) (pv 5)) pa_nil)) pe_int) pe_int) pa_nil)) pe_int))
      (pss_one (ps_ret (pe_op op_mod (pe_callTy call_int1 (by rfl) T.int (by decide +kernel) (pa_cons (pe_op op_fdiv (pv 6) pe_int) pa_nil)) (pv 1)))))))
      , ?_⟩
    refine ⟨fun σ' H' => ∃ c2 c3, σ' = [some (.ref b), some (.int n), c2, c3, none, none, none] ∧ Bag H' b l ∧ Kp b H H', ?_, ?_⟩
    · refine ⟨_, rfl, b, _, _, _, rfl, rfl, SqL.of hb, rfl, rfl, _, rfl, ?_⟩
      refine ite2 (fun _ => ?_) (fun _ => ⟨_, _, rfl, B, Kp.refl _ _⟩)
      refine ⟨fun σ' H' => ∃ c : Int, 0 ≤ c ∧ σ' = [some (.ref b), some (.int n), some (.int c), none, none, none, none] ∧ H' = H, ?_, ?_⟩
      · refine ⟨_, rfl, b, _, _, _, rfl, rfl, SqL.of hb, rfl, _, rfl, b, _, _, _, rfl, rfl, SqL.of hb, rfl, _, _, rfl, .inl (SqL.of hl), _, _, rfl, rfl, _, rfl, ?_⟩
        refine ite2 (fun hc => ?_) (fun _ => ⟨0, Int.le_refl 0, rfl, rfl⟩)
        have hp : p < ns.length := by
          have := of_decide_eq_true hc
          rw [List.length_map] at this
          omega
        refine ⟨_, rfl, b, _, _, _, rfl, rfl, SqL.of hb, rfl, _, rfl, b, _, _, _, rfl, rfl, SqL.of hb, rfl, l, _, _, .int ns[p], rfl, rfl, SqL.of hl, atI_nat (by rw [List.getElem?_map, List.getElem?_eq_getElem hp]; rfl), ?_⟩
        exact ⟨ns[p], hns _ (List.getElem_mem hp), rfl, rfl⟩
      · rintro σ' H' ⟨c, hc, rfl, rfl⟩
        refine ⟨_, rfl, b, _, 2, _, rfl, rfl, SqL.of hb, rfl, _, _, rfl, rfl, b, _, _, 2, rfl, rfl, hb, rfl, ?_⟩
        have hl1 : (upd H' b (HO.lst [.int h, .int m, .int ((p + 1 : Nat) : Int), .ref l])) l = some (HO.lst (ns.map V.int)) := by rw [upd_ne nlb]; exact hl
        refine ⟨fun σ' H2 => ∃ h' : Int, 0 ≤ h' ∧ σ' = [some (.ref b), some (.int n), some (.int c), none, none, none, none] ∧ H2 b = some (.lst [.int h', .int m, .int ((p + 1 : Nat) : Int), .ref l]) ∧ Kp b H' H2, ?_, ?_⟩
        · refine ⟨_, rfl, _, _, rfl, rfl, _, rfl, ?_⟩
          refine ite2 (fun _ => ?_) (fun _ => ⟨h, h0, rfl, upd_same, Kp.at_ _ _ _⟩)
          refine ⟨_, rfl, _, rfl, b, _, 0, 0, rfl, rfl, upd_same, rfl, ?_⟩
          exact ⟨c, hc, rfl, upd_same, (Kp.at_ _ _ _).trans (Kp.at_ _ _ _)⟩
        · rintro σ' H2 ⟨h', h0', rfl, hb2, k2⟩
          have hl2 : H2 l = some (.lst (ns.map V.int)) := k2 _ _ hl nlb
          refine ⟨_, rfl, b, _, 1, _, rfl, rfl, SqL.of hb2, rfl, _, _, rfl, rfl, .inl ⟨by omega, by omega⟩, _, rfl, .inl ⟨_, rfl, _, _, rfl, rfl, (by show (0 : Int) < 2147483647; decide), _, _, rfl, rfl,
            _, rfl, b, _, 2, _, rfl, rfl, SqL.of hb2, rfl, _, _, rfl, rfl, .inl ⟨by decide, by decide⟩, _, _, rfl, rfl, _, rfl, .inl ⟨_, rfl, _, _, rfl, rfl, (by show (0 : Int) < 2147483647; decide), _, rfl, b, _, 1, 1, rfl, rfl, hb2, rfl, ?_⟩⟩⟩
          exact ⟨_, _, rfl, ⟨h', _, p + 1, ns, upd_same, (by rw [upd_ne nlb]; exact hl2), nlb, h0', Int.emod_nonneg _ (by decide), Int.emod_lt_of_pos _ (by decide), hns⟩, k2.trans (Kp.at_ _ _ _)⟩
    · rintro σ1 H1 ⟨c2, c3, rfl, B1, k1⟩
      clear hb hl hns h0 m0 m1
      obtain ⟨h, m, p, ns, hb, hl, nlb, h0, m0, m1, hns⟩ := id B1
      refine ⟨fun σ' H' => σ' = [some (.ref b), some (.int n), c2, c3, none, none, none] ∧ H' = H1, ?_, ?_⟩
      · refine ⟨_, rfl, b, _, 0, _, rfl, rfl, SqL.of hb, rfl, _, _, rfl, rfl, _, rfl, ?_⟩
        refine ite2 (fun _ => ?_) (fun _ => ⟨rfl, rfl⟩)
        obtain ⟨j, ej, hj⟩ := take_mod (k := h) n0
        refine ⟨_, rfl, b, _, 0, _, rfl, rfl, SqL.of hb, rfl, .inl ⟨_, rfl, _, rfl, _, _, rfl, rfl, n0, _, rfl, b, _, 0, _, rfl, rfl, SqL.of hb, rfl, .inl ⟨_, rfl, _, rfl, _, _, rfl, rfl, ⟨by omega, by omega⟩, _, rfl, b, _, 0, 0, rfl, rfl, hb, rfl, _, rfl, ?_⟩⟩⟩
        show Q (.int (h % n)) _
        rw [ej]
        refine k j _ hj ⟨_, m, p, ns, upd_same, (by rw [upd_ne nlb]; exact hl), nlb, ?_, m0, m1, hns⟩ (k1.trans (Kp.at_ _ _ _))
        show 0 ≤ h.fdiv n
        rw [Int.fdiv_eq_ediv_of_nonneg h (by omega)]
        exact Int.ediv_nonneg h0 (by omega)
      · rintro σ' H' ⟨rfl, rfl⟩
        have q1 : ∀ x : Int, 0 ≤ x % 1000000007 ∧ x % 1000000007 < 1000000007 := fun x => ⟨Int.emod_nonneg _ (by decide), Int.emod_lt_of_pos _ (by decide)⟩
        have q2 : ∀ x : Int, 0 ≤ x % 998244353 ∧ x % 998244353 < 998244353 := fun x => ⟨Int.emod_nonneg _ (by decide), Int.emod_lt_of_pos _ (by decide)⟩
        obtain ⟨u, eu⟩ : ∃ u, u = ((m + 1) * 39373) % 1000000007 := ⟨_, rfl⟩
        have hu := q1 ((m + 1) * 39373)
        rw [← eu] at hu
        obtain ⟨j, ej, hj⟩ := take_mod (k := (u * u % 998244353 * 30011 % 998244353) / 7) n0
        have hv := q2 (u * u)
        refine ⟨_, rfl, b, _, 1, _, rfl, rfl, SqL.of hb, rfl, _, _, rfl, rfl, _, _, rfl, rfl, .inl ⟨by omega, by omega⟩, .inl ⟨_, rfl, _, _, rfl, rfl, (by show (0 : Int) < 1000000007; decide), ?_⟩⟩
        show tSeq _ _ _ [some (.ref b), some (.int n), c2, c3, none, some (.int (((m + 1) * 39373) % 1000000007)), none] _
        rw [← eu]
        refine ⟨_, rfl, _, rfl, _, _, rfl, rfl, .inl ⟨by omega, by omega⟩, .inl ⟨_, rfl, _, _, rfl, rfl, (by show (0 : Int) < 998244353; decide), _, _, rfl, rfl, .inl ⟨by omega, by omega⟩, .inl ⟨_, rfl, _, _, rfl, rfl, (by show (0 : Int) < 998244353; decide), _, rfl, _, _, rfl, rfl, ⟨by decide, by decide⟩, .inl ⟨_, rfl, _, rfl, _, _, rfl, rfl, n0, ?_⟩⟩⟩⟩
        show Q (.int ((u * u % 998244353 * 30011 % 998244353) / 7 % n)) _
        rw [ej]
        exact k j _ hj B1 k1
theorem scOne : FnScope ["_law_bag_here", "_law_some"] ["_law_bag_here", "_law_some"] (defScope sOne) := ⟨rfl, rfl, rfl, by decide +kernel, rfl, by decide +kernel, by decide +kernel⟩
theorem ok_one {f : Addr} {fd : FuncData} (F : Fun K "_law_one" "_law_one" sOne f fd) (T : Txt K mg) (cT : Cal P w K mg base 1 "_law_take" ["_law_bag_here", "_law_many"] spTake) : FnOk P w K mg base CX0 2 f fd ["_law_bag_here", "_law_some"] spOne := by
  refine F.ok scOne (fun vs H Q E h => ?_) (fun cdv A outer s H vs Q E hr h => ?_)
  · obtain ⟨b, l, a, xs, rfl, _⟩ := h
    rfl
  · obtain ⟨b, l, a, xs, rfl, B, nab, ha, hne, hz, k⟩ := h
    refine ⟨_, pss_one (ps_ret (pe_ix ix_list (pv 1) (pe_call cT.G hr rfl cT.m cT.kp cT.b .nil pass0 (pa_cons (pv 0) (pa_cons (pe_callB call_len_seq (by rfl) T.len PySem.boot_len (pa_cons (pv 1) pa_nil)) pa_nil))) fun _ _ => rfl)), ?_⟩
    have hpos : 0 < xs.length := List.length_pos_iff.mpr hne
    refine ⟨_, rfl, _, rfl, _, rfl, _, _, rfl, .inl (SqL.of ha), b, l, _, rfl, B, by omega, by omega, fun j H' hj B' k' => ?_⟩
    have hj' : j < xs.length := by omega
    exact ⟨a, xs, j, xs[j], rfl, rfl, SqL.of (k' _ _ ha nab), atI_nat (List.getElem?_eq_getElem hj'), k _ _ (List.getElem_mem hj') B' k'⟩
theorem scMixed : FnScope ["_law_bag_here", "_law_things", "_law_found", "_law_thing"] ["_law_bag_here", "_law_things"] (defScope sMixed) := ⟨rfl, rfl, rfl, by decide +kernel, rfl, by decide +kernel, by decide +kernel⟩
theorem ok_mixed {f : Addr} {fd : FuncData} (F : Fun K "_law_mixed" "_law_mixed" sMixed f fd) (T : Txt K mg) (cT : Cal P w K mg base 1 "_law_take" ["_law_bag_here", "_law_many"] spTake) : FnOk P w K mg base CX0 2 f fd ["_law_bag_here", "_law_things"] spMixed := by
  refine F.ok scMixed (fun vs H Q E h => ?_) (fun cdv A outer s H vs Q E hr h => ?_)
  · obtain ⟨b, l, a, xs, rfl, _⟩ := h
    rfl
  · obtain ⟨b, l, a, xs, rfl, B, nab, ha, hz, k⟩ := h
    have nd := scMixed.nd
    refine ⟨_, pss_cons (ps_set (i := 2) nd rfl (Or.inl rfl) (pe_lst pa_nil)) (pss_cons (ps_for PassesOwn.never rfl (pi_list (pv 1)) (pg_name (i := 3) nd rfl (Or.inl rfl))
      (pss_one (ps_expr (pe_bm PySem.F.plainAttrs_list PySem.F.slot_list_insert PySem.F.type_list_insert mt_insert (pv 2)
        (pa_cons (pe_call cT.G hr rfl cT.m cT.kp cT.b .nil pass0 (pa_cons (pv 0) (pa_cons (pe_op op_add (pe_callB call_len_seq (by rfl) T.len PySem.boot_len (pa_cons (pv 2) pa_nil)) pe_int) pa_nil))) (pa_cons (pv 3) pa_nil))))))
      (pss_one (ps_ret (pv 2)))), ?_⟩
    refine ⟨by decide, fun p hp => ?_⟩
    have npb : p ≠ b := B.ne hp
    have nap : a ≠ p := ne_of_none ha hp
    refine ⟨_, rfl, a, rfl, ⟨_, SqL.of (by rw [upd_ne nap]; exact ha)⟩, for_list (K := K) (a := a) (xs := xs) (fun i σ H' => ∃ (ys : List V) (v : Option V), σ = [some (.ref b), some (.ref a), some (.ref p), v] ∧ ys.Perm (xs.take i) ∧ H' p = some (.lst ys) ∧ Bag H' b l ∧ Kp b H H')
      ⟨[], none, rfl, by simp, upd_same, B.new hp, Kp.new hp⟩ (fun i σ H' _ ⟨_, _, _, _, _, _, k'⟩ => SqL.of (k' _ _ ha nab)) ?_ ?_⟩
    · rintro i x σ H' hi ⟨ys, v, rfl, hp1, h1, B1, k1⟩
      have hil : i < xs.length := (List.getElem?_eq_some_iff.mp hi).1
      have hyl : ys.length = i := by
        rw [hp1.length_eq, List.length_take]
        omega
      refine ⟨_, rfl, .inl ⟨rfl, _, SqL.of h1⟩, _, rfl, _, rfl, _, _, rfl, .inl (SqL.of h1), _, _, rfl, rfl, b, l, _, rfl, B1, by omega, by omega, fun j H2 hj B2 k2 => ?_⟩
      refine ⟨_, rfl, p, ys, (j : Int), x, rfl, rfl, k2 _ _ h1 npb, Nat.lt_of_lt_of_le (show ys.length < 1000 by omega) (by rw [sizeLine_eq]; decide), by omega, by omega, ?_⟩
      refine ⟨ys.take j ++ [x] ++ ys.drop j, _, rfl, ?_, ?_, ?_, ?_⟩
      · have e1 : xs.take (i + 1) = xs.take i ++ [x] := by
          rw [List.take_add_one, hi]
          rfl
        rw [e1]
        have q1 : (ys.take j ++ [x] ++ ys.drop j).Perm (ys ++ [x]) := by
          have q2 : (ys.take j ++ ([x] ++ ys.drop j)).Perm (ys.take j ++ (ys.drop j ++ [x])) := List.Perm.append_left _ List.perm_append_comm
          rw [List.append_assoc]
          refine q2.trans ?_
          rw [← List.append_assoc, List.take_append_drop]
        exact q1.trans (hp1.append_right _)
      · rw [upd_same]
        simp
      · exact B2.upd npb.symm (B.nel hp)
      · intro c o hc ncb
        have : c ≠ p := ne_of_none hc hp
        rw [upd_ne this]
        exact k2 _ _ (k1 _ _ hc ncb) ncb
    · rintro σ H' ⟨ys, v, rfl, hp1, h1, B1, k1⟩
      rw [List.take_length] at hp1
      exact ⟨_, rfl, k ys p H' hp1 hp npb h1 B1 k1⟩
theorem scNames : FnScope ["_law_bag_here", "_law_many", "_law_menu"] ["_law_bag_here", "_law_many"] (defScope sNames) := ⟨rfl, rfl, rfl, by decide +kernel, rfl, by decide +kernel, by decide +kernel⟩
theorem ok_names {f : Addr} {fd : FuncData} (F : Fun K "_law_names" "_law_names" sNames f fd) (T : Txt K mg) (cM : Cal P w K mg base 2 "_law_mixed" ["_law_bag_here", "_law_things"] spMixed) : FnOk P w K mg base CX0 3 f fd ["_law_bag_here", "_law_many"] spNames := by
  refine F.ok scNames (fun vs H Q E h => ?_) (fun cdv A outer s H vs Q E hr h => ?_)
  · obtain ⟨b, l, n, rfl, _⟩ := h
    rfl
  · obtain ⟨b, l, n, rfl, B, k⟩ := h
    have nd := scNames.nd
    refine ⟨_, pss_cons (ps_set (i := 2) nd rfl (Or.inl rfl) (pe_lst (pa_cons pe_str (pa_cons pe_str (pa_cons pe_str (pa_cons pe_str (pa_cons pe_str (pa_cons pe_str (pa_cons pe_str (pa_cons pe_str (pa_cons pe_str (pa_cons pe_str (pa_cons pe_str (pa_cons pe_str pa_nil))))))))))))))
      (pss_one (ps_ret (pe_slice sl_list (pe_call cM.G hr rfl cM.m cM.kp cM.b .nil pass0 (pa_cons (pv 0) (pa_cons (pv 2) pa_nil))) po_none (po_some (pv 1))))), ?_⟩
    refine ⟨by show 12 ≤ sizeLine; decide, fun p hp => ?_⟩
    have npb : p ≠ b := B.ne hp
    refine ⟨_, rfl, _, rfl, b, l, p, menu0.map V.str, rfl, B.new hp, npb, upd_same, by show 12 < 1000; decide, fun ys q H' hp1 hq nqb h1 B1 k1 => ?_⟩
    refine ⟨_, rfl, _, rfl, q, ys, rfl, SqL.of h1, fun r hr => ?_⟩
    have e0 : cutV ys none (some (n : Int)) = ys.take n := cut_to n ys
    rw [e0]
    obtain ⟨zs, rfl, hzs⟩ := perm_strs hp1
    have hsub := (List.take_sublist n zs)
    have nrH : H r = none := by
      cases e : H r with
      | none => rfl
      | some o =>
        have ner : r ≠ p := ne_of_none e hp
        by_cases erb : r = b
        · subst erb
          obtain ⟨o', e'⟩ := B1.at_
          rw [e'] at hr
          cases hr
        · have := k1 r o (by rw [upd_ne ner]; exact e) erb
          rw [this] at hr
          cases hr
    refine k (zs.take n) r _ ⟨(hzs.nodup_iff.mpr menu0_nodup).sublist hsub, fun c hc => menu0_sub _ (hzs.mem_iff.mp (hsub.mem hc)), by rw [List.length_take, hzs.length_eq]; rfl⟩ nrH (B1.ne hr) (by rw [upd_same, List.map_take]) (B1.new hr) ((Kp.new hp).trans (k1.trans (Kp.new hr)))
theorem scQuestion : FnScope ["_law_bag_here", "_law_names_here", "_law_some", "_law_end"] ["_law_bag_here", "_law_names_here"] (defScope sQuestion) := ⟨rfl, rfl, rfl, by decide +kernel, rfl, by decide +kernel, by decide +kernel⟩
theorem ok_question {f : Addr} {fd : FuncData} (F : Fun K "_law_question" "_law_question" sQuestion f fd) (T : Txt K mg) (cT : Cal P w K mg base 1 "_law_take" ["_law_bag_here", "_law_many"] spTake) (cM : Cal P w K mg base 2 "_law_mixed" ["_law_bag_here", "_law_things"] spMixed) : FnOk P w K mg base CX0 3 f fd ["_law_bag_here", "_law_names_here"] spQuestion := by
  refine F.ok scQuestion (fun vs H Q E h => ?_) (fun cdv A outer s H vs Q E hr h => ?_)
  · obtain ⟨b, l, a, xs, rfl, _⟩ := h
    rfl
  · obtain ⟨b, l, a, xs, rfl, B, nab, ha, R, k⟩ := h
    have nd := scQuestion.nd
    have hr1 : Room 1 _ := hr.mono (by decide)
    refine ⟨_, pss_cons (ps_set (i := 2) nd rfl (Or.inl rfl) (pe_slice sl_list (pe_call cM.G hr rfl cM.m cM.kp cM.b .nil pass0 (pa_cons (pv 0) (pa_cons (pv 1) pa_nil))) po_none
        (po_some (pe_op op_add pe_int (pe_call cT.G hr1 rfl cT.m cT.kp cT.b .nil pass0 (pa_cons (pv 0) (pa_cons (pe_callB call_len_seq (by rfl) T.len PySem.boot_len (pa_cons (pv 1) pa_nil)) pa_nil)))))))
      (Evl.pss_cut (ps_set (i := 3) nd rfl (Or.inl rfl) (pe_ifExp (pt_cmpR op_eq (pe_call cT.G hr1 rfl cT.m cT.kp cT.b .nil pass0 (pa_cons (pv 0) (pa_cons pe_int pa_nil))) pe_int (nomark _))
        (pe_bm0 PySem.F.plainAttrs_list PySem.F.slot_list_pop PySem.F.type_list_pop mt_pop (pv 2)) pe_str))
      (pss_one (ps_ret (pe_tup (pa_cons (pe_callTy call_tuple_of (by rfl) T.tuple (by decide +kernel) (pa_cons (pe_callB cr_sortedST (by rfl) T.sorted (by decide +kernel) (pa_cons (pv 2) pa_nil)) pa_nil)) (pa_cons (pv 3) pa_nil)))))), ?_⟩
    have hl := R.le
    have hpos := R.pos
    refine ⟨_, rfl, _, rfl, b, l, a, _, rfl, B, nab, ha, by rw [List.length_map]; omega, fun ys0 p H1 hp0 hp hpb h1 B1 k1 => ?_⟩
    obtain ⟨ys, rfl, hy⟩ := perm_strs hp0
    have ha1 := k1 _ _ ha nab
    refine ⟨_, rfl, _, rfl, _, _, rfl, .inl (SqL.of ha1), b, l, _, rfl, B1, by rw [List.length_map]; omega, by rw [List.length_map]; omega, fun j H2 hj B2 k2 => ?_⟩
    rw [List.length_map] at hj
    refine ⟨_, _, rfl, rfl, _, rfl, p, _, rfl, SqL.of (k2 _ _ h1 hpb), fun r hr => ?_⟩
    have ec : cutV (ys.map V.str) none (some (1 + (j : Int))) = (ys.take (j + 1)).map V.str := by
      have e1 : (1 + (j : Int)) = ((j + 1 : Nat) : Int) := by omega
      rw [e1, cut_to, List.map_take]
    rw [ec]
    have hrb : r ≠ b := B2.ne hr
    have hyl := hy.length_eq
    refine ⟨fun σ' H' => ∃ (zs : List Str) (e : Str), σ' = [some (.ref b), some (.ref a), some (.ref r), some (.str e)] ∧ H' r = some (.lst (zs.map V.str)) ∧ zs.length ≤ 12 ∧ (∀ ws, ws.Perm zs → sortedS ws = true → Qok xs ws e) ∧ Bag H' b l ∧ Kp b H H', ?_, ?_⟩
    · refine ⟨_, rfl, b, l, 2, rfl, B2.new hr, by decide, by decide, fun j2 H3 hj2 B3 k3 => ?_⟩
      have kH3 : Kp b H H3 := k1.trans (k2.trans ((Kp.new hr).trans k3))
      have hr3 := k3 _ _ upd_same hrb
      refine ⟨rfl, _, rfl, ?_⟩
      refine ite2 (fun _ => ?_) (fun _ => ?_)
      · have hlt : j < ys.length := by omega
        have el : ((ys.take (j + 1)).map V.str)[((ys.take (j + 1)).map V.str).length - 1]? = some (V.str ys[j]) := by
          rw [List.length_map, List.length_take, Nat.min_eq_left (by omega), Nat.add_sub_cancel, List.getElem?_map, List.getElem?_take_of_lt (by omega), List.getElem?_eq_getElem hlt]
          rfl
        refine ⟨_, rfl, .inl ⟨rfl, _, SqL.of hr3⟩, r, _, _, rfl, rfl, hr3, el, ?_⟩
        have ed : ((ys.take (j + 1)).map V.str).dropLast = (ys.take j).map V.str := by
          rw [← List.map_dropLast, List.take_add_one, List.getElem?_eq_getElem hlt, Option.toList_some, List.dropLast_concat]
        rw [ed]
        refine ⟨ys.take j, ys[j], rfl, upd_same, by rw [List.length_take]; omega, fun ws hw hs => qok_ranged R hy (List.getElem?_eq_getElem hlt) hw hs, B3.upd hrb.symm (B2.nel hr), fun c o hc ncb => ?_⟩
        have ncr : c ≠ r := ne_of_none (k2 _ _ (k1 _ _ hc ncb) ncb) hr
        rw [upd_ne ncr]
        exact kH3 _ _ hc ncb
      · exact ⟨ys.take (j + 1), "", rfl, hr3, by rw [List.length_take]; omega, fun ws hw hs => qok_plain R hy hw hs, B3, kH3⟩
    · rintro σ' H' ⟨zs, e, rfl, h2, hz, hq, B4, k4⟩
      refine ⟨_, rfl, r, zs, rfl, .inl (SqL.of h2), by omega, fun ws p1 hw hs hp1 => ⟨p1, _, rfl, .inl ⟨SqL.of upd_same, fun p2 hp2 => ⟨_, rfl, by show 2 ≤ sizeLine; decide, fun p3 hp3 => ?_⟩⟩⟩⟩
      have s3 : Same H' _ := (same_new (o := .lst (ws.map V.str)) hp1).trans ((same_new (o := .tup (ws.map V.str)) hp2).trans (same_new (o := .tup [.ref p2, .str e]) hp3))
      exact k p3 ws e _ ⟨p2, upd_same, same_new hp3 _ _ upd_same⟩ (hq ws hw hs) (B4.same s3) (k4.trans (Kp.of s3))
theorem scIndex : FnScope ["_law_bag_here", "_law_names_here"] ["_law_bag_here", "_law_names_here"] (defScope sIndex) := ⟨rfl, rfl, rfl, by decide +kernel, rfl, by decide +kernel, by decide +kernel⟩
theorem ok_index {f : Addr} {fd : FuncData} (F : Fun K "_law_index" "_law_index" sIndex f fd) (T : Txt K mg) (cT : Cal P w K mg base 1 "_law_take" ["_law_bag_here", "_law_many"] spTake) (cM : Cal P w K mg base 2 "_law_mixed" ["_law_bag_here", "_law_things"] spMixed) : FnOk P w K mg base CX0 3 f fd ["_law_bag_here", "_law_names_here"] spIndex := by
  refine F.ok scIndex (fun vs H Q E h => ?_) (fun cdv A outer s H vs Q E hr h => ?_)
  · obtain ⟨b, l, a, xs, rfl, _⟩ := h
    rfl
  · obtain ⟨b, l, a, xs, rfl, B, nab, ha, R, k⟩ := h
    have nd := scIndex.nd
    have hr1 : Room 1 _ := hr.mono (by decide)
    refine ⟨_, pss_one (ps_ret (pe_callTy call_tuple_of (by rfl) T.tuple (by decide +kernel) (pa_cons (pe_slice sl_list (pe_call cM.G hr rfl cM.m cM.kp cM.b .nil pass0 (pa_cons (pv 0) (pa_cons (pv 1) pa_nil))) po_none
        (po_some (pe_op op_add pe_int (pe_call cT.G hr1 rfl cT.m cT.kp cT.b .nil pass0 (pa_cons (pv 0) (pa_cons (pe_callB call_len_seq (by rfl) T.len PySem.boot_len (pa_cons (pv 1) pa_nil)) pa_nil)))))) pa_nil))), ?_⟩
    have hl := R.le
    have hpos := R.pos
    refine ⟨_, rfl, _, rfl, b, l, a, _, rfl, B, nab, ha, by rw [List.length_map]; omega, fun ys0 p H1 hp0 hp hpb h1 B1 k1 => ?_⟩
    obtain ⟨ys, rfl, hy⟩ := perm_strs hp0
    have ha1 := k1 _ _ ha nab
    refine ⟨_, rfl, _, rfl, _, _, rfl, .inl (SqL.of ha1), b, l, _, rfl, B1, by rw [List.length_map]; omega, by rw [List.length_map]; omega, fun j H2 hj B2 k2 => ?_⟩
    rw [List.length_map] at hj
    refine ⟨_, _, rfl, rfl, _, rfl, p, _, rfl, SqL.of (k2 _ _ h1 hpb), fun r hr => ⟨r, _, rfl, .inl ⟨SqL.of upd_same, fun t ht => ?_⟩⟩⟩
    have ec : cutV (ys.map V.str) none (some (1 + (j : Int))) = (ys.take (j + 1)).map V.str := by
      have e1 : (1 + (j : Int)) = ((j + 1 : Nat) : Int) := by omega
      rw [e1, cut_to, List.map_take]
    rw [ec] at ht
    rw [ec]
    have hyl := hy.length_eq
    have sl := List.take_sublist (j + 1) ys
    have s2 : Same H2 _ := (same_new (o := .lst ((ys.take (j + 1)).map V.str)) hr).trans (same_new (o := .tup ((ys.take (j + 1)).map V.str)) ht)
    have hsub : ∀ c ∈ ys.take (j + 1), c ∈ xs := fun c hc => hy.mem_iff.mp (sl.mem hc)
    exact k t (ys.take (j + 1)) _ upd_same ⟨(hy.nodup_iff.mpr R.nd).sublist sl, fun c hc => R.sub _ (hsub c hc), by rw [List.length_take]; omega, by rw [List.length_take]; omega⟩ hsub (B2.same s2) (k1.trans (k2.trans (Kp.of s2)))
end
end Qk
set_option maxRecDepth 100000
set_option maxHeartbeats 4000000
namespace Qk
open PySem PySem.Spec PyProof.Rows L2
/-- a flat value: a text is of signs as they are written, where it is short -/
def Flat (H : Hp) (A : Addr → Prop) (x : V) : Prop := x = .non ∨ (∃ b, x = .bl b) ∨ (∃ i, x = .int i) ∨ (∃ z : Str, x = .str z ∧ z.cps.size ≤ 10000 ∧ (z.cps.size ≤ 8 → PyData.strOk z = true)) ∨ ∃ a kvs, x = .ref a ∧ ¬ A a ∧ H a = some (.dK kvs)
/-- a value whose lists and tuples lie at most n deep, none of them at an address of A -/
def VA (mx : Nat) (H : Hp) (A : Addr → Prop) : Nat → V → Prop
  | 0, x => Flat H A x
  | n + 1, x => Flat H A x ∨ ∃ a xs, x = .ref a ∧ ¬ A a ∧ (H a = some (.lst xs) ∨ H a = some (.tup xs)) ∧ xs.length ≤ mx ∧ ∀ y ∈ xs, VA mx H A n y
section
variable {mx : Nat} {H H' : Hp} {A A' : Addr → Prop}
theorem Flat.keep {x : V} (k : ∀ c o, H c = some o → ¬ A c → H' c = some o ∧ ¬ A' c) (h : Flat H A x) : Flat H' A' x := by
  rcases h with h | h | h | h | ⟨a, kvs, e, na, ha⟩
  · exact .inl h
  · exact .inr (.inl h)
  · exact .inr (.inr (.inl h))
  · exact .inr (.inr (.inr (.inl h)))
  · exact .inr (.inr (.inr (.inr ⟨a, kvs, e, (k _ _ ha na).2, (k _ _ ha na).1⟩)))
theorem VA.keep : ∀ {n : Nat} {x : V}, (∀ c o, H c = some o → ¬ A c → H' c = some o ∧ ¬ A' c) → VA mx H A n x → VA mx H' A' n x
  | 0, x, k, h => Flat.keep k h
  | n + 1, x, k, h => by
    rcases h with h | ⟨a, xs, e, na, ha, hl, hx⟩
    · exact .inl (Flat.keep k h)
    · refine .inr ⟨a, xs, e, ?_, ?_, hl, fun y hy => VA.keep k (hx y hy)⟩
      · rcases ha with ha | ha
        · exact (k _ _ ha na).2
        · exact (k _ _ ha na).2
      · rcases ha with ha | ha
        · exact .inl (k _ _ ha na).1
        · exact .inr (k _ _ ha na).1
theorem VA.same {n : Nat} {x : V} (s : Same H H') (h : VA mx H A n x) : VA mx H' A n x := VA.keep (fun c o e na => ⟨s c o e, na⟩) h
theorem VA.up : ∀ {n : Nat} {x : V}, VA mx H A n x → VA mx H A (n + 1) x
  | 0, _, h => .inl h
  | n + 1, _, h => by
    rcases h with h | ⟨a, xs, e, na, ha, hl, hx⟩
    · exact .inl h
    · exact .inr ⟨a, xs, e, na, ha, hl, fun y hy => VA.up (hx y hy)⟩
theorem VA.le {n m : Nat} (h : n ≤ m) {x : V} (v : VA mx H A n x) : VA mx H A m x := by
  obtain ⟨k, rfl⟩ := Nat.le.dest h
  clear h
  induction k with
  | zero => exact v
  | succ k ih => exact ih.up
end
/-- new values: all that they are made of is newer than H0 -/
def old (H0 : Hp) : Addr → Prop := fun c => ∃ o, H0 c = some o
theorem VA.fresh {mx n : Nat} {H : Hp} {A : Addr → Prop} {x : V} {p : Addr} {o : HO} (hp : H p = none) (h : VA mx H A n x) : VA mx (upd H p o) (fun c => A c ∨ c = p) n x :=
  VA.keep (fun c u e na => ⟨by rw [upd_ne (ne_of_none e hp)]; exact e, fun ha => ha.elim na fun ec => ne_of_none e hp ec⟩) h
section
variable {X : Cx} {mx : Nat}
theorem PE.imp {e : Expr} {t t' : TE} (h : PE X e t) (hi : ∀ σ H Q, t' σ H Q → t σ H Q) : PE X e t' := ⟨fun pins s σ H Q I q => h.run pins s σ H Q I (hi σ H Q q)⟩
theorem PA.imp {es : List Expr} {t t' : TA} (h : PA X es t) (hi : ∀ σ H Q, t' σ H Q → t σ H Q) : PA X es t' := ⟨fun pos pins s σ H Q I q => h.run pos pins s σ H Q I (hi σ H Q q)⟩
end
end Qk
set_option maxRecDepth 100000
set_option maxHeartbeats 4000000
namespace Qk
open PySem PySem.Spec PyProof.Rows L2
/-- an error of the class at C stands at a -/
def Er (H : Hp) (a C : Addr) : Prop := H a = some (exo a C none) ∨ ∃ d fs, H a = some (exo a C (some d)) ∧ H d = some (exd d fs)
theorem Er.same {H H' : Hp} {a C : Addr} (s : Same H H') (h : Er H a C) : Er H' a C := by
  rcases h with h | ⟨d, fs, h, hd⟩
  · exact .inl (s _ _ h)
  · exact .inr ⟨d, fs, s _ _ h, s _ _ hd⟩
end Qk
set_option maxRecDepth 100000
set_option maxHeartbeats 4000000
namespace Qk
open PySem PySem.Spec PyProof.Rows L2
mutual
inductive D1 (H : Hp) : V → PyData → Prop
  | non : D1 H .non .none
  | bl (b : Bool) : D1 H (.bl b) (.bool b)
  | int (i : Int) : D1 H (.int i) (.int i)
  | str (x : Str) : D1 H (.str x) (.str x)
  | lst {a : Addr} {xs : List V} {ds : List PyData} : H a = some (.lst xs) → a ≠ sysModules → D1A H xs ds → D1 H (.ref a) (.list ds)
  | tup {a : Addr} {xs : List V} {ds : List PyData} : H a = some (.tup xs) → D1A H xs ds → D1 H (.ref a) (.tuple ds)
inductive D1A (H : Hp) : List V → List PyData → Prop
  | nil : D1A H [] []
  | cons {v : V} {vs : List V} {d : PyData} {ds : List PyData} : D1 H v d → D1A H vs ds → D1A H (v :: vs) (d :: ds)
end
def kD : Key → PyData
  | .inl i => .int i
  | .inr x => .str x
inductive D2K (H : Hp) : List (Key × V) → List (PyData × PyData) → Prop
  | nil : D2K H [] []
  | cons {k : Key} {v : V} {d : PyData} {kvs : List (Key × V)} {D : List (PyData × PyData)} : D1 H v d → D2K H kvs D → D2K H ((k, v) :: kvs) ((kD k, d) :: D)
def D2 (H : Hp) (v : V) (d : PyData) : Prop := D1 H v d ∨ ∃ a kvs D, v = .ref a ∧ H a = some (.dK kvs) ∧ D2K H kvs D ∧ d = .dict D
section
variable {X : Cx} {pins : List (Addr × Obj)} {σ : L2.St} {H : Hp} {s : Shared}
mutual
theorem D1.reads (I : Inv X pins σ H s) : ∀ (d : PyData) (v : V) (u : Value), D1 H v d → RelV v u → ∃ as, Reads s.heap u d as ∧ sysModules ∉ as
  | .none, _, _, h, r => by
    cases h
    cases r
    exact ⟨_, Reads.none, by simp⟩
  | .bool b, _, _, h, r => by
    cases h
    cases r
    exact ⟨_, Reads.bool b, by simp⟩
  | .int i, _, _, h, r => by
    cases h
    obtain ⟨t, rfl⟩ := r
    exact ⟨_, Reads.int i t, by simp⟩
  | .str x, _, _, h, r => by
    cases h
    obtain ⟨t, rfl⟩ := r
    exact ⟨_, Reads.str x t, by simp⟩
  | .list ds, _, _, h, r => by
    cases h with
    | lst hs hn ha =>
      cases r
      obtain ⟨its, rv, ⟨o, n, ho, hc, _, hd⟩, _⟩ := I.list (SqL.of hs)
      obtain ⟨as, hr, ns⟩ := D1.readsAll I ds _ its ha rv
      refine ⟨_, Reads.list ho hc hd hr, fun z => ?_⟩
      rcases List.mem_cons.mp z with e | e
      · exact hn e.symm
      · exact ns e
  | .tuple ds, _, _, h, r => by
    cases h with
    | tup hs ha =>
      cases r
      obtain ⟨its, rv, ⟨o, ho, hc, n, hd⟩, _⟩ := I.tuple (SqT.of hs)
      obtain ⟨as, hr, ns⟩ := D1.readsAll I ds _ its ha rv
      exact ⟨_, Reads.tuple ho hc hd hr, ns⟩
  | .dict _, _, _, h, _ => by cases h
theorem D1.readsAll (I : Inv X pins σ H s) : ∀ (ds : List PyData) (vs : List V) (us : List Value), D1A H vs ds → Vals vs us → ∃ as, ReadsAll s.heap us ds as ∧ sysModules ∉ as
  | [], _, _, h, r => by
    cases h
    cases r
    exact ⟨_, ReadsAll.nil, by simp⟩
  | d :: ds, _, _, h, r => by
    cases h with
    | cons h1 h2 =>
      cases r with
      | cons r1 r2 =>
        obtain ⟨as, q1, n1⟩ := D1.reads I d _ _ h1 r1
        obtain ⟨bs, q2, n2⟩ := D1.readsAll I ds _ _ h2 r2
        refine ⟨_, ReadsAll.cons q1 q2, fun z => ?_⟩
        rcases List.mem_append.mp z with e | e
        · exact n1 e
        · exact n2 e
end
theorem D2K.reads (I : Inv X pins σ H s) {kvs : List (Key × V)} {D : List (PyData × PyData)} (h : D2K H kvs D) : ∀ (vs : List (Key × Value)) (es : List DictEntry), KV kvs vs → Pairs (mixKind X.prog X.w) es vs →
    ∃ as bs, ReadsAll s.heap (es.map (·.key)) (D.map (·.1)) as ∧ ReadsAll s.heap (es.map (·.val)) (D.map (·.2)) bs ∧ sysModules ∉ as ∧ sysModules ∉ bs := by
  induction h with
  | nil =>
    intro vs es r p
    cases r
    cases p
    exact ⟨_, _, ReadsAll.nil, ReadsAll.nil, by simp, by simp⟩
  | @cons k v d kvs D h1 h2 ih =>
    intro vs es r p
    cases r with
    | @cons _ q _ vs' r1 r2 =>
      cases p with
      | @cons e _ es' _ p1 p2 p3 =>
        obtain ⟨as, bs, q1, q2, n1, n2⟩ := ih _ _ r2 p3
        obtain ⟨cs, q3, n3⟩ := D1.reads I d v e.val h1 (by rw [p2]; exact r1.2)
        have hk : ∃ ds, Reads s.heap e.key (kD k) ds ∧ sysModules ∉ ds := by
          have e1 : k = q.1 := r1.1
          rw [← e1] at p1
          rcases keyIs_shape (show keyIs k e.key = true from p1) with ⟨i, t, rfl, e2⟩ | ⟨x, t, rfl, e2⟩
          · rw [e2]
            exact ⟨_, Reads.int i t, by simp⟩
          · rw [e2]
            exact ⟨_, Reads.str x t, by simp⟩
        obtain ⟨ds, q4, n4⟩ := hk
        refine ⟨_, _, ReadsAll.cons q4 q1, ReadsAll.cons q3 q2, fun z => ?_, fun z => ?_⟩
        · rcases List.mem_append.mp z with e | e
          · exact n4 e
          · exact n1 e
        · rcases List.mem_append.mp z with e | e
          · exact n3 e
          · exact n2 e
theorem D2.reads (I : Inv X pins σ H s) {v : V} {d : PyData} {u : Value} (h : D2 H v d) (r : RelV v u) : ∃ as, Reads s.heap u d as ∧ sysModules ∉ as := by
  rcases h with h | ⟨a, kvs, D, rfl, ha, hk, rfl⟩
  · exact D1.reads I d v u h r
  · cases r
    obtain ⟨z, hd, vs, rel, ⟨o, es, ep, h1, h2, h3, h4, h5, h6⟩⟩ := dk_of I.hok ha
    obtain ⟨as, bs, q1, q2, n1, n2⟩ := hk.reads I vs es.toList rel h5
    refine ⟨_, Reads.dict h1 h2.1 h3 q1 q2, fun z => ?_⟩
    rcases List.mem_append.mp z with e | e
    · rcases List.mem_cons.mp e with e | e
      · rw [← e] at hd
        simp at hd
      · exact n1 e
    · exact n2 e
end
end Qk
set_option maxRecDepth 100000
set_option maxHeartbeats 4000000
namespace Qk
open PySem PySem.Spec PyProof.Rows L2
mutual
inductive D3 (H : Hp) : V → PyData → Prop
  | non : D3 H .non .none
  | bl (b : Bool) : D3 H (.bl b) (.bool b)
  | int (i : Int) : D3 H (.int i) (.int i)
  | str (x : Str) : D3 H (.str x) (.str x)
  | lst {a : Addr} {xs : List V} {ds : List PyData} : H a = some (.lst xs) → a ≠ sysModules → D3A H xs ds → D3 H (.ref a) (.list ds)
  | tup {a : Addr} {xs : List V} {ds : List PyData} : H a = some (.tup xs) → D3A H xs ds → D3 H (.ref a) (.tuple ds)
  | dic {a : Addr} {kvs : List (Key × V)} {D : List (PyData × PyData)} : H a = some (.dK kvs) → D2K H kvs D → D3 H (.ref a) (.dict D)
inductive D3A (H : Hp) : List V → List PyData → Prop
  | nil : D3A H [] []
  | cons {v : V} {vs : List V} {d : PyData} {ds : List PyData} : D3 H v d → D3A H vs ds → D3A H (v :: vs) (d :: ds)
end
section
variable {X : Cx} {pins : List (Addr × Obj)} {σ : L2.St} {H H' : Hp} {s : Shared}
theorem D2.dic_reads (I : Inv X pins σ H s) {a : Addr} {kvs : List (Key × V)} {D : List (PyData × PyData)} (ha : H a = some (.dK kvs)) (hk : D2K H kvs D) {u : Value} (r : RelV (.ref a) u) : ∃ as, Reads s.heap u (.dict D) as ∧ sysModules ∉ as :=
  D2.reads I (.inr ⟨a, kvs, D, rfl, ha, hk, rfl⟩) r
mutual
theorem D3.reads (I : Inv X pins σ H s) : ∀ (d : PyData) (v : V) (u : Value), D3 H v d → RelV v u → ∃ as, Reads s.heap u d as ∧ sysModules ∉ as
  | .none, _, _, h, r => by
    cases h
    cases r
    exact ⟨_, Reads.none, by simp⟩
  | .bool b, _, _, h, r => by
    cases h
    cases r
    exact ⟨_, Reads.bool b, by simp⟩
  | .int i, _, _, h, r => by
    cases h
    obtain ⟨t, rfl⟩ := r
    exact ⟨_, Reads.int i t, by simp⟩
  | .str x, _, _, h, r => by
    cases h
    obtain ⟨t, rfl⟩ := r
    exact ⟨_, Reads.str x t, by simp⟩
  | .list ds, _, _, h, r => by
    cases h with
    | lst hs hn ha =>
      cases r
      obtain ⟨its, rv, ⟨o, n, ho, hc, _, hd⟩, _⟩ := I.list (SqL.of hs)
      obtain ⟨as, hr, ns⟩ := D3.readsAll I ds _ its ha rv
      refine ⟨_, Reads.list ho hc hd hr, fun z => ?_⟩
      rcases List.mem_cons.mp z with e | e
      · exact hn e.symm
      · exact ns e
  | .tuple ds, _, _, h, r => by
    cases h with
    | tup hs ha =>
      cases r
      obtain ⟨its, rv, ⟨o, ho, hc, n, hd⟩, _⟩ := I.tuple (SqT.of hs)
      obtain ⟨as, hr, ns⟩ := D3.readsAll I ds _ its ha rv
      exact ⟨_, Reads.tuple ho hc hd hr, ns⟩
  | .dict D, _, _, h, r => by
    cases h with
    | dic ha hk => exact D2.dic_reads I ha hk r
theorem D3.readsAll (I : Inv X pins σ H s) : ∀ (ds : List PyData) (vs : List V) (us : List Value), D3A H vs ds → Vals vs us → ∃ as, ReadsAll s.heap us ds as ∧ sysModules ∉ as
  | [], _, _, h, r => by
    cases h
    cases r
    exact ⟨_, ReadsAll.nil, by simp⟩
  | d :: ds, _, _, h, r => by
    cases h with
    | cons h1 h2 =>
      cases r with
      | cons r1 r2 =>
        obtain ⟨as, q1, n1⟩ := D3.reads I d _ _ h1 r1
        obtain ⟨bs, q2, n2⟩ := D3.readsAll I ds _ _ h2 r2
        refine ⟨_, ReadsAll.cons q1 q2, fun z => ?_⟩
        rcases List.mem_append.mp z with e | e
        · exact n1 e
        · exact n2 e
end
/-- repr of any such value -/
def rReprW : List V → Hp → VK → Prop := fun vs H Q => ∃ (x : V) (d : PyData), vs = [x] ∧ D3 H x d ∧ d.showable = true ∧ d.shown.length ≤ sizeLine ∧ d.depth ≤ 60 ∧ Q (.str d.shown) H
theorem call_reprW (hg : X.A.guards = some []) (hu : X.A.units + 64 < cLine) : CallR X (.builtin "repr") rReprW := by
  intro pins s σ H xs us Q I r h
  obtain ⟨x, d, rfl, hd, h1, h3, h4, q⟩ := h
  obtain ⟨u, rfl, rx⟩ := vals1 r
  obtain ⟨as, rd, ns⟩ := D3.reads I d x u hd rx
  cases hd with
  | non =>
    cases rx
    exact PySem.P.repr_of_none ⟨.str _, H, I.tok _, ⟨_, rfl⟩, q⟩
  | bl b =>
    cases rx
    exact PySem.P.repr_of_bool ⟨.str _, H, I.tok _, ⟨_, rfl⟩, q⟩
  | int i =>
    obtain ⟨tk, rfl⟩ := rx
    exact PySem.P.repr_of_int (by simpa [PyData.showable] using h1) ⟨.str _, H, I.tok _, ⟨_, rfl⟩, q⟩
  | str z =>
    obtain ⟨tk, rfl⟩ := rx
    exact PySem.P.repr_of_str ⟨.str _, H, I.tok _, ⟨_, rfl⟩, q⟩ h3
  | lst hs hn ha =>
    cases rx
    exact repr_of_reads' rd h1 (fun _ => ns) hg (by omega) (fun _ _ z => z) (fun h' u tk hk => ⟨.str _, H, I.kept hk, ⟨_, rfl⟩, q⟩) h3
  | tup hs ha =>
    cases rx
    exact repr_of_reads' rd h1 (fun _ => ns) hg (by omega) (fun _ _ z => z) (fun h' u tk hk => ⟨.str _, H, I.kept hk, ⟨_, rfl⟩, q⟩) h3
  | dic ha hk =>
    cases rx
    exact repr_of_reads' rd h1 (fun _ => ns) hg (by omega) (fun _ _ z => z) (fun h' u tk hk => ⟨.str _, H, I.kept hk, ⟨_, rfl⟩, q⟩) h3
end
end Qk
set_option maxRecDepth 100000
set_option maxHeartbeats 4000000
namespace Qk
open PySem PySem.Spec PyProof.Rows L2
mutual
def fine4 : PyData → Bool
  | .none => true
  | .bool _ => true
  | .int i => decide (i.natAbs < 10 ^ 60)
  | .str x => x.cps.toList.all (fun c => decide (c < 16 ^ 8)) && decide (x.cps.size ≤ 10000)
  | .list xs => fineAll4 xs
  | .tuple xs => fineAll4 xs
  | .dict [] => true
  | .dict [(.str x, .int i)] => decide (x = "a") && decide (i = 1)
  | .dict _ => false
def fineAll4 : List PyData → Bool
  | [] => true
  | x :: xs => fine4 x && fineAll4 xs
end
mutual
def cost4 : PyData → Nat
  | .none => 4
  | .bool _ => 5
  | .int _ => 64
  | .str x => 10 * x.cps.size + 10
  | .list xs => costAll4 xs + 3
  | .tuple xs => costAll4 xs + 3
  | .dict _ => 20
def costAll4 : List PyData → Nat
  | [] => 0
  | x :: xs => cost4 x + 2 + costAll4 xs
end
mutual
theorem shown_le4 : ∀ d : PyData, fine4 d = true → d.shown.length ≤ cost4 d
  | .none, _ => by decide
  | .bool b, _ => by cases b <;> decide
  | .int i, h => by
    have hi : i.natAbs < 10 ^ 60 := by
      simp only [fine4] at h
      exact of_decide_eq_true h
    have e := int_text_length_le10 (k := 60) (a := i) (by decide) hi
    show (Str.ofString (toString i)).length ≤ 64
    rw [PySem.ofString_length]
    omega
  | .str x, h => by
    have h' : (x.cps.toList.all (fun c => decide (c < 16 ^ 8)) && decide (x.cps.size ≤ 10000)) = true := by
      simp only [fine4] at h
      exact h
    rw [Bool.and_eq_true] at h'
    have h3 : ∀ c ∈ x.cps.toList, c < 16 ^ 8 := fun c hc => of_decide_eq_true (List.all_eq_true.mp h'.1 c hc)
    have := PySem.StrLaws.reprText_len x h3
    show (reprText x).length ≤ 10 * x.cps.size + 10
    have e : x.length = x.cps.size := rfl
    omega
  | .list xs, h => by
    have := listText_le (PyData.shownAll xs)
    have h2 := shown_leAll4 xs (by simp only [fine4] at h; exact h)
    show (listText (PyData.shownAll xs)).length ≤ costAll4 xs + 3
    omega
  | .tuple xs, h => by
    have := tupleText_le (PyData.shownAll xs)
    have h2 := shown_leAll4 xs (by simp only [fine4] at h; exact h)
    show (tupleText (PyData.shownAll xs)).length ≤ costAll4 xs + 3
    omega
  | .dict [], _ => by
    show (PyData.shown (.dict [])).length ≤ 20
    decide +kernel
  | .dict [(.str x, .int i)], h => by
    simp only [fine4, Bool.and_eq_true, decide_eq_true_eq] at h
    obtain ⟨rfl, rfl⟩ := h
    show (PyData.shown (.dict [(.str "a", .int 1)])).length ≤ 20
    decide +kernel
  | .dict ((.none, _) :: _), h => by simp [fine4] at h
  | .dict ((.bool _, _) :: _), h => by simp [fine4] at h
  | .dict ((.int _, _) :: _), h => by simp [fine4] at h
  | .dict ((.list _, _) :: _), h => by simp [fine4] at h
  | .dict ((.tuple _, _) :: _), h => by simp [fine4] at h
  | .dict ((.dict _, _) :: _), h => by simp [fine4] at h
  | .dict ((.str _, .none) :: _), h => by simp [fine4] at h
  | .dict ((.str _, .bool _) :: _), h => by simp [fine4] at h
  | .dict ((.str _, .str _) :: _), h => by simp [fine4] at h
  | .dict ((.str _, .list _) :: _), h => by simp [fine4] at h
  | .dict ((.str _, .tuple _) :: _), h => by simp [fine4] at h
  | .dict ((.str _, .dict _) :: _), h => by simp [fine4] at h
  | .dict ((.str _, .int _) :: _ :: _), h => by simp [fine4] at h
theorem shown_leAll4 : ∀ xs : List PyData, fineAll4 xs = true → piled (PyData.shownAll xs) ≤ costAll4 xs
  | [], _ => Nat.le_refl 0
  | x :: xs, h => by
    have h' : (fine4 x && fineAll4 xs) = true := by
      simp only [fineAll4] at h
      exact h
    rw [Bool.and_eq_true] at h'
    have h1 := shown_le4 x h'.1
    have h2 := shown_leAll4 xs h'.2
    show piled (PyData.shown x :: PyData.shownAll xs) ≤ cost4 x + 2 + costAll4 xs
    rw [piled_cons]
    omega
end
mutual
theorem showable4 : ∀ d : PyData, fine4 d = true → d.showable = true
  | .none, _ => rfl
  | .bool _, _ => rfl
  | .int i, h => by
    have hi : i.natAbs < 10 ^ 60 := by
      simp only [fine4] at h
      exact of_decide_eq_true h
    show decide (i.natAbs.log2 < 1920) = true
    refine decide_eq_true ?_
    by_cases h0 : i.natAbs = 0
    · rw [h0]
      decide
    · exact Nat.lt_of_lt_of_le ((Nat.log2_lt h0).mpr (Nat.lt_of_lt_of_le hi (show 10 ^ 60 ≤ 2 ^ 200 by decide))) (by decide)
  | .str _, _ => rfl
  | .list xs, h => showableAll4 xs (by simp only [fine4] at h; exact h)
  | .tuple xs, h => showableAll4 xs (by simp only [fine4] at h; exact h)
  | .dict [], _ => rfl
  | .dict [(.str x, .int i)], h => by
    simp only [fine4, Bool.and_eq_true, decide_eq_true_eq] at h
    obtain ⟨rfl, rfl⟩ := h
    rfl
  | .dict ((.none, _) :: _), h => by simp [fine4] at h
  | .dict ((.bool _, _) :: _), h => by simp [fine4] at h
  | .dict ((.int _, _) :: _), h => by simp [fine4] at h
  | .dict ((.list _, _) :: _), h => by simp [fine4] at h
  | .dict ((.tuple _, _) :: _), h => by simp [fine4] at h
  | .dict ((.dict _, _) :: _), h => by simp [fine4] at h
  | .dict ((.str _, .none) :: _), h => by simp [fine4] at h
  | .dict ((.str _, .bool _) :: _), h => by simp [fine4] at h
  | .dict ((.str _, .str _) :: _), h => by simp [fine4] at h
  | .dict ((.str _, .list _) :: _), h => by simp [fine4] at h
  | .dict ((.str _, .tuple _) :: _), h => by simp [fine4] at h
  | .dict ((.str _, .dict _) :: _), h => by simp [fine4] at h
  | .dict ((.str _, .int _) :: _ :: _), h => by simp [fine4] at h
theorem showableAll4 : ∀ xs : List PyData, fineAll4 xs = true → PyData.showableAll xs = true
  | [], _ => rfl
  | x :: xs, h => by
    have h' : (fine4 x && fineAll4 xs) = true := by
      simp only [fineAll4] at h
      exact h
    rw [Bool.and_eq_true] at h'
    show (PyData.showable x && PyData.showableAll xs) = true
    rw [showable4 x h'.1, showableAll4 xs h'.2]
    rfl
end
/-- a flat text -/
def TxOk (z : Str) : Prop := (z.cps.toList.all (fun c => decide (c < 16 ^ 8)) = true) ∧ z.cps.size ≤ 10000 ∧ (z.cps.size ≤ 8 → PyData.strOk z = true)
mutual
/-- a value that shows this, nothing of it at an address of A, its lists told apart from sys.modules -/
inductive D4 (mx : Nat) (H : Hp) (A : Addr → Prop) : V → PyData → Prop
  | non : D4 mx H A .non .none
  | bl (b : Bool) : D4 mx H A (.bl b) (.bool b)
  | int (i : Int) : i.natAbs < 10 ^ 60 → D4 mx H A (.int i) (.int i)
  | str (x : Str) : TxOk x → D4 mx H A (.str x) (.str x)
  | lst {a : Addr} {xs : List V} {ds : List PyData} : H a = some (.lst xs) → ¬ A a → a ≠ sysModules → xs.length ≤ mx → D4A mx H A xs ds → D4 mx H A (.ref a) (.list ds)
  | tup {a : Addr} {xs : List V} {ds : List PyData} : H a = some (.tup xs) → ¬ A a → xs.length ≤ mx → D4A mx H A xs ds → D4 mx H A (.ref a) (.tuple ds)
  | dic0 {a : Addr} : H a = some (.dK []) → ¬ A a → D4 mx H A (.ref a) (.dict [])
  | dic1 {a : Addr} : H a = some (.dK [(Sum.inr "a", .int 1)]) → ¬ A a → D4 mx H A (.ref a) (.dict [(.str "a", .int 1)])
inductive D4A (mx : Nat) (H : Hp) (A : Addr → Prop) : List V → List PyData → Prop
  | nil : D4A mx H A [] []
  | cons {v : V} {vs : List V} {d : PyData} {ds : List PyData} : D4 mx H A v d → D4A mx H A vs ds → D4A mx H A (v :: vs) (d :: ds)
end
section
variable {mx : Nat} {H H' : Hp} {A A' : Addr → Prop}
mutual
theorem D4.keep (k : ∀ c o, H c = some o → ¬ A c → H' c = some o ∧ ¬ A' c) : ∀ (d : PyData) (x : V), D4 mx H A x d → D4 mx H' A' x d
  | .none, _, h => by cases h; exact .non
  | .bool _, _, h => by cases h; exact .bl _
  | .int _, _, h => by cases h with | int _ hi => exact .int _ hi
  | .str _, _, h => by cases h with | str _ hx => exact .str _ hx
  | .list ds, _, h => by
    cases h with
    | lst h1 h2 h3 h4 h5 => exact .lst (k _ _ h1 h2).1 (k _ _ h1 h2).2 h3 h4 (D4A.keep k ds _ h5)
  | .tuple ds, _, h => by
    cases h with
    | tup h1 h2 h4 h5 => exact .tup (k _ _ h1 h2).1 (k _ _ h1 h2).2 h4 (D4A.keep k ds _ h5)
  | .dict _, _, h => by
    cases h with
    | dic0 h1 h2 => exact .dic0 (k _ _ h1 h2).1 (k _ _ h1 h2).2
    | dic1 h1 h2 => exact .dic1 (k _ _ h1 h2).1 (k _ _ h1 h2).2
theorem D4A.keep (k : ∀ c o, H c = some o → ¬ A c → H' c = some o ∧ ¬ A' c) : ∀ (ds : List PyData) (xs : List V), D4A mx H A xs ds → D4A mx H' A' xs ds
  | [], _, h => by cases h; exact .nil
  | d :: ds, _, h => by
    cases h with
    | cons h1 h2 => exact .cons (D4.keep k d _ h1) (D4A.keep k ds _ h2)
end
end
/-- such a value, its text no longer than c, no deeper than n -/
def WV (mx : Nat) (H : Hp) (A : Addr → Prop) (c n : Nat) (x : V) : Prop := ∃ d, D4 mx H A x d ∧ cost4 d ≤ c ∧ d.depth ≤ n
section
variable {mx : Nat} {H H' : Hp} {A A' : Addr → Prop} {c c' n n' : Nat} {x : V}
theorem WV.keep (k : ∀ c o, H c = some o → ¬ A c → H' c = some o ∧ ¬ A' c) (h : WV mx H A c n x) : WV mx H' A' c n x := by
  obtain ⟨d, h1, h2, h3⟩ := h
  exact ⟨d, D4.keep k d x h1, h2, h3⟩
theorem WV.same (s : Same H H') (h : WV mx H A c n x) : WV mx H' A c n x := WV.keep (fun c o e na => ⟨s c o e, na⟩) h
theorem WV.le (hc : c ≤ c') (hn : n ≤ n') (h : WV mx H A c n x) : WV mx H A c' n' x := by
  obtain ⟨d, h1, h2, h3⟩ := h
  exact ⟨d, h1, Nat.le_trans h2 hc, Nat.le_trans h3 hn⟩
end
end Qk
set_option maxRecDepth 100000
set_option maxHeartbeats 4000000
set_option maxRecDepth 100000
set_option maxHeartbeats 4000000
namespace Qk
open PySem PySem.Spec PyProof.Rows L2
section
variable {P : Program} {w : World} {A : Around} {R : Result → Shared → Prop} {s : Shared} {elt t0 i0 t1 i1 : Expr} {scope : Scope} {pos : Pos} {it acc : Value} {env : Env}
/-- nothing is raised -/
abbrev wF {α : Type} (P : Program) (w : World) (A : Around) (t : Sem α) (Q : α → Shared → Prop) (s : Shared) : Prop := wpAny (model P w) A t Q (fun _ _ => False) s
theorem wF.any {α : Type} {t : Sem α} {Q Q' : α → Shared → Prop} {E : Value → Shared → Prop} (h : wF P w A t Q s) (k : ∀ a s, Q a s → Q' a s) : wpAny (model P w) A t Q' E s := wpAny_mono h k fun _ _ z => False.elim z
end
end Qk
set_option maxRecDepth 100000
set_option maxHeartbeats 4000000
namespace Qk
open PySem PySem.Spec PyProof.Rows L2
/-- a loop over J: Done behind it; each turn from a drawn value has to come to the word that is handed to it -/
def Loop (J : It) (Done : Hp → Prop) (Body : V → Hp → (Hp → Prop) → Prop) (H : Hp) : Prop :=
  ∃ W : Nat → Nat → Hp → Prop, (∃ m, W 0 m H) ∧ ∀ i m G, W i m G → (J.stop i G ∧ Done G) ∨ (J.go i G ∧ ∃ Nx : Hp → Prop, (∀ G', Nx G' → ∃ m', m' < m ∧ W (i + 1) m' G') ∧ ∀ x G', J.yld i G x G' → Body x G' Nx)
theorem Loop.list {K : PySem.W.Frag} {a : Addr} {xs : List V} {Done : Hp → Prop} {Body : V → Hp → (Hp → Prop) → Prop} {H : Hp} (Pv : Nat → Hp → Prop) (h0 : Pv 0 H) (hl : ∀ i G, i ≤ xs.length → Pv i G → SqL K G a xs)
    (one : ∀ i x G, xs[i]? = some x → Pv i G → Body x G (Pv (i + 1))) (end_ : ∀ G, Pv xs.length G → Done G) : Loop (Itl K a) Done Body H := by
  refine ⟨fun i m G => m + i = xs.length ∧ Pv i G, ⟨xs.length, rfl, h0⟩, fun i m G hw => ?_⟩
  obtain ⟨hm, p⟩ := hw
  have q := hl i G (by omega) p
  rcases Nat.lt_or_ge i xs.length with lt | ge
  · have g : xs[i]? = some xs[i] := List.getElem?_eq_getElem lt
    refine .inr ⟨⟨xs, xs[i], q, g⟩, Pv (i + 1), fun G' p' => ⟨m - 1, by omega, by omega, p'⟩, fun x G' y => ?_⟩
    obtain ⟨rfl, y⟩ := y
    exact one i x _ (y xs q) p
  · have e : i = xs.length := by omega
    exact .inl ⟨⟨xs, q, ge⟩, end_ G (e ▸ p)⟩
theorem Loop.tup {K : PySem.W.Frag} {a : Addr} {xs : List V} {Done : Hp → Prop} {Body : V → Hp → (Hp → Prop) → Prop} {H : Hp} (Pv : Nat → Hp → Prop) (h0 : Pv 0 H) (hl : ∀ i G, i ≤ xs.length → Pv i G → SqT K G a xs)
    (one : ∀ i x G, xs[i]? = some x → Pv i G → Body x G (Pv (i + 1))) (end_ : ∀ G, Pv xs.length G → Done G) : Loop (Itt K a) Done Body H := by
  refine ⟨fun i m G => m + i = xs.length ∧ Pv i G, ⟨xs.length, rfl, h0⟩, fun i m G hw => ?_⟩
  obtain ⟨hm, p⟩ := hw
  have q := hl i G (by omega) p
  rcases Nat.lt_or_ge i xs.length with lt | ge
  · have g : xs[i]? = some xs[i] := List.getElem?_eq_getElem lt
    refine .inr ⟨⟨xs, xs[i], q, g⟩, Pv (i + 1), fun G' p' => ⟨m - 1, by omega, by omega, p'⟩, fun x G' y => ?_⟩
    obtain ⟨rfl, y⟩ := y
    exact one i x _ (y xs q) p
  · have e : i = xs.length := by omega
    exact .inl ⟨⟨xs, q, ge⟩, end_ G (e ▸ p)⟩
end Qk
set_option maxRecDepth 100000
set_option maxHeartbeats 4000000
set_option maxRecDepth 100000
set_option maxHeartbeats 4000000
namespace Qk
open PySem PySem.Spec PyProof.Rows L2
/-- the row of a text -/
def RowT (P : Program) (w : World) (e : Int × Value) (x : Str) : Prop := e.1 = (strKind P w).hash x ∧ ∃ tk, e.2 = Value.str x tk
structure Txts (P : Program) (w : World) (h : Heap) (a : Addr) (xs : List Str) (o : Obj) (es : Array (Int × Value)) (ep : Nat) (t : SetTable) : Prop where
  ob : h.get? a = some o
  ex : o.ExactSet
  da : o.data = .set es ep t
  rows : Paired (RowT P w) es.toList xs
  nd : xs.Nodup
  few : es.size < scanBound
  fit : t.fits es.size = true
  ris : Ris t.place.toList
  led : w.params.followText "set-order" = true ∨ t.led = true
def TxtSet (P : Program) (w : World) (h : Heap) (a : Addr) (xs : List Str) : Prop := ∃ o es ep t, Txts P w h a xs o es ep t
section
variable {P : Program} {w : World} {h : Heap} {a : Addr} {xs : List Str} {o : Obj} {es : Array (Int × Value)} {ep : Nat} {t : SetTable}
theorem TxtSet.keep {h' : Heap} (R : TxtSet P w h a xs) (k : ∀ u, h.get? a = some u → h'.get? a = some u) : TxtSet P w h' a xs := by
  obtain ⟨o, es, ep, t, r⟩ := R
  exact ⟨o, es, ep, t, { r with ob := k _ r.ob }⟩
theorem TxtSet.fresh (w : World) (hh : h.get? a = some { cls := .type "set", dict := none, data := .set #[] 0 (.fresh 0 0 (!w.params.followText "set-order")) }) : TxtSet P w h a [] := by
  refine ⟨_, #[], 0, _, hh, ⟨rfl, rfl, rfl⟩, rfl, .nil, .nil, by decide, by rfl, .nil, ?_⟩
  show w.params.followText "set-order" = true ∨ (!w.params.followText "set-order") = true
  cases w.params.followText "set-order"
  · exact .inr rfl
  · exact .inl rfl
end
end Qk
set_option maxRecDepth 100000
set_option maxHeartbeats 4000000
set_option maxRecDepth 100000
set_option maxHeartbeats 4000000
set_option maxRecDepth 100000
set_option maxHeartbeats 4000000
set_option maxRecDepth 100000
set_option maxHeartbeats 4000000
namespace Qk
open PySem PySem.Spec PyProof.Rows L2
/-- an error with its one field -/
def ErF (H : Hp) (a C : Addr) (f : Str) (x : V) : Prop := ∃ d, H a = some (exo a C (some d)) ∧ H d = some (exd d [(f, x)])
theorem ErF.same {H H' : Hp} {a C : Addr} {f : Str} {x : V} (s : Same H H') (h : ErF H a C f x) : ErF H' a C f x := by
  obtain ⟨d, h1, h2⟩ := h
  exact ⟨d, s _ _ h1, s _ _ h2⟩
mutual
theorem D1.same {H H' : Hp} (s : Same H H') : ∀ (d : PyData) (v : V), D1 H v d → D1 H' v d
  | .none, _, h => by
    cases h
    exact .non
  | .bool b, _, h => by
    cases h
    exact .bl b
  | .int i, _, h => by
    cases h
    exact .int i
  | .str x, _, h => by
    cases h
    exact .str x
  | .list ds, _, h => by
    cases h with
    | lst a b c => exact .lst (s _ _ a) b (D1.sameAll s ds _ c)
  | .tuple ds, _, h => by
    cases h with
    | tup a c => exact .tup (s _ _ a) (D1.sameAll s ds _ c)
  | .dict _, _, h => by cases h
theorem D1.sameAll {H H' : Hp} (s : Same H H') : ∀ (ds : List PyData) (vs : List V), D1A H vs ds → D1A H' vs ds
  | [], _, h => by
    cases h
    exact .nil
  | d :: ds, _, h => by
    cases h with
    | cons a b => exact .cons (D1.same s d _ a) (D1.sameAll s ds _ b)
end
def tyD : PyData → String
  | .none => "NoneType"
  | .bool _ => "bool"
  | .int _ => "int"
  | .str _ => "str"
  | .list _ => "list"
  | .tuple _ => "tuple"
  | .dict _ => "dict"
theorem D1.ty {K : PySem.W.Frag} {H : Hp} {v : V} {d : PyData} (h : D1 H v d) : TyX K H v (.type (tyD d)) := by
  cases h with
  | non => exact .base .non
  | bl b => exact .base (.bl b)
  | int i => exact .base (.int i)
  | str x => exact .base (.str x)
  | lst a b c => exact .base (.lst a)
  | tup a c => exact .base (.tup a)
theorem ErF.off {H : Hp} {a b C : Addr} {f : Str} {x : V} {o u : HO} (h : ErF H a C f x) (hb : H b = some o) (ho : ∀ φ, o ≠ .ext φ) : ErF (L2.upd H b u) a C f x := by
  obtain ⟨d, h1, h2⟩ := h
  refine ⟨d, ?_, ?_⟩
  · rw [upd_ne (ne_of h1 hb fun z => ho _ z.symm)]
    exact h1
  · rw [upd_ne (ne_of h2 hb fun z => ho _ z.symm)]
    exact h2
theorem D2K.same {H H' : Hp} (s : Same H H') {kvs : List (Key × V)} {D : List (PyData × PyData)} (h : D2K H kvs D) : D2K H' kvs D := by
  induction h with
  | nil => exact .nil
  | cons h1 _ ih => exact .cons (D1.same s _ _ h1) ih
theorem D2.same {H H' : Hp} (s : Same H H') {v : V} {d : PyData} (h : D2 H v d) : D2 H' v d := by
  rcases h with h | ⟨a, kvs, D, rfl, ha, hk, rfl⟩
  · exact .inl (D1.same s _ _ h)
  · exact .inr ⟨a, kvs, D, rfl, s _ _ ha, hk.same s, rfl⟩
end Qk
set_option maxRecDepth 100000
set_option maxHeartbeats 4000000
namespace Qk
open PySem PySem.Spec PyProof.Rows L2
theorem PI.or {X : Cx} {tg it : Expr} {wi wi' : TI} (h : PI X tg it wi) (h' : PI X tg it wi') : PI X tg it (fun σ H R => wi σ H R ∨ wi' σ H R) :=
  ⟨fun pins s σ H R I q => q.elim (h.run pins s σ H R I) (h'.run pins s σ H R I)⟩
/-- a row as data -/
def dR (r : List Str) : PyData := .tuple (r.map PyData.str)
theorem TL.dp {K : PySem.W.Frag} {H : Hp} : ∀ {xs : List V} {rs : List (List Str)}, TL H xs rs → DpAll K H xs (rs.map dR)
  | _, _, .nil => .nil
  | _, _, .cons ⟨t, e, z⟩ r => by
    subst e
    exact .cons (.tup (SqT.of z) (dp_strs _)) (TL.dp r)
theorem TL.kp {H H' : Hp} {b l : Addr} {xs : List V} {rs : List (List Str)} (B : Bag H b l) (s : Kp b H H') (h : TL H xs rs) : TL H' xs rs :=
  Paired.mapP h fun x r ⟨t, e, z⟩ => ⟨t, e, s _ _ z (B.ne_tup z)⟩
theorem TL.mem {H : Hp} {xs : List V} {rs : List (List Str)} (h : TL H xs rs) : ∀ x ∈ xs, ∃ (t : Addr) (r : List Str), x = .ref t ∧ r ∈ rs ∧ H t = some (.tup (r.map V.str)) := fun x hx => by
  obtain ⟨i, hi⟩ := List.mem_iff_getElem?.mp hx
  obtain ⟨t, r, e, h1, h2⟩ := h.at_ hi
  exact ⟨t, r, e, List.mem_of_getElem? h1, h2⟩
theorem pwR_sorted : ∀ (r : List Str) (p : Str), (p :: r).Pairwise leS → risingS p r = true
  | [], _, _ => rfl
  | x :: r, p, h => by
    obtain ⟨h1, h2⟩ := List.pairwise_cons.mp h
    have h3 : ltCps x.cps.toList p.cps.toList = false := h1 x List.mem_cons_self
    show (!ltCps x.cps.toList p.cps.toList && risingS x r) = true
    rw [h3, pwR_sorted r x h2]
    rfl
theorem pwS_sorted {xs : List Str} (h : xs.Pairwise leS) : sortedS xs = true := by
  cases xs with
  | nil => rfl
  | cons x r => exact pwR_sorted r x h
end Qk
set_option maxRecDepth 100000
set_option maxHeartbeats 4000000
namespace Qk
open PySem PySem.Spec PyProof.Rows L2
section
variable {P : Program} {w : World} {K : PySem.W.Frag} {mg : Str → Option Value} {base : Heap}
theorem scAlike : FnScope ["_law_found", "_law_due"] ["_law_found", "_law_due"] (defScope sAlike) := ⟨rfl, rfl, rfl, by decide +kernel, rfl, by decide +kernel, by decide +kernel⟩
theorem ok_alike {f : Addr} {fd : FuncData} (F : Fun K "_law_alike" "_law_alike" sAlike f fd) (T : Txt K mg) : FnG P w K mg base 1 f fd ["_law_found", "_law_due"] (spAlikeD K) := by
  refine okG F scAlike (fun vs H Q E h => ?_) (fun cdv A outer s H vs Q E hr hg h => ?_)
  · obtain ⟨x, y, d, rfl, _⟩ := h
    rfl
  · obtain ⟨x, y, d, rfl, h1, h2, hd, k⟩ := h
    have lay := fine_lay d hd.f
    have hdp : d.depth ≤ 60 := Nat.le_trans hd.dp (by decide)
    refine ⟨_, pss_one (ps_ret (pe_and (pe_cmpR (op_eqD hr.units) (pv 0) (pv 1) (nomark _)) (pe_one (pe_cmpR op_eq (pe_callB (call_reprD hg hr.units) (by rfl) T.repr (by decide +kernel) (pa_cons (pv 0) pa_nil))
      (pe_callB (call_reprD hg hr.units) (by rfl) T.repr (by decide +kernel) (pa_cons (pv 1) pa_nil)) (nomark _))))), ?_⟩
    refine ⟨_, rfl, _, rfl, d, d, h1, h2, hd.shaped, hd.shaped, _, rfl, ?_⟩
    rw [SeqAt.eqv_refl d lay.1]
    refine iteT ?_
    refine ⟨_, rfl, x, d, rfl, h1, lay.2.1, lay.2.2, hd.len, hdp, _, rfl, y, d, rfl, h2, lay.2.1, lay.2.2, hd.len, hdp, rfl, ?_⟩
    show Q (.bl (decide (V.str d.shown = V.str d.shown))) H
    rw [decide_eq_true rfl]
    exact k
theorem FnG.or {k : Nat} {f : Addr} {fd : FuncData} {ps : List Str} {sp sp' : Sp} (F : FnG P w K mg base k f fd ps sp) (F' : FnG P w K mg base k f fd ps sp') : FnG P w K mg base k f fd ps (fun vs H Q E => sp vs H Q E ∨ sp' vs H Q E) :=
  ⟨fun vs H Q E z => z.elim (F.len vs H Q E) (F'.len vs H Q E), fun A outer s H args us vs Q E hr hg e b r z => z.elim (F.run A outer s H args us vs Q E hr hg e b r) (F'.run A outer s H args us vs Q E hr hg e b r)⟩
def dD (t : List (Str × Int)) : List (PyData × PyData) := t.map fun p => (.str p.1, .int p.2)
theorem d2k_dk {H : Hp} : ∀ t : List (Str × Int), D2K H (dk t) (dD t)
  | [] => .nil
  | p :: t => .cons (k := Sum.inr p.1) (.int p.2) (d2k_dk t)
theorem eqB_self {t : List (Str × Int)} (nd : (t.map (·.1)).Nodup) : eqB t t = true := (eqB_iff nd nd).mpr fun _ => rfl
theorem piled_dD {t : List (Str × Int)} (hs : ∀ p ∈ t, p.1.cps.size ≤ 1000 ∧ PyData.strOk p.1 = true) (hi : ∀ p ∈ t, p.2.natAbs < 10 ^ 60) : ((PyData.shownKv (dD t)).map (·.length)).sum ≤ 10100 * t.length ∧ PyData.showableKv (dD t) = true ∧ (PyData.shownKv (dD t)).length = t.length := by
  induction t with
  | nil => exact ⟨Nat.le_refl 0, rfl, rfl⟩
  | cons p t ih =>
    obtain ⟨i1, i2, i3⟩ := ih (fun q hq => hs q (List.mem_cons_of_mem _ hq)) fun q hq => hi q (List.mem_cons_of_mem _ hq)
    have h1 := hs p List.mem_cons_self
    have h2 := hi p List.mem_cons_self
    have f1 : (PyData.str p.1).shown.length ≤ 10 * p.1.cps.size + 10 := shown_le4 (.str p.1) (by
      simp only [fine4, Bool.and_eq_true]
      refine ⟨?_, decide_eq_true (by omega)⟩
      have := h1.2
      unfold PyData.strOk at this
      rw [← Array.all_toList, List.all_eq_true] at this
      exact List.all_eq_true.mpr fun c hc => decide_eq_true (by
        have := of_decide_eq_true (this c hc)
        omega))
    have f2 : (PyData.int p.2).shown.length ≤ 64 := shown_le4 (.int p.2) (decide_eq_true h2)
    have f3 := showable4 (.int p.2) (decide_eq_true h2)
    refine ⟨?_, ?_, ?_⟩
    · show ((PyData.str p.1).shown ++ ": " ++ (PyData.int p.2).shown).length + ((PyData.shownKv (dD t)).map (·.length)).sum ≤ 10100 * (t.length + 1)
      have l1 : ((PyData.str p.1).shown ++ ": " ++ (PyData.int p.2).shown).length = (PyData.str p.1).shown.length + 2 + (PyData.int p.2).shown.length := by
        rw [PySem.Str.length_append, PySem.Str.length_append]
        rfl
      omega
    · show (true && (PyData.int p.2).showable && PyData.showableKv (dD t)) = true
      rw [f3, i2]
      rfl
    · show (PyData.shownKv (dD t)).length + 1 = _
      rw [i3]
      rfl
theorem depth_dD : ∀ t : List (Str × Int), PyData.depthKv (dD t) = 0
  | [] => by simp only [dD, List.map_nil, PyData.depthKv]
  | p :: t => by
    have := depth_dD t
    unfold dD at this
    simp only [dD, List.map_cons, PyData.depthKv, PyData.depth, this]
    rfl
/-- _law_alike of two dicts that are the same -/
def spAlikeTB : Sp := fun vs H Q _ => ∃ (a b : Addr) (t : List (Str × Int)), vs = [.ref a, .ref b] ∧ H a = some (.dK (dk t)) ∧ H b = some (.dK (dk t)) ∧ GoodT t ∧ Q (.bl true) H
theorem ok_alikeTB {f : Addr} {fd : FuncData} (F : Fun K "_law_alike" "_law_alike" sAlike f fd) (T : Txt K mg) : FnG P w K mg base 1 f fd ["_law_found", "_law_due"] spAlikeTB := by
  refine okG F scAlike (fun vs H Q E h => ?_) (fun cdv A outer s H vs Q E hr hg h => ?_)
  · obtain ⟨a, b, t, rfl, _⟩ := h
    rfl
  · obtain ⟨a, b, t, rfl, ha, hb, G, k⟩ := h
    have hu : A.units + 3 < cLine := by
      have := hr.un
      have e : (A.deeper (envOfC "_law_alike" (defScope sAlike) s.heap.objs.size f cdv)).units = A.units + 3 := rfl
      omega
    refine ⟨_, pss_one (ps_ret (pe_and (pe_cmpR (op_eqTB hu) (pv 0) (pv 1) (nomark _)) (pe_one (pe_cmpR op_eq (pe_callB (call_reprW hg hr.units) (by rfl) T.repr (by decide +kernel) (pa_cons (pv 0) pa_nil))
      (pe_callB (call_reprW hg hr.units) (by rfl) T.repr (by decide +kernel) (pa_cons (pv 1) pa_nil)) (nomark _))))), ?_⟩
    obtain ⟨f1, f2, f3⟩ := piled_dD (t := t) (fun p hp => ⟨(menu_cc _ (G.sub p hp)).2.1, (menu_cc _ (G.sub p hp)).2.2⟩) fun p hp => by
      have := G.wt p hp
      have e : (10 : Int) ^ 30 < 10 ^ 60 := by decide
      omega
    have hl : (PyData.dict (dD t)).shown.length ≤ sizeLine := by
      have := PySem.dictText_len_le (PyData.shownKv (dD t))
      have lt := G.len
      show (PySem.dictText (PyData.shownKv (dD t))).length ≤ sizeLine
      rw [sizeLine_eq]
      omega
    have hdp : (PyData.dict (dD t)).depth ≤ 60 := by
      have : PyData.depthKv (dD t) = 0 := by
        exact depth_dD t
      show PyData.depthKv (dD t) + 1 ≤ 60
      omega
    refine ⟨_, rfl, _, rfl, a, b, t, t, rfl, rfl, ha, hb, _, rfl, ?_⟩
    rw [eqB_self G.nd]
    refine iteT ?_
    refine ⟨_, rfl, .ref a, _, rfl, .dic ha (d2k_dk t), f2, hl, hdp, _, rfl, .ref b, _, rfl, .dic hb (d2k_dk t), f2, hl, hdp, rfl, ?_⟩
    show Q (.bl (decide (V.str (PyData.dict (dD t)).shown = V.str (PyData.dict (dD t)).shown))) H
    rw [decide_eq_true rfl]
    exact k
theorem scLAll : FnScope ["_law_question_here", "_law_found"] ["_law_question_here"] (defScope sLAll) := ⟨rfl, rfl, rfl, by decide +kernel, rfl, by decide +kernel, by decide +kernel⟩
def spLAll : Sp := fun vs H Q _ => ∃ (q : Addr) (cols : List Str) (e : Str), vs = [.ref q] ∧ QAt H q cols e ∧ QZ cols e ∧ ∀ (p : Addr) (ys : List Str) (H' : Hp), ys.Perm (rowC cols e) → Same H H' → H' p = some (.lst (ys.map V.str)) → Q (.ref p) H'
theorem ok_lall {f : Addr} {fd : FuncData} (F : Fun K "_law_all" "_law_all" sLAll f fd) (T : Txt K mg) : FnOk P w K mg base CX0 1 f fd ["_law_question_here"] spLAll := by
  refine F.ok scLAll (fun vs H Q E h => ?_) (fun cdv A outer s H vs Q E hr h => ?_)
  · obtain ⟨q, cols, e, rfl, _⟩ := h
    rfl
  · obtain ⟨q, cols, e, rfl, ⟨c, hq, hc⟩, Z, k⟩ := h
    have nd := scLAll.nd
    refine ⟨_, (pss_cons (ps_set (i := 1) nd rfl (by first | exact Or.inl rfl | exact Or.inr rfl) (pe_callTy call_list_of (by rfl) T.list (by decide +kernel) (pa_cons (pe_ix ix_tup (pv 0) pe_int fun _ _ => rfl) pa_nil)))
      (Evl.pss_cut (ps_if (pt_cmpR op_ne (pe_ix ix_tup (pv 0) pe_int fun _ _ => rfl) pe_str (nomark _)) (pss_one (ps_expr (pe_bm PySem.F.plainAttrs_list PySem.F.slot_list_append PySem.F.type_list_append mt_append (pv 1) (pa_cons (pe_ix ix_tup (pv 0) pe_int fun _ _ => rfl) pa_nil)))) pss_nil)
      (pss_one (ps_ret (pe_callB cr_sortedST (by rfl) T.sorted (by decide +kernel) (pa_cons (pv 1) pa_nil)))))), ?_⟩
    refine ⟨_, rfl, q, _, ((0 : Nat) : Int), _, rfl, rfl, SqT.of hq, atI_nat rfl, c, _, rfl, .inr (SqT.of hc), fun p hp => ?_⟩
    have s1 := same_new (o := .lst (cols.map V.str)) hp
    have hpq : p ≠ q := fun e => by rw [e, hq] at hp; cases hp
    refine ⟨fun σ G => ∃ ys : List Str, σ = [some (.ref q), some (.ref p)] ∧ Same H G ∧ G p = some (.lst (ys.map V.str)) ∧ ys = rowC cols e, ?_, ?_⟩
    · refine ⟨_, rfl, q, _, ((1 : Nat) : Int), _, rfl, rfl, SqT.of (s1 _ _ hq), atI_nat rfl, rfl, _, rfl, ?_⟩
      by_cases he : e = ""
      · rw [show (!decide (V.str e = V.str "")) = false by rw [he]; rfl]
        refine iteF ?_
        refine ⟨cols, rfl, s1, upd_same, ?_⟩
        unfold rowC
        rw [if_pos he]
      · rw [show (!decide (V.str e = V.str "")) = true by rw [decide_eq_false fun h => he (by injection h)]; rfl]
        refine iteT ?_
        refine ⟨_, rfl, .inl ⟨rfl, _, SqL.of upd_same⟩, _, rfl, q, _, ((1 : Nat) : Int), _, rfl, rfl, SqT.of (s1 _ _ hq), atI_nat rfl, p, _, _, rfl, rfl, upd_same, ?_, ?_⟩
        · have hz := Z.le
          rw [if_neg he] at hz
          rw [List.length_map, sizeLine_eq]
          omega
        · refine ⟨cols ++ [e], rfl, fun b o hb => ?_, ?_, ?_⟩
          · rw [upd_ne (ne_of_none hb hp)]
            exact s1 _ _ hb
          · rw [upd_same, List.map_append]
            rfl
          · unfold rowC
            rw [if_neg he]
    · rintro σ G ⟨ys, rfl, sG, hG, ey⟩
      have hz := Z.le
      have hlen : ys.length < 64 := by
        rw [ey]
        unfold rowC
        by_cases he : e = ""
        · rw [if_pos he] at hz ⊢
          omega
        · rw [if_neg he] at hz
          rw [if_neg he, List.length_append]
          show cols.length + 1 < 64
          omega
      exact ⟨_, rfl, p, ys, rfl, .inl (SqL.of hG), hlen, fun ws p1 hw hs hp1 => k p1 ws _ (by rw [← ey]; exact hw) (sG.trans (same_new hp1)) upd_same⟩
abbrev nWeigh : List Str := ["_law_columns", "_law_table_here", "_law_column"]
theorem scWeigh : FnScope nWeigh ["_law_columns", "_law_table_here"] (defScope sWeigh) := ⟨rfl, rfl, rfl, by decide +kernel, rfl, by decide +kernel, by decide +kernel⟩
def spWeigh : Sp := fun vs H Q _ => ∃ (l d : Addr) (cs : List Str) (t : List (Str × Int)), vs = [.ref l, .ref d] ∧ (H l = some (.lst (cs.map V.str)) ∨ H l = some (.tup (cs.map V.str))) ∧ H d = some (.dK (dk t)) ∧ cs.length ≤ 40 ∧ ∀ H', Same H H' → Q (.int (wsum t cs)) H'
theorem ok_weigh {f : Addr} {fd : FuncData} (F : Fun K "_law_weigh" "_law_weigh" sWeigh f fd) (T : Txt K mg) : FnOk P w K mg base CX0 1 f fd ["_law_columns", "_law_table_here"] spWeigh := by
  refine F.ok scWeigh (fun vs H Q E h => ?_) (fun cdv A outer s H vs Q E hr h => ?_)
  · obtain ⟨l, d, cs, t, rfl, _⟩ := h
    rfl
  · obtain ⟨l, d, cs, t, rfl, hl, hd, hlen, k⟩ := h
    have nd := scWeigh.nd
    have ee : (A.deeper (envOfC "_law_weigh" (defScope sWeigh) s.heap.objs.size f cdv)).units = A.units + 3 := rfl
    have hu1 : A.units + 3 + 1 < cLine := by
      have := hr.un
      omega
    refine ⟨_, (pss_one (ps_ret (pe_callB (cr_sum rfl) (by rfl) T.sum (by decide +kernel) (pa_cons (pe_lc (own := [("_law_column", 2)]) (g := gName 2) (tt := tYes) rfl nd (PI.or (pi_list (pv 0)) (pi_tup (pv 0))) (blkOk_by (N := nWeigh) (sc := defScope sWeigh) (by decide +kernel)) (fun _ _ _ _ _ => (pg_name (i := 2) nd rfl (by first | exact Or.inl rfl | exact Or.inr rfl))) (fun _ _ _ _ _ => pts_nil) (fun _ _ _ _ _ => (pe_dget2 hu1 (pv 1) (pv 2) pe_int ⟨rfl, rfl, rfl, rfl⟩))) pa_nil)))), ?_⟩
    rcases hl with hl | hl
    · refine .inl ⟨_, rfl, l, rfl, ⟨_, SqL.of hl⟩, fun D hD => ?_⟩
      refine lc_it walk_list (fun i H' => Same H H' ∧ H' D = some (.lst (((cs.take i).map fun c => (lookT t c).getD 1).map V.int))) ⟨same_new hD, upd_same⟩ (fun i H' _ h => SqL.of (h.1 _ _ hl)) ?_ ?_
      · rintro i y H2 H3 hi ⟨s2, d2⟩ ⟨rfl, hy⟩
        rw [List.length_map] at hi
        rw [List.getElem?_map, List.getElem?_eq_getElem hi] at hy
        injection hy with hy
        subst hy
        have hd2 := s2 _ _ hd
        refine ⟨rfl, Exists.intro _ ⟨rfl, d, rfl, .inl ⟨_, .inl hd2⟩, _, rfl, _, .inl ⟨_, Sum.inr cs[i], .inl hd2, rfl, rfl⟩, ?_⟩⟩
        rw [val_dk, get_int]
        refine ⟨_, d2, small1000 (by rw [List.length_map, List.length_map, List.length_take]; omega), fun b o hb => ?_, ?_⟩
        · rw [upd_ne (ne_of_none hb hD)]
          exact s2 _ _ hb
        · rw [upd_same, List.take_add_one, List.getElem?_eq_getElem hi, Option.toList_some, List.map_append, List.map_append]
          rfl
      · rintro H2 ⟨s2, d2⟩
        rw [List.length_map, List.take_length] at d2
        exact ⟨D, _, rfl, SqL.of d2, k H2 s2⟩
    · refine .inr ⟨_, rfl, l, rfl, ⟨_, SqT.of hl⟩, fun D hD => ?_⟩
      refine lc_it walk_tup (fun i H' => Same H H' ∧ H' D = some (.lst (((cs.take i).map fun c => (lookT t c).getD 1).map V.int))) ⟨same_new hD, upd_same⟩ (fun i H' _ h => SqT.of (h.1 _ _ hl)) ?_ ?_
      · rintro i y H2 H3 hi ⟨s2, d2⟩ ⟨rfl, hy⟩
        rw [List.length_map] at hi
        rw [List.getElem?_map, List.getElem?_eq_getElem hi] at hy
        injection hy with hy
        subst hy
        have hd2 := s2 _ _ hd
        refine ⟨rfl, Exists.intro _ ⟨rfl, d, rfl, .inl ⟨_, .inl hd2⟩, _, rfl, _, .inl ⟨_, Sum.inr cs[i], .inl hd2, rfl, rfl⟩, ?_⟩⟩
        rw [val_dk, get_int]
        refine ⟨_, d2, small1000 (by rw [List.length_map, List.length_map, List.length_take]; omega), fun b o hb => ?_, ?_⟩
        · rw [upd_ne (ne_of_none hb hD)]
          exact s2 _ _ hb
        · rw [upd_same, List.take_add_one, List.getElem?_eq_getElem hi, Option.toList_some, List.map_append, List.map_append]
          rfl
      · rintro H2 ⟨s2, d2⟩
        rw [List.length_map, List.take_length] at d2
        exact ⟨D, _, rfl, SqL.of d2, k H2 s2⟩
end
end Qk
set_option maxRecDepth 100000
set_option maxHeartbeats 4000000
namespace Qk
open PySem PySem.Spec PyProof.Rows L2
section
variable {P : Program} {w : World} {K : PySem.W.Frag} {mg : Str → Option Value} {base : Heap}
theorem pe_p30 {X : Cx} {pos p1 p2 : Pos} {k1 k2 : Nat} : PE X (.BinOp (.Constant (.int 10) k1 p1) .Pow (.Constant (.int 30) k2 p2) pos) (tC (.int (10 ^ 30))) :=
  PE.imp (pe_op op_pow pe_int pe_int) fun σ H Q q => ⟨10, 30, rfl, rfl, ⟨by decide, by decide, by decide⟩, q⟩
theorem pe_p29 {X : Cx} {pos p1 p2 : Pos} {k1 k2 : Nat} : PE X (.BinOp (.Constant (.int 10) k1 p1) .Pow (.Constant (.int 29) k2 p2) pos) (tC (.int (10 ^ 29))) :=
  PE.imp (pe_op op_pow pe_int pe_int) fun σ H Q q => ⟨10, 29, rfl, rfl, ⟨by decide, by decide, by decide⟩, q⟩
theorem GoodT.put {t : List (Str × Int)} {n : Str} {x : Int} (h : GoodT t) (hn : n ∈ menu) (hx : 1 ≤ x ∧ x ≤ 10 ^ 30) : GoodT (putT t n x) := by
  refine ⟨nd_put h.nd, fun p hp => ?_, fun p hp => ?_⟩
  · unfold putT at hp
    split at hp
    · obtain ⟨q, hq, rfl⟩ := List.mem_map.mp hp
      split
      · exact h.sub q hq
      · exact h.sub q hq
    · rcases List.mem_append.mp hp with hp | hp
      · exact h.sub p hp
      · rw [List.mem_singleton.mp hp]
        exact hn
  · unfold putT at hp
    split at hp
    · obtain ⟨q, hq, rfl⟩ := List.mem_map.mp hp
      split
      · exact hx
      · exact h.wt q hq
    · rcases List.mem_append.mp hp with hp | hp
      · exact h.wt p hp
      · rw [List.mem_singleton.mp hp]
        exact hx
theorem GoodT.drop {t : List (Str × Int)} {n : Str} (h : GoodT t) : GoodT (dropT t n) := ⟨nd_filter h.nd, fun p hp => h.sub p (List.mem_filter.mp hp).1, fun p hp => h.wt p (List.mem_filter.mp hp).1⟩
theorem GoodT.nil : GoodT [] := ⟨List.nodup_nil, fun p hp => (nomatch hp), fun p hp => (nomatch hp)⟩
def spTable : Sp := fun vs H Q _ => ∃ (b l a : Addr) (xs : List Str), vs = [.ref b, .ref a] ∧ Bag H b l ∧ a ≠ b ∧ H a = some (.lst (xs.map V.str)) ∧ xs.length ≤ 12 ∧ (∀ c ∈ xs, c ∈ menu) ∧ ∀ (p : Addr) (t : List (Str × Int)) (H' : Hp), GoodT t → H p = none → p ≠ b → H' p = some (.dK (dk t)) → Bag H' b l → Kp b H H' → Q (.ref p) H'
abbrev nTable : List Str := ["_law_bag_here", "_law_names_here", "_law_style", "_law_found", "_law_name"]
theorem scTable : FnScope nTable ["_law_bag_here", "_law_names_here"] (defScope sTable) := ⟨rfl, rfl, rfl, by decide +kernel, rfl, by decide +kernel, by decide +kernel⟩
theorem ok_table {f : Addr} {fd : FuncData} (F : Fun K "_law_table" "_law_table" sTable f fd) (T : Txt K mg) (cT : Cal P w K mg base 1 "_law_take" ["_law_bag_here", "_law_many"] spTake) (cO : Cal P w K mg base 2 "_law_one" ["_law_bag_here", "_law_some"] spOne) (cM : Cal P w K mg base 2 "_law_mixed" ["_law_bag_here", "_law_things"] spMixed) : FnOk P w K mg base CX0 3 f fd ["_law_bag_here", "_law_names_here"] spTable := by
  refine F.ok scTable (fun vs H Q E h => ?_) (fun cdv A outer s H vs Q E hr h => ?_)
  · obtain ⟨b, l, a, xs, rfl, _⟩ := h
    rfl
  · obtain ⟨b, l, a, xs, rfl, B, nab, ha, hlen, hm, k⟩ := h
    have nd := scTable.nd
    have hr1 : Room 1 _ := hr.mono (by decide)
    have ee : (A.deeper (envOfC "_law_table" (defScope sTable) s.heap.objs.size f cdv)).units = A.units + 3 := rfl
    have hu1 : A.units + 3 + 1 < cLine := by
      have := hr.un
      omega
    refine ⟨_, (pss_cons (ps_par (i := 2) (j := 3) rfl nd rfl rfl (by decide) rfl rfl (pa_cons (pe_call cT.G hr1 rfl cT.m cT.kp cT.b .nil pass0 (pa_cons (pv 0) (pa_cons pe_int pa_nil))) (pa_cons pe_dnewK pa_nil)) rfl)
      (pss_cons (ps_for PassesOwn.never rfl (pi_list (pe_call cM.G hr rfl cM.m cM.kp cM.b .nil pass0 (pa_cons (pv 0) (pa_cons (pv 1) pa_nil)))) (pg_name (i := 4) nd rfl (by first | exact Or.inl rfl | exact Or.inr rfl)) (pss_one (ps_if (PW.pt (pw_and (pt_cmpR op_gt (pv 2) pe_int (nomark _)) (pw_and1 (pt_cmpR op_gt (pe_call cT.G hr1 rfl cT.m cT.kp cT.b .nil pass0 (pa_cons (pv 0) (pa_cons pe_int pa_nil))) pe_int (nomark _))))) (pss_one (ps_dput hu1 (pv 3) (pv 4) (pe_call cO.G hr rfl cO.m cO.kp cO.b .nil pass0 (pa_cons (pv 0) (pa_cons (pe_ix ix_list (pe_lst (pa_cons (pe_lst (pa_cons pe_int (pa_cons pe_int (pa_cons pe_int pa_nil)))) (pa_cons (pe_lst (pa_cons pe_int (pa_cons pe_int (pa_cons pe_int (pa_cons pe_int pa_nil))))) (pa_cons (pe_lst (pa_cons pe_int (pa_cons pe_p29 (pa_cons pe_p30 (pa_cons pe_int pa_nil))))) pa_nil)))) (pe_op op_sub (pv 2) pe_int) fun _ _ => rfl) pa_nil))) rfl)) pss_nil)))
      (pss_one (ps_ret (pv 3))))), ?_⟩
    refine ⟨_, rfl, b, l, 4, rfl, B, by decide, by decide, fun j H1 hj B1 k1 => fun p hp => ?_⟩
    refine ⟨_, _, rfl, ?_⟩
    have npb := B1.ne hp
    have hpH : H p = none := by
      cases e : H p with
      | none => rfl
      | some o => rw [k1 _ _ e npb] at hp; cases hp
    have ha1 := same_new (o := .dK []) hp _ _ (k1 _ _ ha nab)
    refine ⟨_, rfl, _, rfl, b, l, a, _, rfl, B1.new hp, nab, ha1, by rw [List.length_map]; omega, fun ys0 m H2 hp0 hm0 hmb h2 B2 k2 => ?_⟩
    obtain ⟨ys, rfl, hy⟩ := perm_strs hp0
    have hp2 : H2 p = some (.dK []) := k2 _ _ upd_same npb
    have nmp : m ≠ p := fun e => by rw [e, upd_same] at hm0; cases hm0
    have kH2 : Kp b H H2 := k1.trans ((Kp.new hp).trans k2)
    refine ⟨m, rfl, ⟨_, SqL.of h2⟩, for_list (K := K) (a := m) (xs := ys.map V.str) (fun i σ G => ∃ v4 t, σ = [some (.ref b), some (.ref a), some (.int (j : Int)), some (.ref p), v4] ∧ Bag G b l ∧ Kp b H G ∧ G p = some (.dK (dk t)) ∧ GoodT t ∧ G m = some (.lst (ys.map V.str))) ⟨_, [], rfl, B2, kH2, hp2, GoodT.nil, h2⟩ (fun i σ G _ ⟨_, _, _, _, _, _, _, h⟩ => SqL.of h) ?_ ?_⟩
    · rintro i y σ G hi ⟨v4, t, rfl, BG, kG, hpG, GT, hmG⟩
      rw [List.getElem?_map] at hi
      obtain ⟨n, hn, rfl⟩ := Option.map_eq_some_iff.mp hi
      have hnm : n ∈ menu := hm n (hy.mem_iff.mp (List.mem_of_getElem? hn))
      refine ⟨_, rfl, _, _, rfl, rfl, _, rfl, ?_⟩
      refine ite2 (fun hj0 => ?_) (fun _ => ⟨_, t, rfl, BG, kG, hpG, GT, hmG⟩)
      have hj1 : 0 < j := by
        have := of_decide_eq_true hj0
        omega
      refine ⟨_, rfl, b, l, 4, rfl, BG, by decide, by decide, fun c G1 hc BG1 kG1 => ?_⟩
      have hpG1 := kG1 _ _ hpG npb
      have hmG1 := kG1 _ _ hmG hmb
      refine ⟨_, _, rfl, rfl, _, rfl, ?_⟩
      refine ite2 (fun _ => ?_) (fun _ => ⟨_, t, rfl, BG1, kG.trans kG1, hpG1, GT, hmG1⟩)
      refine ⟨_, rfl, by show 3 ≤ sizeLine; decide, fun q1 hq1 => ⟨by show 4 ≤ sizeLine; decide, fun q2 hq2 => ⟨by show 4 ≤ sizeLine; decide, fun q3 hq3 => ⟨by show 3 ≤ sizeLine; decide, fun q4 hq4 => ?_⟩⟩⟩⟩
      have s1 := same_new (o := .lst [.int 1, .int 2, .int 3]) hq1
      have s2 := same_new (o := .lst [.int 1, .int 4, .int 9, .int 100]) hq2
      have s3 := same_new (o := .lst [.int 1, .int (10 ^ 29), .int (10 ^ 30), .int 2]) hq3
      have s4 := same_new (o := .lst [.ref q1, .ref q2, .ref q3]) hq4
      have ss := s1.trans (s2.trans (s3.trans s4))
      have nb1 : q1 ≠ b := BG1.ne hq1
      have nb2 : q2 ≠ b := (BG1.same s1).ne hq2
      have nb3 : q3 ≠ b := (BG1.same (s1.trans s2)).ne hq3
      have fin : ∀ (x : V) (G2 : Hp), (∃ i : Int, x = .int i ∧ 1 ≤ i ∧ i ≤ 10 ^ 30) → Bag G2 b l → Kp b (upd (upd (upd (upd G1 q1 (.lst [.int 1, .int 2, .int 3])) q2 (.lst [.int 1, .int 4, .int 9, .int 100])) q3 (.lst [.int 1, .int (10 ^ 29), .int (10 ^ 30), .int 2])) q4 (.lst [.ref q1, .ref q2, .ref q3])) G2 →
          ∃ w : V, ([some (V.ref b), some (V.ref a), some (V.int (j : Int)), some (V.ref p), some (V.str n)] : L2.St)[3]? = some (some w) ∧ ∃ w2 : V, ([some (V.ref b), some (V.ref a), some (V.int (j : Int)), some (V.ref p), some (V.str n)] : L2.St)[4]? = some (some w2) ∧ ∃ (a' : Addr) (G4 : Hp), w = .ref a' ∧ DPut G2 a' w2 x G4 ∧
            ∃ v4' t', ([some (V.ref b), some (V.ref a), some (V.int (j : Int)), some (V.ref p), some (V.str n)] : L2.St) = [some (.ref b), some (.ref a), some (.int (j : Int)), some (.ref p), v4'] ∧ Bag G4 b l ∧ Kp b H G4 ∧ G4 p = some (.dK (dk t')) ∧ GoodT t' ∧ G4 m = some (.lst (ys.map V.str)) := by
        rintro x G2 ⟨i, rfl, i1, i2⟩ BG2 kG2
        have k12 := (Kp.of ss).trans kG2
        have hp2 := k12 _ _ hpG1 npb
        have hl : (dk t).length < sizeLine := by
          rw [show (dk t).length = t.length from List.length_map _, sizeLine_eq]
          have := GT.len
          omega
        refine ⟨_, rfl, _, rfl, p, _, rfl, .inl ⟨dk t, Sum.inr n, hp2, rfl, hl, rfl⟩, _, putT t n i, rfl, ?_, fun c o hc ncb => ?_, ?_, GT.put hnm ⟨i1, i2⟩, ?_⟩
        · exact BG2.upd npb.symm (B.nel hpH)
        · rw [upd_ne (ne_of_none hc hpH)]
          exact k12 _ _ (kG1 _ _ (kG _ _ hc ncb) ncb) ncb
        · rw [upd_same, put_dk]
        · rw [upd_ne nmp]
          exact k12 _ _ hmG1 hmb
      have hj3 : j = 1 ∨ j = 2 ∨ j = 3 := by omega
      rcases hj3 with rfl | rfl | rfl
      · refine ⟨_, rfl, _, _, rfl, rfl, q4, _, ((0 : Nat) : Int), _, rfl, rfl, SqL.of upd_same, atI_nat rfl, ?_⟩
        refine ⟨b, l, q1, _, rfl, BG1.same ss, nb1, s4 _ _ (s3 _ _ (s2 _ _ upd_same)), by simp, by show 3 < 1000; decide, fun x G2 hx BG2 kG2 => ?_⟩
        exact fin x G2 (by
          simp only [List.mem_cons, List.not_mem_nil, or_false] at hx
          rcases hx with rfl | rfl | rfl <;> exact ⟨_, rfl, by decide, by decide⟩) BG2 kG2
      · refine ⟨_, rfl, _, _, rfl, rfl, q4, _, ((1 : Nat) : Int), _, rfl, rfl, SqL.of upd_same, atI_nat rfl, ?_⟩
        refine ⟨b, l, q2, _, rfl, BG1.same ss, nb2, s4 _ _ (s3 _ _ upd_same), by simp, by show 4 < 1000; decide, fun x G2 hx BG2 kG2 => ?_⟩
        exact fin x G2 (by
          simp only [List.mem_cons, List.not_mem_nil, or_false] at hx
          rcases hx with rfl | rfl | rfl | rfl <;> exact ⟨_, rfl, by decide, by decide⟩) BG2 kG2
      · refine ⟨_, rfl, _, _, rfl, rfl, q4, _, ((2 : Nat) : Int), _, rfl, rfl, SqL.of upd_same, atI_nat rfl, ?_⟩
        refine ⟨b, l, q3, _, rfl, BG1.same ss, nb3, s4 _ _ upd_same, by simp, by show 4 < 1000; decide, fun x G2 hx BG2 kG2 => ?_⟩
        exact fin x G2 (by
          simp only [List.mem_cons, List.not_mem_nil, or_false] at hx
          rcases hx with rfl | rfl | rfl | rfl <;> exact ⟨_, rfl, by decide, by decide⟩) BG2 kG2
    · rintro σ G ⟨v4, t, rfl, BG, kG, hpG, GT, hmG⟩
      exact ⟨_, rfl, k p t G GT hpH npb hpG BG kG⟩
end
end Qk
set_option maxRecDepth 100000
set_option maxHeartbeats 4000000
namespace Qk
open PySem PySem.Spec PyProof.Rows L2
section
variable {P : Program} {w : World} {K : PySem.W.Frag} {mg : Str → Option Value} {base : Heap}
theorem pair_imp {α β : Type} {F G : α → β → Prop} (h : ∀ a b, F a b → G a b) : ∀ {xs : List α} {ys : List β}, Paired F xs ys → Paired G xs ys
  | _, _, .nil => .nil
  | _, _, .cons r t => .cons (h _ _ r) (pair_imp h t)
theorem pair_snoc {α β : Type} {F : α → β → Prop} {x : α} {y : β} : ∀ {xs : List α} {ys : List β}, Paired F xs ys → F x y → Paired F (xs ++ [x]) (ys ++ [y])
  | _, _, .nil, h => .cons h .nil
  | _, _, .cons r t, h => .cons r (pair_snoc t h)
theorem merge_dk : ∀ (r a : List (Str × Int)), ((a ++ r).map (·.1)).Nodup → mergeK (dk a) (dk r) = dk (a ++ r)
  | [], a, _ => by rw [List.append_nil]; rfl
  | p :: r, a, nd => by
    have e : lookT a p.1 = none := by
      rw [lookT_none]
      intro h
      rw [List.map_append, List.nodup_append] at nd
      exact nd.2.2 _ h _ List.mem_cons_self rfl
    have e2 : putT a p.1 p.2 = a ++ [p] := by
      unfold putT
      rw [e]
      rfl
    show mergeK (putK (dk a) (Sum.inr p.1) (V.int p.2)) (dk r) = _
    rw [put_dk, e2, merge_dk r (a ++ [p]) (by rw [List.append_assoc]; exact nd), List.append_assoc]
    rfl
theorem tabOf_nd {t : List (Str × Int)} {ys : List Str} (nd : ys.Nodup) : ((tabOf t ys).map (·.1)).Nodup := by
  have := keys_tabOf t ys
  unfold keysT at this
  rw [this]
  exact nd
def spHeavy : Sp := fun vs H Q _ => ∃ (d : Addr) (t : List (Str × Int)), vs = [.ref d] ∧ H d = some (.dK (dk t)) ∧ GoodT t ∧ ∀ (p : Addr) (ys : List Str) (H' : Hp), ys.Perm (keysT t) → sortedS ys = true → Same H H' → H p = none → H' p = some (.dK (dk (tabOf t (ys.filter fun k => decide (lookT t k ≠ some 1))))) → Q (.ref p) H'
abbrev nHeavy : List Str := ["_law_table_here", "_law_name"]
theorem scHeavy : FnScope nHeavy ["_law_table_here"] (defScope sHeavy) := ⟨rfl, rfl, rfl, by decide +kernel, rfl, by decide +kernel, by decide +kernel⟩
theorem ok_heavy {f : Addr} {fd : FuncData} (F : Fun K "_law_heavy_ones" "_law_heavy_ones" sHeavy f fd) (T : Txt K mg) : FnOk P w K mg base CX0 1 f fd ["_law_table_here"] spHeavy := by
  refine F.ok scHeavy (fun vs H Q E h => ?_) (fun cdv A outer s H vs Q E hr h => ?_)
  · obtain ⟨d, t, rfl, _⟩ := h
    rfl
  · obtain ⟨d, t, rfl, hd, GT, k⟩ := h
    have nd := scHeavy.nd
    have ee : (A.deeper (envOfC "_law_heavy_ones" (defScope sHeavy) s.heap.objs.size f cdv)).units = A.units + 3 := rfl
    have hu1 : A.units + 3 + 1 < cLine := by
      have := hr.un
      omega
    refine ⟨_, (pss_one (ps_ret (pe_callTy (call_dictP rfl) (by rfl) T.dict (by decide +kernel) (pa_cons (pe_lc (own := [("_law_name", 1)]) (g := gName 1) rfl nd (pi_list (pe_callB (call_sortedD rfl) (by rfl) T.sorted (by decide +kernel) (pa_cons (pv 0) pa_nil))) (blkOk_by (N := nHeavy) (sc := defScope sHeavy) (by decide +kernel)) (fun _ _ _ _ _ => (pg_name (i := 1) nd rfl (by first | exact Or.inl rfl | exact Or.inr rfl))) (fun _ _ _ _ _ => pts_one (pt_cmpR op_ne (pe_dget hu1 (pv 0) (pv 1) (fun _ _ => rfl)) pe_int (nomark _))) (fun _ _ _ _ _ => (pe_tup (pa_cons (pv 1) (pa_cons (pe_dget hu1 (pv 0) (pv 1) (fun _ _ => rfl)) pa_nil))))) pa_nil)))), ?_⟩
    have lt := GT.len
    have lk : (keysT t).length = t.length := List.length_map _
    refine ⟨_, rfl, d, dk t, keysT t, rfl, .inl hd, keys_dk t, by omega, fun ys m hperm hs hm => ?_⟩
    have s1 := same_new (o := .lst (ys.map V.str)) hm
    have ndy : ys.Nodup := hperm.nodup_iff.mpr GT.nd
    have ly := hperm.length_eq
    have hm1 : (upd H m (.lst (ys.map V.str))) m = some (.lst (ys.map V.str)) := upd_same
    refine ⟨m, rfl, ⟨_, SqL.of hm1⟩, fun D hD => ?_⟩
    generalize upd H m (.lst (ys.map V.str)) = H1 at s1 hm1 hD ⊢
    let fl : Nat → List Str := fun i => (ys.take i).filter fun k => decide (lookT t k ≠ some 1)
    refine lc_it walk_list (fun i H' => Same H1 H' ∧ ∃ ps : List Addr, H' D = some (.lst (ps.map V.ref)) ∧ Paired (fun p kv => H' p = some (.tup [kV kv.1, kv.2])) ps (dk (tabOf t (fl i)))) ⟨same_new hD, [], upd_same, .nil⟩ (fun i H' _ h => SqL.of (h.1 _ _ hm1)) ?_ ?_
    · rintro i y H2 H3 hi ⟨s2, ps, d2, hp⟩ ⟨rfl, hy⟩
      rw [List.length_map] at hi
      rw [List.getElem?_map, List.getElem?_eq_getElem hi] at hy
      injection hy with hy
      subst hy
      have hmm : ys[i] ∈ keysT t := hperm.mem_iff.mp (List.getElem_mem hi)
      have hk : ∃ x, lookT t ys[i] = some x := by
        cases e : lookT t ys[i] with
        | none => exact absurd hmm (lookT_none.mp e)
        | some x => exact ⟨x, rfl⟩
      obtain ⟨x, hx⟩ := hk
      have hd3 := s2 _ _ (s1 _ _ hd)
      have dg : ∀ {G : Hp}, G d = some (.dK (dk t)) → DGet G d (V.str ys[i]) (some (V.int x)) := fun {G} h => .inl ⟨_, Sum.inr ys[i], .inl h, rfl, by rw [val_dk, hx]; rfl⟩
      refine ⟨rfl, ?_⟩
      refine ⟨_, rfl, _, rfl, d, V.int x, rfl, dg hd3, rfl, _, rfl, ?_⟩
      have efl : fl (i + 1) = if x = 1 then fl i else fl i ++ [ys[i]] := by
        show (ys.take (i + 1)).filter _ = _
        rw [List.take_add_one, List.getElem?_eq_getElem hi, Option.toList_some, List.filter_append]
        by_cases e : x = 1
        · rw [if_pos e, List.filter_cons_of_neg (by rw [hx, e]; simp), List.filter_nil, List.append_nil]
        · rw [if_neg e, List.filter_cons_of_pos (by rw [hx]; simpa using e), List.filter_nil]
      by_cases e : x = 1
      · rw [show (!decide (V.int x = V.int 1)) = false by rw [e]; rfl]
        refine iteF ?_
        rw [efl, if_pos e]
        exact ⟨s2, ps, d2, hp⟩
      · rw [show (!decide (V.int x = V.int 1)) = true by rw [decide_eq_false fun h => e (by injection h)]; rfl]
        refine iteT ?_
        refine ⟨_, rfl, _, rfl, _, rfl, d, V.int x, rfl, dg hd3, by show 2 ≤ sizeLine; decide, fun tp htp => ?_⟩
        have sT := same_new (o := .tup [.str ys[i], .int x]) htp
        have lp : ps.length ≤ 40 := by
          have := Paired.length hp
          rw [this]
          unfold dk tabOf
          rw [List.length_map, List.length_map]
          have h1 : (fl i).length ≤ (ys.take i).length := List.length_filter_le _ _
          rw [List.length_take] at h1
          show (fl i).length ≤ 40
          omega
        have nD : ∀ c o, H3 c = some (.tup o) → c ≠ D := fun c o e ec => by rw [ec, d2] at e; cases e
        refine ⟨_, sT _ _ d2, small1000 (by rw [List.length_map]; omega), ⟨fun c o hb => ?_, ps ++ [tp], ?_, ?_⟩⟩
        · rw [upd_ne (ne_of_none hb hD)]
          exact sT _ _ (s2 _ _ hb)
        · rw [upd_same, List.map_append]
          rfl
        · rw [efl, if_neg e]
          have tD : tp ≠ D := fun ec => by rw [ec, d2] at htp; cases htp
          have e1 : dk (tabOf t (fl i ++ [ys[i]])) = dk (tabOf t (fl i)) ++ [(Sum.inr ys[i], V.int x)] := by
            unfold dk tabOf
            rw [List.map_append, List.map_append]
            show _ ++ [(Sum.inr ys[i], V.int ((lookT t ys[i]).getD 1))] = _
            rw [hx]
            rfl
          rw [e1]
          exact pair_snoc (pair_imp (fun p kv e => by rw [upd_ne (nD _ _ e)]; exact sT _ _ e) hp) (by rw [upd_ne tD]; exact upd_same)
    · rintro H2 ⟨s2, ps, d2, hp⟩
      rw [List.length_map] at hp
      have efl : fl ys.length = ys.filter fun k => decide (lookT t k ≠ some 1) := by
        show (ys.take ys.length).filter _ = _
        rw [List.take_length]
      rw [efl] at hp
      have ndf := tabOf_nd (t := t) (ndy.sublist (List.filter_sublist (p := fun k => decide (lookT t k ≠ some 1)) (l := ys)))
      refine ⟨D, ps, _, rfl, SqL.of d2, pair_imp (fun p kv e => SqT.of e) hp, fun p hp0 => ?_⟩
      rw [show mergeK [] (dk (tabOf t (ys.filter fun k => decide (lookT t k ≠ some 1)))) = dk (tabOf t (ys.filter fun k => decide (lookT t k ≠ some 1))) from merge_dk _ [] ndf]
      have s12 := s1.trans s2
      have hpH : H p = none := by
        cases e : H p with
        | none => rfl
        | some o => rw [s12 _ _ e] at hp0; cases hp0
      exact k p ys _ hperm hs (s12.trans (same_new hp0)) hpH upd_same
end
end Qk
set_option maxRecDepth 100000
set_option maxHeartbeats 4000000
set_option maxRecDepth 100000
set_option maxHeartbeats 4000000
namespace Qk
open PySem PySem.Spec PyProof.Rows L2 PySem.W
def PairAt (H : Hp) (x : V) (r : Int × Int) : Prop := ∃ t, x = .ref t ∧ H t = some (.tup [.int r.1, .int r.2])
inductive PL (H : Hp) : List V → List (Int × Int) → Prop
  | nil : PL H [] []
  | cons {x : V} {xs : List V} {r : Int × Int} {rs : List (Int × Int)} : PairAt H x r → PL H xs rs → PL H (x :: xs) (r :: rs)
theorem PairAt.same {H H' : Hp} {x : V} {r : Int × Int} (s : Same H H') (h : PairAt H x r) : PairAt H' x r := by
  obtain ⟨t, e, h⟩ := h
  exact ⟨t, e, s _ _ h⟩
theorem PL.same {H H' : Hp} {xs : List V} {rs : List (Int × Int)} (s : Same H H') (h : PL H xs rs) : PL H' xs rs := by
  induction h with
  | nil => exact .nil
  | cons a _ ih => exact .cons (a.same s) ih
theorem PL.len {H : Hp} {xs : List V} {rs : List (Int × Int)} (h : PL H xs rs) : xs.length = rs.length := by
  induction h with
  | nil => rfl
  | cons _ _ ih => rw [List.length_cons, List.length_cons, ih]
theorem PL.get {H : Hp} {xs : List V} {rs : List (Int × Int)} (h : PL H xs rs) : ∀ {i : Nat} {x : V}, xs[i]? = some x → ∃ r, rs[i]? = some r ∧ PairAt H x r := by
  induction h with
  | nil =>
    intro i x e
    cases e
  | cons a _ ih =>
    intro i x e
    cases i with
    | zero =>
      obtain rfl := Option.some.inj e
      exact ⟨_, rfl, a⟩
    | succ i => exact ih (i := i) e
def dP (r : Int × Int) : PyData := .tuple [.int r.1, .int r.2]
theorem PL.dp {K : PySem.W.Frag} {H : Hp} {xs : List V} {rs : List (Int × Int)} (h : PL H xs rs) : DpAll K H xs (rs.map dP) := by
  induction h with
  | nil => exact .nil
  | cons a _ ih =>
    obtain ⟨t, rfl, a⟩ := a
    exact .cons (.tup (SqT.of a) (.cons (.int _) (.cons (.int _) .nil))) ih
theorem dok_bigint {i : Int} (h : i.natAbs < 10 ^ 60) : DOk (.int i) := ⟨fine_int h, by show 0 ≤ 50; decide, by show 64 ≤ 1000000; decide⟩
end Qk
set_option maxRecDepth 100000
set_option maxHeartbeats 4000000
namespace Qk
open PySem PySem.Spec PyProof.Rows L2
section
variable {P : Program} {w : World} {K : PySem.W.Frag} {mg : Str → Option Value} {base : Heap}
structure WCl (P : Program) (w : World) (K : PySem.W.Frag) (mg : Str → Option Value) (base : Heap) (C : Addr) where
  T : TxA K mg C
  (fI fE fG fS fC fT fY : Addr)
  (dI dE dG dS dC dT dY : FuncData)
  mkK : Mk K C fI
  gI : FnOk P w K mg base CX0 3 fI dI ["self", "table"] (spWInit C)
  bI : Binds K dI ["self", "table"] []
  oE : OwnEq K C fE
  gE : FnOk P w K mg base CX0 1 fE dE ["self", "other"] (spWEq K C)
  bE : Binds K dE ["self", "other"] []
  nf : PySem.W.notFirst K C (.ref C) = true
  kT : ∀ t ∈ (["dict", "int", "NoneType"] : List String), PySem.W.kitOne K (.type t) (.ref C) = some false
  nF : ∀ t ∈ (["dict", "int", "NoneType"] : List String), PySem.W.notFirst K C (.type t) = true
  oG : OwnGet K C fG
  gG : FnOk P w K mg base CX0 2 fG dG ["self", "at"] (spWGet C)
  bG : Binds K dG ["self", "at"] []
  oS : OwnSet K C fS
  gS : FnOk P w K mg base CX0 3 fS dS ["self", "at", "worth"] (spWSet C)
  bS : Binds K dS ["self", "at", "worth"] []
  oC : OwnCall K C fC
  gC : FnOk P w K mg base CX0 3 fC dC ["self", "thing"] (spWCall C)
  bC : Binds K dC ["self", "thing"] []
  mT : Meth K C "table" fT
  gT : FnOk P w K mg base CX0 1 fT dT ["self"] (spWTable C)
  bT : Binds K dT ["self"] []
  mY : Meth K C "copied" fY
  gY : FnOk P w K mg base CX0 5 fY dY ["self"] (spWCopy C)
  bY : Binds K dY ["self"] []
/-- the law's own table beside the class's -/
structure WtR (t h : List (Str × Int)) : Prop where
  gt : GoodT t
  gh : GoodT h
  lk : ∀ n, lookT h n = (lookT t n).filter fun x => decide (x ≠ 1)
theorem WtR.get {t h : List (Str × Int)} (r : WtR t h) (n : Str) : (lookT h n).getD 1 = (lookT t n).getD 1 := by
  rw [r.lk]
  cases lookT t n with
  | none => rfl
  | some x =>
    by_cases e : x = 1
    · rw [Option.filter_some, if_neg (by simp [e]), e]
      rfl
    · rw [Option.filter_some, if_pos (by simp [e])]
theorem WtR.heavy {t : List (Str × Int)} (g : GoodT t) : WtR t (heavyT t) := ⟨g, g.heavy, fun n => lookT_filter _ n g.nd⟩
theorem WtR.copy {t h : List (Str × Int)} (r : WtR t h) : WtR t (heavyT h) := ⟨r.gt, r.gh.heavy, fun n => by
  rw [show lookT (heavyT h) n = (lookT h n).filter fun x => decide (x ≠ 1) from lookT_filter _ n r.gh.nd, r.lk]
  cases lookT t n with
  | none => rfl
  | some x => 
    by_cases e : x = 1
    · rw [Option.filter_some, if_neg (by simp [e])]
      rfl
    · rw [Option.filter_some, if_pos (by simp [e]), Option.filter_some, if_pos (by simp [e])]⟩
theorem lookT_drop {t : List (Str × Int)} (g : GoodT t) (n m : Str) : lookT (dropT t n) m = if m = n then none else lookT t m := by
  unfold dropT
  rw [lookT_filter _ m g.nd]
  by_cases e : m = n
  · rw [if_pos e]
    cases lookT t m with
    | none => rfl
    | some x => rw [Option.filter_some, if_neg (by simp [e])]
  · rw [if_neg e]
    cases lookT t m with
    | none => rfl
    | some x => rw [Option.filter_some, if_pos (by simp [e])]
theorem WtR.put {t h : List (Str × Int)} {n : Str} {x : Int} (r : WtR t h) (hn : n ∈ menu) (hx : 1 ≤ x ∧ x ≤ 10 ^ 30) : WtR (putT t n x) (if x = 1 then dropT h n else putT h n x) := by
  refine ⟨r.gt.put hn hx, ?_, fun m => ?_⟩
  · split
    · exact r.gh.drop
    · exact r.gh.put hn hx
  · rw [lookT_put]
    by_cases e : x = 1
    · rw [if_pos e, lookT_drop r.gh]
      by_cases em : m = n
      · rw [if_pos em, if_pos em, Option.filter_some, if_neg (by simp [e])]
      · rw [if_neg em, if_neg em, r.lk]
    · rw [if_neg e, lookT_put]
      by_cases em : m = n
      · rw [if_pos em, if_pos em, Option.filter_some, if_pos (by simp [e])]
      · rw [if_neg em, if_neg em, r.lk]
theorem mem_keysT {t : List (Str × Int)} {n : Str} : n ∈ keysT t ↔ ∃ x, lookT t n = some x := by
  unfold keysT
  constructor
  · intro h
    cases e : lookT t n with
    | none => exact absurd h (lookT_none.mp e)
    | some x => exact ⟨x, rfl⟩
  · rintro ⟨x, h⟩
    exact Decidable.byContradiction fun hc => by rw [lookT_none.mpr hc] at h; cases h
/-- both tell the same table -/
theorem WtR.tab {t h : List (Str × Int)} {ys zs : List Str} (r : WtR t h) (h1 : ys.Perm (keysT h)) (h2 : sortedS ys = true) (h3 : zs.Perm (keysT t)) (h4 : sortedS zs = true) : tabOf h ys = tabOf t (zs.filter fun k => decide (lookT t k ≠ some 1)) := by
  have e : ys = zs.filter fun k => decide (lookT t k ≠ some 1) := by
    refine sorted_unique (zs := keysT h) h1 ?_ h2 ?_
    · refine (List.perm_ext_iff_of_nodup ((h3.nodup_iff.mpr r.gt.nd).sublist List.filter_sublist) r.gh.nd).mpr fun n => ?_
      rw [List.mem_filter, decide_eq_true_iff, h3.mem_iff]
      show _ ↔ n ∈ keysT h
      rw [mem_keysT, mem_keysT, r.lk]
      cases lookT t n with
      | none => exact ⟨fun ⟨⟨x, hx⟩, _⟩ => (nomatch hx), fun ⟨x, hx⟩ => (nomatch hx)⟩
      | some x =>
        by_cases e : x = 1
        · rw [Option.filter_some, if_neg (by simp [e])]
          exact ⟨fun ⟨_, hx⟩ => absurd (by rw [e]) hx, fun ⟨x, hx⟩ => (nomatch hx)⟩
        · rw [Option.filter_some, if_pos (by simp [e])]
          exact ⟨fun _ => ⟨x, rfl⟩, fun _ => ⟨⟨x, rfl⟩, fun hx => e (Option.some.inj hx)⟩⟩
    · exact pwS_sorted ((sortedS_pw h4).sublist List.filter_sublist)
  rw [← e]
  unfold tabOf
  refine List.map_congr_left fun k _ => ?_
  rw [r.get]
theorem dp_ints {H : Hp} : ∀ ns : List Int, DpAll K H (ns.map V.int) (ns.map PyData.int)
  | [] => .nil
  | n :: ns => .cons (.int _) (dp_ints ns)
theorem fine_ints : ∀ {ns : List Int}, (∀ n ∈ ns, n.natAbs < 10 ^ 60) → fineAll (ns.map PyData.int) = true
  | [], _ => rfl
  | n :: ns, h => by
    show (fine (PyData.int n) && fineAll (ns.map PyData.int)) = true
    rw [fine_ints fun x hx => h x (List.mem_cons_of_mem _ hx), Bool.and_true]
    exact fine_int (h n List.mem_cons_self)
theorem cost_ints : ∀ (ns : List Int), costAll (ns.map PyData.int) = 66 * ns.length
  | [] => rfl
  | n :: ns => by
    show cost (PyData.int n) + 2 + costAll (ns.map PyData.int) = _
    rw [cost_ints ns, List.length_cons]
    show 64 + 2 + _ = _
    omega
theorem depth_ints : ∀ (ns : List Int), PyData.depthAll (ns.map PyData.int) = 0
  | [] => rfl
  | n :: ns => by
    show max (PyData.depth (PyData.int n)) (PyData.depthAll (ns.map PyData.int)) = 0
    rw [depth_ints ns]
    rfl
theorem dok_ints {ns : List Int} (h : ∀ n ∈ ns, n.natAbs < 10 ^ 60) (hl : ns.length ≤ 4000) : DOk (.list (ns.map PyData.int)) :=
  ⟨fine_ints h, by show PyData.depthAll _ + 1 ≤ 50; rw [depth_ints]; decide, by show costAll _ + 3 ≤ _; rw [cost_ints]; omega⟩
theorem get_bound {t : List (Str × Int)} (g : GoodT t) (n : Str) : 1 ≤ (lookT t n).getD 1 ∧ (lookT t n).getD 1 ≤ 10 ^ 30 := by
  cases e : lookT t n with
  | none => exact ⟨by decide, by decide⟩
  | some x => exact g.wt _ (lookT_mem e)
theorem get_abs {t : List (Str × Int)} (g : GoodT t) (n : Str) : ((lookT t n).getD 1).natAbs < 10 ^ 60 := by
  have := get_bound g n
  have e : (10 : Int) ^ 30 < 10 ^ 60 := by decide
  omega
theorem sum_perm {xs ys : List Int} (h : xs.Perm ys) : xs.sum = ys.sum := by
  induction h with
  | nil => rfl
  | cons x _ ih => rw [List.sum_cons, List.sum_cons, ih]
  | swap x y l => rw [List.sum_cons, List.sum_cons, List.sum_cons, List.sum_cons]; omega
  | trans _ _ h1 h2 => exact h1.trans h2
theorem wsum_bound {t : List (Str × Int)} (g : GoodT t) : ∀ cs : List Str, 0 ≤ wsum t cs ∧ wsum t cs ≤ 10 ^ 30 * (cs.length : Int)
  | [] => ⟨Int.le_refl 0, by show (0 : Int) ≤ 10 ^ 30 * 0; decide⟩
  | c :: cs => by
    have h1 := get_bound g c
    have h2 := wsum_bound g cs
    have e : wsum t (c :: cs) = (lookT t c).getD 1 + wsum t cs := by
      unfold wsum
      rw [List.map_cons, List.sum_cons]
    rw [e, List.length_cons]
    have e2 : (10 : Int) ^ 30 * ((cs.length + 1 : Nat) : Int) = 10 ^ 30 * (cs.length : Int) + 10 ^ 30 := by
      rw [show ((cs.length + 1 : Nat) : Int) = (cs.length : Int) + 1 by omega, Int.mul_add, Int.mul_one]
    rw [e2]
    omega
theorem wsum_dok {t : List (Str × Int)} (g : GoodT t) {cs : List Str} (hl : cs.length ≤ 40) : DOk (.int (wsum t cs)) := dok_bigint (by
  have := wsum_bound g cs
  have e : (10 : Int) ^ 30 * (cs.length : Int) ≤ 10 ^ 30 * 40 := Int.mul_le_mul_of_nonneg_left (by omega) (by decide)
  have e2 : (10 : Int) ^ 30 * 40 < 10 ^ 60 := by decide
  omega)
theorem WtR.sum {t h : List (Str × Int)} {cs ys : List Str} (r : WtR t h) (hp : ys.Perm cs) : wsum h cs = wsum t ys := by
  unfold wsum
  rw [show (cs.map fun c => (lookT h c).getD 1) = cs.map fun c => (lookT t c).getD 1 from List.map_congr_left fun c _ => r.get c]
  exact (sum_perm (hp.map _)).symm
def spRight (C : Addr) : Sp := fun vs H Q _ => ∃ (b l a e d nm : Addr) (t h : List (Str × Int)) (xs : List Str), vs = [.ref b, .ref a, .ref d, .ref nm] ∧ Bag H b l ∧ HasW H C a e h ∧ H d = some (.dK (dk t)) ∧ H nm = some (.lst (xs.map V.str)) ∧ Row xs ∧ WtR t h ∧ nm ≠ b ∧
  ∀ H', Bag H' b l → Kp b H H' → Q (.bl true) H'
abbrev nRight : List Str := ["_law_bag_here", "_law_heavy", "_law_table_here", "_law_names_here", "_law_way", "_law_found", "_law_question_here", "_law_due", "_law_index_here", "_law_name"]
theorem scRight : FnScope nRight ["_law_bag_here", "_law_heavy", "_law_table_here", "_law_names_here"] (defScope sRight) := ⟨rfl, rfl, rfl, by decide +kernel, rfl, by decide +kernel, by decide +kernel⟩
theorem ok_right {f C : Addr} {fd : FuncData} (F : Fun K "_law_right" "_law_right" sRight f fd) (T : Txt K mg) (AC : WCl P w K mg base C) (cM : Cal P w K mg base 2 "_law_mixed" ["_law_bag_here", "_law_things"] spMixed)
    (cQ : Cal P w K mg base 3 "_law_question" ["_law_bag_here", "_law_names_here"] spQuestion) (cX : Cal P w K mg base 3 "_law_index" ["_law_bag_here", "_law_names_here"] spIndex) (cL : Cal P w K mg base 1 "_law_all" ["_law_question_here"] spLAll) (cW : Cal P w K mg base 1 "_law_weigh" ["_law_columns", "_law_table_here"] spWeigh)
    (cH : Cal P w K mg base 1 "_law_heavy_ones" ["_law_table_here"] spHeavy) (cA : CalG P w K mg base 1 "_law_alike" ["_law_found", "_law_due"] (fun vs H Q E => spAlikeD K vs H Q E ∨ spAlikeTB vs H Q E)) : FnG P w K mg base 6 f fd ["_law_bag_here", "_law_heavy", "_law_table_here", "_law_names_here"] (spRight C) := by
  refine okG F scRight (fun vs H Q E h => ?_) (fun cdv A outer s H vs Q E hr hg h => ?_)
  · obtain ⟨b, l, a, e, d, nm, t, h, xs, rfl, _⟩ := h
    rfl
  · obtain ⟨b, l, a, e, d, nm, t, h, xs, rfl, B, hW, hd, hn, R, W, nb, k⟩ := h
    have nd := scRight.nd
    have hr1 : Room 1 _ := hr.mono (by decide)
    have hr2 : Room 2 _ := hr.mono (by decide)
    have hr3 : Room 3 _ := hr.mono (by decide)
    have hr5 : Room 5 _ := hr.mono (by decide)
    have ee : (A.deeper (envOfC "_law_right" (defScope sRight) s.heap.objs.size f cdv)).units = A.units + 3 := rfl
    have hu1 : A.units + 3 + 1 < cLine := by
      have := hr.un
      omega
    have hu65 : A.units + 3 + 64 < cLine := by
      have := hr.un
      omega
    refine ⟨_, (pss_cons (ps_for PassesOwn.never rfl (pi_list (pe_call cM.G hr2 rfl cM.m cM.kp cM.b .nil pass0 (pa_cons (pv 0) (pa_cons (pe_lst (pa_cons pe_int (pa_cons pe_int (pa_cons pe_int (pa_cons pe_int (pa_cons pe_int (pa_cons pe_int pa_nil))))))) pa_nil)))) (pg_name (i := 4) nd rfl (by first | exact Or.inl rfl | exact Or.inr rfl)) (Evl.pss_cut (ps_if (pt_cmpR op_eq (pv 4) pe_int (nomark _)) (pss_cons (ps_setLc (i := 5) (own := [("_law_name", 9)]) (g := gName 9) (tt := tYes) rfl nd rfl (by rfl) (sw_true rfl (by rfl) rfl (by decide)) (pi_list (pe_op op_cat (pv 3) (pe_lst (pa_cons pe_str (pa_cons pe_str pa_nil))))) (blkOk_by (N := nRight) (sc := defScope sRight) (by decide +kernel)) (fun _ _ _ _ _ => (pg_name (i := 9) nd rfl (by first | exact Or.inl rfl | exact Or.inr rfl))) (fun _ _ _ _ _ => pts_nil) (fun _ _ _ _ _ => (show PE _ _ (tOp (rIxO C (spWGet C)) (tVar 1) (tVar 9)) from pe_ixO AC.oG AC.gG hr3 AC.bG (pv 1) (pv 9) (fun _ _ => rfl))))
      (pss_one (ps_if (pt_not (pt_val (pe_callg cA.G hr1 hg rfl cA.m cA.kp cA.b (pa_cons (pv 5) (pa_cons (pe_lc (own := [("_law_name", 9)]) (g := gName 9) (tt := tYes) rfl nd (pi_list (pe_op op_cat (pv 3) (pe_lst (pa_cons pe_str (pa_cons pe_str pa_nil))))) (blkOk_by (N := nRight) (sc := defScope sRight) (by decide +kernel)) (fun _ _ _ _ _ => (pg_name (i := 9) nd rfl (by first | exact Or.inl rfl | exact Or.inr rfl))) (fun _ _ _ _ _ => pts_nil) (fun _ _ _ _ _ => (pe_dget2 hu1 (pv 2) (pv 9) pe_int ⟨rfl, rfl, rfl, rfl⟩))) pa_nil))))) (pss_one (ps_ret pe_bl)) pss_nil))) pss_nil)
      (Evl.pss_cut (ps_if (pt_cmpR op_eq (pv 4) pe_int (nomark _)) (pss_cons (ps_set (i := 6) nd rfl (by first | exact Or.inl rfl | exact Or.inr rfl) (pe_call cQ.G hr3 rfl cQ.m cQ.kp cQ.b .nil pass0 (pa_cons (pv 0) (pa_cons (pv 3) pa_nil))))
      (pss_one (ps_if (pt_not (pt_val (pe_callg cA.G hr1 hg rfl cA.m cA.kp cA.b (pa_cons (pe_callO (i := 1) (j := 6) AC.oC AC.gC hr5 AC.bC rfl (by first | exact Or.inl rfl | exact Or.inr (.inl rfl) | exact Or.inr (.inr rfl)) rfl (by first | exact Or.inl rfl | exact Or.inr (.inl rfl) | exact Or.inr (.inr rfl))) (pa_cons (pe_call cW.G hr1 rfl cW.m cW.kp cW.b .nil pass0 (pa_cons (pe_call cL.G hr1 rfl cL.m cL.kp cL.b .nil pass0 (pa_cons (pv 6) pa_nil)) (pa_cons (pv 2) pa_nil))) pa_nil))))) (pss_one (ps_ret pe_bl)) pss_nil))) pss_nil)
      (Evl.pss_cut (ps_if (pt_cmpR op_eq (pv 4) pe_int (nomark _)) (pss_cons (ps_par (i := 5) (j := 7) rfl nd rfl rfl (by decide) rfl rfl (pa_cons (pe_meth0 (pv 1) AC.T.cl AC.mT AC.gT hr1 AC.bT .nil pass0) (pa_cons (pe_call cH.G hr1 rfl cH.m cH.kp cH.b .nil pass0 (pa_cons (pv 2) pa_nil)) pa_nil)) rfl)
      (pss_cons (ps_if (PW.pt (pw_or (pt_not (pt_val (pe_callg cA.G hr1 hg rfl cA.m cA.kp cA.b (pa_cons (pv 5) (pa_cons (pv 7) pa_nil))))) (pw_or1 (pt_cmpR (op_neD hu65) (pe_callTy (call_listD rfl) (by rfl) T.list (by decide +kernel) (pa_cons (pv 5) pa_nil)) (pe_callTy (call_listD rfl) (by rfl) T.list (by decide +kernel) (pa_cons (pv 7) pa_nil)) (nomark _))))) (pss_one (ps_ret pe_bl)) pss_nil)
      (pss_one (ps_dput hu1 (pv 5) pe_str pe_int rfl)))) pss_nil)
      (pss_one (ps_if (pt_cmpR op_eq (pv 4) pe_int (nomark _)) (pss_cons (ps_set (i := 8) nd rfl (by first | exact Or.inl rfl | exact Or.inr rfl) (pe_call cX.G hr3 rfl cX.m cX.kp cX.b .nil pass0 (pa_cons (pv 0) (pa_cons (pv 3) pa_nil))))
      (pss_one (ps_if (pt_not (pt_val (pe_callg cA.G hr1 hg rfl cA.m cA.kp cA.b (pa_cons (pe_callO (i := 1) (j := 8) AC.oC AC.gC hr5 AC.bC rfl (by first | exact Or.inl rfl | exact Or.inr (.inl rfl) | exact Or.inr (.inr rfl)) rfl (by first | exact Or.inl rfl | exact Or.inr (.inl rfl) | exact Or.inr (.inr rfl))) (pa_cons (pe_call cW.G hr1 rfl cW.m cW.kp cW.b .nil pass0 (pa_cons (pv 8) (pa_cons (pv 2) pa_nil))) pa_nil))))) (pss_one (ps_ret pe_bl)) pss_nil))) pss_nil))))))
      (pss_one (ps_ret pe_bl))), ?_⟩
    refine ⟨_, rfl, by show 6 ≤ sizeLine; decide, fun p hp => ?_⟩
    have n0 := same_new (o := .lst [.int 0, .int 1, .int 2, .int 3, .int 0, .int 2]) hp
    have npb := B.ne hp
    refine ⟨b, l, p, _, rfl, B.same n0, npb, upd_same, by show 6 < 1000; decide, fun ws m H1 hwp hm0 hmb h1 B1 k1 => ?_⟩
    have hws : ∀ y ∈ ws, ∃ i : Nat, y = .int (i : Int) ∧ i < 4 := fun y hy => by
      have := hwp.mem_iff.mp hy
      simp only [List.mem_cons, List.not_mem_nil, or_false] at this
      rcases this with rfl | rfl | rfl | rfl | rfl | rfl
      · exact ⟨0, rfl, by decide⟩
      · exact ⟨1, rfl, by decide⟩
      · exact ⟨2, rfl, by decide⟩
      · exact ⟨3, rfl, by decide⟩
      · exact ⟨0, rfl, by decide⟩
      · exact ⟨2, rfl, by decide⟩
    have kH1 : Kp b H H1 := (Kp.of n0).trans k1
    obtain ⟨dx, ha, he⟩ := hW
    have nab : a ≠ b := fun e' => by
      obtain ⟨o, ho⟩ := B.at_
      obtain ⟨_, _, _, _, hb, _⟩ := id B
      rw [e', hb] at ha
      cases ha
    have neb : e ≠ b := fun e' => by
      obtain ⟨_, _, _, _, hb, _⟩ := id B
      rw [e', hb] at he
      cases he
    have ndb : d ≠ b := fun e' => by
      obtain ⟨_, _, _, _, hb, _⟩ := id B
      rw [e', hb] at hd
      cases hd
    refine ⟨m, rfl, ⟨_, SqL.of h1⟩, for_list (K := K) (a := m) (xs := ws) (fun i σ G => (∃ v4 v5 v6 v7 v8, σ = [some (.ref b), some (.ref a), some (.ref d), some (.ref nm), v4, v5, v6, v7, v8, none]) ∧ Bag G b l ∧ Kp b H1 G) ⟨⟨_, _, _, _, _, rfl⟩, B1, Kp.refl _ _⟩ (fun i σ G _ ⟨_, _, kG⟩ => SqL.of (kG _ _ h1 hmb)) ?_ ?_⟩
    · rintro i y σ G hi ⟨⟨v4, v5, v6, v7, v8, rfl⟩, BG, kG⟩
      obtain ⟨wy, rfl, hwy⟩ := hws y (List.mem_of_getElem? hi)
      have stay : ∀ {G' : Hp}, Kp b H1 G' → HasW G' C a e h ∧ G' d = some (.dK (dk t)) ∧ G' nm = some (.lst (xs.map V.str)) := fun {G'} kk => ⟨⟨dx, kk _ _ (kH1 _ _ ha nab) nab, kk _ _ (kH1 _ _ he neb) neb⟩, kk _ _ (kH1 _ _ hd ndb) ndb, kk _ _ (kH1 _ _ hn nb) nb⟩
      let IV : L2.St → Hp → Prop := fun σ' G' => (∃ v5 v6 v7 v8, σ' = [some (.ref b), some (.ref a), some (.ref d), some (.ref nm), some (.int (wy : Int)), v5, v6, v7, v8, none]) ∧ Bag G' b l ∧ Kp b H1 G'
      refine ⟨IV, ?_, ?_⟩
      · -- way 0
        refine ⟨_, rfl, rfl, _, rfl, ?_⟩
        refine ite2 (fun _ => ?_) (fun _ => ⟨⟨_, _, _, _, rfl⟩, BG, kG⟩)
        obtain ⟨W0, hd0, hn0⟩ := stay kG
        have q1 : ("q" : Str) ∈ menu := by decide +kernel
        have q2 : ("zzzzzzzz" : Str) ∈ menu := by decide +kernel
        have hns : ∀ c ∈ xs ++ (["q", "zzzzzzzz"] : List Str), c ∈ menu := fun c hc => by
          rcases List.mem_append.mp hc with h | h
          · exact R.sub c h
          · simp only [List.mem_cons, List.not_mem_nil, or_false] at h
            rcases h with rfl | rfl
            · exact q1
            · exact q2
        have hll : (xs ++ (["q", "zzzzzzzz"] : List Str)).length ≤ 20 := by
          rw [List.length_append]
          have := R.le
          show _ + 2 ≤ 20
          omega
        have evs : xs.map V.str ++ [V.str "q", V.str "zzzzzzzz"] = (xs ++ (["q", "zzzzzzzz"] : List Str)).map V.str := by
          rw [List.map_append]
          rfl
        generalize hNs : xs ++ (["q", "zzzzzzzz"] : List Str) = ns at hns hll evs
        refine ⟨_, rfl, by show 2 ≤ sizeLine; decide, fun q hq => ?_⟩
        have n1 := same_new (o := .lst [V.str "q", V.str "zzzzzzzz"]) hq
        refine ⟨nm, q, _, _, rfl, rfl, n1 _ _ hn0, upd_same, by rw [List.length_map, sizeLine_eq]; have := R.le; show _ + 2 ≤ _; omega, fun r hr1' => ?_⟩
        rw [evs]
        have n2 := same_new (o := .lst (ns.map V.str)) hr1'
        have n12 := n1.trans n2
        have hr2' : (upd (upd G q (.lst [V.str "q", V.str "zzzzzzzz"])) r (.lst (ns.map V.str))) r = some (.lst (ns.map V.str)) := upd_same
        generalize upd (upd G q (.lst [V.str "q", V.str "zzzzzzzz"])) r (.lst (ns.map V.str)) = G1 at n12 hr2' ⊢
        clear n1 n2 hr1' hq
        have W1 := W0.same n12
        refine ⟨r, rfl, ⟨_, SqL.of hr2'⟩, fun D hD => ?_⟩
        refine lc_it walk_list (fun i H' => Same G1 H' ∧ H' D = some (.lst (((ns.take i).map fun c => (lookT h c).getD 1).map V.int))) ⟨same_new hD, upd_same⟩ (fun i H' _ h => SqL.of (h.1 _ _ hr2')) ?_ ?_
        · rintro i2 y H2 H3 hi2 ⟨s2, d2⟩ ⟨rfl, hy⟩
          rw [List.length_map] at hi2
          rw [List.getElem?_map, List.getElem?_eq_getElem hi2] at hy
          injection hy with hy
          subst hy
          obtain ⟨dx2, ha2, he2⟩ := W1.same s2
          refine ⟨rfl, Exists.intro _ ⟨rfl, _, rfl, a, dx2, _, rfl, ha2, a, e, h, ns[i2], rfl, ⟨dx2, ha2, he2⟩, hns _ (List.getElem_mem hi2), fun H4 s4 => ?_⟩⟩
          refine ⟨_, s4 _ _ d2, small1000 (by rw [List.length_map, List.length_map, List.length_take]; omega), fun c o hb => ?_, ?_⟩
          · rw [upd_ne (ne_of_none hb hD)]
            exact s4 _ _ (s2 _ _ hb)
          · rw [upd_same, List.take_add_one, List.getElem?_eq_getElem hi2, Option.toList_some, List.map_append, List.map_append]
            rfl
        rintro G2 ⟨s2, d2⟩
        rw [List.length_map, List.take_length] at d2
        have s02 := n12.trans s2
        refine ⟨_, rfl, _, rfl, by show 2 ≤ sizeLine; decide, fun q hq => ?_⟩
        have n1 := same_new (o := .lst [V.str "q", V.str "zzzzzzzz"]) hq
        refine ⟨nm, q, _, _, rfl, rfl, n1 _ _ (s02 _ _ hn0), upd_same, by rw [List.length_map, sizeLine_eq]; have := R.le; show _ + 2 ≤ _; omega, fun r2 hr3' => ?_⟩
        rw [evs]
        have n2 := same_new (o := .lst (ns.map V.str)) hr3'
        have n22 := n1.trans n2
        have hr4' : (upd (upd G2 q (.lst [V.str "q", V.str "zzzzzzzz"])) r2 (.lst (ns.map V.str))) r2 = some (.lst (ns.map V.str)) := upd_same
        generalize upd (upd G2 q (.lst [V.str "q", V.str "zzzzzzzz"])) r2 (.lst (ns.map V.str)) = G3 at n22 hr4' ⊢
        clear n1 n2 hr3' hq
        refine ⟨r2, rfl, ⟨_, SqL.of hr4'⟩, fun D2 hD2 => ?_⟩
        refine lc_it walk_list (fun i H' => Same G3 H' ∧ H' D2 = some (.lst (((ns.take i).map fun c => (lookT t c).getD 1).map V.int))) ⟨same_new hD2, upd_same⟩ (fun i H' _ h => SqL.of (h.1 _ _ hr4')) ?_ ?_
        · rintro i2 y H2 H3 hi2 ⟨s4, d4⟩ ⟨rfl, hy⟩
          rw [List.length_map] at hi2
          rw [List.getElem?_map, List.getElem?_eq_getElem hi2] at hy
          injection hy with hy
          subst hy
          have hd4 := s4 _ _ (n22 _ _ (s02 _ _ hd0))
          refine ⟨rfl, Exists.intro _ ⟨rfl, d, rfl, .inl ⟨_, .inl hd4⟩, _, rfl, _, .inl ⟨_, Sum.inr ns[i2], .inl hd4, rfl, rfl⟩, ?_⟩⟩
          rw [val_dk, get_int]
          refine ⟨_, d4, small1000 (by rw [List.length_map, List.length_map, List.length_take]; omega), fun c o hb => ?_, ?_⟩
          · rw [upd_ne (ne_of_none hb hD2)]
            exact s4 _ _ hb
          · rw [upd_same, List.take_add_one, List.getElem?_eq_getElem hi2, Option.toList_some, List.map_append, List.map_append]
            rfl
        rintro G4 ⟨s4, d4⟩
        rw [List.length_map, List.take_length] at d4
        have s24 := n22.trans s4
        have ev : (ns.map fun c => (lookT h c).getD 1) = ns.map fun c => (lookT t c).getD 1 := List.map_congr_left fun c _ => W.get c
        rw [ev] at d2
        refine .inl ⟨_, _, _, rfl, .lst (SqL.of (s24 _ _ d2)) (dp_ints _), .lst (SqL.of d4) (dp_ints _), dok_ints (fun n hn' => ?_) (by rw [List.length_map]; omega), ?_⟩
        · obtain ⟨c, _, rfl⟩ := List.mem_map.mp hn'
          exact get_abs W.gt c
        refine ⟨_, rfl, ?_⟩
        refine iteF ?_
        have s04 := s02.trans s24
        exact ⟨⟨_, _, _, _, rfl⟩, BG.same s04, kG.trans (Kp.of s04)⟩
      · rintro σ1 G1 ⟨⟨v5, v6, v7, v8, rfl⟩, B2, k2⟩
        refine ⟨IV, ?_, ?_⟩
        · refine ⟨_, rfl, rfl, _, rfl, ?_⟩
          refine ite2 (fun _ => ?_) (fun _ => ⟨⟨_, _, _, _, rfl⟩, B2, k2⟩)
          obtain ⟨W0, hd0, hn0⟩ := stay k2
          refine ⟨_, rfl, _, rfl, b, l, nm, xs, rfl, B2, nb, hn0, R, fun q cols e' G2 hq qok B3 k3 => ?_⟩
          have k13 := k2.trans k3
          obtain ⟨⟨dx2, ha2, he2⟩, hd2, hn2⟩ := stay k13
          have Z := qok.qz R
          have rl : (rowC cols e').length ≤ 40 := by
            have hz := Z.le
            unfold rowC
            by_cases h0 : e' = ""
            · rw [if_pos h0] at hz ⊢
              omega
            · rw [if_neg h0] at hz
              rw [if_neg h0, List.length_append]
              show cols.length + 1 ≤ 40
              omega
          have rm : ∀ c ∈ rowC cols e', c ∈ menu := fun c hc => by
            unfold rowC at hc
            by_cases h0 : e' = ""
            · rw [if_pos h0] at hc
              exact R.sub _ (qok.sub c hc)
            · rw [if_neg h0] at hc
              rcases List.mem_append.mp hc with hc | hc
              · exact R.sub _ (qok.sub c hc)
              · rw [List.mem_singleton.mp hc]
                exact R.sub _ (qok.esub.resolve_left h0)
          refine ⟨a, dx2, _, _, rfl, ha2, rfl, a, e, q, h, rowC cols e', rfl, ⟨dx2, ha2, he2⟩, .inl ⟨cols, e', hq, Z, rfl⟩, rm, rl, fun G3 s3 => ?_⟩
          refine ⟨_, rfl, q, cols, e', rfl, hq.same s3, Z, fun p2 ys G4 hp4 s4 hpl => ?_⟩
          refine ⟨_, rfl, p2, d, ys, t, rfl, .inl hpl, s4 _ _ (s3 _ _ hd2), by rw [hp4.length_eq]; exact rl, fun G5 s5 => ?_⟩
          refine .inl ⟨_, _, .int (wsum h (rowC cols e')), rfl, .int _, ?_, wsum_dok W.gh rl, ?_⟩
          · rw [W.sum hp4]
            exact .int _
          refine ⟨_, rfl, ?_⟩
          refine iteF ?_
          have s35 := s3.trans (s4.trans s5)
          exact ⟨⟨_, _, _, _, rfl⟩, B3.same s35, k13.trans (Kp.of s35)⟩
        · rintro σ1 G1 ⟨⟨v5, v6, v7, v8, rfl⟩, B2, k2⟩
          refine ⟨IV, ?_, ?_⟩
          · refine ⟨_, rfl, rfl, _, rfl, ?_⟩
            refine ite2 (fun _ => ?_) (fun _ => ⟨⟨_, _, _, _, rfl⟩, B2, k2⟩)
            obtain ⟨⟨dx2, ha2, he2⟩, hd0, hn0⟩ := stay k2
            refine ⟨_, rfl, a, dx2, _, rfl, ha2, rfl, a, e, h, rfl, ⟨dx2, ha2, he2⟩, W.gh, fun p1 ys G2 hy1 hy2 s2 np1 hp1 => ?_⟩
            refine ⟨_, rfl, d, t, rfl, s2 _ _ hd0, W.gt, fun p2 zs G3 hz1 hz2 s3 np2 hp2 => ?_⟩
            rw [← W.tab hy1 hy2 hz1 hz2] at hp2
            have gg : GoodT (tabOf h ys) := by
              have ndy : ys.Nodup := hy1.nodup_iff.mpr W.gh.nd
              refine ⟨tabOf_nd ndy, fun p hp => ?_, fun p hp => ?_⟩
              · obtain ⟨n, hn', rfl⟩ := List.mem_map.mp hp
                obtain ⟨x, hx⟩ := mem_keysT.mp (hy1.mem_iff.mp hn')
                exact W.gh.sub (n, x) (lookT_mem hx)
              · obtain ⟨n, _, rfl⟩ := List.mem_map.mp hp
                exact get_bound W.gh n
            have hp1' := s3 _ _ hp1
            refine ⟨_, _, rfl, ?_⟩
            refine ⟨_, rfl, _, rfl, .inr ⟨p1, p2, tabOf h ys, rfl, hp1', hp2, gg, ?_⟩⟩
            refine ⟨_, rfl, ?_⟩
            refine iteF ?_
            have ekeys : ((dk (tabOf h ys)).map fun kv => kV kv.1) = ys.map V.str := by
              have h1 := keys_dk (tabOf h ys)
              rw [keys_tabOf] at h1
              rw [show ((dk (tabOf h ys)).map fun kv => kV kv.1) = ((dk (tabOf h ys)).map (·.1)).map kV from by rw [List.map_map]; rfl, h1, List.map_map]
              rfl
            have ly : ys.length ≤ 40 := by
              have := hy1.length_eq
              have e1 : (keysT h).length = h.length := List.length_map _
              have := W.gh.len
              omega
            have oky : ∀ c ∈ ys, okS c = true := fun c hc => by
              obtain ⟨x, hx⟩ := mem_keysT.mp (hy1.mem_iff.mp hc)
              exact menu_okS _ (W.gh.sub (c, x) (lookT_mem hx))
            have dko : DOk (.list (ys.map PyData.str)) := ⟨fine_strs oky, by show PyData.depthAll _ + 1 ≤ 50; rw [depth_strs]; decide, by show costAll _ + 3 ≤ _; rw [cost_strs]; omega⟩
            refine ⟨_, rfl, p1, _, rfl, .inl hp1', fun l1 hl1 => ?_⟩
            rw [ekeys]
            have n1 := same_new (o := .lst (ys.map V.str)) hl1
            refine ⟨_, rfl, p2, _, rfl, .inl (n1 _ _ hp2), fun l2 hl2 => ?_⟩
            rw [ekeys]
            have n2 := same_new (o := .lst (ys.map V.str)) hl2
            refine ⟨.list (ys.map PyData.str), .list (ys.map PyData.str), .lst (SqL.of (n2 _ _ upd_same)) (dp_strs _), .lst (SqL.of upd_same) (dp_strs _), dko.shaped, dko.shaped, _, rfl, ?_⟩
            rw [SeqAt.eqv_refl _ (fine_lay _ dko.f).1]
            refine iteF ?_
            have sA := s2.trans (s3.trans (n1.trans n2))
            have hpA := n2 _ _ (n1 _ _ hp1')
            have np1b : p1 ≠ b := B2.ne np1
            refine ⟨_, rfl, p1, _, rfl, .inl ⟨_, Sum.inr "later", hpA, rfl, ?_, rfl⟩, ⟨⟨_, _, _, _, rfl⟩, (B2.same sA).upd np1b.symm (B2.nel np1), fun c o hc ncb => ?_⟩⟩
            · unfold dk tabOf
              rw [List.length_map, List.length_map, sizeLine_eq]
              omega
            · rw [upd_ne (ne_of_none (k2 _ _ hc ncb) np1)]
              exact sA _ _ (k2 _ _ hc ncb)
          · rintro σ1 G1 ⟨⟨v5, v6, v7, v8, rfl⟩, B2, k2⟩
            refine ⟨_, rfl, rfl, _, rfl, ?_⟩
            refine ite2 (fun _ => ?_) (fun _ => ⟨⟨_, _, _, _, _, rfl⟩, B2, k2⟩)
            obtain ⟨W0, hd0, hn0⟩ := stay k2
            refine ⟨_, rfl, _, rfl, b, l, nm, xs, rfl, B2, nb, hn0, R, fun q ys G2 hq Ry hsub B3 k3 => ?_⟩
            have k13 := k2.trans k3
            obtain ⟨⟨dx2, ha2, he2⟩, hd2, hn2⟩ := stay k13
            have rl : ys.length ≤ 40 := by
              have := Ry.le
              omega
            refine ⟨a, dx2, _, _, rfl, ha2, rfl, a, e, q, h, ys, rfl, ⟨dx2, ha2, he2⟩, .inr ⟨hq, List.ne_nil_of_length_pos Ry.pos, rl⟩, fun c hc => R.sub _ (hsub c hc), rl, fun G3 s3 => ?_⟩
            refine ⟨_, rfl, _, rfl, q, d, ys, t, rfl, .inr (s3 _ _ hq), s3 _ _ hd2, rl, fun G5 s5 => ?_⟩
            refine .inl ⟨_, _, .int (wsum h ys), rfl, .int _, ?_, wsum_dok W.gh rl, ?_⟩
            · rw [W.sum (List.Perm.refl ys)]
              exact .int _
            refine ⟨_, rfl, ?_⟩
            refine iteF ?_
            have s35 := s3.trans s5
            exact ⟨⟨_, _, _, _, _, rfl⟩, B3.same s35, k13.trans (Kp.of s35)⟩
    · rintro σ G ⟨⟨v4, v5, v6, v7, v8, rfl⟩, BG, kG⟩
      exact k G BG (kH1.trans kG)
end
end Qk
set_option maxRecDepth 100000
set_option maxHeartbeats 4000000
namespace Qk
open PySem PySem.Spec PyProof.Rows L2
section
variable {P : Program} {w : World} {K : PySem.W.Frag} {mg : Str → Option Value} {base : Heap}
abbrev nLaw : List Str := ["_law_script", "_law_bag_here", "_law_names_here", "_law_tables", "_law_some", "_law_table_here", "_law_given", "_law_turn", "_law_at", "_law_name", "_law_number", "_law_k", "_law_same", "_law_found"]
theorem scLaw : FnScope nLaw ["_law_script"] (defScope sLaw) := ⟨rfl, rfl, rfl, by decide +kernel, rfl, by decide +kernel, by decide +kernel⟩
def spLaw (K : PySem.W.Frag) : Sp := fun vs H Q _ => ∃ (a : Addr) (ns : List Int), vs = [.ref a] ∧ SqL K H a (ns.map V.int) ∧ ns.length ≤ 63 ∧ ∀ H', Q (.bl true) H'
theorem keys_vals (t : List (Str × Int)) : ((dk t).map fun kv => kV kv.1) = (keysT t).map V.str := by
  rw [show ((dk t).map fun kv => kV kv.1) = ((dk t).map (·.1)).map kV from by rw [List.map_map]; rfl, keys_dk, List.map_map]
  rfl
theorem keys_dok {t : List (Str × Int)} (g : GoodT t) : DOk (.list ((keysT t).map PyData.str)) := by
  have e1 : (keysT t).length = t.length := List.length_map _
  have := g.len
  exact ⟨fine_strs fun c hc => by
    obtain ⟨p, hp, rfl⟩ := List.mem_map.mp hc
    exact menu_okS _ (g.sub p hp), by show PyData.depthAll _ + 1 ≤ 50; rw [depth_strs]; decide, by show costAll _ + 3 ≤ _; rw [cost_strs]; omega⟩
def bd (bs : List Bool) : PyData := .list (bs.map PyData.bool)
theorem fine_bools : ∀ bs : List Bool, fineAll (bs.map PyData.bool) = true
  | [] => rfl
  | b :: bs => by
    show (fine (.bool b) && fineAll (bs.map PyData.bool)) = true
    rw [fine_bools bs]
    rfl
theorem cost_bools : ∀ bs : List Bool, costAll (bs.map PyData.bool) ≤ 100 * bs.length
  | [] => Nat.le_refl 0
  | b :: bs => by
    have := cost_bools bs
    have e : cost (.bool b) ≤ 98 := by cases b <;> decide
    show cost (.bool b) + 2 + costAll (bs.map PyData.bool) ≤ 100 * (bs.length + 1)
    omega
theorem depth_bools : ∀ bs : List Bool, PyData.depthAll (bs.map PyData.bool) = 0
  | [] => rfl
  | b :: bs => by
    show max (PyData.depth (.bool b)) (PyData.depthAll (bs.map PyData.bool)) = 0
    rw [depth_bools bs]
    rfl
theorem dok_bd {bs : List Bool} (h : bs.length ≤ 6) : DOk (bd bs) := by
  have := cost_bools bs
  exact ⟨fine_bools bs, by show PyData.depthAll _ + 1 ≤ 50; rw [depth_bools]; decide, by show costAll _ + 3 ≤ _; omega⟩
theorem dp_bools {H : Hp} : ∀ bs : List Bool, DpAll K H (bs.map V.bl) (bs.map PyData.bool)
  | [] => .nil
  | b :: bs => .cons (.bl b) (dp_bools bs)
theorem pairAt (f : Nat → Addr) {i : Nat} (h : i < 2) : [V.ref (f 0), V.ref (f 1)][i]? = some (V.ref (f i)) := by
  have : i = 0 ∨ i = 1 := by omega
  rcases this with rfl | rfl <;> rfl
theorem pairSet (f : Nat → Addr) (x : Addr) {j : Nat} (h : j < 2) : [V.ref (f 0), V.ref (f 1)].set j (V.ref x) = [V.ref (if 0 = j then x else f 0), V.ref (if 1 = j then x else f 1)] := by
  have : j = 0 ∨ j = 1 := by omega
  rcases this with rfl | rfl <;> rfl
/-- two weights beside two tables of the law's own -/
structure StW (C b l sm tb nm : Addr) (xs : List Str) (H : Hp) (wv ev tv : Nat → Addr) (hs ts : Nat → List (Str × Int)) : Prop where
  bag : Bag H b l
  hn : H nm = some (.lst (xs.map V.str))
  hsm : H sm = some (.lst [.ref (wv 0), .ref (wv 1)])
  htb : H tb = some (.lst [.ref (tv 0), .ref (tv 1)])
  w : ∀ i, i < 2 → HasW H C (wv i) (ev i) (hs i)
  t : ∀ i, i < 2 → H (tv i) = some (.dK (dk (ts i)))
  r : ∀ i, i < 2 → WtR (ts i) (hs i)
  de : ev 0 ≠ ev 1
  dt : tv 0 ≠ tv 1
  dx : ∀ i j, i < 2 → j < 2 → ev i ≠ tv j
  nb : nm ≠ b ∧ sm ≠ b ∧ tb ≠ b ∧ sm ≠ l ∧ tb ≠ l
  nl : sm ≠ tb ∧ nm ≠ sm ∧ nm ≠ tb
theorem Bag.lst {H : Hp} {b l : Addr} (B : Bag H b l) : (∃ xs, H b = some (.lst xs)) ∧ ∃ xs, H l = some (.lst xs) := by
  obtain ⟨h, m, p, ns, hb, hl, _⟩ := B
  exact ⟨⟨_, hb⟩, ⟨_, hl⟩⟩
section
variable {C b l sm tb nm : Addr} {xs : List Str} {H H' : Hp} {wv ev tv : Nat → Addr} {hs ts : Nat → List (Str × Int)}
theorem StW.kp (S : StW C b l sm tb nm xs H wv ev tv hs ts) (B : Bag H' b l) (k : Kp b H H') : StW C b l sm tb nm xs H' wv ev tv hs ts := by
  obtain ⟨⟨xb, hb⟩, _⟩ := S.bag.lst
  refine ⟨B, k _ _ S.hn S.nb.1, k _ _ S.hsm S.nb.2.1, k _ _ S.htb S.nb.2.2.1, fun i hi => ?_, fun i hi => ?_, S.r, S.de, S.dt, S.dx, S.nb, S.nl⟩
  · obtain ⟨dx, h1, h2⟩ := S.w i hi
    have n1 : wv i ≠ b := fun e => by
      rw [e, hb] at h1
      cases h1
    have n2 : ev i ≠ b := fun e => by
      rw [e, hb] at h2
      cases h2
    exact ⟨dx, k _ _ h1 n1, k _ _ h2 n2⟩
  · have h1 := S.t i hi
    have n1 : tv i ≠ b := fun e => by
      rw [e, hb] at h1
      cases h1
    exact k _ _ h1 n1
/-- two of the dicts written -/
theorem StW.set (S : StW C b l sm tb nm xs H wv ev tv hs ts) {j : Nat} (hj : j < 2) {h' t' : List (Str × Int)} (r : WtR t' h') : StW C b l sm tb nm xs (upd (upd H (ev j) (.dK (dk h'))) (tv j) (.dK (dk t'))) wv ev tv (fun i => if i = j then h' else hs i) (fun i => if i = j then t' else ts i) := by
  obtain ⟨⟨xb, hb⟩, ⟨xl, hl⟩⟩ := S.bag.lst
  obtain ⟨dx, e1, e2⟩ := S.w j hj
  have e3 := S.t j hj
  have nE : ∀ {c : Addr} {ys : List V}, H c = some (.lst ys) → c ≠ ev j := fun {c ys} h e => by rw [e, e2] at h; cases h
  have nT : ∀ {c : Addr} {ys : List V}, H c = some (.lst ys) → c ≠ tv j := fun {c ys} h e => by rw [e, e3] at h; cases h
  have nE2 : ∀ {c dx : Addr} {fs : List (Str × V)}, H c = some (.ins C dx fs) → c ≠ ev j ∧ c ≠ tv j := fun {c dx fs} h => ⟨fun e => (by rw [e, e2] at h; cases h), fun e => (by rw [e, e3] at h; cases h)⟩
  have L : ∀ {c : Addr} {ys : List V}, H c = some (.lst ys) → (upd (upd H (ev j) (.dK (dk h'))) (tv j) (.dK (dk t'))) c = some (.lst ys) := fun {c ys} h => by
    rw [upd_ne (nT h), upd_ne (nE h)]
    exact h
  have ij : ∀ i, i < 2 → i ≠ j → ev i ≠ ev j ∧ tv i ≠ tv j := fun i hi hne => by
    have : (i = 0 ∧ j = 1) ∨ (i = 1 ∧ j = 0) := by omega
    rcases this with ⟨rfl, rfl⟩ | ⟨rfl, rfl⟩
    · exact ⟨S.de, S.dt⟩
    · exact ⟨S.de.symm, S.dt.symm⟩
  refine ⟨(S.bag.upd (nE hb) (nE hl)).upd (nT hb) (nT hl), L S.hn, L S.hsm, L S.htb, fun i hi => ?_, fun i hi => ?_, fun i hi => ?_, S.de, S.dt, S.dx, S.nb, S.nl⟩
  · obtain ⟨dy, f1, f2⟩ := S.w i hi
    obtain ⟨g1, g2⟩ := nE2 f1
    refine ⟨dy, by rw [upd_ne g2, upd_ne g1]; exact f1, ?_⟩
    rw [upd_ne (S.dx i j hi hj)]
    by_cases e : i = j
    · subst e
      rw [upd_same, if_pos rfl]
    · rw [upd_ne (ij i hi e).1, if_neg e]
      exact f2
  · by_cases e : i = j
    · subst e
      rw [upd_same, if_pos rfl]
    · rw [upd_ne (ij i hi e).2, upd_ne (S.dx j i hj hi).symm, if_neg e]
      exact S.t i hi
  · by_cases e : i = j
    · rw [if_pos e, if_pos e]
      exact r
    · rw [if_neg e, if_neg e]
      exact S.r i hi
/-- one weights and its table taken anew -/
theorem StW.renew (S : StW C b l sm tb nm xs H wv ev tv hs ts) (s : Same H H') {j : Nat} (hj : j < 2) {x e d : Addr} {h' t' : List (Str × Int)} (hx : HasW H' C x e h') (hd : H' d = some (.dK (dk t'))) (ne : H e = none) (nd : H d = none) (ned : e ≠ d) (r : WtR t' h') :
    StW C b l sm tb nm xs (upd (upd H' sm (.lst [.ref (if 0 = j then x else wv 0), .ref (if 1 = j then x else wv 1)])) tb (.lst [.ref (if 0 = j then d else tv 0), .ref (if 1 = j then d else tv 1)])) (fun i => if i = j then x else wv i) (fun i => if i = j then e else ev i) (fun i => if i = j then d else tv i) (fun i => if i = j then h' else hs i) (fun i => if i = j then t' else ts i) := by
  have B := S.bag.same s
  obtain ⟨n1, n2, n3, n4, n5⟩ := S.nb
  obtain ⟨m1, m2, m3⟩ := S.nl
  have hsm := s _ _ S.hsm
  have htb := s _ _ S.htb
  have K1 : ∀ {c : Addr} {o : HO}, H' c = some o → (∀ ys, o ≠ .lst ys) → (upd (upd H' sm (.lst [.ref (if 0 = j then x else wv 0), .ref (if 1 = j then x else wv 1)])) tb (.lst [.ref (if 0 = j then d else tv 0), .ref (if 1 = j then d else tv 1)])) c = some o := fun {c o} h no => by
    have c1 : c ≠ tb := fun ec => by
      rw [ec, htb] at h
      exact no _ (Option.some.inj h).symm
    have c2 : c ≠ sm := fun ec => by
      rw [ec, hsm] at h
      exact no _ (Option.some.inj h).symm
    rw [upd_ne c1, upd_ne c2]
    exact h
  have old : ∀ {c : Addr} {o : HO}, H c = some o → c ≠ e ∧ c ≠ d := fun {c o} h => ⟨ne_of_none h ne, ne_of_none h nd⟩
  have evO : ∀ i, i < 2 → ev i ≠ e ∧ ev i ≠ d := fun i hi => by
    obtain ⟨_, _, h2⟩ := S.w i hi
    exact old h2
  have tvO : ∀ i, i < 2 → tv i ≠ e ∧ tv i ≠ d := fun i hi => old (S.t i hi)
  refine ⟨(B.upd n2.symm n4.symm).upd n3.symm n5.symm, by rw [upd_ne m3, upd_ne m2]; exact s _ _ S.hn, by rw [upd_ne m1, upd_same], upd_same, fun i hi => ?_, fun i hi => ?_, fun i hi => ?_, ?_, ?_, fun i k hi hk => ?_, S.nb, S.nl⟩
  · by_cases ei : i = j
    · subst ei
      rw [if_pos rfl, if_pos rfl, if_pos rfl]
      obtain ⟨dx, g1, g2⟩ := hx
      exact ⟨dx, K1 g1 fun ys h => (nomatch h), K1 g2 fun ys h => (nomatch h)⟩
    · rw [if_neg ei, if_neg ei, if_neg ei]
      obtain ⟨dx, g1, g2⟩ := (S.w i hi).same s
      exact ⟨dx, K1 g1 fun ys h => (nomatch h), K1 g2 fun ys h => (nomatch h)⟩
  · by_cases ei : i = j
    · subst ei
      rw [if_pos rfl, if_pos rfl]
      exact K1 hd fun ys h => (nomatch h)
    · rw [if_neg ei, if_neg ei]
      exact K1 (s _ _ (S.t i hi)) fun ys h => (nomatch h)
  · by_cases ei : i = j
    · rw [if_pos ei, if_pos ei]
      exact r
    · rw [if_neg ei, if_neg ei]
      exact S.r i hi
  · have : j = 0 ∨ j = 1 := by omega
    rcases this with rfl | rfl
    · exact (evO 1 (by decide)).1.symm
    · exact (evO 0 (by decide)).1
  · have : j = 0 ∨ j = 1 := by omega
    rcases this with rfl | rfl
    · exact (tvO 1 (by decide)).2.symm
    · exact (tvO 0 (by decide)).2
  · show (if i = j then e else ev i) ≠ (if k = j then d else tv k)
    by_cases ei : i = j
    · rw [if_pos ei]
      by_cases ek : k = j
      · rw [if_pos ek]
        exact ned
      · rw [if_neg ek]
        exact (tvO k hk).1.symm
    · rw [if_neg ei]
      by_cases ek : k = j
      · rw [if_pos ek]
        exact (evO i hi).2
      · rw [if_neg ek]
        exact S.dx i k hi hk
end
theorem look_told {t h : List (Str × Int)} {zs : List Str} (r : WtR t h) (h3 : zs.Perm (keysT t)) (n : Str) : lookT (tabOf t (zs.filter fun k => decide (lookT t k ≠ some 1))) n = lookT h n := by
  rw [look_tabOf, r.lk]
  have hm : (n ∈ zs.filter fun k => decide (lookT t k ≠ some 1)) ↔ ∃ x, lookT t n = some x ∧ x ≠ 1 := by
    rw [List.mem_filter, decide_eq_true_iff, h3.mem_iff, mem_keysT]
    exact ⟨fun ⟨⟨x, hx⟩, h1⟩ => ⟨x, hx, fun e => h1 (by rw [hx, e])⟩, fun ⟨x, hx, h1⟩ => ⟨⟨x, hx⟩, fun e => h1 (by rw [hx] at e; exact Option.some.inj e)⟩⟩
  by_cases c : n ∈ zs.filter fun k => decide (lookT t k ≠ some 1)
  · obtain ⟨x, hx, h1⟩ := hm.mp c
    rw [if_pos c, hx, Option.filter_some, if_pos (by simp [h1])]
    rfl
  · rw [if_neg c]
    cases hx : lookT t n with
    | none => rfl
    | some x =>
      by_cases e : x = 1
      · rw [Option.filter_some, if_neg (by simp [e])]
      · exact absurd (hm.mpr ⟨x, hx, e⟩) c
theorem ok_law {f C : Addr} {fd : FuncData} (F : Fun K "law" "law" sLaw f fd) (T : Txt K mg) (AC : WCl P w K mg base C) (cB : Cal P w K mg base 1 "_law_bag" ["_law_script"] (spBag K)) (cT : Cal P w K mg base 1 "_law_take" ["_law_bag_here", "_law_many"] spTake) (c1 : Cal P w K mg base 2 "_law_one" ["_law_bag_here", "_law_some"] spOne)
    (cM : Cal P w K mg base 2 "_law_mixed" ["_law_bag_here", "_law_things"] spMixed) (cN : Cal P w K mg base 3 "_law_names" ["_law_bag_here", "_law_many"] spNames) (cTb : Cal P w K mg base 3 "_law_table" ["_law_bag_here", "_law_names_here"] spTable) (cH : Cal P w K mg base 1 "_law_heavy_ones" ["_law_table_here"] spHeavy)
    (cR : CalG P w K mg base 6 "_law_right" ["_law_bag_here", "_law_heavy", "_law_table_here", "_law_names_here"] (spRight C)) : FnG P w K mg base 7 f fd ["_law_script"] (spLaw K) := by
  refine okG F scLaw (fun vs H Q E h => ?_) (fun cdv AA outer s H vs Q E hr hg h => ?_)
  · obtain ⟨a, ns, rfl, _⟩ := h
    rfl
  · obtain ⟨a, ns, rfl, hS, hlen, k⟩ := h
    have nd := scLaw.nd
    have hr1 : Room 1 _ := hr.mono (by decide)
    have hr2 : Room 2 _ := hr.mono (by decide)
    have hr3 : Room 3 _ := hr.mono (by decide)
    have hr4 : Room 4 _ := hr.mono (by decide)
    have hr5 : Room 5 _ := hr.mono (by decide)
    have hr6 : Room 6 _ := hr.mono (by decide)
    have ee : (AA.deeper (envOfC "law" (defScope sLaw) s.heap.objs.size f cdv)).units = AA.units + 3 := rfl
    have hu0 : AA.units + 3 < cLine := by
      have := hr.un
      omega
    have hu1 : AA.units + 3 + 1 < cLine := by
      have := hr.un
      omega
    have hu65 : AA.units + 3 + 64 < cLine := by
      have := hr.un
      omega
    refine ⟨_, (pss_cons (ps_set (i := 1) nd rfl (by first | exact Or.inl rfl | exact Or.inr rfl) (pe_call cB.G hr1 rfl cB.m cB.kp cB.b .nil pass0 (pa_cons (pv 0) pa_nil))) (pss_cons (ps_set (i := 2) nd rfl (by first | exact Or.inl rfl | exact Or.inr rfl) (pe_call cN.G hr3 rfl cN.m cN.kp cN.b .nil pass0 (pa_cons (pv 1) (pa_cons (pe_op op_add pe_int (pe_call cT.G hr1 rfl cT.m cT.kp cT.b .nil pass0 (pa_cons (pv 1) (pa_cons pe_int pa_nil)))) pa_nil)))) (pss_cons (ps_par (i := 3) (j := 4) rfl nd rfl rfl (by decide) rfl rfl (pa_cons (pe_lst (pa_cons (pe_call cTb.G hr3 rfl cTb.m cTb.kp cTb.b .nil pass0 (pa_cons (pv 1) (pa_cons (pv 2) pa_nil))) (pa_cons (pe_call cTb.G hr3 rfl cTb.m cTb.kp cTb.b .nil pass0 (pa_cons (pv 1) (pa_cons (pv 2) pa_nil))) pa_nil))) (pa_cons (pe_lst pa_nil) pa_nil)) rfl) (pss_cons (ps_for PassesOwn.never rfl (pi_list (pv 3)) (pg_name (i := 5) nd rfl (by first | exact Or.inl rfl | exact Or.inr rfl)) (pss_cons (ps_set (i := 6) nd rfl (by first | exact Or.inl rfl | exact Or.inr rfl) (pe_callTy call_dictD (by rfl) T.dict (by decide +kernel) (pa_cons (pv 5) pa_nil)))
      (pss_cons (ps_expr (pe_bm PySem.F.plainAttrs_list PySem.F.slot_list_append PySem.F.type_list_append mt_append (pv 4) (pa_cons (pe_make AC.mkK AC.gI hr4 rfl AC.T.mgC AC.bI .nil pass0 (pa_cons (pv 6) pa_nil)) pa_nil)))
      (pss_cons (ps_if (PW.pt (pw_or (pt_cmpR (op_neTB hu0) (pv 6) (pv 5) (nomark _)) (pw_or1 (pt_cmpR (op_neD hu65) (pe_callTy (call_listD rfl) (by rfl) T.list (by decide +kernel) (pa_cons (pv 6) pa_nil)) (pe_callTy (call_listD rfl) (by rfl) T.list (by decide +kernel) (pa_cons (pv 5) pa_nil)) (nomark _))))) (pss_one (ps_ret pe_bl)) pss_nil)
      (pss_one (ps_expr (pe_dclear (pv 6))))))))
 (pss_cons (ps_for PassesOwn.never rfl (pi_range1 (by rfl) T.range (pa_cons (pe_op op_add pe_int (pe_call cT.G hr1 rfl cT.m cT.kp cT.b .nil pass0 (pa_cons (pv 1) (pa_cons pe_int pa_nil)))) pa_nil)) (pg_name (i := 7) nd rfl (by first | exact Or.inl rfl | exact Or.inr rfl)) (pss_cons (ps_par (i := 8) (j := 9) rfl nd rfl rfl (by decide) rfl rfl (pa_cons (pe_call cT.G hr1 rfl cT.m cT.kp cT.b .nil pass0 (pa_cons (pv 1) (pa_cons pe_int pa_nil))) (pa_cons (pe_call c1.G hr2 rfl c1.m c1.kp c1.b .nil pass0 (pa_cons (pv 1) (pa_cons (pv 2) pa_nil))) pa_nil)) rfl)
      (Evl.pss_cut (ps_if (pt_cmpR op_eq (pe_call cT.G hr1 rfl cT.m cT.kp cT.b .nil pass0 (pa_cons (pv 1) (pa_cons pe_int pa_nil))) pe_int (nomark _)) (pss_one (ps_asg (pe_tup (pa_cons (pe_meth0 (pe_ix ix_list (pv 4) (pv 8) fun _ _ => rfl) AC.T.cl AC.mY AC.gY hr5 AC.bY .nil pass0) (pa_cons (pe_callTy call_dictD (by rfl) T.dict (by decide +kernel) (pa_cons (pe_ix ix_list (pv 3) (pv 8) fun _ _ => rfl) pa_nil)) pa_nil))) (pg_tup (by rfl) (pgs_cons (pg_sub (pv 4) (pe_op op_sub pe_int (pv 8)) set_list) (pgs_cons (pg_sub (pv 3) (pe_op op_sub pe_int (pv 8)) set_list) pgs_nil))))) pss_nil)
      (pss_cons (ps_set (i := 10) nd rfl (by first | exact Or.inl rfl | exact Or.inr rfl) (pe_call c1.G hr2 rfl c1.m c1.kp c1.b .nil pass0 (pa_cons (pv 1) (pa_cons (pe_lst (pa_cons pe_int (pa_cons pe_int (pa_cons pe_int (pa_cons pe_int (pa_cons pe_p30 (pa_cons (pe_op op_sub pe_p30 pe_int) (pa_cons (pe_op op_add pe_int (pe_call cT.G hr1 rfl cT.m cT.kp cT.b .nil pass0 (pa_cons (pv 1) (pa_cons pe_int pa_nil)))) pa_nil)))))))) pa_nil))))
      (pss_cons (ps_asg (pv 10) (pg_sub (pe_ix ix_list (pv 4) (pv 8) fun _ _ => rfl) (pv 9) (set_own AC.oS AC.gS hr4 AC.bS)))
      (pss_cons (ps_dput hu1 (pe_ix ix_list (pv 3) (pv 8) fun _ _ => rfl) (pv 9) (pv 10) rfl)
      (pss_cons (ps_for PassesOwn.never rfl (pi_list (pe_call cM.G hr2 rfl cM.m cM.kp cM.b .nil pass0 (pa_cons (pv 1) (pa_cons (pe_lst (pa_cons pe_int (pa_cons pe_int pa_nil))) pa_nil)))) (pg_name (i := 11) nd rfl (by first | exact Or.inl rfl | exact Or.inr rfl)) (pss_one (ps_if (pt_not (pt_val (pe_callg cR.G hr6 hg rfl cR.m cR.kp cR.b (pa_cons (pv 1) (pa_cons (pe_ix ix_list (pv 4) (pv 11) fun _ _ => rfl) (pa_cons (pe_ix ix_list (pv 3) (pv 11) fun _ _ => rfl) (pa_cons (pv 2) pa_nil))))))) (pss_one (ps_ret pe_bl)) pss_nil)))
      (pss_cons (ps_set (i := 12) nd rfl (by first | exact Or.inl rfl | exact Or.inr rfl) (pe_cmpR (op_eqTB hu0) (pe_call cH.G hr1 rfl cH.m cH.kp cH.b .nil pass0 (pa_cons (pe_ix ix_list (pv 3) pe_int fun _ _ => rfl) pa_nil)) (pe_call cH.G hr1 rfl cH.m cH.kp cH.b .nil pass0 (pa_cons (pe_ix ix_list (pv 3) pe_int fun _ _ => rfl) pa_nil)) (nomark _)))
      (pss_one (ps_if (pt_cmpR op_ne (pe_callB (call_reprD hg hu65) (by rfl) T.repr (by decide +kernel) (pa_cons (pe_lst (pa_cons (pe_cmpR (op_eqO AC.oE AC.gE hr1 AC.bE) (pe_ix ix_list (pv 4) pe_int fun _ _ => rfl) (pe_ix ix_list (pv 4) pe_int fun _ _ => rfl) (nomark _)) (pa_cons (pe_cmpR (op_eqO AC.oE AC.gE hr1 AC.bE) (pe_ix ix_list (pv 4) pe_int fun _ _ => rfl) (pe_ix ix_list (pv 4) pe_int fun _ _ => rfl) (nomark _)) (pa_cons (pe_cmpR (op_neO AC.oE AC.gE hr2 AC.bE) (pe_ix ix_list (pv 4) pe_int fun _ _ => rfl) (pe_ix ix_list (pv 4) pe_int fun _ _ => rfl) (nomark _)) pa_nil)))) pa_nil)) (pe_callB (call_reprD hg hu65) (by rfl) T.repr (by decide +kernel) (pa_cons (pe_lst (pa_cons (pv 12) (pa_cons (pv 12) (pa_cons (pe_not (pv 12)) pa_nil)))) pa_nil)) (nomark _)) (pss_one (ps_ret pe_bl)) pss_nil))))))))))
 (pss_cons (ps_set (i := 13) nd rfl (by first | exact Or.inl rfl | exact Or.inr rfl) (pe_lst (pa_cons (pe_cmpR (op_eqO AC.oE AC.gE hr1 AC.bE) (pe_ix ix_list (pv 4) pe_int fun _ _ => rfl) (pe_meth0 (pe_ix ix_list (pv 4) pe_int fun _ _ => rfl) AC.T.cl AC.mY AC.gY hr5 AC.bY .nil pass0) (nomark _)) (pa_cons (pe_cmpR (op_eqO AC.oE AC.gE hr1 AC.bE) (pe_ix ix_list (pv 4) pe_int fun _ _ => rfl) (pe_ix ix_list (pv 3) pe_int fun _ _ => rfl) (nomark _)) (pa_cons (pe_cmpR (op_eqO AC.oE AC.gE hr1 AC.bE) (pe_ix ix_list (pv 4) pe_int fun _ _ => rfl) pe_int (nomark _)) (pa_cons (pe_cmpR (op_eqO AC.oE AC.gE hr1 AC.bE) (pe_ix ix_list (pv 4) pe_int fun _ _ => rfl) pe_non (nomark _)) pa_nil)))))) (pss_one (ps_ret (pe_cmpR op_eq (pe_callB (call_reprD hg hu65) (by rfl) T.repr (by decide +kernel) (pa_cons (pv 13) pa_nil)) (pe_callB (call_reprD hg hu65) (by rfl) T.repr (by decide +kernel) (pa_cons (pe_lst (pa_cons pe_bl (pa_cons pe_bl (pa_cons pe_bl (pa_cons pe_bl pa_nil))))) pa_nil)) (nomark _)))))))))), ?_⟩
    refine ⟨_, rfl, a, ns, rfl, hS, hlen, fun b l H1 hb B1 s1 => ?_⟩
    refine ⟨_, rfl, _, rfl, b, l, 6, rfl, B1, by decide, by decide, fun j H2 hj B2 k2 => ?_⟩
    have e1 : (2 + (j : Int)) = ((2 + j : Nat) : Int) := by omega
    refine ⟨_, _, rfl, rfl, b, l, 2 + j, by show [V.ref b, V.int (2 + (j : Int))] = _; rw [e1], B2, fun xs nm H3 N hn0 nnb hn3 B3 k3 => ?_⟩
    have R : Row xs := ⟨N.nd, N.sub, by rw [N.len]; omega, by rw [N.len]; omega⟩
    have xl := R.le
    refine ⟨_, rfl, _, rfl, b, l, nm, xs, rfl, B3, nnb, hn3, xl, R.sub, fun t0 T0 H4 G0 n0 nb0 ht0 B4 k4 => ?_⟩
    have hn4 := k4 _ _ hn3 nnb
    refine ⟨_, rfl, _, rfl, b, l, nm, xs, rfl, B4, nnb, hn4, xl, R.sub, fun t1 T1 H5 G1 n1 nb1 ht1 B5 k5 => ?_⟩
    have hn5 := k5 _ _ hn4 nnb
    have ht0' := k5 _ _ ht0 nb0
    have t01 : t0 ≠ t1 := ne_of_none ht0 n1
    refine ⟨by show 2 ≤ sizeLine; decide, fun tb htb0 => ⟨by show 0 ≤ sizeLine; decide, fun sm hsm0 => ?_⟩⟩
    have m1 := same_new (o := .lst [.ref t0, .ref t1]) htb0
    have m2 := same_new (o := .lst []) hsm0
    have B7 := (B5.same m1).same m2
    have htb7 := m2 _ _ (show (upd H5 tb (.lst [.ref t0, .ref t1])) tb = some (.lst [.ref t0, .ref t1]) from upd_same)
    have hsm7 : (upd (upd H5 tb (.lst [.ref t0, .ref t1])) sm (.lst [])) sm = some (.lst []) := upd_same
    have hn7 := m2 _ _ (m1 _ _ hn5)
    have ht07 := m2 _ _ (m1 _ _ ht0')
    have ht17 := m2 _ _ (m1 _ _ ht1)
    have nbs : tb ≠ b ∧ tb ≠ l ∧ sm ≠ b ∧ sm ≠ l := ⟨B5.ne htb0, (B5.nel htb0).symm, (B5.same m1).ne hsm0, ((B5.same m1).nel hsm0).symm⟩
    have nms : sm ≠ tb ∧ nm ≠ sm ∧ nm ≠ tb := ⟨fun e => (by rw [e, upd_same] at hsm0; cases hsm0), ne_of_none (m1 _ _ hn5) hsm0, ne_of_none hn5 htb0⟩
    refine ⟨_, _, rfl, ?_⟩
    clear m1 m2 htb0 hsm0 ht0' ht1 hn5 B5 k5
    generalize upd (upd H5 tb (.lst [.ref t0, .ref t1])) sm (.lst []) = H7 at B7 htb7 hsm7 hn7 ht07 ht17 ⊢
    let tv : Nat → Addr := fun i => if i = 0 then t0 else t1
    let Tv : Nat → List (Str × Int) := fun i => if i = 0 then T0 else T1
    have htv : ∀ i, i < 2 → H7 (tv i) = some (.dK (dk (Tv i))) ∧ GoodT (Tv i) := fun i hi => by
      have : i = 0 ∨ i = 1 := by omega
      rcases this with rfl | rfl
      · exact ⟨ht07, G0⟩
      · exact ⟨ht17, G1⟩
    refine ⟨_, rfl, tb, rfl, ⟨_, SqL.of htb7⟩, for_list (K := K) (a := tb) (xs := [.ref t0, .ref t1]) (fun i σ G => ∃ (wv ev : Nat → Addr) (v5 v6 : Option V), σ = [some (.ref a), some (.ref b), some (.ref nm), some (.ref tb), some (.ref sm), v5, v6, none, none, none, none, none, none, none] ∧ G sm = some (.lst ((List.range i).map fun j => V.ref (wv j))) ∧ (∀ j, j < i → HasW G C (wv j) (ev j) (heavyT (Tv j)) ∧ H7 (ev j) = none ∧ ev j ≠ sm) ∧ (∀ j k, j < i → k < i → j ≠ k → ev j ≠ ev k) ∧ (∀ c o, H7 c = some o → c ≠ sm → G c = some o)) ⟨fun _ => 0, fun _ => 0, _, _, rfl, hsm7, fun j hj => (by omega), fun j k hj => (by omega), fun c o h _ => h⟩ (fun i σ G _ ⟨_, _, _, _, _, _, _, _, h⟩ => SqL.of (h _ _ htb7 nms.1.symm)) ?_ ?_⟩
    · rintro i y σ G hi ⟨wv, ev, v5, v6, rfl, hsm, hw, hne, kk⟩
      have hi2 : i < 2 := by
        have := (List.getElem?_eq_some_iff.mp hi).1
        exact this
      have ey : y = .ref (tv i) := by
        have : i = 0 ∨ i = 1 := by omega
        rcases this with rfl | rfl
        · exact (Option.some.inj hi).symm
        · exact (Option.some.inj hi).symm
      subst ey
      obtain ⟨hti, GT⟩ := htv i hi2
      have nts : tv i ≠ sm := fun e => by
        rw [e, hsm7] at hti
        cases hti
      have htG := kk _ _ hti nts
      refine ⟨_, rfl, tv i, _, rfl, .inl htG, fun g hg => ?_⟩
      have n1 := same_new (o := .dK (dk (Tv i))) hg
      have hg1 : (upd G g (.dK (dk (Tv i)))) g = some (.dK (dk (Tv i))) := upd_same
      have gsm : g ≠ sm := fun e => by
        rw [e, hsm] at hg
        cases hg
      refine ⟨_, rfl, .inl ⟨rfl, _, SqL.of (n1 _ _ hsm)⟩, _, rfl, fun x dx nx ndx nex => mkW hg1 GT nx ndx fun H' d s' hW hd hdx => ⟨rfl, ?_⟩⟩
      have hsm' := s' _ _ (n1 _ _ hsm)
      have hg' := s' _ _ hg1
      have ht' := s' _ _ (n1 _ _ htG)
      refine ⟨sm, _, _, rfl, rfl, hsm', ?_, ?_⟩
      · rw [List.length_map, List.length_range, sizeLine_eq]
        omega
      have up : ∀ {c : Addr} {o : HO}, H' c = some o → c ≠ sm → (upd H' sm (.lst ((List.range i).map (fun j => V.ref (wv j)) ++ [.ref x]))) c = some o := fun {c o} h hc => by
        rw [upd_ne hc]
        exact h
      refine ⟨_, rfl, _, rfl, g, tv i, Tv i, Tv i, rfl, rfl, up hg' gsm, up ht' nts, ?_⟩
      rw [eqB_self GT.nd]
      refine ⟨_, rfl, ?_⟩
      refine iteF ?_
      have up2 : (upd H' sm (.lst ((List.range i).map (fun j => V.ref (wv j)) ++ [.ref x]))) sm = some (.lst ((List.range i).map (fun j => V.ref (wv j)) ++ [.ref x])) := upd_same
      generalize upd H' sm (.lst ((List.range i).map (fun j => V.ref (wv j)) ++ [.ref x])) = H8 at up up2 ⊢
      have dko := keys_dok GT
      refine ⟨_, rfl, g, _, rfl, .inl (up hg' gsm), fun l1 hl1 => ?_⟩
      rw [keys_vals]
      have p1 := same_new (o := .lst ((keysT (Tv i)).map V.str)) hl1
      refine ⟨_, rfl, tv i, _, rfl, .inl (p1 _ _ (up ht' nts)), fun l2 hl2 => ?_⟩
      rw [keys_vals]
      have p2 := same_new (o := .lst ((keysT (Tv i)).map V.str)) hl2
      refine ⟨.list ((keysT (Tv i)).map PyData.str), .list ((keysT (Tv i)).map PyData.str), .lst (SqL.of (p2 _ _ upd_same)) (dp_strs _), .lst (SqL.of upd_same) (dp_strs _), dko.shaped, dko.shaped, _, rfl, ?_⟩
      rw [SeqAt.eqv_refl _ (fine_lay _ dko.f).1]
      refine iteF ?_
      have p12 := p1.trans p2
      have hg9 := p12 _ _ (up hg' gsm)
      have hsm9 := p12 _ _ up2
      have K9 : ∀ {c : Addr} {o : HO}, H' c = some o → c ≠ sm → (upd (upd H8 l1 (.lst ((keysT (Tv i)).map V.str))) l2 (.lst ((keysT (Tv i)).map V.str))) c = some o := fun {c o} h hc => p12 _ _ (up h hc)
      generalize upd (upd H8 l1 (.lst ((keysT (Tv i)).map V.str))) l2 (.lst ((keysT (Tv i)).map V.str)) = H9 at hg9 hsm9 K9 ⊢
      refine ⟨_, rfl, .inr (.inr (.inl ⟨rfl, .inl ⟨_, hg9⟩⟩)), g, _, rfl, rfl, hg9, ?_⟩
      have hdg : d ≠ g := fun e => by
        rw [e, upd_same] at hd
        cases hd
      have hdG : G d = none := by
        rw [upd_ne hdg] at hd
        exact hd
      obtain ⟨dxx, hx1, hx2⟩ := hW
      have hdsm : d ≠ sm := fun e => by
        rw [e, hsm'] at hx2
        cases hx2
      have hxsm : x ≠ sm := fun e => by
        rw [e, hsm'] at hx1
        cases hx1
      have hxg : x ≠ g := fun e => by
        rw [e, hg'] at hx1
        cases hx1
      have KG : ∀ {c : Addr} {o : HO}, G c = some o → c ≠ sm → (upd H9 g (.dK [])) c = some o := fun {c o} h hc => by
        rw [upd_ne (ne_of_none h hg)]
        exact K9 (s' _ _ (n1 _ _ h)) hc
      have hiw : HasW (upd H9 g (.dK [])) C x d (heavyT (Tv i)) := ⟨dxx, by rw [upd_ne hxg]; exact K9 hx1 hxsm, by rw [upd_ne hdg]; exact K9 hx2 hdsm⟩
      have how : ∀ j, j < i → HasW (upd H9 g (.dK [])) C (wv j) (ev j) (heavyT (Tv j)) := fun j hj => by
        obtain ⟨⟨dj, j1, j2⟩, j3, j4⟩ := hw j hj
        have : wv j ≠ sm := fun e => by
          rw [e, hsm] at j1
          cases j1
        exact ⟨dj, KG j1 this, KG j2 j4⟩
      have hed : ∀ j, j < i → ev j ≠ d := fun j hj => by
        obtain ⟨⟨dj, j1, j2⟩, j3, j4⟩ := hw j hj
        exact ne_of_none j2 hdG
      have hd7 : H7 d = none := by
        cases e : H7 d with
        | none => rfl
        | some o => rw [kk _ _ e hdsm] at hdG; cases hdG
      have hgsm : (upd H9 g (.dK [])) sm = some (.lst ((List.range i).map (fun j => V.ref (wv j)) ++ [.ref x])) := by
        rw [upd_ne gsm.symm]
        exact hsm9
      refine ⟨fun j => if j = i then x else wv j, fun j => if j = i then d else ev j, _, _, rfl, ?_, fun j hj => ?_, fun j k hj hk hjk => ?_, fun c o hc ns => KG (kk _ _ hc ns) ns⟩
      · rw [hgsm, List.range_succ, List.map_append]
        have : (List.range i).map (fun j => V.ref (if j = i then x else wv j)) = (List.range i).map fun j => V.ref (wv j) := List.map_congr_left fun j hj => by
          rw [if_neg (by have := List.mem_range.mp hj; omega)]
        rw [this]
        show _ = some (HO.lst (_ ++ [V.ref (if i = i then x else wv i)]))
        rw [if_pos rfl]
      · show HasW _ C (if j = i then x else wv j) (if j = i then d else ev j) _ ∧ H7 (if j = i then d else ev j) = none ∧ (if j = i then d else ev j) ≠ sm
        by_cases e : j = i
        · rw [if_pos e, if_pos e, e]
          exact ⟨hiw, hd7, hdsm⟩
        · rw [if_neg e, if_neg e]
          exact ⟨how j (by omega), (hw j (by omega)).2⟩
      · show (if j = i then d else ev j) ≠ (if k = i then d else ev k)
        by_cases e : j = i
        · rw [if_pos e, if_neg (by omega)]
          exact (hed k (by omega)).symm
        · rw [if_neg e]
          by_cases e2 : k = i
          · rw [if_pos e2]
            exact hed j (by omega)
          · rw [if_neg e2]
            exact hne j k (by omega) (by omega) hjk
    · rintro σ G ⟨wv, ev, v5, v6, rfl, hsm, hw, hne, kk⟩
      have BG : Bag G b l := by
        obtain ⟨h', m, p, ns', hb', hl', rest⟩ := B7
        exact ⟨h', m, p, ns', kk _ _ hb' nbs.2.2.1.symm, kk _ _ hl' nbs.2.2.2.symm, rest⟩
      have S0 : StW C b l sm tb nm xs G wv ev tv (fun i => heavyT (Tv i)) Tv := by
        refine ⟨BG, kk _ _ hn7 nms.2.1, hsm, kk _ _ htb7 nms.1.symm, fun i hi => (hw i hi).1, fun i hi => kk _ _ (htv i hi).1 fun e => ?_, fun i hi => WtR.heavy (htv i hi).2, hne 0 1 (by show 0 < 2; decide) (by show 1 < 2; decide) (by decide), t01, fun i j hi hj e => ?_, ⟨nnb, nbs.2.2.1, nbs.1, nbs.2.2.2, nbs.2.1⟩, nms⟩
        · have := (htv i hi).1
          rw [e, hsm7] at this
          cases this
        · have h1 := (hw i hi).2.1
          rw [e, (htv j hj).1] at h1
          cases h1
      clear hw hne kk hsm htv
      generalize (fun i => heavyT (Tv i)) = hs at S0
      generalize Tv = ts at S0
      generalize tv = tw at S0
      refine ⟨_, rfl, b, l, 10, rfl, BG, by decide, by decide, fun c G8 hc B8 k8 => ?_⟩
      have S1 := S0.kp B8 k8
      refine ⟨_, _, rfl, rfl, 3 + (c : Int), rfl, by omega, by omega, ?_⟩
      have e3 : (3 + (c : Int)).toNat = 3 + c := by omega
      refine for_range (lo := 0) (n := 3 + c) (fun i σ G => ∃ (wv ev tv : Nat → Addr) (hs ts : Nat → List (Str × Int)) (v5 v6 v7 v8 v9 v10 v11 v12 v13 : Option V), σ = [some (.ref a), some (.ref b), some (.ref nm), some (.ref tb), some (.ref sm), v5, v6, v7, v8, v9, v10, v11, v12, v13] ∧ StW C b l sm tb nm xs G wv ev tv hs ts) ⟨_, _, _, _, _, _, _, _, _, _, _, _, _, _, rfl, S1⟩ ?_ ?_
      · rintro i σ G hi ⟨wv, ev, tv, hs, ts, v5, v6, v7, v8, v9, v10, v11, v12, v13, rfl, S⟩
        refine ⟨_, rfl, b, l, 2, rfl, S.bag, by decide, by decide, fun q Ga hq Ba ka => ?_⟩
        have Sa := S.kp Ba ka
        refine ⟨_, rfl, _, rfl, b, l, nm, xs.map V.str, rfl, Ba, nnb, Sa.hn, by rw [Ne, List.map_eq_nil_iff]; exact List.ne_nil_of_length_pos R.pos, by rw [List.length_map]; omega, fun y Gb hy Bb kb => ?_⟩
        have Sb := Sa.kp Bb kb
        obtain ⟨n, hn, rfl⟩ := List.mem_map.mp hy
        have hnm := R.sub n hn
        have hq2 : q < 2 := by omega
        refine ⟨_, _, rfl, ?_⟩
        clear S Sa ka kb hy Ba Bb
        refine ⟨fun σ' G' => ∃ (wv ev tv : Nat → Addr) (hs ts : Nat → List (Str × Int)), σ' = [some (.ref a), some (.ref b), some (.ref nm), some (.ref tb), some (.ref sm), v5, v6, some (.int (0 + (i : Int))), some (.int (q : Int)), some (.str n), v10, v11, v12, v13] ∧ StW C b l sm tb nm xs G' wv ev tv hs ts, ?_, ?_⟩
        · refine ⟨_, rfl, b, l, 5, rfl, Sb.bag, by decide, by decide, fun z Gc hz Bc kc => ?_⟩
          have Sc := Sb.kp Bc kc
          refine ⟨rfl, _, rfl, ?_⟩
          refine ite2 (fun _ => ?_) (fun _ => ⟨_, _, _, _, _, rfl, Sc⟩)
          obtain ⟨dx, w1, w2⟩ := Sc.w q hq2
          refine ⟨_, rfl, _, rfl, sm, _, (q : Int), _, rfl, rfl, SqL.of Sc.hsm, atI_nat (pairAt wv hq2), wv q, dx, _, rfl, w1, rfl, wv q, ev q, hs q, rfl, Sc.w q hq2, (Sc.r q hq2).gh, fun x e Gd sd hW nx ne nex => ?_⟩
          refine ⟨_, rfl, _, rfl, tb, _, (q : Int), _, rfl, rfl, SqL.of (sd _ _ Sc.htb), atI_nat (pairAt tv hq2), tv q, _, rfl, .inl (sd _ _ (Sc.t q hq2)), fun d hd => ⟨by show 2 ≤ sizeLine; decide, fun tp htp => ?_⟩⟩
          have n1 := same_new (o := .dK (dk (ts q))) hd
          have n2 := same_new (o := .tup [.ref x, .ref d]) htp
          have sE := sd.trans (n1.trans n2)
          have hix : ∀ {ys : List V}, ys.length = 2 → ixN ys.length (1 - (q : Int)) = some (1 - q) := fun {ys} hl => by
            rw [hl, show (1 - (q : Int)) = ((1 - q : Nat) : Int) by omega]
            exact Evl.ixN_nat (by omega)
          have hd1 : (upd (upd Gd d (.dK (dk (ts q)))) tp (.tup [.ref x, .ref d])) d = some (.dK (dk (ts q))) := n2 _ _ upd_same
          have hW1 := (hW.same n1).same n2
          have ndd : Gc d = none := by
            cases e' : Gc d with
            | none => rfl
            | some o => rw [sd _ _ e'] at hd; cases hd
          have ned : e ≠ d := fun e' => by
            obtain ⟨_, _, h2⟩ := hW
            rw [e', hd] at h2
            cases h2
          refine ⟨tp, _, rfl, SqT.of upd_same, rfl, ?_⟩
          generalize upd (upd Gd d (.dK (dk (ts q)))) tp (.tup [.ref x, .ref d]) = Ge at sE hd1 hW1 ⊢
          have SR := Sc.renew sE (j := 1 - q) (by omega) hW1 hd1 ne ndd ned (Sc.r q hq2).copy
          have hsmE := sE _ _ Sc.hsm
          have htbE := sE _ _ Sc.htb
          refine ⟨_, _, rfl, _, rfl, _, rfl, _, _, rfl, rfl, sm, _, 1 - (q : Int), 1 - q, rfl, rfl, hsmE, hix rfl, ?_⟩
          have hj2 : 1 - q < 2 := by omega
          rw [pairSet wv x hj2]
          refine ⟨_, _, rfl, _, rfl, _, rfl, _, _, rfl, rfl, tb, _, 1 - (q : Int), 1 - q, rfl, rfl, by rw [upd_ne S0.nl.1.symm]; exact htbE, hix rfl, ?_⟩
          rw [pairSet tv d hj2]
          exact ⟨rfl, _, _, _, _, _, rfl, SR⟩
        · rintro σ' Gc ⟨wv, ev, tv, hs, ts, rfl, Sc⟩
          clear Sb
          refine ⟨_, rfl, _, _, rfl, rfl, _, rfl, b, l, 100, rfl, Sc.bag, by decide, by decide, fun u Gd hu Bd kd => ?_⟩
          have Sd := Sc.kp Bd kd
          refine ⟨_, _, rfl, rfl, by show 7 ≤ sizeLine; decide, fun p hp => ?_⟩
          have n1 := same_new (o := .lst [.int 1, .int 1, .int 2, .int 3, .int (10 ^ 30), .int (10 ^ 30 - 1), .int (1 + (u : Int))]) hp
          have npb := Bd.ne hp
          refine ⟨b, l, p, _, rfl, Bd.same n1, npb, upd_same, by simp, by show 7 < 1000; decide, fun y Ge hy Be ke => ?_⟩
          have hy2 : ∃ z : Int, y = .int z ∧ 1 ≤ z ∧ z ≤ 10 ^ 30 := by
            simp only [List.mem_cons, List.not_mem_nil, or_false] at hy
            rcases hy with rfl | rfl | rfl | rfl | rfl | rfl | rfl
            · exact ⟨_, rfl, by decide, by decide⟩
            · exact ⟨_, rfl, by decide, by decide⟩
            · exact ⟨_, rfl, by decide, by decide⟩
            · exact ⟨_, rfl, by decide, by decide⟩
            · exact ⟨_, rfl, by decide, by decide⟩
            · exact ⟨_, rfl, by decide, by decide⟩
            · refine ⟨_, rfl, by omega, ?_⟩
              have : (101 : Int) ≤ 10 ^ 30 := by decide
              omega
          obtain ⟨z, rfl, z1, z2⟩ := hy2
          have Se := Sd.kp Be ((Kp.of n1).trans ke)
          clear Sc Sd n1 ke kd hy Bd Be
          obtain ⟨dx, w1, w2⟩ := Se.w q hq2
          refine ⟨_, rfl, _, rfl, _, rfl, sm, _, (q : Int), _, rfl, rfl, SqL.of Se.hsm, atI_nat (pairAt wv hq2), _, rfl, wv q, dx, _, rfl, w1, wv q, ev q, hs q, n, z, rfl, Se.w q hq2, (Se.r q hq2).gh, hnm, z1, z2, fun v Gf sf => ?_⟩
          have Sf := Se.kp (Se.bag.same sf) (Kp.of sf)
          have hTq := Sf.t q hq2
          have Ss := Sf.set hq2 ((Se.r q hq2).put hnm ⟨z1, z2⟩)
          have hevq : Gf (ev q) = some (.dK (dk (hs q))) := by
            obtain ⟨_, _, h2⟩ := Sf.w q hq2
            exact h2
          have tbe : tb ≠ ev q := fun e' => by
            have := Sf.htb
            rw [e', hevq] at this
            cases this
          have hl : (dk (ts q)).length < sizeLine := by
            rw [show (dk (ts q)).length = (ts q).length from List.length_map _, sizeLine_eq]
            have := (Sf.r q hq2).gt.len
            omega
          refine ⟨_, rfl, _, rfl, _, rfl, tb, _, (q : Int), _, rfl, rfl, SqL.of (by rw [upd_ne tbe]; exact Sf.htb), atI_nat (pairAt tv hq2), _, rfl, tv q, _, rfl, .inl ⟨dk (ts q), Sum.inr n, by rw [upd_ne (Sf.dx q q hq2 hq2).symm]; exact hTq, rfl, hl, rfl⟩, ?_⟩
          rw [put_dk]
          generalize upd (upd Gf (ev q) (.dK (dk (if z = 1 then dropT (hs q) n else putT (hs q) n z)))) (tv q) (.dK (dk (putT (ts q) n z))) = Gg at Ss ⊢
          clear Sf Se hTq hevq w1 w2
          generalize (fun i => if i = q then (if z = 1 then dropT (hs q) n else putT (hs q) n z) else hs i) = hs' at Ss
          generalize (fun i => if i = q then putT (ts q) n z else ts i) = ts' at Ss
          refine ⟨_, rfl, by show 2 ≤ sizeLine; decide, fun p2 hp2 => ?_⟩
          have n2 := same_new (o := .lst [.int 0, .int 1]) hp2
          refine ⟨b, l, p2, _, rfl, Ss.bag.same n2, Ss.bag.ne hp2, upd_same, by show 2 < 1000; decide, fun ms m Gh hms hm0 hmb hm1 Bh kh => ?_⟩
          have Sh := Ss.kp Bh ((Kp.of n2).trans kh)
          have hms2 : ∀ y ∈ ms, ∃ j : Nat, y = .int (j : Int) ∧ j < 2 := fun y hy => by
            have := hms.mem_iff.mp hy
            simp only [List.mem_cons, List.not_mem_nil, or_false] at this
            rcases this with rfl | rfl
            · exact ⟨0, rfl, by decide⟩
            · exact ⟨1, rfl, by decide⟩
          clear Ss n2 kh
          refine ⟨m, rfl, ⟨_, SqL.of hm1⟩, for_list (K := K) (a := m) (xs := ms) (fun i2 σ G => (∃ w11, σ = [some (.ref a), some (.ref b), some (.ref nm), some (.ref tb), some (.ref sm), v5, v6, some (.int (0 + (i : Int))), some (.int (q : Int)), some (.str n), some (.int z), w11, v12, v13]) ∧ StW C b l sm tb nm xs G wv ev tv hs' ts' ∧ G m = some (.lst ms)) ⟨⟨_, rfl⟩, Sh, hm1⟩ (fun i2 σ G _ h => SqL.of h.2.2) ?_ ?_⟩
          · rintro i2 y σ G hi2 ⟨⟨w11, rfl⟩, Sg, hmG⟩
            obtain ⟨j, rfl, hj2⟩ := hms2 y (List.mem_of_getElem? hi2)
            refine ⟨_, rfl, _, rfl, _, rfl, sm, _, (j : Int), _, rfl, rfl, SqL.of Sg.hsm, atI_nat (pairAt wv hj2), _, rfl, _, rfl, tb, _, (j : Int), _, rfl, rfl, SqL.of Sg.htb, atI_nat (pairAt tv hj2), _, rfl, b, l, wv j, ev j, tv j, nm, ts' j, hs' j, xs, rfl, Sg.bag, Sg.w j hj2, Sg.t j hj2, Sg.hn, R, Sg.r j hj2, nnb, fun G' B' k' => ?_⟩
            refine ⟨_, rfl, ?_⟩
            refine iteF ?_
            exact ⟨⟨_, rfl⟩, Sg.kp B' k', k' _ _ hmG hmb⟩
          · rintro σ G ⟨⟨w11, rfl⟩, Sg, hmG⟩
            have W0 := Sg.r 0 (by decide)
            have W1 := Sg.r 1 (by decide)
            refine ⟨_, rfl, tb, _, ((0 : Nat) : Int), _, rfl, rfl, SqL.of Sg.htb, atI_nat rfl, tv 0, ts' 0, rfl, Sg.t 0 (by decide), W0.gt, fun p0 z0 G1 hz0 so0 s1 np0 hp0 => ?_⟩
            refine ⟨_, rfl, tb, _, ((1 : Nat) : Int), _, rfl, rfl, SqL.of (s1 _ _ Sg.htb), atI_nat rfl, tv 1, ts' 1, rfl, s1 _ _ (Sg.t 1 (by decide)), W1.gt, fun p1 z1 G2 hz1 so1 s2 np1 hp1 => ?_⟩
            refine ⟨p0, p1, _, _, rfl, rfl, s2 _ _ hp0, hp1, ?_⟩
            have nd0 := tabOf_nd (t := ts' 0) ((hz0.nodup_iff.mpr W0.gt.nd).sublist (List.filter_sublist (p := fun k => decide (lookT (ts' 0) k ≠ some 1)) (l := z0)))
            have nd1 := tabOf_nd (t := ts' 1) ((hz1.nodup_iff.mpr W1.gt.nd).sublist (List.filter_sublist (p := fun k => decide (lookT (ts' 1) k ≠ some 1)) (l := z1)))
            have eS : eqB (tabOf (ts' 0) (z0.filter fun k => decide (lookT (ts' 0) k ≠ some 1))) (tabOf (ts' 1) (z1.filter fun k => decide (lookT (ts' 1) k ≠ some 1))) = eqB (hs' 0) (hs' 1) := by
              rw [Bool.eq_iff_iff, eqB_iff nd0 nd1, eqB_iff W0.gh.nd W1.gh.nd]
              exact ⟨fun h n => by rw [← look_told W0 hz0 n, h n, look_told W1 hz1 n], fun h n => by rw [look_told W0 hz0 n, h n, look_told W1 hz1 n]⟩
            have eT : eqB (hs' 1) (hs' 0) = eqB (hs' 0) (hs' 1) := by
              rw [Bool.eq_iff_iff, eqB_iff W1.gh.nd W0.gh.nd, eqB_iff W0.gh.nd W1.gh.nd]
              exact ⟨fun h n => (h n).symm, fun h n => (h n).symm⟩
            rw [eS]
            generalize hE : eqB (hs' 0) (hs' 1) = E0b at eT
            have S2 := Sg.kp ((Sg.bag.same s1).same s2) (Kp.of (s1.trans s2))
            clear nd0 nd1 eS hp0 hp1 np0 np1 s1 s2 hz0 hz1 so0 so1
            obtain ⟨dx0, w01, w02⟩ := S2.w 0 (by decide)
            obtain ⟨dx1, w11', w12⟩ := S2.w 1 (by decide)
            have H0 : HasW G2 C (wv 0) (ev 0) (hs' 0) := ⟨dx0, w01, w02⟩
            have H1' : HasW G2 C (wv 1) (ev 1) (hs' 1) := ⟨dx1, w11', w12⟩
            refine ⟨_, rfl, sm, _, ((0 : Nat) : Int), _, rfl, rfl, SqL.of S2.hsm, atI_nat rfl, _, rfl, sm, _, ((1 : Nat) : Int), _, rfl, rfl, SqL.of S2.hsm, atI_nat rfl, wv 0, dx0, _, .ref C, rfl, w01, AC.T.ty w11', AC.nf, wv 0, .ref (wv 1), rfl, .inl ⟨wv 1, ev 0, ev 1, hs' 0, hs' 1, rfl, H0, H1', _, rfl, ?_⟩⟩
            refine ⟨_, rfl, sm, _, ((1 : Nat) : Int), _, rfl, rfl, SqL.of S2.hsm, atI_nat rfl, _, rfl, sm, _, ((0 : Nat) : Int), _, rfl, rfl, SqL.of S2.hsm, atI_nat rfl, wv 1, dx1, _, .ref C, rfl, w11', AC.T.ty w01, AC.nf, wv 1, .ref (wv 0), rfl, .inl ⟨wv 0, ev 1, ev 0, hs' 1, hs' 0, rfl, H1', H0, _, rfl, ?_⟩⟩
            refine ⟨_, rfl, sm, _, ((0 : Nat) : Int), _, rfl, rfl, SqL.of S2.hsm, atI_nat rfl, _, rfl, sm, _, ((1 : Nat) : Int), _, rfl, rfl, SqL.of S2.hsm, atI_nat rfl, wv 0, dx0, _, .ref C, rfl, w01, AC.T.ty w11', AC.nf, wv 0, .ref (wv 1), rfl, .inl ⟨wv 1, ev 0, ev 1, hs' 0, hs' 1, rfl, H0, H1', _, rfl, ?_⟩⟩
            refine ⟨by show 3 ≤ sizeLine; decide, fun q1 hq1 => ?_⟩
            have ff := dok_bd (bs := [E0b, E0b, !E0b]) (by show 3 ≤ 6; decide)
            refine ⟨.ref q1, bd [E0b, E0b, !E0b], rfl, .lst (SqL.of ?_) (dp_bools _), (fine_lay _ ff.f).2.1, (fine_lay _ ff.f).2.2, ff.len, Nat.le_trans ff.dp (by decide), ?_⟩
            · rw [upd_same]
              show some (HO.lst [V.bl (eqB (hs' 0) (hs' 1)), V.bl (eqB (hs' 1) (hs' 0)), V.bl (!eqB (hs' 0) (hs' 1))]) = _
              rw [eT, hE]
              rfl
            have nq1 := same_new (o := .lst [V.bl (eqB (hs' 0) (hs' 1)), V.bl (eqB (hs' 1) (hs' 0)), V.bl (!eqB (hs' 0) (hs' 1))]) hq1
            refine ⟨_, rfl, _, rfl, _, rfl, _, rfl, by show 3 ≤ sizeLine; decide, fun q2 hq2' => ?_⟩
            have nq2 := same_new (o := .lst [.bl E0b, .bl E0b, .bl (!E0b)]) hq2'
            refine ⟨.ref q2, bd [E0b, E0b, !E0b], rfl, .lst (SqL.of upd_same) (dp_bools [E0b, E0b, !E0b]), (fine_lay _ ff.f).2.1, (fine_lay _ ff.f).2.2, ff.len, Nat.le_trans ff.dp (by decide), ?_⟩
            refine ⟨rfl, _, rfl, ?_⟩
            show if (!decide (V.str (bd [E0b, E0b, !E0b]).shown = V.str (bd [E0b, E0b, !E0b]).shown)) = true then _ else _
            rw [decide_eq_true rfl]
            refine iteF ?_
            have sq := nq1.trans nq2
            exact ⟨wv, ev, tv, hs', ts', _, _, _, _, _, _, _, _, _, rfl, S2.kp (S2.bag.same sq) (Kp.of sq)⟩
      · rintro σ G ⟨wv, ev, tv, hs, ts, v5, v6, v7, v8, v9, v10, v11, v12, v13, rfl, S⟩
        obtain ⟨dx0, w01, w02⟩ := S.w 0 (by decide)
        have H0 : HasW G C (wv 0) (ev 0) (hs 0) := ⟨dx0, w01, w02⟩
        refine ⟨_, rfl, sm, _, ((0 : Nat) : Int), _, rfl, rfl, SqL.of S.hsm, atI_nat rfl, _, rfl, sm, _, ((0 : Nat) : Int), _, rfl, rfl, SqL.of S.hsm, atI_nat rfl, wv 0, dx0, _, rfl, w01, rfl, wv 0, ev 0, hs 0, rfl, H0, (S.r 0 (by decide)).gh, fun x e G1 s1 hW nx ne nex => ?_⟩
        have w1 := s1 _ _ w01
        have hsm1 := s1 _ _ S.hsm
        have htb1 := s1 _ _ S.htb
        have ht1' := s1 _ _ (S.t 0 (by decide))
        obtain ⟨dxx, x1, x2⟩ := id hW
        have W0 := S.r 0 (by decide)
        have eC : eqB (hs 0) (heavyT (hs 0)) = true := (eqB_iff W0.gh.nd W0.gh.heavy.nd).mpr fun n => by rw [W0.lk, W0.copy.lk]
        refine ⟨wv 0, dx0, _, .ref C, rfl, w1, AC.T.ty x1, AC.nf, wv 0, .ref x, rfl, .inl ⟨x, ev 0, e, hs 0, heavyT (hs 0), rfl, H0.same s1, hW, _, rfl, ?_⟩⟩
        refine ⟨_, rfl, sm, _, ((0 : Nat) : Int), _, rfl, rfl, SqL.of hsm1, atI_nat rfl, _, rfl, tb, _, ((0 : Nat) : Int), _, rfl, rfl, SqL.of htb1, atI_nat rfl, wv 0, dx0, _, .type "dict", rfl, w1, .base (.dK ht1'), AC.nF "dict" (by simp), wv 0, .ref (tv 0), rfl, .inr ⟨.type "dict", .base (.dK ht1'), AC.kT "dict" (by simp), _, rfl, ?_⟩⟩
        refine ⟨_, rfl, sm, _, ((0 : Nat) : Int), _, rfl, rfl, SqL.of hsm1, atI_nat rfl, wv 0, dx0, _, .type "int", rfl, w1, .base (.int 3), AC.nF "int" (by simp), wv 0, .int 3, rfl, .inr ⟨.type "int", .base (.int 3), AC.kT "int" (by simp), _, rfl, ?_⟩⟩
        refine ⟨_, rfl, sm, _, ((0 : Nat) : Int), _, rfl, rfl, SqL.of hsm1, atI_nat rfl, wv 0, dx0, _, .type "NoneType", rfl, w1, .base .non, AC.nF "NoneType" (by simp), wv 0, .non, rfl, .inr ⟨.type "NoneType", .base .non, AC.kT "NoneType" (by simp), _, rfl, ?_⟩⟩
        refine ⟨by show 4 ≤ sizeLine; decide, fun q1 hq1 => ?_⟩
        have ff := dok_bd (bs := [true, false, false, false]) (by show 4 ≤ 6; decide)
        refine ⟨_, rfl, .ref q1, bd [true, false, false, false], rfl, .lst (SqL.of ?_) (dp_bools [true, false, false, false]), (fine_lay _ ff.f).2.1, (fine_lay _ ff.f).2.2, ff.len, Nat.le_trans ff.dp (by decide), ?_⟩
        · rw [upd_same]
          show some (HO.lst [V.bl (eqB (hs 0) (heavyT (hs 0))), V.bl false, V.bl false, V.bl false]) = _
          rw [eC]
          rfl
        refine ⟨by show 4 ≤ sizeLine; decide, fun q2 hq2' => ?_⟩
        refine ⟨.ref q2, bd [true, false, false, false], rfl, .lst (SqL.of upd_same) (dp_bools [true, false, false, false]), (fine_lay _ ff.f).2.1, (fine_lay _ ff.f).2.2, ff.len, Nat.le_trans ff.dp (by decide), rfl, ?_⟩
        show Q (.bl (decide (V.str (bd [true, false, false, false]).shown = V.str (bd [true, false, false, false]).shown))) _
        rw [decide_eq_true rfl]
        exact k _
end
end Qk
set_option maxRecDepth 100000
set_option maxHeartbeats 4000000
namespace Qk
open PySem PySem.Spec PyProof.Rows L2
theorem all_mk {l : PySem.W.OpenLaw} {w : World} {K : PySem.W.Frag} {h : Heap} {mg : Str → Option Value} {fa f1 f2 f3 f4 f5 f6 f7 f8 f9 f10 f11 f12 f13 f14 f15 f16 f17 f18 f19 CA fWI fWE fWG fWS fWC fWT fWY : Addr} {tL tM : Nat} (X : K.In h) (G : h.Ns mainGlobals mg) (hfa : mg "law" = some (.ref fa))
    {od1 an1 od2 an2 od3 an3 od4 an4 od5 an5 od6 an6 od7 an7 od8 an8 od9 an9 od10 an10 od11 an11 od12 an12 od13 an13 od14 an14 od15 an15 od16 an16 od17 an17 od18 an18 od19 an19 odWI anWI odWE anWE odWG anWG odWS anWS odWC anWC odWT anWT odWY anWY : Option Addr} {slWI slWE slWG slWS slWC slWT slWY sl1 sl2 sl3 sl4 sl5 sl6 sl7 sl8 sl9 sl10 sl11 sl12 sl13 sl14 sl15 sl16 sl17 sl18 sl19 : Array (Option Value)} {oc1 kV1 dc1 pm1 cd1 ct1 oc2 kV2 dc2 pm2 cd2 ct2 oc3 kV3 dc3 pm3 cd3 ct3 oc4 kV4 dc4 pm4 cd4 ct4 oc5 kV5 dc5 pm5 cd5 ct5 oc6 kV6 dc6 pm6 cd6 ct6 oc7 kV7 dc7 pm7 cd7 ct7 oc8 kV8 dc8 pm8 cd8 ct8 oc9 kV9 dc9 pm9 cd9 ct9 oc10 kV10 dc10 pm10 cd10 ct10 oc11 kV11 dc11 pm11 cd11 ct11 oc12 kV12 dc12 pm12 cd12 ct12 oc13 kV13 dc13 pm13 cd13 ct13 oc14 kV14 dc14 pm14 cd14 ct14 oc15 kV15 dc15 pm15 cd15 ct15 oc16 kV16 dc16 pm16 cd16 ct16 oc17 kV17 dc17 pm17 cd17 ct17 oc18 kV18 dc18 pm18 cd18 ct18 oc19 kV19 dc19 pm19 cd19 ct19 ocWI kVWI dcWI pmWI cdWI ctWI ocWE kVWE dcWE pmWE cdWE ctWE ocWG kVWG dcWG pmWG cdWG ctWG ocWS kVWS dcWS pmWS cdWS ctWS ocWC kVWC dcWC pmWC cdWC ctWC ocWT kVWT dcWT pmWT cdWT ctWT ocWY kVWY dcWY pmWY cdWY ctWY : Value}
    (a1 : PySem.W.nsIn K mainGlobals "is_integer" = some (some (.ref f1))) (l1 : K.lookup f1 = some ⟨oc1, od1, .func (PySem.W.fnOf "is_integer" "is_integer" (defArgs sIsInt) (defBody sIsInt) (defScope sIsInt) .none kV1 dc1 pm1 an1 cd1 ct1), sl1⟩) (c1 : PySem.W.codeIn K cd1 "is_integer" = true) (k1 : PySem.W.keepIn K (.ref f1) = true)
    (a2 : PySem.W.nsIn K mainGlobals "is_column" = some (some (.ref f2))) (l2 : K.lookup f2 = some ⟨oc2, od2, .func (PySem.W.fnOf "is_column" "is_column" (defArgs sIsCol) (defBody sIsCol) (defScope sIsCol) .none kV2 dc2 pm2 an2 cd2 ct2), sl2⟩) (c2 : PySem.W.codeIn K cd2 "is_column" = true) (k2 : PySem.W.keepIn K (.ref f2) = true)
    (a3 : PySem.W.nsIn K mainGlobals "is_weight" = some (some (.ref f3))) (l3 : K.lookup f3 = some ⟨oc3, od3, .func (PySem.W.fnOf "is_weight" "is_weight" (defArgs sIsWeight) (defBody sIsWeight) (defScope sIsWeight) .none kV3 dc3 pm3 an3 cd3 ct3), sl3⟩) (c3 : PySem.W.codeIn K cd3 "is_weight" = true) (k3 : PySem.W.keepIn K (.ref f3) = true)
    (a4 : PySem.W.nsIn K mainGlobals "row_of" = some (some (.ref f4))) (l4 : K.lookup f4 = some ⟨oc4, od4, .func (PySem.W.fnOf "row_of" "row_of" (defArgs sRow) (defBody sRow) (defScope sRow) .none kV4 dc4 pm4 an4 cd4 ct4), sl4⟩) (c4 : PySem.W.codeIn K cd4 "row_of" = true) (k4 : PySem.W.keepIn K (.ref f4) = true)
    (a5 : PySem.W.nsIn K mainGlobals "columns_in" = some (some (.ref f5))) (l5 : K.lookup f5 = some ⟨oc5, od5, .func (PySem.W.fnOf "columns_in" "columns_in" (defArgs sColsIn) (defBody sColsIn) (defScope sColsIn) .none kV5 dc5 pm5 an5 cd5 ct5), sl5⟩) (c5 : PySem.W.codeIn K cd5 "columns_in" = true) (k5 : PySem.W.keepIn K (.ref f5) = true)
    (a6 : PySem.W.nsIn K mainGlobals "_law_bag" = some (some (.ref f6))) (l6 : K.lookup f6 = some ⟨oc6, od6, .func (PySem.W.fnOf "_law_bag" "_law_bag" (defArgs sBag) (defBody sBag) (defScope sBag) .none kV6 dc6 pm6 an6 cd6 ct6), sl6⟩) (c6 : PySem.W.codeIn K cd6 "_law_bag" = true) (k6 : PySem.W.keepIn K (.ref f6) = true)
    (a7 : PySem.W.nsIn K mainGlobals "_law_take" = some (some (.ref f7))) (l7 : K.lookup f7 = some ⟨oc7, od7, .func (PySem.W.fnOf "_law_take" "_law_take" (defArgs sTake) (defBody sTake) (defScope sTake) .none kV7 dc7 pm7 an7 cd7 ct7), sl7⟩) (c7 : PySem.W.codeIn K cd7 "_law_take" = true) (k7 : PySem.W.keepIn K (.ref f7) = true)
    (a8 : PySem.W.nsIn K mainGlobals "_law_one" = some (some (.ref f8))) (l8 : K.lookup f8 = some ⟨oc8, od8, .func (PySem.W.fnOf "_law_one" "_law_one" (defArgs sOne) (defBody sOne) (defScope sOne) .none kV8 dc8 pm8 an8 cd8 ct8), sl8⟩) (c8 : PySem.W.codeIn K cd8 "_law_one" = true) (k8 : PySem.W.keepIn K (.ref f8) = true)
    (a9 : PySem.W.nsIn K mainGlobals "_law_mixed" = some (some (.ref f9))) (l9 : K.lookup f9 = some ⟨oc9, od9, .func (PySem.W.fnOf "_law_mixed" "_law_mixed" (defArgs sMixed) (defBody sMixed) (defScope sMixed) .none kV9 dc9 pm9 an9 cd9 ct9), sl9⟩) (c9 : PySem.W.codeIn K cd9 "_law_mixed" = true) (k9 : PySem.W.keepIn K (.ref f9) = true)
    (a10 : PySem.W.nsIn K mainGlobals "_law_names" = some (some (.ref f10))) (l10 : K.lookup f10 = some ⟨oc10, od10, .func (PySem.W.fnOf "_law_names" "_law_names" (defArgs sNames) (defBody sNames) (defScope sNames) .none kV10 dc10 pm10 an10 cd10 ct10), sl10⟩) (c10 : PySem.W.codeIn K cd10 "_law_names" = true) (k10 : PySem.W.keepIn K (.ref f10) = true)
    (a11 : PySem.W.nsIn K mainGlobals "_law_question" = some (some (.ref f11))) (l11 : K.lookup f11 = some ⟨oc11, od11, .func (PySem.W.fnOf "_law_question" "_law_question" (defArgs sQuestion) (defBody sQuestion) (defScope sQuestion) .none kV11 dc11 pm11 an11 cd11 ct11), sl11⟩) (c11 : PySem.W.codeIn K cd11 "_law_question" = true) (k11 : PySem.W.keepIn K (.ref f11) = true)
    (a12 : PySem.W.nsIn K mainGlobals "_law_index" = some (some (.ref f12))) (l12 : K.lookup f12 = some ⟨oc12, od12, .func (PySem.W.fnOf "_law_index" "_law_index" (defArgs sIndex) (defBody sIndex) (defScope sIndex) .none kV12 dc12 pm12 an12 cd12 ct12), sl12⟩) (c12 : PySem.W.codeIn K cd12 "_law_index" = true) (k12 : PySem.W.keepIn K (.ref f12) = true)
    (a13 : PySem.W.nsIn K mainGlobals "_law_all" = some (some (.ref f13))) (l13 : K.lookup f13 = some ⟨oc13, od13, .func (PySem.W.fnOf "_law_all" "_law_all" (defArgs sLAll) (defBody sLAll) (defScope sLAll) .none kV13 dc13 pm13 an13 cd13 ct13), sl13⟩) (c13 : PySem.W.codeIn K cd13 "_law_all" = true) (k13 : PySem.W.keepIn K (.ref f13) = true)
    (a14 : PySem.W.nsIn K mainGlobals "_law_alike" = some (some (.ref f14))) (l14 : K.lookup f14 = some ⟨oc14, od14, .func (PySem.W.fnOf "_law_alike" "_law_alike" (defArgs sAlike) (defBody sAlike) (defScope sAlike) .none kV14 dc14 pm14 an14 cd14 ct14), sl14⟩) (c14 : PySem.W.codeIn K cd14 "_law_alike" = true) (k14 : PySem.W.keepIn K (.ref f14) = true)
    (a15 : PySem.W.nsIn K mainGlobals "_law_weigh" = some (some (.ref f15))) (l15 : K.lookup f15 = some ⟨oc15, od15, .func (PySem.W.fnOf "_law_weigh" "_law_weigh" (defArgs sWeigh) (defBody sWeigh) (defScope sWeigh) .none kV15 dc15 pm15 an15 cd15 ct15), sl15⟩) (c15 : PySem.W.codeIn K cd15 "_law_weigh" = true) (k15 : PySem.W.keepIn K (.ref f15) = true)
    (a16 : PySem.W.nsIn K mainGlobals "_law_table" = some (some (.ref f16))) (l16 : K.lookup f16 = some ⟨oc16, od16, .func (PySem.W.fnOf "_law_table" "_law_table" (defArgs sTable) (defBody sTable) (defScope sTable) .none kV16 dc16 pm16 an16 cd16 ct16), sl16⟩) (c16 : PySem.W.codeIn K cd16 "_law_table" = true) (k16 : PySem.W.keepIn K (.ref f16) = true)
    (a17 : PySem.W.nsIn K mainGlobals "_law_heavy_ones" = some (some (.ref f17))) (l17 : K.lookup f17 = some ⟨oc17, od17, .func (PySem.W.fnOf "_law_heavy_ones" "_law_heavy_ones" (defArgs sHeavy) (defBody sHeavy) (defScope sHeavy) .none kV17 dc17 pm17 an17 cd17 ct17), sl17⟩) (c17 : PySem.W.codeIn K cd17 "_law_heavy_ones" = true) (k17 : PySem.W.keepIn K (.ref f17) = true)
    (a18 : PySem.W.nsIn K mainGlobals "_law_right" = some (some (.ref f18))) (l18 : K.lookup f18 = some ⟨oc18, od18, .func (PySem.W.fnOf "_law_right" "_law_right" (defArgs sRight) (defBody sRight) (defScope sRight) .none kV18 dc18 pm18 an18 cd18 ct18), sl18⟩) (c18 : PySem.W.codeIn K cd18 "_law_right" = true) (k18 : PySem.W.keepIn K (.ref f18) = true)
    (a19 : PySem.W.nsIn K mainGlobals "law" = some (some (.ref f19))) (l19 : K.lookup f19 = some ⟨oc19, od19, .func (PySem.W.fnOf "law" "law" (defArgs sLaw) (defBody sLaw) (defScope sLaw) .none kV19 dc19 pm19 an19 cd19 ct19), sl19⟩) (c19 : PySem.W.codeIn K cd19 "law" = true) (k19 : PySem.W.keepIn K (.ref f19) = true)
    (aL : PySem.W.nsIn K mainGlobals "LONGEST_COLUMN" = some (some (.int 8 tL)))
    (aM : PySem.W.nsIn K mainGlobals "GREATEST_WEIGHT" = some (some (.int (10 ^ 30) tM)))
    (hn : PySem.W.specialIn K (.builtin "object.__class__") "__get__" = some (some (.builtin "getset_descriptor.__get__"))) (ht : PySem.W.takesIn K (.builtin "object.__class__") = some true)
    (aCA : PySem.W.nsIn K mainGlobals "Weights" = some (some (.ref CA)))
    (aWI : PySem.W.findIn K (.ref CA) "__init__" = some (some (.ref fWI))) (iWI : PySem.W.isFn K (.ref fWI) = true) (lWI : K.lookup fWI = some ⟨ocWI, odWI, .func (PySem.W.fnOf "__init__" "Weights.__init__" (defArgs sWInit) (defBody sWInit) (defScope sWInit) .none kVWI dcWI pmWI anWI cdWI ctWI), slWI⟩) (cWI : PySem.W.codeIn K cdWI "Weights.__init__" = true) (kWI : PySem.W.keepIn K (.ref fWI) = true)
    (aWE : PySem.W.findIn K (.ref CA) "__eq__" = some (some (.ref fWE))) (iWE : PySem.W.isFn K (.ref fWE) = true) (lWE : K.lookup fWE = some ⟨ocWE, odWE, .func (PySem.W.fnOf "__eq__" "Weights.__eq__" (defArgs sWEq) (defBody sWEq) (defScope sWEq) .none kVWE dcWE pmWE anWE cdWE ctWE), slWE⟩) (cWE : PySem.W.codeIn K cdWE "Weights.__eq__" = true) (kWE : PySem.W.keepIn K (.ref fWE) = true)
    (aWG : PySem.W.findIn K (.ref CA) "__getitem__" = some (some (.ref fWG))) (iWG : PySem.W.isFn K (.ref fWG) = true) (lWG : K.lookup fWG = some ⟨ocWG, odWG, .func (PySem.W.fnOf "__getitem__" "Weights.__getitem__" (defArgs sWGet) (defBody sWGet) (defScope sWGet) .none kVWG dcWG pmWG anWG cdWG ctWG), slWG⟩) (cWG : PySem.W.codeIn K cdWG "Weights.__getitem__" = true) (kWG : PySem.W.keepIn K (.ref fWG) = true)
    (aWS : PySem.W.findIn K (.ref CA) "__setitem__" = some (some (.ref fWS))) (iWS : PySem.W.isFn K (.ref fWS) = true) (lWS : K.lookup fWS = some ⟨ocWS, odWS, .func (PySem.W.fnOf "__setitem__" "Weights.__setitem__" (defArgs sWSet) (defBody sWSet) (defScope sWSet) .none kVWS dcWS pmWS anWS cdWS ctWS), slWS⟩) (cWS : PySem.W.codeIn K cdWS "Weights.__setitem__" = true) (kWS : PySem.W.keepIn K (.ref fWS) = true)
    (aWC : PySem.W.findIn K (.ref CA) "__call__" = some (some (.ref fWC))) (iWC : PySem.W.isFn K (.ref fWC) = true) (lWC : K.lookup fWC = some ⟨ocWC, odWC, .func (PySem.W.fnOf "__call__" "Weights.__call__" (defArgs sWCall) (defBody sWCall) (defScope sWCall) .none kVWC dcWC pmWC anWC cdWC ctWC), slWC⟩) (cWC : PySem.W.codeIn K cdWC "Weights.__call__" = true) (kWC : PySem.W.keepIn K (.ref fWC) = true)
    (aWT : PySem.W.findIn K (.ref CA) "table" = some (some (.ref fWT))) (iWT : PySem.W.isFn K (.ref fWT) = true) (lWT : K.lookup fWT = some ⟨ocWT, odWT, .func (PySem.W.fnOf "table" "Weights.table" (defArgs sWTable) (defBody sWTable) (defScope sWTable) .none kVWT dcWT pmWT anWT cdWT ctWT), slWT⟩) (cWT : PySem.W.codeIn K cdWT "Weights.table" = true) (kWT : PySem.W.keepIn K (.ref fWT) = true)
    (aWY : PySem.W.findIn K (.ref CA) "copied" = some (some (.ref fWY))) (iWY : PySem.W.isFn K (.ref fWY) = true) (lWY : K.lookup fWY = some ⟨ocWY, odWY, .func (PySem.W.fnOf "copied" "Weights.copied" (defArgs sWCopied) (defBody sWCopied) (defScope sWCopied) .none kVWY dcWY pmWY anWY cdWY ctWY), slWY⟩) (cWY : PySem.W.codeIn K cdWY "Weights.copied" = true) (kWY : PySem.W.keepIn K (.ref fWY) = true)
    (fiG : PySem.W.fnIn K fWG = true) (fiC : PySem.W.fnIn K fWC = true)
    (pgA : PySem.W.plainGet K CA Str.empty = true) (hdA : PySem.W.hasDictIn K CA = true) (poA : PySem.W.plainOver K CA = true) (saA : PySem.W.findIn K (.ref CA) "__setattr__" = some (some (.builtin "object.__setattr__"))) (mkA : PySem.W.makesIn K CA = true) (kcA : PySem.W.keepIn K (.ref CA) = true) (nQA : PySem.W.findIn K (.ref CA) "_table" = some none) (haA : PySem.W.findIn K (.ref CA) "__class__" = some (some (.builtin "object.__class__"))) (hmA : PySem.W.mroIn K CA (.type "object") = some true) (enA : PySem.W.findIn K (.ref CA) "__ne__" = some (some (.builtin "object.__ne__"))) (eoA : PySem.W.subIn K (.ref CA) (.type "object") = some true) (nfA : PySem.W.notFirst K CA (.ref CA) = true) (sqA : PySem.W.noSeq K CA = true) (k1TA : PySem.W.kitOne K (.type "dict") (.ref CA) = some false) (k2TA : PySem.W.kitOne K (.type "int") (.ref CA) = some false) (k3TA : PySem.W.kitOne K (.type "NoneType") (.ref CA) = some false) (n1TA : PySem.W.notFirst K CA (.type "dict") = true) (n2TA : PySem.W.notFirst K CA (.type "int") = true) (n3TA : PySem.W.notFirst K CA (.type "NoneType") = true)
    (zlen : PySem.W.nsIn K mainGlobals "len" = some none) (zint : PySem.W.nsIn K mainGlobals "int" = some none) (zabs : PySem.W.nsIn K mainGlobals "abs" = some none) (ztuple : PySem.W.nsIn K mainGlobals "tuple" = some none) (zsorted : PySem.W.nsIn K mainGlobals "sorted" = some none) (zrange : PySem.W.nsIn K mainGlobals "range" = some none) (zrepr : PySem.W.nsIn K mainGlobals "repr" = some none) (zlist : PySem.W.nsIn K mainGlobals "list" = some none) (zisinstance : PySem.W.nsIn K mainGlobals "isinstance" = some none) (zstr : PySem.W.nsIn K mainGlobals "str" = some none) (zall : PySem.W.nsIn K mainGlobals "all" = some none) (zbool : PySem.W.nsIn K mainGlobals "bool" = some none) (zdict : PySem.W.nsIn K mainGlobals "dict" = some none) (zsum : PySem.W.nsIn K mainGlobals "sum" = some none) :
    ∃ fd : FuncData, (∀ (s : Shared) (v : Value), BindsTo s fd ⟨[v], []⟩ [("_law_script", v)]) ∧ ∀ base : Heap, K.In base → base.Ns mainGlobals mg → FnG l.prog w K mg base 7 fa fd ["_law_script"] (spLaw K) := by
  have e := hfa.symm.trans (PySem.W.mg_of X G a19)
  cases e
  have T : Txt K mg := ⟨PySem.W.mg_none_of X G zlen, PySem.W.mg_none_of X G zint, PySem.W.mg_none_of X G zabs, PySem.W.mg_none_of X G ztuple, PySem.W.mg_none_of X G zsorted, PySem.W.mg_none_of X G zrange, PySem.W.mg_none_of X G zrepr, PySem.W.mg_none_of X G zlist, PySem.W.mg_none_of X G zisinstance, PySem.W.mg_none_of X G zstr, PySem.W.mg_none_of X G zall, PySem.W.mg_none_of X G zbool, PySem.W.mg_none_of X G zdict, PySem.W.mg_none_of X G zsum, ⟨tL, PySem.W.mg_of X G aL⟩, ⟨tM, PySem.W.mg_of X G aM⟩⟩
  have TC : TxA K mg CA := ⟨⟨pgA, hdA, poA, saA⟩, nQA, PySem.W.mg_of X G aCA, haA, hn, ht, hmA⟩
  have kTT : ∀ t ∈ (["dict", "int", "NoneType"] : List String), PySem.W.kitOne K (.type t) (.ref CA) = some false := fun t ht => by
    rcases List.mem_cons.mp ht with rfl | ht
    · exact k1TA
    rcases List.mem_cons.mp ht with rfl | ht
    · exact k2TA
    rw [List.mem_singleton.mp ht]
    exact k3TA
  have nTT : ∀ t ∈ (["dict", "int", "NoneType"] : List String), PySem.W.notFirst K CA (.type t) = true := fun t ht => by
    rcases List.mem_cons.mp ht with rfl | ht
    · exact n1TA
    rcases List.mem_cons.mp ht with rfl | ht
    · exact n2TA
    rw [List.mem_singleton.mp ht]
    exact n3TA
  have MA : Mk K CA fWI := ⟨mkA, aWI, iWI, kcA⟩
  have FWI := fun_mk (st := sWInit) lWI cWI kWI
  have bWI := FWI.binds (ps := ["self", "table"]) fun _ _ _ _ _ _ us hl => match us, hl with | [_, _], _ => rfl
  have FWE := fun_mk (st := sWEq) lWE cWE kWE
  have bWE := FWE.binds (ps := ["self", "other"]) fun _ _ _ _ _ _ us hl => match us, hl with | [_, _], _ => rfl
  have FWG := fun_mk (st := sWGet) lWG cWG kWG
  have bWG := FWG.binds (ps := ["self", "at"]) fun _ _ _ _ _ _ us hl => match us, hl with | [_, _], _ => rfl
  have FWS := fun_mk (st := sWSet) lWS cWS kWS
  have bWS := FWS.binds (ps := ["self", "at", "worth"]) fun _ _ _ _ _ _ us hl => match us, hl with | [_, _, _], _ => rfl
  have FWC := fun_mk (st := sWCall) lWC cWC kWC
  have bWC := FWC.binds (ps := ["self", "thing"]) fun _ _ _ _ _ _ us hl => match us, hl with | [_, _], _ => rfl
  have FWT := fun_mk (st := sWTable) lWT cWT kWT
  have bWT := FWT.binds (ps := ["self"]) fun _ _ _ _ _ _ us hl => match us, hl with | [_], _ => rfl
  have FWY := fun_mk (st := sWCopied) lWY cWY kWY
  have bWY := FWY.binds (ps := ["self"]) fun _ _ _ _ _ _ us hl => match us, hl with | [_], _ => rfl
  have F1 := fun_mk (st := sIsInt) l1 c1 k1
  have b1 := F1.binds (ps := ["thing"]) fun _ _ _ _ _ _ us hl => match us, hl with | [_], _ => rfl
  have F2 := fun_mk (st := sIsCol) l2 c2 k2
  have b2 := F2.binds (ps := ["thing"]) fun _ _ _ _ _ _ us hl => match us, hl with | [_], _ => rfl
  have F3 := fun_mk (st := sIsWeight) l3 c3 k3
  have b3 := F3.binds (ps := ["thing"]) fun _ _ _ _ _ _ us hl => match us, hl with | [_], _ => rfl
  have F4 := fun_mk (st := sRow) l4 c4 k4
  have b4 := F4.binds (ps := ["question"]) fun _ _ _ _ _ _ us hl => match us, hl with | [_], _ => rfl
  have F5 := fun_mk (st := sColsIn) l5 c5 k5
  have b5 := F5.binds (ps := ["thing"]) fun _ _ _ _ _ _ us hl => match us, hl with | [_], _ => rfl
  have F6 := fun_mk (st := sBag) l6 c6 k6
  have b6 := F6.binds (ps := ["_law_script"]) fun _ _ _ _ _ _ us hl => match us, hl with | [_], _ => rfl
  have F7 := fun_mk (st := sTake) l7 c7 k7
  have b7 := F7.binds (ps := ["_law_bag_here", "_law_many"]) fun _ _ _ _ _ _ us hl => match us, hl with | [_, _], _ => rfl
  have F8 := fun_mk (st := sOne) l8 c8 k8
  have b8 := F8.binds (ps := ["_law_bag_here", "_law_some"]) fun _ _ _ _ _ _ us hl => match us, hl with | [_, _], _ => rfl
  have F9 := fun_mk (st := sMixed) l9 c9 k9
  have b9 := F9.binds (ps := ["_law_bag_here", "_law_things"]) fun _ _ _ _ _ _ us hl => match us, hl with | [_, _], _ => rfl
  have F10 := fun_mk (st := sNames) l10 c10 k10
  have b10 := F10.binds (ps := ["_law_bag_here", "_law_many"]) fun _ _ _ _ _ _ us hl => match us, hl with | [_, _], _ => rfl
  have F11 := fun_mk (st := sQuestion) l11 c11 k11
  have b11 := F11.binds (ps := ["_law_bag_here", "_law_names_here"]) fun _ _ _ _ _ _ us hl => match us, hl with | [_, _], _ => rfl
  have F12 := fun_mk (st := sIndex) l12 c12 k12
  have b12 := F12.binds (ps := ["_law_bag_here", "_law_names_here"]) fun _ _ _ _ _ _ us hl => match us, hl with | [_, _], _ => rfl
  have F13 := fun_mk (st := sLAll) l13 c13 k13
  have b13 := F13.binds (ps := ["_law_question_here"]) fun _ _ _ _ _ _ us hl => match us, hl with | [_], _ => rfl
  have F14 := fun_mk (st := sAlike) l14 c14 k14
  have b14 := F14.binds (ps := ["_law_found", "_law_due"]) fun _ _ _ _ _ _ us hl => match us, hl with | [_, _], _ => rfl
  have F15 := fun_mk (st := sWeigh) l15 c15 k15
  have b15 := F15.binds (ps := ["_law_columns", "_law_table_here"]) fun _ _ _ _ _ _ us hl => match us, hl with | [_, _], _ => rfl
  have F16 := fun_mk (st := sTable) l16 c16 k16
  have b16 := F16.binds (ps := ["_law_bag_here", "_law_names_here"]) fun _ _ _ _ _ _ us hl => match us, hl with | [_, _], _ => rfl
  have F17 := fun_mk (st := sHeavy) l17 c17 k17
  have b17 := F17.binds (ps := ["_law_table_here"]) fun _ _ _ _ _ _ us hl => match us, hl with | [_], _ => rfl
  have F18 := fun_mk (st := sRight) l18 c18 k18
  have b18 := F18.binds (ps := ["_law_bag_here", "_law_heavy", "_law_table_here", "_law_names_here"]) fun _ _ _ _ _ _ us hl => match us, hl with | [_, _, _, _], _ => rfl
  have F19 := fun_mk (st := sLaw) l19 c19 k19
  have b19 := F19.binds (ps := ["_law_script"]) fun _ _ _ _ _ _ us hl => match us, hl with | [_], _ => rfl
  refine ⟨PySem.W.fnOf "law" "law" (defArgs sLaw) (defBody sLaw) (defScope sLaw) .none kV19 dc19 pm19 an19 cd19 ct19, fun s v => .of_eq rfl, fun base _ _ => ?_⟩
  let c_1 : Cal l.prog w K mg base 1 "is_integer" ["thing"] (spIsIntV K) := ⟨_, _, ok_isint F1 T, PySem.W.mg_of X G a1, k1, b1⟩
  let c_2 : Cal l.prog w K mg base 1 "is_column" ["thing"] (spText K colS) := ⟨_, _, ok_iscol F2 T, PySem.W.mg_of X G a2, k2, b2⟩
  let c_3 : Cal l.prog w K mg base 2 "is_weight" ["thing"] (spWt K) := ⟨_, _, ok_isweight F3 T c_1, PySem.W.mg_of X G a3, k3, b3⟩
  let c_4 : Cal l.prog w K mg base 1 "row_of" ["question"] (spRow) := ⟨_, _, ok_row F4 T, PySem.W.mg_of X G a4, k4, b4⟩
  let c_5 : Cal l.prog w K mg base 2 "columns_in" ["thing"] (spColsIn) := ⟨_, _, ok_colsin F5 T c_4, PySem.W.mg_of X G a5, k5, b5⟩
  have gWI : FnOk l.prog w K mg base CX0 3 fWI _ ["self", "table"] (spWInit CA) := ok_winit FWI T TC c_2 c_3
  have AC : WCl l.prog w K mg base CA := ⟨TC, fWI, fWE, fWG, fWS, fWC, fWT, fWY, _, _, _, _, _, _, _, MA, gWI, bWI, ⟨aWE, iWE, enA, eoA⟩, ok_weq FWE T TC, bWE, nfA, kTT, nTT, ⟨aWG, fiG, iWG⟩, ok_wget FWG T TC c_2, bWG, ⟨aWS, sqA, iWS⟩, ok_wset FWS T TC c_2 c_3, bWS, ⟨aWC, fiC, iWC⟩, ok_wcall FWC T TC c_5, bWC, ⟨aWT, iWT, kWT⟩, ok_wtable FWT T TC, bWT, ⟨aWY, iWY, kWY⟩, ok_wcopied FWY T TC MA gWI bWI, bWY⟩
  let c_6 : Cal l.prog w K mg base 1 "_law_bag" ["_law_script"] (spBag K) := ⟨_, _, ok_bag F6 T, PySem.W.mg_of X G a6, k6, b6⟩
  let c_7 : Cal l.prog w K mg base 1 "_law_take" ["_law_bag_here", "_law_many"] (spTake) := ⟨_, _, ok_take F7 T, PySem.W.mg_of X G a7, k7, b7⟩
  let c_8 : Cal l.prog w K mg base 2 "_law_one" ["_law_bag_here", "_law_some"] (spOne) := ⟨_, _, ok_one F8 T c_7, PySem.W.mg_of X G a8, k8, b8⟩
  let c_9 : Cal l.prog w K mg base 2 "_law_mixed" ["_law_bag_here", "_law_things"] (spMixed) := ⟨_, _, ok_mixed F9 T c_7, PySem.W.mg_of X G a9, k9, b9⟩
  let c_10 : Cal l.prog w K mg base 3 "_law_names" ["_law_bag_here", "_law_many"] (spNames) := ⟨_, _, ok_names F10 T c_9, PySem.W.mg_of X G a10, k10, b10⟩
  let c_11 : Cal l.prog w K mg base 3 "_law_question" ["_law_bag_here", "_law_names_here"] (spQuestion) := ⟨_, _, ok_question F11 T c_7 c_9, PySem.W.mg_of X G a11, k11, b11⟩
  let c_12 : Cal l.prog w K mg base 3 "_law_index" ["_law_bag_here", "_law_names_here"] (spIndex) := ⟨_, _, ok_index F12 T c_7 c_9, PySem.W.mg_of X G a12, k12, b12⟩
  let c_13 : Cal l.prog w K mg base 1 "_law_all" ["_law_question_here"] (spLAll) := ⟨_, _, ok_lall F13 T, PySem.W.mg_of X G a13, k13, b13⟩
  let c_14 : CalG l.prog w K mg base 1 "_law_alike" ["_law_found", "_law_due"] (spAlikeD K) := ⟨_, _, ok_alike F14 T, PySem.W.mg_of X G a14, k14, b14⟩
  let c_al : CalG l.prog w K mg base 1 "_law_alike" ["_law_found", "_law_due"] (fun vs H Q E => spAlikeD K vs H Q E ∨ spAlikeTB vs H Q E) := ⟨_, _, FnG.or (ok_alike F14 T) (ok_alikeTB F14 T), PySem.W.mg_of X G a14, k14, b14⟩
  let c_15 : Cal l.prog w K mg base 1 "_law_weigh" ["_law_columns", "_law_table_here"] (spWeigh) := ⟨_, _, ok_weigh F15 T, PySem.W.mg_of X G a15, k15, b15⟩
  let c_16 : Cal l.prog w K mg base 3 "_law_table" ["_law_bag_here", "_law_names_here"] (spTable) := ⟨_, _, ok_table F16 T c_7 c_8 c_9, PySem.W.mg_of X G a16, k16, b16⟩
  let c_17 : Cal l.prog w K mg base 1 "_law_heavy_ones" ["_law_table_here"] (spHeavy) := ⟨_, _, ok_heavy F17 T, PySem.W.mg_of X G a17, k17, b17⟩
  let c_18 : CalG l.prog w K mg base 6 "_law_right" ["_law_bag_here", "_law_heavy", "_law_table_here", "_law_names_here"] (spRight CA) := ⟨_, _, ok_right F18 T AC c_9 c_11 c_12 c_13 c_15 c_17 c_al, PySem.W.mg_of X G a18, k18, b18⟩
  exact ok_law F19 T AC c_6 c_7 c_8 c_9 c_10 c_16 c_17 c_18
theorem walk {l : PySem.W.OpenLaw} {q : Program} {loose : List Str} {XP : (Str → Option Value) → Heap → Prop} {YP : World → Heap → Prop} {d : DefRec} {K : Params → PySem.W.Frag} (hn : l.most = some 63) (hdf : d.params.defaults = [])
    (hY : ∀ (w : World) (h : Heap), YP w h → (K w.params).In h)
    (F : ∀ (w : World) (mg : Str → Option Value) (fa : Addr) (h : Heap), (K w.params).In h → h.Ns mainGlobals mg → mg d.name = some (.ref fa) →
      ∃ fd : FuncData, (∀ (s : Shared) (u : Value), BindsTo s fd ⟨[u], []⟩ [("_law_script", u)]) ∧ ∀ base : Heap, (K w.params).In base → base.Ns mainGlobals mg → FnG l.prog w (K w.params) mg base 7 fa fd ["_law_script"] (spLaw (K w.params))) :
    PySem.W.WalkO q loose XP YP l.row.toRowW d [] (fun f vs => PySem.call f vs) :=
  walk_g (n := 63) (k := 7) (x := "_law_script") (sp := fun w => spLaw (K w.params)) hn (by decide) hdf ⟨rfl, by decide, by decide⟩ hY F (fun _ _ a ns hl _ hS => ⟨a, ns, rfl, hS, hl, fun _ => rfl⟩)
end Qk
open PySem PySem.W PyProof.Rows
set_option maxRecDepth 100000 in
set_option maxHeartbeats 0 in
theorem PySem.Challenge.cw_narrowkeys_k60_weights_told_holds : PySem.Challenge.rw_narrowkeys_k60_weights_told.Holds := by
  w_on; o_law; k_head; (case hw => w_witness2)
  k_fill
  refine Qk.walk (l := PySem.Challenge.rw_narrowkeys_k60_weights_told) rfl rfl (fun w h Y => PySem.W.kIn_of Y) ?F
  case F =>
    intro w mg fa h KX G hmg
    refine' Qk.all_mk KX G hmg ?a1 ?l1 ?c1 ?k1 ?a2 ?l2 ?c2 ?k2 ?a3 ?l3 ?c3 ?k3 ?a4 ?l4 ?c4 ?k4 ?a5 ?l5 ?c5 ?k5 ?a6 ?l6 ?c6 ?k6 ?a7 ?l7 ?c7 ?k7 ?a8 ?l8 ?c8 ?k8 ?a9 ?l9 ?c9 ?k9 ?a10 ?l10 ?c10 ?k10 ?a11 ?l11 ?c11 ?k11 ?a12 ?l12 ?c12 ?k12 ?a13 ?l13 ?c13 ?k13 ?a14 ?l14 ?c14 ?k14 ?a15 ?l15 ?c15 ?k15 ?a16 ?l16 ?c16 ?k16 ?a17 ?l17 ?c17 ?k17 ?a18 ?l18 ?c18 ?k18 ?a19 ?l19 ?c19 ?k19 ?aL ?aM ?hn ?ht ?aCA ?aWI ?iWI ?lWI ?cWI ?kWI ?aWE ?iWE ?lWE ?cWE ?kWE ?aWG ?iWG ?lWG ?cWG ?kWG ?aWS ?iWS ?lWS ?cWS ?kWS ?aWC ?iWC ?lWC ?cWC ?kWC ?aWT ?iWT ?lWT ?cWT ?kWT ?aWY ?iWY ?lWY ?cWY ?kWY ?fiG ?fiC ?pgA ?hdA ?poA ?saA ?mkA ?kcA ?nQA ?haA ?hmA ?enA ?eoA ?nfA ?sqA ?k1TA ?k2TA ?k3TA ?n1TA ?n2TA ?n3TA ?zlen ?zint ?zabs ?ztuple ?zsorted ?zrange ?zrepr ?zlist ?zisinstance ?zstr ?zall ?zbool ?zdict ?zsum
    (case a1 => k_is)
    (case l1 => k_is)
    (case c1 => k_is)
    (case k1 => k_is)
    (case a2 => k_is)
    (case l2 => k_is)
    (case c2 => k_is)
    (case k2 => k_is)
    (case a3 => k_is)
    (case l3 => k_is)
    (case c3 => k_is)
    (case k3 => k_is)
    (case a4 => k_is)
    (case l4 => k_is)
    (case c4 => k_is)
    (case k4 => k_is)
    (case a5 => k_is)
    (case l5 => k_is)
    (case c5 => k_is)
    (case k5 => k_is)
    (case a6 => k_is)
    (case l6 => k_is)
    (case c6 => k_is)
    (case k6 => k_is)
    (case a7 => k_is)
    (case l7 => k_is)
    (case c7 => k_is)
    (case k7 => k_is)
    (case a8 => k_is)
    (case l8 => k_is)
    (case c8 => k_is)
    (case k8 => k_is)
    (case a9 => k_is)
    (case l9 => k_is)
    (case c9 => k_is)
    (case k9 => k_is)
    (case a10 => k_is)
    (case l10 => k_is)
    (case c10 => k_is)
    (case k10 => k_is)
    (case a11 => k_is)
    (case l11 => k_is)
    (case c11 => k_is)
    (case k11 => k_is)
    (case a12 => k_is)
    (case l12 => k_is)
    (case c12 => k_is)
    (case k12 => k_is)
    (case a13 => k_is)
    (case l13 => k_is)
    (case c13 => k_is)
    (case k13 => k_is)
    (case a14 => k_is)
    (case l14 => k_is)
    (case c14 => k_is)
    (case k14 => k_is)
    (case a15 => k_is)
    (case l15 => k_is)
    (case c15 => k_is)
    (case k15 => k_is)
    (case a16 => k_is)
    (case l16 => k_is)
    (case c16 => k_is)
    (case k16 => k_is)
    (case a17 => k_is)
    (case l17 => k_is)
    (case c17 => k_is)
    (case k17 => k_is)
    (case a18 => k_is)
    (case l18 => k_is)
    (case c18 => k_is)
    (case k18 => k_is)
    (case a19 => k_is)
    (case l19 => k_is)
    (case c19 => k_is)
    (case k19 => k_is)
    (case aL => first | k_is | rfl)
    (case aM => first | k_is | rfl)
    (case hn => first | k_is | rfl)
    (case ht => first | k_is | rfl)
    (case aCA => first | k_is | rfl)
    (case aWI => first | k_is | rfl)
    (case iWI => first | k_is | rfl)
    (case lWI => first | k_is | rfl)
    (case cWI => first | k_is | rfl)
    (case kWI => first | k_is | rfl)
    (case aWE => first | k_is | rfl)
    (case iWE => first | k_is | rfl)
    (case lWE => first | k_is | rfl)
    (case cWE => first | k_is | rfl)
    (case kWE => first | k_is | rfl)
    (case aWG => first | k_is | rfl)
    (case iWG => first | k_is | rfl)
    (case lWG => first | k_is | rfl)
    (case cWG => first | k_is | rfl)
    (case kWG => first | k_is | rfl)
    (case aWS => first | k_is | rfl)
    (case iWS => first | k_is | rfl)
    (case lWS => first | k_is | rfl)
    (case cWS => first | k_is | rfl)
    (case kWS => first | k_is | rfl)
    (case aWC => first | k_is | rfl)
    (case iWC => first | k_is | rfl)
    (case lWC => first | k_is | rfl)
    (case cWC => first | k_is | rfl)
    (case kWC => first | k_is | rfl)
    (case aWT => first | k_is | rfl)
    (case iWT => first | k_is | rfl)
    (case lWT => first | k_is | rfl)
    (case cWT => first | k_is | rfl)
    (case kWT => first | k_is | rfl)
    (case aWY => first | k_is | rfl)
    (case iWY => first | k_is | rfl)
    (case lWY => first | k_is | rfl)
    (case cWY => first | k_is | rfl)
    (case kWY => first | k_is | rfl)
    (case fiG => first | k_is | rfl)
    (case fiC => first | k_is | rfl)
    (case pgA => first | k_is | rfl)
    (case hdA => first | k_is | rfl)
    (case poA => first | k_is | rfl)
    (case saA => first | k_is | rfl)
    (case mkA => first | k_is | rfl)
    (case kcA => first | k_is | rfl)
    (case nQA => first | k_is | rfl)
    (case haA => first | k_is | rfl)
    (case hmA => first | k_is | rfl)
    (case enA => first | k_is | rfl)
    (case eoA => first | k_is | rfl)
    (case nfA => first | k_is | rfl)
    (case sqA => first | k_is | rfl)
    (case k1TA => first | k_is | rfl)
    (case k2TA => first | k_is | rfl)
    (case k3TA => first | k_is | rfl)
    (case n1TA => first | k_is | rfl)
    (case n2TA => first | k_is | rfl)
    (case n3TA => first | k_is | rfl)
    (case zlen => k_is)
    (case zint => k_is)
    (case zabs => k_is)
    (case ztuple => k_is)
    (case zsorted => k_is)
    (case zrange => k_is)
    (case zrepr => k_is)
    (case zlist => k_is)
    (case zisinstance => k_is)
    (case zstr => k_is)
    (case zall => k_is)
    (case zbool => k_is)
    (case zdict => k_is)
    (case zsum => k_is)
#print axioms PySem.Challenge.cw_narrowkeys_k60_weights_told_holds
